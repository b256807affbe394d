/-
  What the law's checks come to: paths, beginnings, whatever the numbers.
  What comes out of a path, the document's way.
  What comes out of a path, the document's way, whole.
  The document's check of an entry's path.
  The program's check of an entry's path says what the document's says.
  What comes out of a beginning's proof, the document's way.
  The document's check of a beginning's proof.
  The document's check of a beginning's proof, of none and of bad numbers.
-/
import Derived.Test.YtjndkjgbplpfeaaDoorQLg
import Derived.Test.YtjndkjgbplpfeaaDoorQLf
namespace Go.Proofs.YtjndkjgbplpfeaaDoor
open Go.RowKit
set_option linter.unusedVariables false
set_option linter.unusedSimpArgs false
set_option maxRecDepth 100000 in
theorem Lg.climb_path (z : Lg.B) : ∀ (N : Nat) (S : List Lg.B) (i : Nat), S.length ≤ N → i < S.length → Lg.climb z (S.getD i []) i S.length (Lg.path i S).reverse = (Lg.root S, true)
  | 0, S, i, hN, hi => by omega
  | N + 1, S, i, hN, hi => by
    by_cases h2 : S.length < 2
    · match S, hi, h2 with
      | [x], hi, _ =>
        have : i = 0 := by simp at hi; exact hi
        subst this
        rw [Lg.path_one (by simp), Lg.root_one]
        simp [Lg.climb]
      | x :: y :: r, _, h2 => simp at h2; omega
    · have h2 : 2 ≤ S.length := by omega
      have hl := Lg.hf_lt h2
      have hp := Lg.hf_pos S.length
      have hn : ¬ (S.length = 1) := by omega
      by_cases hh : i < Lg.hf S.length
      · have ih := Lg.climb_path z N (S.take (Lg.hf S.length)) i (by rw [List.length_take]; omega) (by rw [List.length_take]; omega)
        rw [List.length_take, Nat.min_eq_left (by omega), List.getD_eq_getElem?_getD, List.getElem?_take_of_lt hh, ← List.getD_eq_getElem?_getD] at ih
        rw [Lg.path_left h2 hh, List.reverse_append, List.reverse_singleton, List.singleton_append, Lg.climb, if_neg hn, if_pos hh, ih, ← Lg.root_two h2]
      · have ih := Lg.climb_path z N (S.drop (Lg.hf S.length)) (i - Lg.hf S.length) (by rw [List.length_drop]; omega) (by rw [List.length_drop]; omega)
        rw [List.length_drop, List.getD_eq_getElem?_getD, List.getElem?_drop, Nat.add_sub_cancel' (by omega), ← List.getD_eq_getElem?_getD] at ih
        rw [Lg.path_right h2 hh, List.reverse_append, List.reverse_singleton, List.singleton_append, Lg.climb, if_neg hn, if_neg hh, ih, ← Lg.root_two h2]
set_option maxRecDepth 100000 in
theorem chkI_ok (S : List Lg.B) (i : Nat) (hi : i < S.length) : chkI (S.getD i []) i S.length (Lg.path i S) (Lg.root S) = 0 := by
  unfold chkI
  rw [Lg.climb_path z32 S.length S i (Nat.le_refl _) hi]
  simp
set_option maxRecDepth 100000 in
theorem conv_to (x : List UInt8) (W : World) : (convert 9 35 (.string ⟨x.toArray⟩)).run Tryd.prog W = .ok (.slice (some ⟨W.heap.size, 0, none⟩) x.length (grownCap W x.length 0 5)) (Lib.bytesWorld W 5 ⟨x.toArray⟩) := by
  have := Lib.run_convert_string_bytes (P := Tryd.prog) W 9 35 5 ⟨x.toArray⟩ Tryd.underlying9 Tryd.underlying35 Tryd.underlying5
  rw [this]
  have e : (⟨x.toArray⟩ : ByteArray).size = x.length := by show x.toArray.size = _; simp
  rw [e]
set_option maxRecDepth 100000 in
theorem conv_came (x : List UInt8) (hx : x.length ≤ 1000) (W : World) : Came (Lib.bytesWorld W 5 ⟨x.toArray⟩) (some ⟨W.heap.size, 0, none⟩) x.length (grownCap W x.length 0 5) x := by
  have e : (⟨x.toArray⟩ : ByteArray).size = x.length := by show x.toArray.size = _; simp
  have h := own_str (w := W) ⟨x.toArray⟩ 0 (Nat.zero_le _) (by rw [e]; omega)
  have e2 : sb ⟨x.toArray⟩ = x := by simp [sb]
  rw [e, e2] at h
  obtain ⟨e1, e2, e3, e4⟩ := h.lies
  exact ⟨e1.symm, e2, e3, e4, fun e => by cases e⟩
set_option maxRecDepth 100000 in
theorem incl_z (lb base : Nat) (v : Value) (L : List (List UInt8)) (y z : Int) (hL : L.length ≤ 1000) (w : World) (hM : LM w lb base v L) (hE : Env w) : Calls Tryd.prog 15 #[.pointer (some ⟨lb, 0, none⟩), .int .i64 y, .int .i64 z] w fun e w' => (∃ v2 c, e = .returned (.tuple #[v2, .int .i64 c]) ∧ ((c = 0 ∧ (0 ≤ y ∧ y < z ∧ z ≤ (L.length : Int)) ∧ Or32 w' w.heap.size v2 (Lg.path y.toNat (L.take z.toNat))) ∨ (c = 1 ∧ ¬ (0 ≤ y ∧ y < z ∧ z ≤ (L.length : Int))))) ∧ Fr (fun _ => False) w w' := by
  by_cases h0 : y < 0
  · exact (incl_e1 lb base v L y z h0 w hM).mono fun e w' h => ⟨⟨_, 1, h.1, .inr ⟨rfl, by omega⟩⟩, h.2⟩
  · by_cases h1 : z ≤ y
    · exact (incl_e2 lb base v L y z (by omega) h1 w hM).mono fun e w' h => ⟨⟨_, 1, h.1, .inr ⟨rfl, by omega⟩⟩, h.2⟩
    · by_cases h2 : (L.length : Int) < z
      · exact (incl_e3 lb base v L y z (by omega) (by omega) h2 w hM).mono fun e w' h => ⟨⟨_, 1, h.1, .inr ⟨rfl, by omega⟩⟩, h.2⟩
      · obtain ⟨i, rfl⟩ : ∃ i : Nat, y = i := ⟨y.toNat, by omega⟩
        obtain ⟨n, rfl⟩ : ∃ n : Nat, z = n := ⟨z.toNat, by omega⟩
        exact (incl_m lb base v L i n (by omega) (by omega) hL w hM hE).mono fun e w' h => by
          obtain ⟨⟨v2, h1, h2⟩, h3⟩ := h
          exact ⟨⟨v2, 0, h1, .inl ⟨rfl, by omega, h2⟩⟩, h3⟩
set_option maxRecDepth 100000 in
theorem cons_z (lb base : Nat) (v : Value) (L : List (List UInt8)) (y z : Int) (hL : L.length ≤ 1000) (w : World) (hM : LM w lb base v L) (hE : Env w) : Calls Tryd.prog 16 #[.pointer (some ⟨lb, 0, none⟩), .int .i64 y, .int .i64 z] w fun e w' => (∃ v2 c, e = .returned (.tuple #[v2, .int .i64 c]) ∧ ((c = 0 ∧ (0 ≤ y ∧ y ≤ z ∧ z ≤ (L.length : Int)) ∧ Or32 w' w.heap.size v2 (conP y.toNat (L.take z.toNat))) ∨ (c = 1 ∧ ¬ (0 ≤ y ∧ y ≤ z ∧ z ≤ (L.length : Int))))) ∧ Fr (fun _ => False) w w' := by
  by_cases h0 : y < 0
  · exact (cons_e1 lb base v L y z h0 w hM).mono fun e w' h => ⟨⟨_, 1, h.1, .inr ⟨rfl, by omega⟩⟩, h.2⟩
  · by_cases h1 : z < y
    · exact (cons_e2 lb base v L y z (by omega) h1 w hM).mono fun e w' h => ⟨⟨_, 1, h.1, .inr ⟨rfl, by omega⟩⟩, h.2⟩
    · by_cases h2 : (L.length : Int) < z
      · exact (cons_e3 lb base v L y z (by omega) (by omega) h2 w hM).mono fun e w' h => ⟨⟨_, 1, h.1, .inr ⟨rfl, by omega⟩⟩, h.2⟩
      · obtain ⟨i, rfl⟩ : ∃ i : Nat, y = i := ⟨y.toNat, by omega⟩
        obtain ⟨n, rfl⟩ : ∃ n : Nat, z = n := ⟨z.toNat, by omega⟩
        by_cases hi : i = 0
        · subst hi
          exact (cons_zero lb base v L n (by omega) w hM).mono fun e w' h => ⟨⟨_, 0, h.1, .inl ⟨rfl, by omega, Or32.nil _ _⟩⟩, h.2⟩
        · exact (cons_m lb base v L i n (by omega) (by omega) (by omega) hL w hM hE).mono fun e w' h => by
            obtain ⟨⟨v2, h1, h2⟩, h3⟩ := h
            refine ⟨⟨v2, 0, h1, .inl ⟨rfl, by omega, ?_⟩⟩, h3⟩
            show Or32 w' w.heap.size v2 (conP i (L.take n))
            unfold conP
            rw [if_neg hi]; exact h2
set_option maxRecDepth 100000 in
theorem chkc_ok (m n : Nat) (L : List (List UInt8)) (hm : m ≤ n) (hn : L.length = n) (h9 : n ≤ 1000) (hA : Lg.All32 L) (a : Option Addr) (c : Nat) (w : World) (hc : (conP m L).length ≤ c) (hcm : c ≤ maxLen) (hK : Kv w a (conP m L)) (hE : Env w) : Calls Tryd.prog 22 #[.int .i64 (m : Int), .int .i64 (n : Int), .slice a (conP m L).length c, .agg (krow (Lg.root (L.take m))), .agg (krow (Lg.root L))] w fun e w' => e = .returned (.int .i64 0) ∧ Fr (fun _ => False) w w' := by
  unfold conP at *
  subst hn
  by_cases h0 : m = 0
  · subst h0
    rw [if_pos rfl] at *
    have := chkc_zero (L.length : Int) (by omega) a [] c (Lg.root (L.take 0)) (Lg.root L) (Lg.root_len (hA.take 0)) (Lg.root_len hA) w hE
    rw [chkN_ok] at this
    exact this
  · rw [if_neg h0] at *
    have := chkc_any m L.length (by omega) hm (by omega) a (Lg.sub m L true) c hc hcm (Lg.root (L.take m)) (Lg.root L) (Lg.root_len (hA.take m)) (Lg.root_len hA) w hK hE
    rw [chkC_ok L m (by omega) hm] at this
    exact this
set_option maxRecDepth 100000 in
theorem conP_all {m : Nat} {L : List (List UInt8)} (h : Lg.All32 L) : Lg.All32 (conP m L) := by
  unfold conP
  by_cases h0 : m = 0
  · rw [if_pos h0]; exact .nil
  · rw [if_neg h0]; exact Lg.sub_all32 _ m L true (Nat.le_refl _) h
set_option maxRecDepth 100000 in
theorem conP_len {m : Nat} {L : List (List UInt8)} (hm : m ≤ L.length) : (conP m L).length ≤ L.length := by
  unfold conP
  by_cases h0 : m = 0
  · rw [if_pos h0]; simp
  · rw [if_neg h0]; exact Lg.sub_len _ m L true (Nat.le_refl _) (by omega) hm
set_option maxRecDepth 100000 in
theorem shows_cases (y z K : Int) (hK : 0 ≤ K) : (0 ≤ y ∧ y < z ∧ z ≤ K) ∨ (y = z ∧ z = 0) ∨ (y = z ∧ 1 ≤ z ∧ z ≤ K) ∨ (z < 0) ∨ (z = 0 ∧ y < 0) ∨ (z = 0 ∧ 0 < y) ∨ (1 ≤ z ∧ K < z) ∨ (1 ≤ z ∧ z ≤ K ∧ y < 0) ∨ (1 ≤ z ∧ z ≤ K ∧ z < y) := by omega
end Go.Proofs.YtjndkjgbplpfeaaDoor
namespace Go.Proofs.YtjndkjgbplpfeaaDoor
open Go.RowKit
set_option linter.unusedVariables false
set_option linter.unusedSimpArgs false
set_option maxRecDepth 100000 in
theorem Lg.climb_le (s : List UInt8) (hs : s.length ≤ 100000) : ∀ (r : List (List UInt8)) (i n : Nat), (Lg.climb [] s i n r).1.length ≤ 100000
  | [], i, n => by unfold Lg.climb; split <;> simp [hs]
  | x :: r, i, n => by
    unfold Lg.climb
    split
    · exact hs
    · split
      · show (Lg.node _ _).length ≤ 100000; rw [Lg.node_len]; decide
      · show (Lg.node _ _).length ≤ 100000; rw [Lg.node_len]; decide
set_option maxRecDepth 100000 in
set_option maxHeartbeats 6400000 in
theorem dup_one (s : List UInt8) (a : Option Addr) (c i : Nat) (r : List (List UInt8)) (w : World) : Calls Tryd.prog 38 #[str s, .int .i64 (i : Int), .int .i64 1, .slice a r.length c] w fun e w' => e = .returned (.tuple #[str (Lg.climb [] s i 1 r).1, .bool (Lg.climb [] s i 1 r).2]) ∧ Fr (fun _ => False) w w' := by
  have h1 : Lg.climb [] s i 1 r = (s, ((r.length : Int) == 0)) := by
    cases r with
    | nil => simp [Lg.climb]
    | cons x r => simp [Lg.climb]; omega
  rw [h1]
  have H1 := Lib.hid h1
  clear h1
  go_enter Tryd.func38, Tryd.ntmps38
  go_wp2_with fail
  go_returns
  exact ⟨rfl, Fr.refl _ _⟩
set_option maxRecDepth 100000 in
theorem dup_none (s : List UInt8) (a : Option Addr) (c i n : Nat) (hn : n ≠ 1) (w : World) : Calls Tryd.prog 38 #[str s, .int .i64 (i : Int), .int .i64 (n : Int), .slice a 0 c] w fun e w' => e = .returned (.tuple #[str (Lg.climb [] s i n []).1, .bool (Lg.climb [] s i n []).2]) ∧ Fr (fun _ => False) w w' := by
  have h1 : Lg.climb [] s i n [] = ([], false) := by simp [Lg.climb, hn]
  rw [h1]
  have b1 : ((n : Int) == 1) = false := beq_eq_false_iff_ne.2 (by omega)
  have b2 : (n == 1) = false := beq_eq_false_iff_ne.2 hn
  clear h1 hn
  go_enter Tryd.func38, Tryd.ntmps38
  go_wp2_with fail
  go_returns
  exact ⟨rfl, Fr.refl _ _⟩
end Go.Proofs.YtjndkjgbplpfeaaDoor
namespace Go.Proofs.YtjndkjgbplpfeaaDoor
open Go.RowKit
set_option linter.unusedVariables false
set_option linter.unusedSimpArgs false
set_option maxRecDepth 100000 in
set_option maxHeartbeats 6400000 in
theorem dup_left (s : List UInt8) (hs : s.length ≤ 100000) (x : List UInt8) (r : List (List UInt8)) (ih : ∀ (a : Option Addr) (c i n : Nat) (w : World), 1 ≤ n → n ≤ 9223372036854775807 → i < n → r.length ≤ c → c ≤ maxLen → Sv w a r.reverse → REnv w → Calls Tryd.prog 38 #[str s, .int .i64 (i : Int), .int .i64 (n : Int), .slice a r.length c] w fun e w' => e = .returned (.tuple #[str (Lg.climb [] s i n r).1, .bool (Lg.climb [] s i n r).2]) ∧ Fr (fun _ => False) w w') (a : Option Addr) (c i n : Nat) (w : World) (hxl : x.length ≤ 100000) (h2 : 2 ≤ n) (n9 : n ≤ 9223372036854775807) (hi : i < n) (hc : (x :: r).length ≤ c) (hm : c ≤ maxLen) (hK : Sv w a (x :: r).reverse) (hE : REnv w) (hh : i < Lg.hf n) : Calls Tryd.prog 38 #[str s, .int .i64 (i : Int), .int .i64 (n : Int), .slice a (x :: r).length c] w fun e w' => e = .returned (.tuple #[str (Lg.climb [] s i n (x :: r)).1, .bool (Lg.climb [] s i n (x :: r)).2]) ∧ Fr (fun _ => False) w w' := by
  obtain ⟨g, off, rfl⟩ := hK.at (by simp)
  have hlt := Lg.hf_lt h2
  have hpos := Lg.hf_pos n
  have HS := Lib.hid (fun w => half_any n h2 n9 w)
  have hcl : Lg.climb [] s i n (x :: r) = (Lg.node (Lg.climb [] s i (Lg.hf n) r).1 x, (Lg.climb [] s i (Lg.hf n) r).2) := by
    rw [Lg.climb, if_neg (show ¬ n = 1 by omega), if_pos hh]
  generalize Lg.hf n = h at *
  have hle := Lg.climb_le s hs r i h
  obtain ⟨Y, hY⟩ : ∃ Y, Y = Lg.climb [] s i h r := ⟨_, rfl⟩
  rw [← hY] at hcl hle
  rw [hcl]
  have hrv : Sv w (some ⟨g, off, none⟩) r.reverse := by
    have := hK.take r.length
    rwa [List.reverse_cons, List.take_append_of_le_length (by simp), List.take_of_length_le (by simp)] at this
  have hxi : (x :: r).reverse[r.length]? = some x := by rw [List.reverse_cons, List.getElem?_append_right (by simp)]; simp
  obtain ⟨p, hp⟩ : ∃ p, p = r.length := ⟨_, rfl⟩
  obtain ⟨q, hq⟩ : ∃ q, q = (x :: r).length := ⟨_, rfl⟩
  have hpq : q = p + 1 := by rw [hq, hp]; rfl
  rw [← hp] at hxi ih
  rw [← hq] at hc ⊢
  clear hp hq
  have HK := Lib.hid hK
  have HXI := Lib.hid hxi
  have kx : ∀ y : Wd w, y.w.cell? ⟨g, off + p, none⟩ = some (.string ⟨x.toArray⟩) := fun y => (HK.out.ext y.h).cell HXI.out
  have HI := Lib.hid (fun (W : World) (F : Fr (fun _ => False) w W) => ih (some ⟨g, off, none⟩) c i h W (by omega) (by omega) (by omega) (by omega) hm (hrv.ext F) (hE.ext F))
  rw [← hY] at HI
  have HN := Lib.hid (fun (W : World) (F : Fr (fun _ => False) w W) => rnode_any Y.1 x hle hxl W (hE.ext F))
  have W2 : wrap64 ((q : Int) - 1) = (p : Int) := by unfold maxLen at hm; rw [IntWalk.wrap64_in _ (by omega)]; omega
  have b1 : ((n : Int) == 1) = false := beq_eq_false_iff_ne.2 (by omega)
  have b2 : (n == 1) = false := beq_eq_false_iff_ne.2 (by omega)
  have b3 : ((q : Int) == 0) = false := beq_eq_false_iff_ne.2 (by omega)
  have b4 : (q == 0) = false := beq_eq_false_iff_ne.2 (by omega)
  have q1 : (p : Int) < (q : Int) := by omega
  have q2 : (0 : Int) ≤ (p : Int) := by omega
  have q3 : p ≤ q := by omega
  have q4 : p ≤ c := by omega
  have q5 : (p : Int) ≤ (c : Int) := by omega
  have q7 : (p : Int) ≤ (q : Int) := by omega
  have q6 : (i : Int) < (h : Int) := by omega
  have q8 : i < h := by omega
  have q9 : True := trivial
  have Q9 := Lib.hid q9
  clear q9
  clear hlt hpos hcl hle hY hrv hxi hpq ih hK hE hm hc hi n9 h2 hh hxl hs
  go_enter Tryd.func38, Tryd.ntmps38
  go_wp2_with fail
  refine wp_region_keep (by kernel_rfl) (by kernel_rfl) ?_
  repeat (any_goals (first | go_big_quiet_step (exact Calls.keep_same ((HS.out _).mono (fun e W h => ⟨h.1, h.2.symm⟩))) | quiet_step (fail)))
  refine wpQuiet_nil ?_
  intro _ hwz
  obtain ⟨y1, rfl⟩ := hwz
  have HY1 := Lib.hid y1.h
  generalize y1.w = w1 at *
  clear kx
  go_wp2_with fail
  refine (HI.out w1 HY1.out).mono ?_
  rintro e w2 ⟨rfl, F2⟩
  have HF2 := Lib.hid (HY1.out.trans F2 (fun _ h => h.elim))
  clear F2
  go_wp2_with fail
  refine (HN.out w2 HF2.out).mono ?_
  rintro e w3 ⟨rfl, F3⟩
  have HF3 := Lib.hid (HF2.out.trans F3 (fun _ h => h.elim))
  clear F3
  go_wp2_with fail
  go_returns
  exact ⟨rfl, HF3.out⟩
set_option maxRecDepth 100000 in
set_option maxHeartbeats 6400000 in
theorem dup_right (s : List UInt8) (hs : s.length ≤ 100000) (x : List UInt8) (r : List (List UInt8)) (ih : ∀ (a : Option Addr) (c i n : Nat) (w : World), 1 ≤ n → n ≤ 9223372036854775807 → i < n → r.length ≤ c → c ≤ maxLen → Sv w a r.reverse → REnv w → Calls Tryd.prog 38 #[str s, .int .i64 (i : Int), .int .i64 (n : Int), .slice a r.length c] w fun e w' => e = .returned (.tuple #[str (Lg.climb [] s i n r).1, .bool (Lg.climb [] s i n r).2]) ∧ Fr (fun _ => False) w w') (a : Option Addr) (c i n : Nat) (w : World) (hxl : x.length ≤ 100000) (h2 : 2 ≤ n) (n9 : n ≤ 9223372036854775807) (hi : i < n) (hc : (x :: r).length ≤ c) (hm : c ≤ maxLen) (hK : Sv w a (x :: r).reverse) (hE : REnv w) (hh : ¬ i < Lg.hf n) : Calls Tryd.prog 38 #[str s, .int .i64 (i : Int), .int .i64 (n : Int), .slice a (x :: r).length c] w fun e w' => e = .returned (.tuple #[str (Lg.climb [] s i n (x :: r)).1, .bool (Lg.climb [] s i n (x :: r)).2]) ∧ Fr (fun _ => False) w w' := by
  obtain ⟨g, off, rfl⟩ := hK.at (by simp)
  have hlt := Lg.hf_lt h2
  have hpos := Lg.hf_pos n
  have HS := Lib.hid (fun w => half_any n h2 n9 w)
  have hcl : Lg.climb [] s i n (x :: r) = (Lg.node x (Lg.climb [] s (i - Lg.hf n) (n - Lg.hf n) r).1, (Lg.climb [] s (i - Lg.hf n) (n - Lg.hf n) r).2) := by
    rw [Lg.climb, if_neg (show ¬ n = 1 by omega), if_neg hh]
  generalize Lg.hf n = h at *
  have hle := Lg.climb_le s hs r (i - h) (n - h)
  obtain ⟨Y, hY⟩ : ∃ Y, Y = Lg.climb [] s (i - h) (n - h) r := ⟨_, rfl⟩
  rw [← hY] at hcl hle
  rw [hcl]
  have hrv : Sv w (some ⟨g, off, none⟩) r.reverse := by
    have := hK.take r.length
    rwa [List.reverse_cons, List.take_append_of_le_length (by simp), List.take_of_length_le (by simp)] at this
  have hxi : (x :: r).reverse[r.length]? = some x := by rw [List.reverse_cons, List.getElem?_append_right (by simp)]; simp
  obtain ⟨p, hp⟩ : ∃ p, p = r.length := ⟨_, rfl⟩
  obtain ⟨q, hq⟩ : ∃ q, q = (x :: r).length := ⟨_, rfl⟩
  have hpq : q = p + 1 := by rw [hq, hp]; rfl
  rw [← hp] at hxi ih
  rw [← hq] at hc ⊢
  clear hp hq
  have HK := Lib.hid hK
  have HXI := Lib.hid hxi
  have kx : ∀ y : Wd w, y.w.cell? ⟨g, off + p, none⟩ = some (.string ⟨x.toArray⟩) := fun y => (HK.out.ext y.h).cell HXI.out
  have HI := Lib.hid (fun (W : World) (F : Fr (fun _ => False) w W) => ih (some ⟨g, off, none⟩) c (i - h) (n - h) W (by omega) (by omega) (by omega) (by omega) hm (hrv.ext F) (hE.ext F))
  rw [← hY] at HI
  have HN := Lib.hid (fun (W : World) (F : Fr (fun _ => False) w W) => rnode_any x Y.1 hxl hle W (hE.ext F))
  have W2 : wrap64 ((q : Int) - 1) = (p : Int) := by unfold maxLen at hm; rw [IntWalk.wrap64_in _ (by omega)]; omega
  have b1 : ((n : Int) == 1) = false := beq_eq_false_iff_ne.2 (by omega)
  have b2 : (n == 1) = false := beq_eq_false_iff_ne.2 (by omega)
  have b3 : ((q : Int) == 0) = false := beq_eq_false_iff_ne.2 (by omega)
  have b4 : (q == 0) = false := beq_eq_false_iff_ne.2 (by omega)
  have q1 : (p : Int) < (q : Int) := by omega
  have q2 : (0 : Int) ≤ (p : Int) := by omega
  have q3 : p ≤ q := by omega
  have q4 : p ≤ c := by omega
  have q5 : (p : Int) ≤ (c : Int) := by omega
  have q7 : (p : Int) ≤ (q : Int) := by omega
  have q6 : ¬ ((i : Int) < (h : Int)) := by omega
  have q8 : ¬ (i < h) := by omega
  have q9 : wrap64 ((i : Int) - (h : Int)) = ((i - h : Nat) : Int) ∧ wrap64 ((n : Int) - (h : Int)) = ((n - h : Nat) : Int) := ⟨by rw [IntWalk.wrap64_in _ (by omega)]; omega, by rw [IntWalk.wrap64_in _ (by omega)]; omega⟩
  have Q9 := Lib.hid q9
  obtain ⟨qa, qb⟩ := q9
  clear hlt hpos hcl hle hY hrv hxi hpq ih hK hE hm hc hi n9 h2 hh hxl hs
  go_enter Tryd.func38, Tryd.ntmps38
  go_wp2_with fail
  refine wp_region_keep (by kernel_rfl) (by kernel_rfl) ?_
  repeat (any_goals (first | go_big_quiet_step (exact Calls.keep_same ((HS.out _).mono (fun e W h => ⟨h.1, h.2.symm⟩))) | quiet_step (fail)))
  refine wpQuiet_nil ?_
  intro _ hwz
  obtain ⟨y1, rfl⟩ := hwz
  have HY1 := Lib.hid y1.h
  generalize y1.w = w1 at *
  clear kx
  go_wp2_with fail
  refine (HI.out w1 HY1.out).mono ?_
  rintro e w2 ⟨rfl, F2⟩
  have HF2 := Lib.hid (HY1.out.trans F2 (fun _ h => h.elim))
  clear F2
  go_wp2_with fail
  refine (HN.out w2 HF2.out).mono ?_
  rintro e w3 ⟨rfl, F3⟩
  have HF3 := Lib.hid (HF2.out.trans F3 (fun _ h => h.elim))
  clear F3
  go_wp2_with fail
  go_returns
  exact ⟨rfl, HF3.out⟩
set_option maxRecDepth 100000 in
set_option maxHeartbeats 6400000 in
theorem dup_any (s : List UInt8) (hs : s.length ≤ 100000) : ∀ (r : List (List UInt8)), (∀ x ∈ r, x.length ≤ 100000) → ∀ (a : Option Addr) (c i n : Nat) (w : World), 1 ≤ n → n ≤ 9223372036854775807 → i < n → r.length ≤ c → c ≤ maxLen → Sv w a r.reverse → REnv w → Calls Tryd.prog 38 #[str s, .int .i64 (i : Int), .int .i64 (n : Int), .slice a r.length c] w fun e w' => e = .returned (.tuple #[str (Lg.climb [] s i n r).1, .bool (Lg.climb [] s i n r).2]) ∧ Fr (fun _ => False) w w' := by
  intro r
  induction r with
  | nil =>
    intro _ a c i n w h1 n9 hi hc hm hK hE
    by_cases hn : n = 1
    · subst hn; exact dup_one s a c i [] w
    · exact dup_none s a c i n hn w
  | cons x r ih =>
    intro hx a c i n w h1 n9 hi hc hm hK hE
    by_cases hn : n = 1
    · subst hn; exact dup_one s a c i (x :: r) w
    · by_cases hh : i < Lg.hf n
      · exact dup_left s hs x r (ih (fun y hy => hx y (by simp [hy]))) a c i n w (hx x (by simp)) (by omega) n9 hi hc hm hK hE hh
      · exact dup_right s hs x r (ih (fun y hy => hx y (by simp [hy]))) a c i n w (hx x (by simp)) (by omega) n9 hi hc hm hK hE hh
end Go.Proofs.YtjndkjgbplpfeaaDoor
namespace Go.Proofs.YtjndkjgbplpfeaaDoor
open Go.RowKit
set_option linter.unusedVariables false
set_option linter.unusedSimpArgs false
set_option maxRecDepth 100000 in
theorem str_neq (x y : List UInt8) (W : World) : (binOp .neq 9 (.string ⟨x.toArray⟩) (.string ⟨y.toArray⟩)).run Tryd.prog W = .ok (.bool (!(x == y))) W := by
  by_cases h : x = y
  · subst h
    rw [str_ne_same]; simp
  · have h2 : (⟨x.toArray⟩ : ByteArray) ≠ ⟨y.toArray⟩ := fun e => h (by
      have := congrArg (fun b : ByteArray => b.data.toList) e
      simpa using this)
    have h3 : (x == y) = false := beq_eq_false_iff_ne.2 h
    rw [h3]
    simp [binOp, Op.stringOp, h2]
    exact h
/-- The document's answer. -/
def chkD (s : List UInt8) (i n : Nat) (P : List (List UInt8)) (root : List UInt8) : Int := if (Lg.climb [] s i n P.reverse).2 = true ∧ ((Lg.climb [] s i n P.reverse).1 == root) = true then 0 else 17
set_option maxRecDepth 100000 in
theorem dchki_bad (l root : List UInt8) (y z : Int) (a : Option Addr) (n c : Nat) (h : ¬ (0 ≤ y ∧ y < z)) (w : World) : Calls Tryd.prog 23 #[str l, .int .i64 y, .int .i64 z, .slice a n c, str root] w fun e w' => e = .returned (.int .i64 1) ∧ Fr (fun _ => False) w w' := by
  rcases (show z < 1 ∨ (¬ z < 1 ∧ y < 0) ∨ (¬ z < 1 ∧ ¬ y < 0 ∧ z ≤ y) by omega) with hc | hc | hc
  · have q0 : z < 1 := by omega
    have t0 : decide (z < 1) = true := decide_eq_true q0
    clear hc h
    go_enter Tryd.func23, Tryd.ntmps23
    go_wp2_with fail
    go_ret
    exact ⟨rfl, Fr.refl _ _⟩
  · have q0 : ¬ (z < 1) := by omega
    have t0 : decide (z < 1) = false := decide_eq_false q0
    have q1 : y < 0 := by omega
    have t1 : decide (y < 0) = true := decide_eq_true q1
    clear hc h
    go_enter Tryd.func23, Tryd.ntmps23
    go_wp2_with fail
    go_ret
    exact ⟨rfl, Fr.refl _ _⟩
  · have q0 : ¬ (z < 1) := by omega
    have t0 : decide (z < 1) = false := decide_eq_false q0
    have q1 : ¬ (y < 0) := by omega
    have t1 : decide (y < 0) = false := decide_eq_false q1
    have q2 : z ≤ y := by omega
    have t2 : decide (z ≤ y) = true := decide_eq_true q2
    clear hc h
    go_enter Tryd.func23, Tryd.ntmps23
    go_wp2_with fail
    go_ret
    exact ⟨rfl, Fr.refl _ _⟩
set_option maxRecDepth 100000 in
set_option maxHeartbeats 6400000 in
theorem dchki_any (l root : List UInt8) (hl : l.length ≤ 1000) (i n : Nat) (hin : i < n) (n9 : n ≤ 9223372036854775807) (a : Option Addr) (c : Nat) (P : List (List UInt8)) (hP : ∀ x ∈ P, x.length ≤ 100000) (hc : P.length ≤ c) (hm : c ≤ maxLen) (w : World) (hK : Sv w a P) (hE : REnv w) : Calls Tryd.prog 23 #[str l, .int .i64 (i : Int), .int .i64 (n : Int), .slice a P.length c, str root] w fun e w' => e = .returned (.int .i64 (chkD (Lg.leaf l) i n P root)) ∧ Fr (fun _ => False) w w' := by
  have HSU := Lib.hid (fun (W : World) (F : Fr (fun _ => False) w W) => rsum_str (0 :: l) (by simp; omega) W (hE.ext F))
  have hup := fun (W : World) (F : Fr (fun _ => False) w W) => dup_any (Lg.leaf l) (by rw [Lg.leaf_len]; decide) P.reverse (fun x hx => hP x (List.mem_reverse.1 hx)) a c i n W (by omega) n9 hin (by rw [List.length_reverse]; exact hc) hm (by rw [List.reverse_reverse]; exact hK.ext F) (hE.ext F)
  rw [List.length_reverse] at hup
  obtain ⟨Y, hY⟩ : ∃ Y, Y = Lg.climb [] (Lg.leaf l) i n P.reverse := ⟨_, rfl⟩
  rw [← hY] at hup
  have HV := Lib.hid (show chkD (Lg.leaf l) i n P root = if Y.2 = true ∧ (Y.1 == root) = true then 0 else 17 by rw [hY]; rfl)
  have hadd := fun (W : World) => str_add [0] l (by decide) (by omega) W
  have t0 : decide ((n : Int) < 1) = false := decide_eq_false (by omega)
  have q0 : ¬ ((n : Int) < 1) := by omega
  have t1 : decide ((i : Int) < 0) = false := decide_eq_false (by omega)
  have q1 : ¬ ((i : Int) < 0) := by omega
  have q2 : ¬ ((n : Int) ≤ (i : Int)) := by omega
  have q3 : ¬ (n ≤ i) := by omega
  have t2 : decide ((n : Int) ≤ (i : Int)) = false := decide_eq_false q2
  have t3 : decide (n ≤ i) = false := decide_eq_false q3
  have q4 : ¬ (n < 1) := by omega
  have q5 : ¬ (n = 0) := by omega
  have t5 : decide (n = 0) = false := decide_eq_false q5
  obtain ⟨b, hb⟩ : ∃ b, b = Y.2 := ⟨_, rfl⟩
  obtain ⟨q, hq⟩ : ∃ q, q = (Y.1 == root) := ⟨_, rfl⟩
  unfold str at hup
  rw [← hb] at hup
  have HUP := Lib.hid hup
  have hbq : (Y.1 == root) = q := hq.symm
  rw [← hb, ← hq] at HV
  generalize chkD (Lg.leaf l) i n P root = D at *
  clear hup hY hP hc hm hK hE hin n9 hb hq hl
  show Calls Tryd.prog 23 #[.string ⟨l.toArray⟩, .int .i64 (i : Int), .int .i64 (n : Int), .slice a P.length c, .string ⟨root.toArray⟩] w _
  go_enter Tryd.func23, Tryd.ntmps23
  cases b
  · go_wp2_with fail
    refine (HSU.out w (Fr.refl _ _)).mono ?_
    rintro e w1 ⟨rfl, F1⟩
    have HF1 := Lib.hid F1
    clear F1
    go_wp2_with fail
    refine (HUP.out w1 HF1.out).mono ?_
    rintro e w2 ⟨rfl, F2⟩
    have HF2 := Lib.hid (HF1.out.trans F2 (fun _ h => h.elim))
    clear F2
    go_wp2_with fail
    go_ret
    exact ⟨by rw [HV.out]; simp, HF2.out⟩
  · cases q
    · go_wp2_with fail
      refine (HSU.out w (Fr.refl _ _)).mono ?_
      rintro e w1 ⟨rfl, F1⟩
      have HF1 := Lib.hid F1
      clear F1
      go_wp2_with fail
      refine (HUP.out w1 HF1.out).mono ?_
      rintro e w2 ⟨rfl, F2⟩
      have HF2 := Lib.hid (HF1.out.trans F2 (fun _ h => h.elim))
      clear F2
      go_wp2_with fail
      go_ret
      exact ⟨by rw [HV.out]; simp, HF2.out⟩
    · go_wp2_with fail
      refine (HSU.out w (Fr.refl _ _)).mono ?_
      rintro e w1 ⟨rfl, F1⟩
      have HF1 := Lib.hid F1
      clear F1
      go_wp2_with fail
      refine (HUP.out w1 HF1.out).mono ?_
      rintro e w2 ⟨rfl, F2⟩
      have HF2 := Lib.hid (HF1.out.trans F2 (fun _ h => h.elim))
      clear F2
      go_wp2_with fail
      go_ret
      exact ⟨by rw [HV.out]; simp, HF2.out⟩
end Go.Proofs.YtjndkjgbplpfeaaDoor
namespace Go.Proofs.YtjndkjgbplpfeaaDoor
open Go.RowKit
set_option linter.unusedVariables false
set_option linter.unusedSimpArgs false
set_option maxRecDepth 100000 in
theorem chkI_chkD (s : List UInt8) (i n : Nat) (P : List (List UInt8)) (root : List UInt8) : chkI s i n P root = chkD s i n P root := by
  unfold chkI chkD
  have h := Lg.climb_same z32 [] s P.reverse i n
  by_cases hb : (Lg.climb [] s i n P.reverse).2 = true
  · have e1 := h.2 hb
    have e2 : (Lg.climb z32 s i n P.reverse).2 = true := h.1.trans hb
    rw [e1, e2, hb]
  · rw [if_neg (fun k => hb (h.1 ▸ k.1)), if_neg (fun k => hb k.1)]
end Go.Proofs.YtjndkjgbplpfeaaDoor
namespace Go.Proofs.YtjndkjgbplpfeaaDoor
open Go.RowKit
set_option linter.unusedVariables false
set_option linter.unusedSimpArgs false
set_option maxRecDepth 100000 in
theorem Lg.bothD_le (old : List UInt8) (ho : old.length ≤ 100000) : ∀ (r : List (List UInt8)) (m n : Nat) (all : Bool), (∀ x ∈ r, x.length ≤ 100000) → (Lg.bothD old m n all r).1.length ≤ 100000 ∧ (Lg.bothD old m n all r).2.1.length ≤ 100000
  | [], m, n, all, _ => by unfold Lg.bothD; split <;> simp [ho]
  | x :: r, m, n, all, hx => by
    have ih := fun m n all => Lg.bothD_le old ho r m n all (fun y hy => hx y (by simp [hy]))
    have h1 := hx x (by simp)
    have hn : ∀ a b : List UInt8, (Lg.node a b).length ≤ 100000 := fun a b => by rw [Lg.node_len]; decide
    unfold Lg.bothD
    split
    · split
      · exact ⟨ho, ho⟩
      · split
        · exact ⟨h1, h1⟩
        · exact ⟨by simp, by simp⟩
    · split
      · exact ⟨(ih m (Lg.hf n) all).1, hn _ _⟩
      · exact ⟨hn _ _, hn _ _⟩
set_option maxRecDepth 100000 in
set_option maxHeartbeats 6400000 in
theorem dboth_all (old : List UInt8) (a : Option Addr) (c n : Nat) (r : List (List UInt8)) (w : World) : Calls Tryd.prog 39 #[.int .i64 (n : Int), .int .i64 (n : Int), .slice a r.length c, .bool true, str old] w fun e w' => e = .returned (.tuple #[str (Lg.bothD old n n true r).1, str (Lg.bothD old n n true r).2.1, .bool (Lg.bothD old n n true r).2.2]) ∧ Fr (fun _ => False) w w' := by
  have h1 : Lg.bothD old n n true r = (old, old, ((r.length : Int) == 0)) := by
    cases r with
    | nil => simp [Lg.bothD]
    | cons x r => simp [Lg.bothD]; omega
  rw [h1]
  clear h1
  go_enter Tryd.func39, Tryd.ntmps39
  go_wp2_with fail
  go_returns
  exact ⟨rfl, Fr.refl _ _⟩
set_option maxRecDepth 100000 in
theorem dboth_few (old : List UInt8) (a : Option Addr) (c n p : Nat) (r : List (List UInt8)) (hp : r.length = p) (h1 : p ≠ 1) (w : World) : Calls Tryd.prog 39 #[.int .i64 (n : Int), .int .i64 (n : Int), .slice a p c, .bool false, str old] w fun e w' => e = .returned (.tuple #[str (Lg.bothD old n n false r).1, str (Lg.bothD old n n false r).2.1, .bool (Lg.bothD old n n false r).2.2]) ∧ Fr (fun _ => False) w w' := by
  have h2 : Lg.bothD old n n false r = ([], [], false) := by
    match r, hp with
    | [], _ => simp [Lg.bothD]
    | [x], hp => exact absurd hp.symm h1
    | x :: y :: r, _ => simp [Lg.bothD]
  rw [h2]
  have b1 : ((p : Int) == 1) = false := beq_eq_false_iff_ne.2 (by omega)
  have b2 : (p == 1) = false := beq_eq_false_iff_ne.2 h1
  have b3 : ((p : Int) != 1) = true := by simp [b1, bne]
  clear h2 hp h1
  go_enter Tryd.func39, Tryd.ntmps39
  go_wp2_with fail
  go_returns
  exact ⟨rfl, Fr.refl _ _⟩
set_option maxRecDepth 100000 in
theorem dboth_none (old : List UInt8) (a : Option Addr) (c m n : Nat) (all : Bool) (h : m ≠ n) (w : World) : Calls Tryd.prog 39 #[.int .i64 (m : Int), .int .i64 (n : Int), .slice a 0 c, .bool all, str old] w fun e w' => e = .returned (.tuple #[str (Lg.bothD old m n all []).1, str (Lg.bothD old m n all []).2.1, .bool (Lg.bothD old m n all []).2.2]) ∧ Fr (fun _ => False) w w' := by
  have h2 : Lg.bothD old m n all [] = ([], [], false) := by simp [Lg.bothD, h]
  rw [h2]
  have b1 : ((m : Int) == (n : Int)) = false := beq_eq_false_iff_ne.2 (by omega)
  have b2 : (m == n) = false := beq_eq_false_iff_ne.2 h
  clear h2 h
  go_enter Tryd.func39, Tryd.ntmps39
  go_wp2_with fail
  go_returns
  exact ⟨rfl, Fr.refl _ _⟩
set_option maxRecDepth 100000 in
theorem dboth_one (old x : List UInt8) (a : Option Addr) (c n : Nat) (hc : 1 ≤ c) (w : World) (hK : Sv w a [x]) : Calls Tryd.prog 39 #[.int .i64 (n : Int), .int .i64 (n : Int), .slice a 1 c, .bool false, str old] w fun e w' => e = .returned (.tuple #[str (Lg.bothD old n n false [x]).1, str (Lg.bothD old n n false [x]).2.1, .bool (Lg.bothD old n n false [x]).2.2]) ∧ Fr (fun _ => False) w w' := by
  obtain ⟨g, off, rfl⟩ := hK.at (by simp)
  have h2 : Lg.bothD old n n false [x] = (x, x, true) := by simp [Lg.bothD]
  rw [h2]
  have HK := Lib.hid hK
  have kx : ∀ y : Wd w, y.w.cell? ⟨g, off, none⟩ = some (.string ⟨x.toArray⟩) := fun y => by have := (HK.out.ext y.h).cell (k := 0) (x := x) rfl; rw [Nat.add_zero] at this; exact this
  clear h2 hK hc
  go_enter Tryd.func39, Tryd.ntmps39
  go_wp2_with fail
  refine wp_region_keep (by kernel_rfl) (by kernel_rfl) ?_
  repeat (any_goals (first | go_big_quiet_step (fail) | quiet_step (fail)))
  refine wpQuiet_nil ?_
  intro _ hwz
  obtain ⟨y1, rfl⟩ := hwz
  go_wp2_with fail
  go_returns
  exact ⟨rfl, y1.h⟩
set_option maxRecDepth 100000 in
set_option maxHeartbeats 6400000 in
theorem dboth_left (old : List UInt8) (ho : old.length ≤ 100000) (x : List UInt8) (r : List (List UInt8)) (hr : ∀ y ∈ r, y.length ≤ 100000) (ih : ∀ (a : Option Addr) (c m n : Nat) (all : Bool) (w : World), 1 ≤ m → m ≤ n → n ≤ 9223372036854775807 → r.length ≤ c → c ≤ maxLen → Sv w a r.reverse → REnv w → Calls Tryd.prog 39 #[.int .i64 (m : Int), .int .i64 (n : Int), .slice a r.length c, .bool all, str old] w fun e w' => e = .returned (.tuple #[str (Lg.bothD old m n all r).1, str (Lg.bothD old m n all r).2.1, .bool (Lg.bothD old m n all r).2.2]) ∧ Fr (fun _ => False) w w') (a : Option Addr) (c m n : Nat) (all : Bool) (w : World) (hxl : x.length ≤ 100000) (h1m : 1 ≤ m) (hmn : m < n) (n9 : n ≤ 9223372036854775807) (hc : (x :: r).length ≤ c) (hm : c ≤ maxLen) (hK : Sv w a (x :: r).reverse) (hE : REnv w) (hh : m ≤ Lg.hf n) : Calls Tryd.prog 39 #[.int .i64 (m : Int), .int .i64 (n : Int), .slice a (x :: r).length c, .bool all, str old] w fun e w' => e = .returned (.tuple #[str (Lg.bothD old m n all (x :: r)).1, str (Lg.bothD old m n all (x :: r)).2.1, .bool (Lg.bothD old m n all (x :: r)).2.2]) ∧ Fr (fun _ => False) w w' := by
  obtain ⟨g, off, rfl⟩ := hK.at (by simp)
  have hlt := Lg.hf_lt (show 2 ≤ n by omega)
  have hpos := Lg.hf_pos n
  have HS := Lib.hid (fun w => half_any n (show 2 ≤ n by omega) n9 w)
  have hcl : Lg.bothD old m n all (x :: r) = ((Lg.bothD old m (Lg.hf n) all r).1, Lg.node (Lg.bothD old m (Lg.hf n) all r).2.1 x, (Lg.bothD old m (Lg.hf n) all r).2.2) := by
    rw [Lg.bothD, if_neg (show ¬ m = n by omega), if_pos hh]
  generalize Lg.hf n = h at *
  have hle := Lg.bothD_le old ho r m h all hr
  obtain ⟨Y, hY⟩ : ∃ Y, Y = Lg.bothD old m h all r := ⟨_, rfl⟩
  rw [← hY] at hcl hle
  rw [hcl]
  have hrv : Sv w (some ⟨g, off, none⟩) r.reverse := by
    have := hK.take r.length
    rwa [List.reverse_cons, List.take_append_of_le_length (by simp), List.take_of_length_le (by simp)] at this
  have hxi : (x :: r).reverse[r.length]? = some x := by rw [List.reverse_cons, List.getElem?_append_right (by simp)]; simp
  obtain ⟨p, hp⟩ : ∃ p, p = r.length := ⟨_, rfl⟩
  obtain ⟨q, hq⟩ : ∃ q, q = (x :: r).length := ⟨_, rfl⟩
  have hpq : q = p + 1 := by rw [hq, hp]; rfl
  rw [← hp] at hxi ih
  rw [← hq] at hc ⊢
  clear hp hq
  have HK := Lib.hid hK
  have HXI := Lib.hid hxi
  have kx : ∀ y : Wd w, y.w.cell? ⟨g, off + p, none⟩ = some (.string ⟨x.toArray⟩) := fun y => (HK.out.ext y.h).cell HXI.out
  have HI := Lib.hid (fun (W : World) (F : Fr (fun _ => False) w W) => ih (some ⟨g, off, none⟩) c m h all W (by omega) (by omega) (by omega) (by omega) hm (hrv.ext F) (hE.ext F))
  rw [← hY] at HI
  have HN := Lib.hid (fun (W : World) (F : Fr (fun _ => False) w W) => rnode_any Y.2.1 x hle.2 hxl W (hE.ext F))
  have W2 : wrap64 ((q : Int) - 1) = (p : Int) := by unfold maxLen at hm; rw [IntWalk.wrap64_in _ (by omega)]; omega
  have b1 : ((m : Int) == (n : Int)) = false := beq_eq_false_iff_ne.2 (by omega)
  have b2 : (m == n) = false := beq_eq_false_iff_ne.2 (by omega)
  have b3 : ((q : Int) == 0) = false := beq_eq_false_iff_ne.2 (by omega)
  have b4 : (q == 0) = false := beq_eq_false_iff_ne.2 (by omega)
  have q1 : (p : Int) < (q : Int) := by omega
  have q2 : (0 : Int) ≤ (p : Int) := by omega
  have q3 : p ≤ q := by omega
  have q4 : p ≤ c := by omega
  have q5 : (p : Int) ≤ (c : Int) := by omega
  have q7 : (p : Int) ≤ (q : Int) := by omega
  have q6 : (m : Int) ≤ (h : Int) := by omega
  have q8 : m ≤ h := by omega
  have q9 : True := trivial
  clear q9
  clear hlt hpos hcl hle hY hrv hxi hpq ih hK hE hm hc h1m n9 hmn hh hxl ho hr
  go_enter Tryd.func39, Tryd.ntmps39
  go_wp2_with fail
  refine wp_region_keep (by kernel_rfl) (by kernel_rfl) ?_
  repeat (any_goals (first | go_big_quiet_step (exact Calls.keep_same ((HS.out _).mono (fun e W h => ⟨h.1, h.2.symm⟩))) | quiet_step (fail)))
  refine wpQuiet_nil ?_
  intro _ hwz
  obtain ⟨y1, rfl⟩ := hwz
  have HY1 := Lib.hid y1.h
  generalize y1.w = w1 at *
  clear kx
  go_wp2_with fail
  refine (HI.out w1 HY1.out).mono ?_
  rintro e w2 ⟨rfl, F2⟩
  have HF2 := Lib.hid (HY1.out.trans F2 (fun _ h => h.elim))
  clear F2
  go_wp2_with fail
  refine (HN.out w2 HF2.out).mono ?_
  rintro e w3 ⟨rfl, F3⟩
  have HF3 := Lib.hid (HF2.out.trans F3 (fun _ h => h.elim))
  clear F3
  go_wp2_with fail
  go_returns
  exact ⟨rfl, HF3.out⟩
set_option maxRecDepth 100000 in
set_option maxHeartbeats 6400000 in
theorem dboth_right (old : List UInt8) (ho : old.length ≤ 100000) (x : List UInt8) (r : List (List UInt8)) (hr : ∀ y ∈ r, y.length ≤ 100000) (ih : ∀ (a : Option Addr) (c m n : Nat) (all : Bool) (w : World), 1 ≤ m → m ≤ n → n ≤ 9223372036854775807 → r.length ≤ c → c ≤ maxLen → Sv w a r.reverse → REnv w → Calls Tryd.prog 39 #[.int .i64 (m : Int), .int .i64 (n : Int), .slice a r.length c, .bool all, str old] w fun e w' => e = .returned (.tuple #[str (Lg.bothD old m n all r).1, str (Lg.bothD old m n all r).2.1, .bool (Lg.bothD old m n all r).2.2]) ∧ Fr (fun _ => False) w w') (a : Option Addr) (c m n : Nat) (all : Bool) (w : World) (hxl : x.length ≤ 100000) (h1m : 1 ≤ m) (hmn : m < n) (n9 : n ≤ 9223372036854775807) (hc : (x :: r).length ≤ c) (hm : c ≤ maxLen) (hK : Sv w a (x :: r).reverse) (hE : REnv w) (hh : ¬ m ≤ Lg.hf n) : Calls Tryd.prog 39 #[.int .i64 (m : Int), .int .i64 (n : Int), .slice a (x :: r).length c, .bool all, str old] w fun e w' => e = .returned (.tuple #[str (Lg.bothD old m n all (x :: r)).1, str (Lg.bothD old m n all (x :: r)).2.1, .bool (Lg.bothD old m n all (x :: r)).2.2]) ∧ Fr (fun _ => False) w w' := by
  obtain ⟨g, off, rfl⟩ := hK.at (by simp)
  have hlt := Lg.hf_lt (show 2 ≤ n by omega)
  have hpos := Lg.hf_pos n
  have HS := Lib.hid (fun w => half_any n (show 2 ≤ n by omega) n9 w)
  have hcl : Lg.bothD old m n all (x :: r) = (Lg.node x (Lg.bothD old (m - Lg.hf n) (n - Lg.hf n) false r).1, Lg.node x (Lg.bothD old (m - Lg.hf n) (n - Lg.hf n) false r).2.1, (Lg.bothD old (m - Lg.hf n) (n - Lg.hf n) false r).2.2) := by
    rw [Lg.bothD, if_neg (show ¬ m = n by omega), if_neg hh]
  generalize Lg.hf n = h at *
  have hle := Lg.bothD_le old ho r (m - h) (n - h) false hr
  obtain ⟨Y, hY⟩ : ∃ Y, Y = Lg.bothD old (m - h) (n - h) false r := ⟨_, rfl⟩
  rw [← hY] at hcl hle
  rw [hcl]
  have hrv : Sv w (some ⟨g, off, none⟩) r.reverse := by
    have := hK.take r.length
    rwa [List.reverse_cons, List.take_append_of_le_length (by simp), List.take_of_length_le (by simp)] at this
  have hxi : (x :: r).reverse[r.length]? = some x := by rw [List.reverse_cons, List.getElem?_append_right (by simp)]; simp
  obtain ⟨p, hp⟩ : ∃ p, p = r.length := ⟨_, rfl⟩
  obtain ⟨q, hq⟩ : ∃ q, q = (x :: r).length := ⟨_, rfl⟩
  have hpq : q = p + 1 := by rw [hq, hp]; rfl
  rw [← hp] at hxi ih
  rw [← hq] at hc ⊢
  clear hp hq
  have HK := Lib.hid hK
  have HXI := Lib.hid hxi
  have kx : ∀ y : Wd w, y.w.cell? ⟨g, off + p, none⟩ = some (.string ⟨x.toArray⟩) := fun y => (HK.out.ext y.h).cell HXI.out
  have HI := Lib.hid (fun (W : World) (F : Fr (fun _ => False) w W) => ih (some ⟨g, off, none⟩) c (m - h) (n - h) false W (by omega) (by omega) (by omega) (by omega) hm (hrv.ext F) (hE.ext F))
  rw [← hY] at HI
  have HN := Lib.hid (fun (W : World) (F : Fr (fun _ => False) w W) => rnode_any x Y.1 hxl hle.1 W (hE.ext F))
  have HN2 := Lib.hid (fun (W : World) (F : Fr (fun _ => False) w W) => rnode_any x Y.2.1 hxl hle.2 W (hE.ext F))
  have W2 : wrap64 ((q : Int) - 1) = (p : Int) := by unfold maxLen at hm; rw [IntWalk.wrap64_in _ (by omega)]; omega
  have b1 : ((m : Int) == (n : Int)) = false := beq_eq_false_iff_ne.2 (by omega)
  have b2 : (m == n) = false := beq_eq_false_iff_ne.2 (by omega)
  have b3 : ((q : Int) == 0) = false := beq_eq_false_iff_ne.2 (by omega)
  have b4 : (q == 0) = false := beq_eq_false_iff_ne.2 (by omega)
  have q1 : (p : Int) < (q : Int) := by omega
  have q2 : (0 : Int) ≤ (p : Int) := by omega
  have q3 : p ≤ q := by omega
  have q4 : p ≤ c := by omega
  have q5 : (p : Int) ≤ (c : Int) := by omega
  have q7 : (p : Int) ≤ (q : Int) := by omega
  have q6 : ¬ ((m : Int) ≤ (h : Int)) := by omega
  have q8 : ¬ (m ≤ h) := by omega
  have q9 : wrap64 ((m : Int) - (h : Int)) = ((m - h : Nat) : Int) ∧ wrap64 ((n : Int) - (h : Int)) = ((n - h : Nat) : Int) := ⟨by rw [IntWalk.wrap64_in _ (by omega)]; omega, by rw [IntWalk.wrap64_in _ (by omega)]; omega⟩
  obtain ⟨qa, qb⟩ := q9
  clear hlt hpos hcl hle hY hrv hxi hpq ih hK hE hm hc h1m n9 hmn hh hxl ho hr
  go_enter Tryd.func39, Tryd.ntmps39
  go_wp2_with fail
  refine wp_region_keep (by kernel_rfl) (by kernel_rfl) ?_
  repeat (any_goals (first | go_big_quiet_step (exact Calls.keep_same ((HS.out _).mono (fun e W h => ⟨h.1, h.2.symm⟩))) | quiet_step (fail)))
  refine wpQuiet_nil ?_
  intro _ hwz
  obtain ⟨y1, rfl⟩ := hwz
  have HY1 := Lib.hid y1.h
  generalize y1.w = w1 at *
  clear kx
  go_wp2_with fail
  refine (HI.out w1 HY1.out).mono ?_
  rintro e w2 ⟨rfl, F2⟩
  have HF2 := Lib.hid (HY1.out.trans F2 (fun _ h => h.elim))
  clear F2
  go_wp2_with fail
  refine (HN.out w2 HF2.out).mono ?_
  rintro e w2b ⟨rfl, F3⟩
  have HF2b := Lib.hid (HF2.out.trans F3 (fun _ h => h.elim))
  clear F3
  go_wp2_with fail
  refine (HN2.out w2b HF2b.out).mono ?_
  rintro e w3 ⟨rfl, F3⟩
  have HF3 := Lib.hid (HF2b.out.trans F3 (fun _ h => h.elim))
  clear F3
  go_wp2_with fail
  go_returns
  exact ⟨rfl, HF3.out⟩
set_option maxRecDepth 100000 in
set_option maxHeartbeats 6400000 in
theorem dboth_any (old : List UInt8) (ho : old.length ≤ 100000) : ∀ (r : List (List UInt8)), (∀ x ∈ r, x.length ≤ 100000) → ∀ (a : Option Addr) (c m n : Nat) (all : Bool) (w : World), 1 ≤ m → m ≤ n → n ≤ 9223372036854775807 → r.length ≤ c → c ≤ maxLen → Sv w a r.reverse → REnv w → Calls Tryd.prog 39 #[.int .i64 (m : Int), .int .i64 (n : Int), .slice a r.length c, .bool all, str old] w fun e w' => e = .returned (.tuple #[str (Lg.bothD old m n all r).1, str (Lg.bothD old m n all r).2.1, .bool (Lg.bothD old m n all r).2.2]) ∧ Fr (fun _ => False) w w' := by
  intro r
  induction r with
  | nil =>
    intro _ a c m n all w h1 hmn n9 hc hm hK hE
    by_cases hn : m = n
    · subst hn
      cases all
      · exact dboth_few old a c m 0 [] rfl (by decide) w
      · exact dboth_all old a c m [] w
    · exact dboth_none old a c m n all hn w
  | cons x r ih =>
    intro hx a c m n all w h1 hmn n9 hc hm hK hE
    by_cases hn : m = n
    · subst hn
      cases all
      · cases r with
        | nil => exact dboth_one old x a c m hc w hK
        | cons y r => exact dboth_few old a c m _ (x :: y :: r) rfl (by simp) w
      · exact dboth_all old a c m (x :: r) w
    · have hr : ∀ y ∈ r, y.length ≤ 100000 := fun y hy => hx y (List.mem_cons_of_mem _ hy)
      by_cases hh : m ≤ Lg.hf n
      · exact dboth_left old ho x r hr (ih hr) a c m n all w (hx x (by simp)) h1 (by omega) n9 hc hm hK hE hh
      · exact dboth_right old ho x r hr (ih hr) a c m n all w (hx x (by simp)) h1 (by omega) n9 hc hm hK hE hh
end Go.Proofs.YtjndkjgbplpfeaaDoor
namespace Go.Proofs.YtjndkjgbplpfeaaDoor
open Go.RowKit
set_option linter.unusedVariables false
set_option linter.unusedSimpArgs false
/-- The document's answer. -/
def chkE (m n : Nat) (P : List (List UInt8)) (old root : List UInt8) : Int := if (Lg.bothD old m n true P.reverse).2.2 = true ∧ ((Lg.bothD old m n true P.reverse).1 == old) = true ∧ ((Lg.bothD old m n true P.reverse).2.1 == root) = true then 0 else 17
set_option maxRecDepth 100000 in
theorem chkC_chkE (m n : Nat) (P : List (List UInt8)) (old root : List UInt8) : chkC m n P old root = chkE m n P old root := by
  unfold chkC chkE
  have h := Lg.both_same z32 old P.reverse m n true
  by_cases hb : (Lg.bothD old m n true P.reverse).2.2 = true
  · rw [h.2 hb]
  · rw [if_neg (fun k => hb (h.1 ▸ k.1)), if_neg (fun k => hb k.1)]
set_option maxRecDepth 100000 in
set_option maxHeartbeats 6400000 in
theorem dchkc_any (old root : List UInt8) (ho : old.length ≤ 100000) (m n : Nat) (h1 : 1 ≤ m) (hmn : m ≤ n) (n9 : n ≤ 9223372036854775807) (a : Option Addr) (c : Nat) (P : List (List UInt8)) (hP : ∀ x ∈ P, x.length ≤ 100000) (hc : P.length ≤ c) (hm : c ≤ maxLen) (w : World) (hK : Sv w a P) (hE : REnv w) : Calls Tryd.prog 24 #[.int .i64 (m : Int), .int .i64 (n : Int), .slice a P.length c, str old, str root] w fun e w' => e = .returned (.int .i64 (chkE m n P old root)) ∧ Fr (fun _ => False) w w' := by
  have hup := fun (W : World) (F : Fr (fun _ => False) w W) => dboth_any old ho P.reverse (fun x hx => hP x (List.mem_reverse.1 hx)) a c m n true W h1 hmn n9 (by rw [List.length_reverse]; exact hc) hm (by rw [List.reverse_reverse]; exact hK.ext F) (hE.ext F)
  rw [List.length_reverse] at hup
  obtain ⟨Y, hY⟩ : ∃ Y, Y = Lg.bothD old m n true P.reverse := ⟨_, rfl⟩
  rw [← hY] at hup
  have HV := Lib.hid (show chkE m n P old root = if Y.2.2 = true ∧ (Y.1 == old) = true ∧ (Y.2.1 == root) = true then 0 else 17 by rw [hY]; rfl)
  have t0 : decide ((m : Int) < 0) = false := decide_eq_false (by omega)
  have q0 : ¬ ((m : Int) < 0) := by omega
  have q1 : ¬ ((n : Int) < (m : Int)) := by omega
  have t1 : decide ((n : Int) < (m : Int)) = false := decide_eq_false q1
  have q2 : ¬ (n < m) := by omega
  have t2 : decide (n < m) = false := decide_eq_false q2
  have b1 : ((m : Int) == 0) = false := beq_eq_false_iff_ne.2 (by omega)
  have b2 : (m == 0) = false := beq_eq_false_iff_ne.2 (by omega)
  obtain ⟨b, hb⟩ : ∃ b, b = Y.2.2 := ⟨_, rfl⟩
  obtain ⟨q, hq⟩ : ∃ q, q = (Y.1 == old) := ⟨_, rfl⟩
  obtain ⟨p, hp⟩ : ∃ p, p = (Y.2.1 == root) := ⟨_, rfl⟩
  unfold str at hup
  rw [← hb] at hup
  have HUP := Lib.hid hup
  have hbq : (Y.1 == old) = q := hq.symm
  have hbp : (Y.2.1 == root) = p := hp.symm
  rw [← hb, ← hq, ← hp] at HV
  generalize chkE m n P old root = D at *
  clear hup hY hP hc hm hK hE h1 hmn n9 hb hq hp ho
  show Calls Tryd.prog 24 #[.int .i64 (m : Int), .int .i64 (n : Int), .slice a P.length c, .string ⟨old.toArray⟩, .string ⟨root.toArray⟩] w _
  go_enter Tryd.func24, Tryd.ntmps24
  cases b
  ·
    go_wp2_with fail
    refine (HUP.out w (Fr.refl _ _)).mono ?_
    rintro e w2 ⟨rfl, F2⟩
    have HF2 := Lib.hid F2
    clear F2
    go_wp2_with fail
    go_ret
    exact ⟨by rw [HV.out]; simp, HF2.out⟩
  · cases q
    ·
      go_wp2_with fail
      refine (HUP.out w (Fr.refl _ _)).mono ?_
      rintro e w2 ⟨rfl, F2⟩
      have HF2 := Lib.hid F2
      clear F2
      go_wp2_with fail
      go_ret
      exact ⟨by rw [HV.out]; simp, HF2.out⟩
    · cases p
      ·
        go_wp2_with fail
        refine (HUP.out w (Fr.refl _ _)).mono ?_
        rintro e w2 ⟨rfl, F2⟩
        have HF2 := Lib.hid F2
        clear F2
        go_wp2_with fail
        go_ret
        exact ⟨by rw [HV.out]; simp, HF2.out⟩
      ·
        go_wp2_with fail
        refine (HUP.out w (Fr.refl _ _)).mono ?_
        rintro e w2 ⟨rfl, F2⟩
        have HF2 := Lib.hid F2
        clear F2
        go_wp2_with fail
        go_ret
        exact ⟨by rw [HV.out]; simp, HF2.out⟩
end Go.Proofs.YtjndkjgbplpfeaaDoor
namespace Go.Proofs.YtjndkjgbplpfeaaDoor
open Go.RowKit
set_option linter.unusedVariables false
set_option linter.unusedSimpArgs false
set_option maxRecDepth 100000 in
set_option maxHeartbeats 6400000 in
theorem dchkc_bad (old root : List UInt8) (y z : Int) (a : Option Addr) (n c : Nat) (h : y < 0 ∨ z < y) (w : World) : Calls Tryd.prog 24 #[.int .i64 y, .int .i64 z, .slice a n c, str old, str root] w fun e w' => e = .returned (.int .i64 1) ∧ Fr (fun _ => False) w w' := by
  by_cases q0 : y < 0
  · have t0 : decide (y < 0) = true := decide_eq_true q0
    clear h
    go_enter Tryd.func24, Tryd.ntmps24
    go_wp2_with fail
    go_ret
    exact ⟨rfl, Fr.refl _ _⟩
  · have t0 : decide (y < 0) = false := decide_eq_false q0
    have q1 : z < y := by omega
    have t1 : decide (z < y) = true := decide_eq_true q1
    clear h
    go_enter Tryd.func24, Tryd.ntmps24
    go_wp2_with fail
    go_ret
    exact ⟨rfl, Fr.refl _ _⟩
set_option maxRecDepth 100000 in
set_option maxHeartbeats 6400000 in
theorem dchkc_zero (old root : List UInt8) (z : Int) (h0 : 0 ≤ z) (a : Option Addr) (n c : Nat) (P : List (List UInt8)) (hn : P.length = n) (w : World) (hE : REnv w) : Calls Tryd.prog 24 #[.int .i64 0, .int .i64 z, .slice a n c, str old, str root] w fun e w' => e = .returned (.int .i64 (chkN z P old root)) ∧ Fr (fun _ => False) w w' := by
  have HSU := Lib.hid (rsum_str [] (by decide) w hE)
  have HV := Lib.hid (show chkN z P old root = if P.length = 0 ∧ (old == Lg.none') = true ∧ (z = 0 → (root == old) = true) then 0 else 17 from rfl)
  generalize chkN z P old root = D at *
  rw [hn] at HV
  have q0 : ¬ (z < 0) := by omega
  have t0 : decide (z < 0) = false := decide_eq_false q0
  clear hE hn h0
  show Calls Tryd.prog 24 #[.int .i64 0, .int .i64 z, .slice a n c, .string ⟨old.toArray⟩, .string ⟨root.toArray⟩] w _
  by_cases hz : n = 0
  · subst hz
    obtain ⟨q, hq⟩ : ∃ q, q = (old == Lg.none') := ⟨_, rfl⟩
    have hbq : (old == Lg.none') = q := hq.symm
    rw [← hq] at HV
    clear hq
    cases q
    · go_enter Tryd.func24, Tryd.ntmps24
      go_wp2_with fail
      refine HSU.out.mono ?_
      rintro e w1 ⟨rfl, F1⟩
      have HF1 := Lib.hid F1
      clear F1
      rw [show str (S2.sum []) = .string ⟨(Lg.none').toArray⟩ from rfl]
      go_wp2_with fail
      go_ret
      exact ⟨by rw [HV.out]; simp, HF1.out⟩
    · by_cases hz0 : z = 0
      · subst hz0
        obtain ⟨p, hp⟩ : ∃ p, p = (root == old) := ⟨_, rfl⟩
        have hbp : (root == old) = p := hp.symm
        rw [← hp] at HV
        clear hp
        cases p
        · go_enter Tryd.func24, Tryd.ntmps24
          go_wp2_with fail
          refine HSU.out.mono ?_
          rintro e w1 ⟨rfl, F1⟩
          have HF1 := Lib.hid F1
          clear F1
          rw [show str (S2.sum []) = .string ⟨(Lg.none').toArray⟩ from rfl]
          go_wp2_with fail
          go_ret
          exact ⟨by rw [HV.out]; simp, HF1.out⟩
        · go_enter Tryd.func24, Tryd.ntmps24
          go_wp2_with fail
          refine HSU.out.mono ?_
          rintro e w1 ⟨rfl, F1⟩
          have HF1 := Lib.hid F1
          clear F1
          rw [show str (S2.sum []) = .string ⟨(Lg.none').toArray⟩ from rfl]
          go_wp2_with fail
          go_ret
          exact ⟨by rw [HV.out]; simp, HF1.out⟩
      · have b1 : (z == 0) = false := beq_eq_false_iff_ne.2 hz0
        go_enter Tryd.func24, Tryd.ntmps24
        go_wp2_with fail
        refine HSU.out.mono ?_
        rintro e w1 ⟨rfl, F1⟩
        have HF1 := Lib.hid F1
        clear F1
        rw [show str (S2.sum []) = .string ⟨(Lg.none').toArray⟩ from rfl]
        go_wp2_with fail
        go_ret
        exact ⟨by rw [HV.out]; simp [hz0], HF1.out⟩
  · have b1 : ((n : Int) == 0) = false := beq_eq_false_iff_ne.2 (by omega)
    have b2 : (n == 0) = false := beq_eq_false_iff_ne.2 hz
    have HZ := Lib.hid hz
    clear hz
    go_enter Tryd.func24, Tryd.ntmps24
    go_wp2_with fail
    go_ret
    exact ⟨by rw [HV.out]; simp [HZ.out], Fr.refl _ _⟩
end Go.Proofs.YtjndkjgbplpfeaaDoor

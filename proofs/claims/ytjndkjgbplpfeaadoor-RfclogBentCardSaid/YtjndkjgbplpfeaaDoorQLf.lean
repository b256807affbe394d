/-
  What shows a beginning, shows it: the checks of a log's own proofs.
  The law RfclogGrows.
  The law RfclogGrows, whole.
-/
import Derived.Test.YtjndkjgbplpfeaaDoorQLe
namespace Go.Proofs.YtjndkjgbplpfeaaDoor
open Go.RowKit
set_option linter.unusedVariables false
set_option linter.unusedSimpArgs false
set_option maxRecDepth 100000 in
theorem Lg.hf_mid {m n : Nat} (h2 : 2 ≤ n) (h : Lg.hf n < m) (hn : m ≤ n) : Lg.hf m = Lg.hf n := by
  unfold Lg.hf at h ⊢
  have h1 : n - 1 < 2 ^ (Nat.log2 (n - 1) + 1) := Nat.lt_log2_self
  have h0 : 2 ^ Nat.log2 (m - 1) ≤ m - 1 := Nat.log2_self_le (by omega)
  have h3 : m - 1 < 2 ^ (Nat.log2 (m - 1) + 1) := Nat.lt_log2_self
  congr 1
  rcases Nat.lt_trichotomy (Nat.log2 (m - 1)) (Nat.log2 (n - 1)) with e | e | e
  · have := Nat.pow_le_pow_right (n := 2) (by decide) (show Nat.log2 (m - 1) + 1 ≤ Nat.log2 (n - 1) from e)
    omega
  · exact e
  · have := Nat.pow_le_pow_right (n := 2) (by decide) (show Nat.log2 (n - 1) + 1 ≤ Nat.log2 (m - 1) from e)
    omega
set_option maxRecDepth 100000 in
theorem Lg.both_sub (z old : Lg.B) : ∀ (N : Nat) (L : List Lg.B) (m : Nat) (all : Bool), L.length ≤ N → 1 ≤ m → m ≤ L.length → (all = true → old = Lg.root (L.take m)) → Lg.both z old m L.length all (Lg.sub m L all).reverse = (Lg.root (L.take m), Lg.root L, true)
  | 0, L, m, all, hN, h1, hm, _ => by omega
  | N + 1, L, m, all, hN, h1, hm, ho => by
    by_cases e : m = L.length
    · subst e
      rw [List.take_length] at ho ⊢
      cases all
      · rw [Lg.sub_own]
        simp [Lg.both]
      · rw [Lg.sub_all, ho rfl]
        simp [Lg.both]
    · have h2 : 2 ≤ L.length := by omega
      have hl := Lg.hf_lt h2
      have hp := Lg.hf_pos L.length
      have h22 := Lg.hf_two h2
      by_cases hi : m ≤ Lg.hf L.length
      · have ih := Lg.both_sub z old N (L.take (Lg.hf L.length)) m all (by rw [List.length_take]; omega) h1 (by rw [List.length_take]; omega) (by rw [List.take_take, Nat.min_eq_left hi]; exact ho)
        rw [List.take_take, Nat.min_eq_left hi, List.length_take, Nat.min_eq_left (by omega)] at ih
        rw [Lg.sub_left e h2 hi, List.reverse_append, List.reverse_singleton, List.singleton_append, Lg.both, if_neg e, if_pos hi, ih, ← Lg.root_two h2]
      · have hmm : Lg.hf m = Lg.hf L.length := Lg.hf_mid h2 (by omega) hm
        have ih := Lg.both_sub z old N (L.drop (Lg.hf L.length)) (m - Lg.hf L.length) false (by rw [List.length_drop]; omega) (by omega) (by rw [List.length_drop]; omega) (by intro h; cases h)
        rw [List.length_drop] at ih
        have hr : Lg.root (L.take m) = Lg.node (Lg.root (L.take (Lg.hf L.length))) (Lg.root ((L.drop (Lg.hf L.length)).take (m - Lg.hf L.length))) := by
          have hlm : (L.take m).length = m := by rw [List.length_take]; omega
          rw [Lg.root_two (by rw [hlm]; omega), hlm, hmm, List.take_take, Nat.min_eq_left (by omega), List.drop_take]
        rw [Lg.sub_right e h2 hi, List.reverse_append, List.reverse_singleton, List.singleton_append, Lg.both, if_neg e, if_neg hi, ih, ← Lg.root_two h2, hr]
set_option maxRecDepth 100000 in
theorem chkC_ok (L : List Lg.B) (m : Nat) (h1 : 1 ≤ m) (hm : m ≤ L.length) : chkC m L.length (Lg.sub m L true) (Lg.root (L.take m)) (Lg.root L) = 0 := by
  unfold chkC
  rw [Lg.both_sub z32 _ L.length L m true (Nat.le_refl _) h1 hm (fun _ => rfl)]
  simp
set_option maxRecDepth 100000 in
theorem chkN_ok (L : List Lg.B) : chkN (L.length : Int) [] (Lg.root (L.take 0)) (Lg.root L) = 0 := by
  unfold chkN
  rw [List.take_zero, Lg.root_nil]
  have h3 : (L.length : Int) = 0 → (Lg.root L == Lg.none') = true := fun h => by
    have : L = [] := List.eq_nil_of_length_eq_zero (by omega)
    rw [this, Lg.root_nil, beq_self_eq_true]
  exact if_pos ⟨rfl, by rw [beq_self_eq_true], h3⟩
set_option maxRecDepth 100000 in
set_option maxHeartbeats 6400000 in
theorem grow_cons (lb base : Nat) (v : Value) (L : List (List UInt8)) (i n : Nat) (hi : i ≤ n) (hn : n = L.length) (hL : L.length ≤ 1000) (w : World) (hM : LM w lb base v L) (hE : Env w) : Calls Tryd.prog 16 #[.pointer (some ⟨lb, 0, none⟩), .int .i64 (i : Int), .int .i64 (n : Int)] w fun e w' => (∃ v2, e = .returned (.tuple #[v2, .int .i64 0]) ∧ ∀ W, Fr (fun _ => False) w' W → Calls Tryd.prog 22 #[.int .i64 (i : Int), .int .i64 (n : Int), v2, .agg (krow (Lg.root (L.take i))), .agg (krow (Lg.root L))] W fun e W' => e = .returned (.int .i64 0) ∧ Fr (fun _ => False) W W') ∧ Fr (fun _ => False) w w' := by
  by_cases h0 : i = 0
  · subst h0
    refine (cons_zero lb base v L n (by omega) w hM).mono ?_
    rintro e w2 ⟨rfl, F2⟩
    refine ⟨⟨_, rfl, fun W F => ?_⟩, F2⟩
    have := chkc_zero (n : Int) (by omega) none [] 0 (Lg.root (L.take 0)) (Lg.root L) (Lg.root_len (hM.all.take 0)) (Lg.root_len hM.all) W ((hE.ext F2).ext F)
    rw [hn, chkN_ok] at this
    rw [hn]
    exact this
  · refine (cons_m lb base v L i n (by omega) hi (by omega) hL w hM hE).mono ?_
    rintro e w2 ⟨⟨v2, rfl, hO⟩, F2⟩
    rw [hn, List.take_length] at hO
    refine ⟨⟨_, rfl, fun W F => ?_⟩, F2⟩
    obtain ⟨a, c, rfl, h1, h2, hK, _⟩ := hO.view (Lg.sub_all32 _ i L true (Nat.le_refl _) hM.all)
    have := chkc_any i n (by omega) hi (by omega) a (Lg.sub i L true) c h1 h2 (Lg.root (L.take i)) (Lg.root L) (Lg.root_len (hM.all.take i)) (Lg.root_len hM.all) W (hK.ext F) ((hE.ext F2).ext F)
    rw [hn, chkC_ok L i (by omega) (by omega)] at this
    rw [hn]
    exact this
end Go.Proofs.YtjndkjgbplpfeaaDoor
namespace Go.Proofs.YtjndkjgbplpfeaaDoor
open Go.RowKit
set_option linter.unusedVariables false
set_option linter.unusedSimpArgs false
set_option maxRecDepth 100000 in
theorem FewR.fr {w w2 : World} {B n : Nat} {v : Value} {A : Nat → Option Addr} {C : Nat → Nat} {L : List (List UInt8)} {S : Nat → Prop} (h : FewR w B v A C L n) (hF : Fr S w w2) (hS : ∀ x, B ≤ x → ¬ S x) : FewR w2 B v A C L n :=
  ⟨hF.own h.row (fun x hx => hS x (ownsRow_lt h.row x hx).1), fun j hj => (h.part j hj).fr hF (fun x hx => hS x ((h.part j hj).lt x hx).1), h.off, h.apart⟩
set_option maxRecDepth 100000 in
theorem Own.came {w : World} {B n c : Nat} {a : Option Addr} {l : List UInt8} (h : Own w B (.slice a n c) l) : Came w a n c l := by
  obtain ⟨e1, e2, e3, e4⟩ := h.lies
  exact ⟨e1.symm, e2, e3, e4, fun e => by subst e; exact h.nilAddr⟩
set_option maxRecDepth 100000 in
theorem lit107 (f : Nat → Value) : ((List.range 107).map f).toArray = (f 0 :: f 1 :: f 2 :: f 3 :: f 4 :: f 5 :: f 6 :: f 7 :: f 8 :: f 9 :: f 10 :: f 11 :: f 12 :: f 13 :: f 14 :: f 15 :: f 16 :: f 17 :: f 18 :: f 19 :: f 20 :: f 21 :: f 22 :: f 23 :: f 24 :: f 25 :: f 26 :: f 27 :: f 28 :: f 29 :: f 30 :: f 31 :: f 32 :: f 33 :: f 34 :: f 35 :: f 36 :: f 37 :: f 38 :: f 39 :: f 40 :: f 41 :: f 42 :: f 43 :: f 44 :: f 45 :: f 46 :: f 47 :: f 48 :: f 49 :: f 50 :: f 51 :: f 52 :: f 53 :: f 54 :: f 55 :: f 56 :: f 57 :: f 58 :: f 59 :: f 60 :: f 61 :: f 62 :: f 63 :: f 64 :: f 65 :: f 66 :: f 67 :: f 68 :: f 69 :: f 70 :: f 71 :: f 72 :: f 73 :: f 74 :: f 75 :: f 76 :: f 77 :: f 78 :: f 79 :: f 80 :: f 81 :: f 82 :: f 83 :: f 84 :: f 85 :: f 86 :: f 87 :: f 88 :: f 89 :: f 90 :: f 91 :: f 92 :: f 93 :: f 94 :: f 95 :: f 96 :: f 97 :: f 98 :: f 99 :: f 100 :: f 101 :: f 102 :: f 103 :: f 104 :: f 105 :: f 106 :: []).toArray := by kernel_rfl
set_option maxRecDepth 100000 in
set_option maxHeartbeats 6400000 in
theorem grow_in {KK : Act → World → Prop} {Q : Exit → Act → World → Prop} {w : World} {lb Z K b8 k2 c2 i n cc : Nat} {a a2 : Option Addr} {v : Value} {S : List (List UInt8)} {x : List UInt8} {r : Nat} (hi : i < k2) (hr : a2 = some ⟨r, 0, none⟩) (hc : w.cell? ⟨r, i, none⟩ = some (.slice a n cc)) (hC : Came w a n cc x) (hn9 : n ≤ 100000) (hM : LM w lb Z v S) (hS : S.length ≤ 1000) (hZ : Z ≤ w.heap.size) (hE : Env w) (fr : Array Value) (hn : fr.size = 107) (p5 : fr[5]? = some (.pointer (some ⟨lb, 0, none⟩))) (p7 : fr[7]? = some (.int .i64 (K : Int))) (p8 : fr[8]? = some (.pointer (some ⟨b8, 0, none⟩))) (p9 : fr[9]? = some (.int .i64 0)) (p10 : fr[10]? = some (.slice a2 k2 c2)) (p11 : fr[11]? = some (.int .i64 (i : Int))) (hk2 : k2 ≤ 1000)
    (hK : ∀ t' w' v', t'.size = 107 → t'[5]? = some (.pointer (some ⟨lb, 0, none⟩)) → t'[7]? = some (.int .i64 (K : Int)) → t'[8]? = some (.pointer (some ⟨b8, 0, none⟩)) → t'[9]? = some (.int .i64 0) → t'[10]? = some (.slice a2 k2 c2) → t'[11]? = some (.int .i64 ((i + 1 : Nat) : Int)) → LM w' lb Z v' (S ++ [Lg.leaf x]) → (v'.ownBlock = v.ownBlock ∨ ∃ k, v'.ownBlock = some k ∧ w.heap.size ≤ k) → Fr (fun k => k = lb ∨ v.ownBlock = some k) w w' → KK ⟨t', []⟩ w') :
    Code.wp Tryd.prog (loopAt Tryd.f7 0) (Exit.then KK Q) ⟨fr, []⟩ w := by
  subst hr
  have q1 : (i : Int) < (k2 : Int) := by omega
  have q4 : (0 : Int) ≤ (i : Int) := Int.natCast_nonneg i
  have W1 : wrap64 ((i : Int) + 1) = ((i + 1 : Nat) : Int) := by rw [IntWalk.wrap64_in _ (by omega)]; omega
  have HA := Lib.hid (add_any lb Z v S a n cc x w hM hC hn9 hS hZ hE)
  have HK := Lib.hid hK
  clear hK hM hC hE hZ hS hn9 hk2
  obtain ⟨f, hff, rfl⟩ := frame_open hn
  have e5 := hff 5 _ p5
  have e7 := hff 7 _ p7
  have e8 := hff 8 _ p8
  have e9 := hff 9 _ p9
  have e10 := hff 10 _ p10
  have e11 := hff 11 _ p11
  clear hff hn p5 p7 p8 p9 p10 p11
  rw [lit107, e5, e7, e8, e9, e10, e11]
  clear e5 e7 e8 e9 e10 e11
  conv => arg 2; whnf
  go_wp2_with fail
  refine HA.out.mono ?_
  rintro e w3 ⟨rfl, v3, hM3, hx3, F3⟩
  have H3 := Lib.hid (And.intro hM3 (And.intro hx3 F3))
  clear hM3 hx3 F3
  go_wp2_with fail
  exact HK.out _ _ v3 (by first | rfl | simp) rfl rfl rfl rfl rfl (congrArg (fun z => some (Value.int .i64 z)) W1) H3.out.1 H3.out.2.1 H3.out.2.2
set_option maxRecDepth 100000 in
set_option maxHeartbeats 6400000 in
theorem grow_end {KK : Act → World → Prop} {Q : Exit → Act → World → Prop} {w : World} {lb K b8 k2 c2 : Nat} {a2 : Option Addr} (fr : Array Value) (hn : fr.size = 107) (p5 : fr[5]? = some (.pointer (some ⟨lb, 0, none⟩))) (p7 : fr[7]? = some (.int .i64 (K : Int))) (p8 : fr[8]? = some (.pointer (some ⟨b8, 0, none⟩))) (p9 : fr[9]? = some (.int .i64 0)) (p10 : fr[10]? = some (.slice a2 k2 c2)) (p11 : fr[11]? = some (.int .i64 (k2 : Int)))
    (hQ : ∀ t', t'.size = 107 → t'[5]? = some (.pointer (some ⟨lb, 0, none⟩)) → t'[7]? = some (.int .i64 (K : Int)) → t'[8]? = some (.pointer (some ⟨b8, 0, none⟩)) → t'[9]? = some (.int .i64 0) → t'[10]? = some (.slice a2 k2 c2) → Q (.exit 0) ⟨t', []⟩ w) :
    Code.wp Tryd.prog (loopAt Tryd.f7 0) (Exit.then KK Q) ⟨fr, []⟩ w := by
  have q2 : ¬ ((k2 : Int) < (k2 : Int)) := by omega
  have q2b : ¬ (k2 < k2) := by omega
  have HK := Lib.hid hQ
  clear hQ
  obtain ⟨f, hff, rfl⟩ := frame_open hn
  have e5 := hff 5 _ p5
  have e7 := hff 7 _ p7
  have e8 := hff 8 _ p8
  have e9 := hff 9 _ p9
  have e10 := hff 10 _ p10
  have e11 := hff 11 _ p11
  clear hff hn p5 p7 p8 p9 p10 p11
  rw [lit107, e5, e7, e8, e9, e10, e11]
  clear e5 e7 e8 e9 e10 e11
  conv => arg 2; whnf
  go_wp2_with fail
  exact HK.out _ (by first | rfl | simp) rfl rfl rfl rfl rfl
set_option maxRecDepth 100000 in
set_option maxHeartbeats 6400000 in
theorem grow_loop {Q : Exit → Act → World → Prop} {w : World} {lb Z X B K b8 k2 c2 : Nat} {a2 : Option Addr} {A : Nat → Option Addr} {C : Nat → Nat} {M S : List (List UInt8)} {v : Value} {ls0 : Nat} (hf : FewR w B (.slice a2 k2 c2) A C M k2) (hML : M.length = k2) (hMs : ∀ x ∈ M, x.length ≤ 60) (hk2 : k2 ≤ 10) (hM : LM w lb Z v S) (hS : S.length ≤ 100) (hlb : lb < X) (hv : ∀ k, v.ownBlock = some k → k < X) (hXB : X ≤ B) (hZX : Z ≤ X) (hBw : B ≤ w.heap.size) (hE : Env w) (hl0 : ls0 ≤ lb) (hE0 : 2 < ls0) (hz0 : ls0 ≤ Z) (fr : Array Value) (hn : fr.size = 107) (p5 : fr[5]? = some (.pointer (some ⟨lb, 0, none⟩))) (p7 : fr[7]? = some (.int .i64 (K : Int))) (p8 : fr[8]? = some (.pointer (some ⟨b8, 0, none⟩))) (p9 : fr[9]? = some (.int .i64 0)) (p10 : fr[10]? = some (.slice a2 k2 c2)) (p11 : fr[11]? = some (.int .i64 0))
    (hQ : ∀ t' w' v', t'.size = 107 → t'[5]? = some (.pointer (some ⟨lb, 0, none⟩)) → t'[7]? = some (.int .i64 (K : Int)) → t'[8]? = some (.pointer (some ⟨b8, 0, none⟩)) → t'[9]? = some (.int .i64 0) → t'[10]? = some (.slice a2 k2 c2) → LM w' lb Z v' (S ++ M.map Lg.leaf) → Fr (fun k => ls0 ≤ k ∧ k < X) w w' → Q (.exit 0) ⟨t', []⟩ w') :
    Code.wp Tryd.prog (.loop (loopAt Tryd.f7 0)) Q ⟨fr, []⟩ w := by
  refine wp_loop_up k2 (fun i t w' => ∃ v', t.size = 107 ∧ t[5]? = some (.pointer (some ⟨lb, 0, none⟩)) ∧ t[7]? = some (.int .i64 (K : Int)) ∧ t[8]? = some (.pointer (some ⟨b8, 0, none⟩)) ∧ t[9]? = some (.int .i64 0) ∧ t[10]? = some (.slice a2 k2 c2) ∧ t[11]? = some (.int .i64 (i : Int)) ∧ LM w' lb Z v' (S ++ (M.take i).map Lg.leaf) ∧ (∀ k, v'.ownBlock = some k → k < X ∨ w.heap.size ≤ k) ∧ Fr (fun k => ls0 ≤ k ∧ k < X) w w') fr w ⟨v, hn, p5, p7, p8, p9, p10, p11, by rw [List.take_zero, List.map_nil, List.append_nil]; exact hM, fun k h => .inl (hv k h), Fr.refl _ _⟩ ?_
  rintro i t w1 hi ⟨v1, hn1, p5, p7, p8, p9, p10, p11, hM1, hv1, F1⟩ KK hKK
  by_cases hlt : i < k2
  · have hf1 := hf.fr F1 (fun x hx h => by omega)
    obtain ⟨r, e, hcell⟩ := hf1.slot hlt
    have hown := (hf1.part i hlt).came
    have hx60 := getD_small hMs i
    refine grow_in (r := r) hlt e hcell hown (by omega) hM1 (by rw [List.length_append, List.length_map, List.length_take]; omega) (by have := F1.size; omega) (hE.fr F1 (fun h => by omega)) t hn1 p5 p7 p8 p9 p10 p11 (by omega) ?_
    intro t' w2 v2 b0 b1 b2 b3 b4 b5 b6 hM2 hx2 F2
    refine hKK t' w2 hlt ⟨v2, b0, b1, b2, b3, b4, b5, b6, ?_, ?_, ?_⟩
    · rw [take_snoc' hML hlt, List.map_append, ← List.append_assoc]; exact hM2
    · intro k hk
      rcases hx2 with e | ⟨k3, e, h3⟩
      · exact hv1 k (by rw [← e]; exact hk)
      · rw [e] at hk
        have := Option.some.inj hk
        have := F1.size
        exact .inr (by omega)
    · refine F1.trans F2 (fun k h => ?_)
      rcases h with h | h
      · exact .inl ⟨by omega, by omega⟩
      · have h9 := (ownsRow_lt hM1.own k h).1
        rcases hv1 k h with h | h
        · exact .inl ⟨by omega, h⟩
        · exact .inr h
  · have : i = k2 := by omega
    subst this
    rw [List.take_of_length_le (by omega)] at hM1
    exact grow_end t hn1 p5 p7 p8 p9 p10 p11 (fun t' b0 b1 b2 b3 b4 b5 => hQ t' w1 v1 b0 b1 b2 b3 b4 b5 hM1 F1)
end Go.Proofs.YtjndkjgbplpfeaaDoor
namespace Go.Proofs.YtjndkjgbplpfeaaDoor
open Go.RowKit
set_option linter.unusedVariables false
set_option linter.unusedSimpArgs false
set_option maxRecDepth 100000 in
theorem REnv.lts {w : World} (h : REnv w) : 0 < w.heap.size ∧ 1 < w.heap.size := by
  obtain ⟨t, fr, hb⟩ := h.tabH
  refine ⟨lt_of_block hb, ?_⟩
  have h0 := h.tabK 0 (by decide)
  refine Nat.lt_of_not_le (fun hn => ?_)
  unfold World.cell? at h0
  simp only [Array.getElem?_eq_none hn] at h0
  cases h0
set_option maxRecDepth 100000 in
set_option maxHeartbeats 6400000 in
theorem grows_any (a0 : Option Addr) (n0 c0 : Nat) (L0 : List (List UInt8)) (a1 : Option Addr) (n1 c1 : Nat) (L1 : List (List UInt8)) (w : World) (h0 : Parts w a0 L0) (hn0 : L0.length = n0) (m0 : n0 ≤ maxLen) (h1 : Parts w a1 L1) (hn1 : L1.length = n1) (m1 : n1 ≤ maxLen) (hE : Env w) (hR : REnv w) :
    Calls Tryd.prog 7 #[.slice a0 n0 c0, .slice a1 n1 c1] w fun e w' => e = .returned (.bool true) ∧ Fr (fun _ => False) w w' := by
  have HFI := Lib.hid (fill_any a0 L0 n0 c0 hn0 w h0 m0 hE)
  have HP1 := Lib.hid (And.intro h1 (And.intro hn1 m1))
  have HE := Lib.hid hE
  have HR := Lib.hid hR
  clear h0 hn0 m0 h1 hn1 m1 hE hR
  go_enter Tryd.func7, Tryd.ntmps7
  go_wp2_with fail
  refine HFI.out.mono ?_
  rintro e w1 ⟨lb, Z, v, u, rfl, hd⟩
  clear HFI
  generalize fewL L0 20 60 = LL at hd
  obtain ⟨au, cu, hu, _, _, _, _⟩ := Os.view hd.ss
  have hK20 := hd.len
  obtain ⟨S, hS⟩ : ∃ S, S = LL.map Lg.leaf := ⟨_, rfl⟩
  have hSl : S.length = LL.length := by rw [hS, List.length_map]
  have hm1 := hd.lm
  rw [← hS] at hm1
  generalize LL.length = K at *
  have HD := Lib.hid (And.intro hd.l0 (And.intro hd.lZ hd.hz))
  have HM1 := Lib.hid hm1
  have HF1 := Lib.hid hd.fr
  have HK := Lib.hid (And.intro hSl hK20)
  have HE1 := Lib.hid (HE.out.ext hd.fr)
  subst hu
  clear hd hS hm1 hSl hK20
  go_wp2_with fail
  refine (root_m lb Z v S K (by have := HK.out; omega) (by have := HK.out; omega) w1 HM1.out HE1.out).mono ?_
  rintro e w2 ⟨rfl, F2⟩
  have HRT := Lib.hid (show Lg.root (S.take K) = Lg.root S from by rw [List.take_of_length_le (by have := HK.out; omega)])
  have HRL := Lib.hid (Lg.root_len HM1.out.all)
  rw [HRT.out]
  obtain ⟨rt, hrt⟩ : ∃ rt, rt = Lg.root S := ⟨_, rfl⟩
  rw [← hrt] at HRL ⊢
  have HRX := Lib.hid hrt
  have HF2 := Lib.hid F2
  clear HRT hrt F2
  go_wp2_with (rw [zero32]; refine wpList_store_rowA rfl 31 (.tmp 8) (.tmp 29) rfl w2.heap.size (krow rt) rfl rfl 31 _ (heap_alloc_new _ _) (sz32' HRL.out) (by rw [ub_size, krow_size, HRL.out]) (krow_one _) ?_; intro w3 B F; simp only [Act.put, List.setIfInBounds_toArray, List.set_cons_zero, List.set_cons_succ]; refine Hid.out ?_)
  have G3 : Fr (fun _ => False) w1 w3 := (HF2.out.alloc (.cells (ub 32 (fun _ => 0)) 31)).trans F (fun k hk => .inr (by rw [hk]; exact HF2.out.size))
  have HB3 := Lib.hid B
  have HG3 := Lib.hid G3
  have HX2 := Lib.hid HF2.out.size
  clear B F G3 HF2
  refine Lib.hid ?_
  go_wp2_with fail
  refine (few_any a1 L1 n1 c1 10 60 10 60 rfl rfl (by decide) (by decide) HP1.out.2.1 w3 (HP1.out.1.grow (HF1.out.trans HG3.out (fun _ h => h.elim))) HP1.out.2.2).mono ?_
  rintro e w4 ⟨a2, c2, A, C, rfl, hf, F4⟩
  have hML : (fewL L1 10 60).length = min 10 n1 := by rw [fewL_len, HP1.out.2.1]
  have hMs := fewL_small L1 10 60
  generalize fewL L1 10 60 = M at *
  have hk2 : min 10 n1 ≤ 10 := by omega
  generalize min 10 n1 = k2 at *
  have HB4 := Lib.hid ((F4.block _ (lt_of_block HB3.out) (fun h => h)).trans HB3.out)
  have HG4 := Lib.hid (HG3.out.trans F4 (fun _ h => h.elim))
  have HF4 := Lib.hid (And.intro hf (And.intro hML (And.intro hMs (And.intro hk2 F4.size))))
  have HZ3 := Lib.hid HG3.out.size
  clear hf hML hMs hk2 F4 HB3 HG3 HP1
  go_wp2_with fail
  refine grow_loop (ls0 := w.heap.size) (X := w1.heap.size) (B := w3.heap.size) (K := K) (b8 := w2.heap.size) (S := S) (v := v) (Z := Z) (lb := lb) HF4.out.1 HF4.out.2.1 HF4.out.2.2.1 HF4.out.2.2.2.1 (HM1.out.ext HG4.out) (by have := HK.out; omega) (by have := HD.out; omega) (fun k h => (ownsRow_lt HM1.out.own k h).2) HZ3.out (by have := HD.out; omega) HF4.out.2.2.2.2 (HE1.out.ext HG4.out) HD.out.1 HE.out.lt (by have := HD.out; omega) _ (by first | rfl | simp) rfl rfl rfl rfl rfl rfl ?_
  intro t' w5 v5 hn p5 p7 p8 p9 p10 hM5 F5
  obtain ⟨S5, hS5⟩ : ∃ S5, S5 = S ++ M.map Lg.leaf := ⟨_, rfl⟩
  rw [← hS5] at hM5
  have hT5 : S5.take K = S := by rw [hS5, List.take_append_of_le_length (by have := HK.out; omega), List.take_of_length_le (by have := HK.out; omega)]
  have hN5 : S5.length = K + k2 := by rw [hS5, List.length_append, List.length_map, HK.out.1, HF4.out.2.1]
  obtain ⟨N, hN⟩ : ∃ N, N = K + k2 := ⟨_, rfl⟩
  have hk2 := HF4.out.2.2.2.1
  have W1 : wrap64 ((K : Int) + (k2 : Int)) = (N : Int) := by have := HK.out; rw [IntWalk.wrap64_in _ (by omega)]; omega
  have HN := Lib.hid (show S5.length = N ∧ K ≤ N ∧ N ≤ 30 from ⟨by omega, by omega, by have := HK.out; omega⟩)
  have HT5 := Lib.hid hT5
  have HM5 := Lib.hid hM5
  have HE5 := Lib.hid ((HE1.out.ext HG4.out).fr F5 (fun h => by have := HE.out.lt; omega))
  have HR5 := Lib.hid (((HR.out.ext HF1.out).ext HG4.out).fr F5 (fun h => by have := HR.out.lts; omega) (fun h => by have := HR.out.lts; omega))
  have HB5 := Lib.hid ((F5.block _ (lt_of_block HB4.out) (fun h => by have := HX2.out; omega)).trans HB4.out)
  have HF5 := Lib.hid (((HF1.out.trans HG4.out (fun _ h => h.elim)).trans F5 (fun k h => .inr h.1)))
  clear hS5 hM5 F5 hT5 hN5 hN hk2 HB4 HG4 HF4 HZ3 HM1 HE1 HE HR HF1
  obtain ⟨f, hff, rfl⟩ := frame_open hn
  have e5 := hff 5 _ p5
  have e7 := hff 7 _ p7
  have e8 := hff 8 _ p8
  have e9 := hff 9 _ p9
  have e10 := hff 10 _ p10
  clear hff hn p5 p7 p8 p9 p10
  rw [lit107, e5, e7, e8, e9, e10]
  clear e5 e7 e8 e9 e10
  go_wp2_with fail
  refine (root_m lb Z v5 S5 K (by have := HN.out; omega) (by have := HN.out; omega) w5 HM5.out HE5.out).mono ?_
  rintro e w6 ⟨rfl, F6⟩
  rw [HT5.out, ← HRX.out]
  have HG6 := Lib.hid F6
  clear F6
  go_wp2_with (rw [zero32]; refine wpList_store_rowA rfl 31 (.tmp 12) (.tmp 49) rfl w6.heap.size (krow rt) rfl rfl 31 _ (heap_alloc_new _ _) (sz32' HRL.out) (by rw [ub_size, krow_size, HRL.out]) (krow_one _) ?_; intro w7 B F; simp only [Act.put, List.setIfInBounds_toArray, List.set_cons_zero, List.set_cons_succ]; refine Hid.out ?_)
  have G7 : Fr (fun _ => False) w5 w7 := (HG6.out.alloc (.cells (ub 32 (fun _ => 0)) 31)).trans F (fun k hk => .inr (by rw [hk]; exact HG6.out.size))
  have HB7 := Lib.hid (And.intro ((G7.block _ (lt_of_block HB5.out) (fun h => h)).trans HB5.out) B)
  have HG7 := Lib.hid G7
  have HM7 := Lib.hid (HM5.out.ext G7)
  have HE7 := Lib.hid (HE5.out.ext G7)
  clear B F G7 HG6 HB5
  refine Lib.hid ?_
  have HLN := Lib.hid (show ∀ W : World, Fr (fun _ => False) w7 W → Calls Tryd.prog 12 #[.pointer (some ⟨lb, 0, none⟩)] W fun e w' => e = .returned (.int .i64 (N : Int)) ∧ W = w' from fun W F => by have := len_m lb Z v5 S5 W (HM7.out.ext F); rw [HN.out.1] at this; exact this)
  go_wp2_with fail
  refine (HLN.out w7 (Fr.refl _ _)).mono ?_
  rintro e w' ⟨rfl, rfl⟩
  go_wp2_with fail
  refine (grow_cons lb Z v5 S5 K N HN.out.2.1 HN.out.1.symm (by have := HN.out; omega) w7 HM7.out HE7.out).mono ?_
  rintro e w8 ⟨⟨v2, rfl, hck⟩, F8⟩
  rw [HT5.out, ← HRX.out] at hck
  have HCK := Lib.hid hck
  have HG8 := Lib.hid F8
  have HM8 := Lib.hid (HM7.out.ext F8)
  have HE8 := Lib.hid (HE7.out.ext F8)
  clear hck F8
  go_wp2_with fail
  refine (HLN.out w8 HG8.out).mono ?_
  rintro e w' ⟨rfl, rfl⟩
  go_wp2_with fail
  refine (root_m lb Z v5 S5 N (by have := HN.out; omega) (by have := HN.out; omega) w8 HM8.out HE8.out).mono ?_
  rintro e w9 ⟨rfl, F9⟩
  rw [List.take_of_length_le (Nat.le_of_eq HN.out.1)]
  have HL3 := Lib.hid (Lg.root_len HM8.out.all)
  generalize Lg.root S5 = rt3 at *
  have HG9 := Lib.hid (HG8.out.trans F9 (fun _ h => h.elim))
  have HG89 := Lib.hid F9
  clear F9
  go_wp2_with (rw [zero32]; refine wpList_store_rowA rfl 31 (.tmp 16) (.tmp 64) rfl w9.heap.size (krow rt3) rfl rfl 31 _ (heap_alloc_new _ _) (sz32' HL3.out) (by rw [ub_size, krow_size, HL3.out]) (krow_one _) ?_; intro w10 B F; simp only [Act.put, List.setIfInBounds_toArray, List.set_cons_zero, List.set_cons_succ]; refine Hid.out ?_)
  have G10 : Fr (fun _ => False) w8 w10 := (HG89.out.alloc (.cells (ub 32 (fun _ => 0)) 31)).trans F (fun k hk => .inr (by rw [hk]; exact HG89.out.size))
  have G7 : Fr (fun _ => False) w7 w10 := HG8.out.trans G10 (fun _ h => h.elim)
  have hb8 := (G7.block _ (lt_of_block HB7.out.1) (fun h => h)).trans HB7.out.1
  have hb12 := (G7.block _ (lt_of_block HB7.out.2) (fun h => h)).trans HB7.out.2
  have HX8 := Lib.hid hb8
  have HX12 := Lib.hid hb12
  have HX16 := Lib.hid B
  have HCC := Lib.hid (fun (W : World) (F : Fr (fun _ => False) w10 W) => HCK.out W (G10.trans F (fun _ h => h.elim)))
  have HLL := Lib.hid (fun (W : World) (F : Fr (fun _ => False) w10 W) => HLN.out W (G7.trans F (fun _ h => h.elim)))
  have hE10 := (HE7.out.ext G7)
  have hR10 := ((HR5.out.ext HG7.out).ext G7)
  have HLG := Lib.hid (fun (W : World) (F : Fr (fun _ => False) w10 W) => logs_any W (hE10.ext F) (hR10.ext F))
  have HF10 := Lib.hid ((HF5.out.trans HG7.out (fun _ h => h.elim)).trans G7 (fun _ h => h.elim))
  have heq := fun (W : World) => eql_row HRL.out HRL.out W
  rw [beq_self_eq_true] at heq
  clear B F G10 G7 hb8 hb12 hE10 hR10 HCK HLN
  refine Lib.hid ?_
  go_wp2_with fail
  refine wp_region_keep (by kernel_rfl) (by kernel_rfl) ?_
  repeat (any_goals (first | (focus (go_big_quiet_want; (refine quiet_load_row 31 (.tmp 8) rfl w2.heap.size rfl 31 (krow rt) (0, 0) _ HX8.out Tryd.underlying31 rfl (sz32' HRL.out) ?_); simp only [Act.put, List.setIfInBounds_toArray, List.set_cons_zero, List.set_cons_succ]; go_big_quiet_on)) | (focus (go_big_quiet_want; (refine quiet_load_row 31 (.tmp 12) rfl w6.heap.size rfl 31 (krow rt) (0, 0) _ HX12.out Tryd.underlying31 rfl (sz32' HRL.out) ?_); simp only [Act.put, List.setIfInBounds_toArray, List.set_cons_zero, List.set_cons_succ]; go_big_quiet_on)) | (focus (go_big_quiet_want; (refine quiet_load_row 31 (.tmp 16) rfl w9.heap.size rfl 31 (krow rt3) (0, 0) _ HX16.out Tryd.underlying31 rfl (sz32' HL3.out) ?_); simp only [Act.put, List.setIfInBounds_toArray, List.set_cons_zero, List.set_cons_succ]; go_big_quiet_on)) | go_big_quiet_step (first | exact Calls.keep (HLG.out _ (Wd.h _)) | exact Calls.keep_same ((HLL.out _ (Wd.h _)).mono (fun e W h => ⟨h.1, h.2.symm⟩)) | exact Calls.keep (HCC.out _ (Wd.h _))) | quiet_step (fail)))
  refine wpQuiet_nil ?_
  intro _ hwz
  obtain ⟨y, rfl⟩ := hwz
  go_wp2_with fail
  go_ret
  exact ⟨rfl, HF10.out.trans y.h (fun _ h => h.elim)⟩
end Go.Proofs.YtjndkjgbplpfeaaDoor

/-
  What the law's checks come to: paths, beginnings, whatever the numbers.
-/
import Derived.Test.YtjndkjgbplpfeaaDoorQLg
import Derived.Test.YtjndkjgbplpfeaaDoorQLf
namespace Go.Proofs.YtjndkjgbplpfeaaDoor
open Go.RowKit
set_option linter.unusedVariables false
set_option linter.unusedSimpArgs false
set_option maxRecDepth 100000 in
theorem Lg.climb_path (z : Lg.B) : ∀ (N : Nat) (S : List Lg.B) (i : Nat), S.length ≤ N → i < S.length → Lg.climb z (S.getD i []) i S.length (Lg.path i S).reverse = (Lg.root S, true)
  | 0, S, i, hN, hi => by omega
  | N + 1, S, i, hN, hi => by
    by_cases h2 : S.length < 2
    · match S, hi, h2 with
      | [x], hi, _ =>
        have : i = 0 := by simp at hi; exact hi
        subst this
        rw [Lg.path_one (by simp), Lg.root_one]
        simp [Lg.climb]
      | x :: y :: r, _, h2 => simp at h2; omega
    · have h2 : 2 ≤ S.length := by omega
      have hl := Lg.hf_lt h2
      have hp := Lg.hf_pos S.length
      have hn : ¬ (S.length = 1) := by omega
      by_cases hh : i < Lg.hf S.length
      · have ih := Lg.climb_path z N (S.take (Lg.hf S.length)) i (by rw [List.length_take]; omega) (by rw [List.length_take]; omega)
        rw [List.length_take, Nat.min_eq_left (by omega), List.getD_eq_getElem?_getD, List.getElem?_take_of_lt hh, ← List.getD_eq_getElem?_getD] at ih
        rw [Lg.path_left h2 hh, List.reverse_append, List.reverse_singleton, List.singleton_append, Lg.climb, if_neg hn, if_pos hh, ih, ← Lg.root_two h2]
      · have ih := Lg.climb_path z N (S.drop (Lg.hf S.length)) (i - Lg.hf S.length) (by rw [List.length_drop]; omega) (by rw [List.length_drop]; omega)
        rw [List.length_drop, List.getD_eq_getElem?_getD, List.getElem?_drop, Nat.add_sub_cancel' (by omega), ← List.getD_eq_getElem?_getD] at ih
        rw [Lg.path_right h2 hh, List.reverse_append, List.reverse_singleton, List.singleton_append, Lg.climb, if_neg hn, if_neg hh, ih, ← Lg.root_two h2]
set_option maxRecDepth 100000 in
theorem chkI_ok (S : List Lg.B) (i : Nat) (hi : i < S.length) : chkI (S.getD i []) i S.length (Lg.path i S) (Lg.root S) = 0 := by
  unfold chkI
  rw [Lg.climb_path z32 S.length S i (Nat.le_refl _) hi]
  simp
set_option maxRecDepth 100000 in
theorem conv_to (x : List UInt8) (W : World) : (convert 9 35 (.string ⟨x.toArray⟩)).run Tryd.prog W = .ok (.slice (some ⟨W.heap.size, 0, none⟩) x.length (grownCap W x.length 0 5)) (Lib.bytesWorld W 5 ⟨x.toArray⟩) := by
  have := Lib.run_convert_string_bytes (P := Tryd.prog) W 9 35 5 ⟨x.toArray⟩ Tryd.underlying9 Tryd.underlying35 Tryd.underlying5
  rw [this]
  have e : (⟨x.toArray⟩ : ByteArray).size = x.length := by show x.toArray.size = _; simp
  rw [e]
set_option maxRecDepth 100000 in
theorem conv_came (x : List UInt8) (hx : x.length ≤ 1000) (W : World) : Came (Lib.bytesWorld W 5 ⟨x.toArray⟩) (some ⟨W.heap.size, 0, none⟩) x.length (grownCap W x.length 0 5) x := by
  have e : (⟨x.toArray⟩ : ByteArray).size = x.length := by show x.toArray.size = _; simp
  have h := own_str (w := W) ⟨x.toArray⟩ 0 (Nat.zero_le _) (by rw [e]; omega)
  have e2 : sb ⟨x.toArray⟩ = x := by simp [sb]
  rw [e, e2] at h
  obtain ⟨e1, e2, e3, e4⟩ := h.lies
  exact ⟨e1.symm, e2, e3, e4, fun e => by cases e⟩
set_option maxRecDepth 100000 in
theorem incl_z (lb base : Nat) (v : Value) (L : List (List UInt8)) (y z : Int) (hL : L.length ≤ 1000) (w : World) (hM : LM w lb base v L) (hE : Env w) : Calls Tryd.prog 15 #[.pointer (some ⟨lb, 0, none⟩), .int .i64 y, .int .i64 z] w fun e w' => (∃ v2 c, e = .returned (.tuple #[v2, .int .i64 c]) ∧ ((c = 0 ∧ (0 ≤ y ∧ y < z ∧ z ≤ (L.length : Int)) ∧ Or32 w' w.heap.size v2 (Lg.path y.toNat (L.take z.toNat))) ∨ (c = 1 ∧ ¬ (0 ≤ y ∧ y < z ∧ z ≤ (L.length : Int))))) ∧ Fr (fun _ => False) w w' := by
  by_cases h0 : y < 0
  · exact (incl_e1 lb base v L y z h0 w hM).mono fun e w' h => ⟨⟨_, 1, h.1, .inr ⟨rfl, by omega⟩⟩, h.2⟩
  · by_cases h1 : z ≤ y
    · exact (incl_e2 lb base v L y z (by omega) h1 w hM).mono fun e w' h => ⟨⟨_, 1, h.1, .inr ⟨rfl, by omega⟩⟩, h.2⟩
    · by_cases h2 : (L.length : Int) < z
      · exact (incl_e3 lb base v L y z (by omega) (by omega) h2 w hM).mono fun e w' h => ⟨⟨_, 1, h.1, .inr ⟨rfl, by omega⟩⟩, h.2⟩
      · obtain ⟨i, rfl⟩ : ∃ i : Nat, y = i := ⟨y.toNat, by omega⟩
        obtain ⟨n, rfl⟩ : ∃ n : Nat, z = n := ⟨z.toNat, by omega⟩
        exact (incl_m lb base v L i n (by omega) (by omega) hL w hM hE).mono fun e w' h => by
          obtain ⟨⟨v2, h1, h2⟩, h3⟩ := h
          exact ⟨⟨v2, 0, h1, .inl ⟨rfl, by omega, h2⟩⟩, h3⟩
set_option maxRecDepth 100000 in
theorem cons_z (lb base : Nat) (v : Value) (L : List (List UInt8)) (y z : Int) (hL : L.length ≤ 1000) (w : World) (hM : LM w lb base v L) (hE : Env w) : Calls Tryd.prog 16 #[.pointer (some ⟨lb, 0, none⟩), .int .i64 y, .int .i64 z] w fun e w' => (∃ v2 c, e = .returned (.tuple #[v2, .int .i64 c]) ∧ ((c = 0 ∧ (0 ≤ y ∧ y ≤ z ∧ z ≤ (L.length : Int)) ∧ Or32 w' w.heap.size v2 (conP y.toNat (L.take z.toNat))) ∨ (c = 1 ∧ ¬ (0 ≤ y ∧ y ≤ z ∧ z ≤ (L.length : Int))))) ∧ Fr (fun _ => False) w w' := by
  by_cases h0 : y < 0
  · exact (cons_e1 lb base v L y z h0 w hM).mono fun e w' h => ⟨⟨_, 1, h.1, .inr ⟨rfl, by omega⟩⟩, h.2⟩
  · by_cases h1 : z < y
    · exact (cons_e2 lb base v L y z (by omega) h1 w hM).mono fun e w' h => ⟨⟨_, 1, h.1, .inr ⟨rfl, by omega⟩⟩, h.2⟩
    · by_cases h2 : (L.length : Int) < z
      · exact (cons_e3 lb base v L y z (by omega) (by omega) h2 w hM).mono fun e w' h => ⟨⟨_, 1, h.1, .inr ⟨rfl, by omega⟩⟩, h.2⟩
      · obtain ⟨i, rfl⟩ : ∃ i : Nat, y = i := ⟨y.toNat, by omega⟩
        obtain ⟨n, rfl⟩ : ∃ n : Nat, z = n := ⟨z.toNat, by omega⟩
        by_cases hi : i = 0
        · subst hi
          exact (cons_zero lb base v L n (by omega) w hM).mono fun e w' h => ⟨⟨_, 0, h.1, .inl ⟨rfl, by omega, Or32.nil _ _⟩⟩, h.2⟩
        · exact (cons_m lb base v L i n (by omega) (by omega) (by omega) hL w hM hE).mono fun e w' h => by
            obtain ⟨⟨v2, h1, h2⟩, h3⟩ := h
            refine ⟨⟨v2, 0, h1, .inl ⟨rfl, by omega, ?_⟩⟩, h3⟩
            show Or32 w' w.heap.size v2 (conP i (L.take n))
            unfold conP
            rw [if_neg hi]; exact h2
set_option maxRecDepth 100000 in
theorem chkc_ok (m n : Nat) (L : List (List UInt8)) (hm : m ≤ n) (hn : L.length = n) (h9 : n ≤ 1000) (hA : Lg.All32 L) (a : Option Addr) (c : Nat) (w : World) (hc : (conP m L).length ≤ c) (hcm : c ≤ maxLen) (hK : Kv w a (conP m L)) (hE : Env w) : Calls Tryd.prog 22 #[.int .i64 (m : Int), .int .i64 (n : Int), .slice a (conP m L).length c, .agg (krow (Lg.root (L.take m))), .agg (krow (Lg.root L))] w fun e w' => e = .returned (.int .i64 0) ∧ Fr (fun _ => False) w w' := by
  unfold conP at *
  subst hn
  by_cases h0 : m = 0
  · subst h0
    rw [if_pos rfl] at *
    have := chkc_zero (L.length : Int) (by omega) a [] c (Lg.root (L.take 0)) (Lg.root L) (Lg.root_len (hA.take 0)) (Lg.root_len hA) w hE
    rw [chkN_ok] at this
    exact this
  · rw [if_neg h0] at *
    have := chkc_any m L.length (by omega) hm (by omega) a (Lg.sub m L true) c hc hcm (Lg.root (L.take m)) (Lg.root L) (Lg.root_len (hA.take m)) (Lg.root_len hA) w hK hE
    rw [chkC_ok L m (by omega) hm] at this
    exact this
set_option maxRecDepth 100000 in
theorem conP_all {m : Nat} {L : List (List UInt8)} (h : Lg.All32 L) : Lg.All32 (conP m L) := by
  unfold conP
  by_cases h0 : m = 0
  · rw [if_pos h0]; exact .nil
  · rw [if_neg h0]; exact Lg.sub_all32 _ m L true (Nat.le_refl _) h
set_option maxRecDepth 100000 in
theorem conP_len {m : Nat} {L : List (List UInt8)} (hm : m ≤ L.length) : (conP m L).length ≤ L.length := by
  unfold conP
  by_cases h0 : m = 0
  · rw [if_pos h0]; simp
  · rw [if_neg h0]; exact Lg.sub_len _ m L true (Nat.le_refl _) (by omega) hm
set_option maxRecDepth 100000 in
theorem shows_cases (y z K : Int) (hK : 0 ≤ K) : (0 ≤ y ∧ y < z ∧ z ≤ K) ∨ (y = z ∧ z = 0) ∨ (y = z ∧ 1 ≤ z ∧ z ≤ K) ∨ (z < 0) ∨ (z = 0 ∧ y < 0) ∨ (z = 0 ∧ 0 < y) ∨ (1 ≤ z ∧ K < z) ∨ (1 ≤ z ∧ z ≤ K ∧ y < 0) ∨ (1 ≤ z ∧ z ≤ K ∧ z < y) := by omega
end Go.Proofs.YtjndkjgbplpfeaaDoor

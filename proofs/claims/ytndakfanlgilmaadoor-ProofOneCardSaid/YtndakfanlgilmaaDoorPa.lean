/-
  Plain laws of this verifier: slices of bytes' slices that came in as an argument.
-/
import Derived.Test.YtndakfanlgilmaaDoorFx
import Derived.Deep.Matrix
namespace Go.Proofs.YtndakfanlgilmaaDoor
open Go.ChangeShapes Go.WideShapes Go.ChangeAt Go.RowKit
set_option linter.unusedVariables false

set_option maxRecDepth 100000 in
theorem parts_of {H : Type} {enc : TypeId × Value → H} {W : World} {base : Nat} {v1 : Value} {d1 : DataW H} {p1 : List MemPlace} (hval : Value.okWide Tryd.prog W .any base 30 v1) (h1 : DataW.Trod enc Tryd.prog W 0 (fun _ => true) true 30 v1 d1 p1) :
    ∃ a n c L, v1 = .slice a n c ∧ L.length = n ∧ n ≤ maxLen ∧ Parts W a L := by
  obtain ⟨a1, len, cap, rfl⟩ := okWide_slice Tryd.underlying30 hval
  obtain ⟨fuel, hf⟩ := h1
  rcases Go.Deep.open_int_rows Tryd.underlying30 Tryd.underlying39 Tryd.underlying5 (by kernel_rfl) (by kernel_rfl) hf with ⟨hcs, hx⟩ | ⟨a, len', cap', A, N, C, Z, hcs, _, hl, hm, hx, hcell⟩
  · simp [Value.cells] at hcs
    obtain ⟨rfl, rfl, rfl⟩ := hcs
    exact ⟨none, 0, 0, [], rfl, rfl, Nat.zero_le _, Or.inl rfl⟩
  · simp [Value.cells] at hcs
    obtain ⟨rfl, rfl, rfl⟩ := hcs
    refine ⟨some a, len, cap, (List.range len).map fun r => ((Z r).take (N r)).map fun n => UInt8.ofNat n.toNat, rfl, by simp, by omega, ?_⟩
    by_cases h0 : len = 0
    · exact Or.inl (by subst h0; rfl)
    · refine Or.inr ?_
      obtain ⟨ab, ao, spot⟩ := a
      have hspot : spot = none := by simpa [Addr.add] using World.cell?_spot (hcell 0 (by omega)).1
      subst hspot
      refine ⟨ab, ao, rfl, fun j hj => ?_⟩
      have hj2 : j < len := by simpa using hj
      obtain ⟨c1, c2, c3, c4, c5, c6, c7⟩ := hcell j (by omega)
      rw [addr_add] at c1
      have hlen : (((Z j).take (N j)).map fun n => UInt8.ofNat n.toNat).length = N j := by simp; omega
      simp only [List.getElem_map, List.getElem_range]
      refine ⟨A j, C j, by rw [hlen]; exact c1, ?_, by rw [hlen]; exact c2, c3⟩
      by_cases hN : N j = 0
      · exact Or.inl (List.eq_nil_of_length_eq_zero (by rw [hlen, hN]))
      · refine Or.inr ?_
        cases hA : A j with
        | none => have := c6 hA; omega
        | some a' =>
          obtain ⟨_, c8⟩ := c7 a' hA
          obtain ⟨bb, bo, bs⟩ := a'
          have hs2 : bs = none := by simpa [Addr.add] using World.cell?_spot (c8 0 (by omega))
          subst hs2
          refine ⟨bb, bo, rfl, fun i hi => ?_⟩
          rw [hlen] at hi
          have hc := c8 i (by omega)
          rw [addr_add] at hc
          have hmem : (Z j).getD i 0 ∈ Z j := by rw [List.getD_eq_getElem?_getD, List.getElem?_eq_getElem (by omega), Option.getD_some]; exact List.getElem_mem _
          have hb := bounds_u8 (c5 _ hmem)
          have he : (Z j).getD i 0 = (Z j)[i]'(by omega) := by rw [List.getD_eq_getElem?_getD, List.getElem?_eq_getElem (by omega), Option.getD_some]
          rw [hc]
          simp only [List.getElem_map, List.getElem_take]
          rw [he] at hb ⊢
          generalize (Z j)[i]'(by omega) = z at hb ⊢
          congr 2
          have : (UInt8.ofNat z.toNat).toNat = z.toNat % 256 := rfl
          omega
set_option maxRecDepth 100000 in
theorem Parts.grow {w w2 : World} {a : Option Addr} {L : List (List UInt8)} (h : Parts w a L) (hF : Fr (fun _ => False) w w2) : Parts w2 a L := by
  rcases h with h | ⟨g, o, e, hc⟩
  · exact Or.inl h
  · refine Or.inr ⟨g, o, e, fun j hj => ?_⟩
    obtain ⟨aj, cj, h1, h2, h3, h4⟩ := hc j hj
    exact ⟨aj, cj, hF.cellSome (p := ⟨g, o + j, none⟩) (fun h => h) h1, h2.grow hF, h3, h4⟩
set_option maxRecDepth 100000 in
theorem flat_le (z : Nat) : ∀ L : List (List UInt8), (∀ l ∈ L, l.length ≤ z) → L.flatten.length ≤ L.length * z
  | [], _ => by simp
  | l :: L, h => by
    have h1 := flat_le z L (fun x hx => h x (List.mem_cons_of_mem _ hx))
    have h2 := h l (List.mem_cons_self ..)
    rw [List.flatten_cons, List.length_append, List.length_cons, Nat.add_mul]
    omega
set_option maxRecDepth 100000 in
theorem fewL_flat (L : List (List UInt8)) (m z : Nat) : (fewL L m z).flatten.length ≤ m * z := by
  have h := flat_le z (fewL L m z) (fun l hl => by
    unfold fewL at hl
    obtain ⟨x, _, rfl⟩ := List.mem_map.1 hl
    rw [List.length_take]; omega)
  rw [fewL_len] at h
  exact Nat.le_trans h (Nat.mul_le_mul_right _ (by omega))

end Go.Proofs.YtndakfanlgilmaaDoor



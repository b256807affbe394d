/-
  Plain laws of this verifier: bytes that came in as an argument; the table of words out of the row's own condition.
-/
import Derived.Test.YtndakfanlgilmaaDoorForks
import Derived.Test.YtndakfanlgilmaaDoorLaw
import Derived.Lib.LaidU8
import Derived.Lib.LaidTab
import Derived.LaidMore
namespace Go.Proofs.YtndakfanlgilmaaDoor
open Go.ChangeShapes Go.WideShapes Go.ChangeAt Go.RowKit
set_option linter.unusedVariables false

set_option maxRecDepth 100000 in
theorem came_of {H : Type} {enc : TypeId × Value → H} {W : World} {base : Nat} {v1 : Value} {d1 : DataW H} {p1 : List MemPlace} (hval : Value.okWide Tryd.prog W .any base 39 v1) (h1 : DataW.Trod enc Tryd.prog W 0 (fun _ => true) true 39 v1 d1 p1) :
    ∃ a n c l, v1 = .slice a n c ∧ Came W a n c l := by
  obtain ⟨a1, len, cap, rfl⟩ := okWide_slice Tryd.underlying39 hval
  obtain ⟨fuel, hf⟩ := h1
  rcases open_ints Tryd.underlying39 Tryd.underlying5 (by kernel_rfl) hf with ⟨hcs, hx⟩ | ⟨a, len', cap', zs, hcs, _, hl, hm, hz, hx, hcell, hwz⟩
  · simp [Value.cells] at hcs
    obtain ⟨rfl, rfl, rfl⟩ := hcs
    exact ⟨none, 0, 0, [], rfl, ⟨rfl, Nat.le_refl _, Nat.zero_le _, Or.inl rfl, fun _ => ⟨rfl, rfl⟩⟩⟩
  · simp [Value.cells] at hcs
    obtain ⟨rfl, rfl, rfl⟩ := hcs
    simp only [if_true] at hz
    have hlen : ((zs.take len).map fun n => UInt8.ofNat n.toNat).length = len := by simp; omega
    refine ⟨some a, len, cap, (zs.take len).map fun n => UInt8.ofNat n.toNat, rfl, ⟨hlen, hl, hm, ?_, fun h => by cases h⟩⟩
    by_cases h0 : len = 0
    · exact Or.inl (List.eq_nil_of_length_eq_zero (by rw [hlen, h0]))
    · refine Or.inr ?_
      obtain ⟨ab, ao, spot⟩ := a
      have hspot : spot = none := by simpa [Addr.add] using World.cell?_spot (hcell 0 (by omega))
      subst hspot
      refine ⟨ab, ao, rfl, fun j hj => ?_⟩
      rw [hlen] at hj
      have hc := hcell j (by omega)
      have hmem : zs.getD j 0 ∈ zs := by rw [List.getD_eq_getElem?_getD, List.getElem?_eq_getElem (by omega), Option.getD_some]; exact List.getElem_mem _
      have hb := bounds_u8 (hwz _ hmem)
      have he : zs.getD j 0 = zs[j]'(by omega) := by rw [List.getD_eq_getElem?_getD, List.getElem?_eq_getElem (by omega), Option.getD_some]
      have hc2 : W.cell? ⟨ab, ao + j, none⟩ = some (.int .u8 (zs.getD j 0)) := by rcases j with _ | j <;> simpa [Addr.add] using hc
      rw [hc2]
      simp only [List.getElem_map, List.getElem_take]
      rw [he] at hb ⊢
      generalize zs[j]'(by omega) = z at hb ⊢
      congr 2
      have : (UInt8.ofNat z.toNat).toNat = z.toNat % 256 := rfl
      omega

set_option maxRecDepth 100000 in
theorem words_tab {H : Type} : (Rows.laid_custumal_sha2_roundWords : DataW H) = Lib.tabData .u32 ((List.range 64).map fun j => (S2.K j : Int)) := by rfl
set_option maxRecDepth 100000 in
theorem name_words : Tryd.prog.globalNamed "custumal/sha2.roundWords" = some 2 := by kernel_rfl
set_option maxRecDepth 100000 in
theorem type_words : (Tryd.prog.globals[2]?).map (·.type) = some 96 := by kernel_rfl
set_option maxRecDepth 100000 in
theorem env_of {W : World} {l : List (String × DataW Unit)} (hp : (l.all fun x => x.2.handleName?.isNone) = true) (h : laidMetH Tryd.prog l W) (hm : ("custumal/sha2.roundWords", Rows.laid_custumal_sha2_roundWords) ∈ l) : Env W := by
  rw [MakeChecks.laidMetH_plain _ _ _ hp] at h
  obtain ⟨g, t, cs, fuel, p, hg, ht, hv, hd⟩ := Lib.laidMet.reads h hm
  obtain rfl := Option.some.inj (name_words.symm.trans hg)
  obtain rfl := Option.some.inj (type_words.symm.trans ht)
  rw [words_tab] at hd
  have hcs := Lib.cells_of_tab Tryd.underlying96 Tryd.underlying71 (by kernel_rfl) (by kernel_rfl) hd
  have hcell : ∀ j, W.cell? ⟨2, j, none⟩ = cs.toList[j]? := fun j => by
    rw [World.var?_cell name_words hv j, Array.getElem?_toList]
  have htab : Tab W := fun j hj => by
    rw [hcell j, hcs, List.map_map, List.getElem?_map, List.getElem?_range hj]
    rfl
  refine ⟨htab, ?_⟩
  have h0 := htab 0 (by decide)
  simp only [World.cell?] at h0
  cases hb : W.heap[2]? with
  | none => rw [hb] at h0; simp at h0
  | some b => exact (Array.getElem?_eq_some_iff.1 hb).1
end Go.Proofs.YtndakfanlgilmaaDoor



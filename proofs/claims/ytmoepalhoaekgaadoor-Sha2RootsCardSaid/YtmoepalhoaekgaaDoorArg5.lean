/-
  The environment of sha5's laws out of the row's own condition.
-/
import Derived.Test.YtmoepalhoaekgaaDoorArg
import Derived.Test.YtmoepalhoaekgaaDoorPsum5
namespace Go.Proofs.YtmoepalhoaekgaaDoor
open Go.ChangeShapes Go.WideShapes Go.ChangeAt Go.RowKit
set_option linter.unusedVariables false

set_option maxRecDepth 100000 in
theorem words_tab5 {H : Type} : (Rows.laid_custumal_sha5_roundWords : DataW H) = Lib.tabData .u64 ((List.range 80).map fun j => (S5.K j : Int)) := by rfl
theorem name_words5 : Tryd.prog.globalNamed "custumal/sha5.roundWords" = some 5 := by kernel_rfl
theorem type_words5 : (Tryd.prog.globals[5]?).map (·.type) = some 74 := by kernel_rfl
set_option maxRecDepth 100000 in
theorem env5_of {W : World} {l : List (String × DataW Unit)} (hp : (l.all fun x => x.2.handleName?.isNone) = true) (h : laidMetH Tryd.prog l W) (hm : ("custumal/sha5.roundWords", Rows.laid_custumal_sha5_roundWords) ∈ l) : Env5 W := by
  rw [MakeChecks.laidMetH_plain _ _ _ hp] at h
  obtain ⟨g, t, cs, fuel, p, hg, ht, hv, hd⟩ := Lib.laidMet.reads h hm
  obtain rfl := Option.some.inj (name_words5.symm.trans hg)
  obtain rfl := Option.some.inj (type_words5.symm.trans ht)
  rw [words_tab5] at hd
  have hcs := Lib.cells_of_tab Tryd.underlying74 Tryd.underlying34 (by kernel_rfl) (by kernel_rfl) hd
  have hcell : ∀ j, W.cell? ⟨5, j, none⟩ = cs.toList[j]? := fun j => by
    rw [World.var?_cell name_words5 hv j, Array.getElem?_toList]
  have htab : Tab5 W := fun j hj => by
    rw [hcell j, hcs, List.map_map, List.getElem?_map, List.getElem?_range hj]
    rfl
  refine ⟨htab, ?_⟩
  have h0 := htab 0 (by decide)
  simp only [World.cell?] at h0
  cases hb : W.heap[5]? with
  | none => rw [hb] at h0; simp at h0
  | some b => exact (Array.getElem?_eq_some_iff.1 hb).1
end Go.Proofs.YtmoepalhoaekgaaDoor



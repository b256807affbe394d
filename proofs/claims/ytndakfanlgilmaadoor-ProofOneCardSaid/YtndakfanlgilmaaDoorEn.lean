/-
  Plain laws of this verifier: the document's tables of package custumalref01 out of the row's own condition; strings of sums.
-/
import Derived.Test.YtndakfanlgilmaaDoorRs
import Derived.Test.YtndakfanlgilmaaDoorArg
namespace Go.Proofs.YtndakfanlgilmaaDoor
open Go.ChangeShapes Go.WideShapes Go.ChangeAt Go.RowKit
set_option linter.unusedVariables false

set_option maxRecDepth 100000 in
theorem block_of_var {P : Program} {w : World} {n : String} {g : Nat} {cs : Array Value} (hg : P.globalNamed n = some g) (h : w.var? P n = some cs) : ∃ t fr, w.heap[g]? = some (.cells cs t fr) := by
  simp only [World.var?, hg, Option.bind_some] at h
  split at h
  · rename_i cs2 t fr e
    obtain rfl := Option.some.inj h
    exact ⟨t, fr, e⟩
  · cases h
set_option maxRecDepth 100000 in
theorem tabH_data {H : Type} : (Rows.laid_custumal_custumalref01_H : DataW H) = Lib.tabData .i64 ((List.range 8).map fun j => (swi S2.H0 j : Int)) := by rfl
set_option maxRecDepth 100000 in
theorem tabK_data {H : Type} : (Rows.laid_custumal_custumalref01_K : DataW H) = Lib.tabData .i64 ((List.range 64).map fun j => (S2.K j : Int)) := by rfl
set_option maxRecDepth 100000 in
theorem name_H : Tryd.prog.globalNamed "custumal/custumalref01.H" = some 0 := by kernel_rfl
set_option maxRecDepth 100000 in
theorem type_H : (Tryd.prog.globals[0]?).map (·.type) = some 62 := by kernel_rfl
set_option maxRecDepth 100000 in
theorem name_K : Tryd.prog.globalNamed "custumal/custumalref01.K" = some 1 := by kernel_rfl
set_option maxRecDepth 100000 in
theorem type_K : (Tryd.prog.globals[1]?).map (·.type) = some 63 := by kernel_rfl
set_option maxRecDepth 100000 in
theorem renv_of {W : World} {l : List (String × DataW Unit)} (hp : (l.all fun x => x.2.handleName?.isNone) = true) (h : laidMetH Tryd.prog l W) (hmK : ("custumal/custumalref01.K", Rows.laid_custumal_custumalref01_K) ∈ l) (hmH : ("custumal/custumalref01.H", Rows.laid_custumal_custumalref01_H) ∈ l) : REnv W := by
  rw [MakeChecks.laidMetH_plain _ _ _ hp] at h
  constructor
  · obtain ⟨g, t, cs, fuel, p, hg, ht, hv, hd⟩ := Lib.laidMet.reads h hmH
    obtain rfl := Option.some.inj (name_H.symm.trans hg)
    obtain rfl := Option.some.inj (type_H.symm.trans ht)
    rw [tabH_data] at hd
    have hcs := Lib.cells_of_tab Tryd.underlying62 Tryd.underlying3 (by kernel_rfl) (by kernel_rfl) hd
    obtain ⟨t2, fr, hb⟩ := block_of_var name_H hv
    refine ⟨t2, fr, ?_⟩
    rw [hb]
    congr 2
    apply Array.toList_inj.1
    rw [hcs, List.map_map]
    rfl
  · obtain ⟨g, t, cs, fuel, p, hg, ht, hv, hd⟩ := Lib.laidMet.reads h hmK
    obtain rfl := Option.some.inj (name_K.symm.trans hg)
    obtain rfl := Option.some.inj (type_K.symm.trans ht)
    rw [tabK_data] at hd
    have hcs := Lib.cells_of_tab Tryd.underlying63 Tryd.underlying3 (by kernel_rfl) (by kernel_rfl) hd
    intro j hj
    rw [World.var?_cell name_K hv j, ← Array.getElem?_toList, hcs, List.map_map, List.getElem?_map, List.getElem?_range hj]
    rfl
set_option maxRecDepth 100000 in
/-- The string of a sum that lies in a block of its own. -/
theorem sumc_lies {w : World} {b : Nat} {l : List UInt8} {t : TypeId} {fr : Nat × Nat} (h : w.heap[b]? = some (.cells (sumc l) t fr)) : Lies w (some ⟨b, 0, none⟩) (S2.sum l) := by
  refine Or.inr ⟨b, 0, rfl, fun j hj => ?_⟩
  have hl : (S2.sum l).length = 32 := rfl
  rw [Nat.zero_add, cell_of_block h, sumc_get l j (by omega), List.getD_eq_getElem?_getD, List.getElem?_eq_getElem hj]
  rfl
set_option maxRecDepth 100000 in
theorem sum_len (l : List UInt8) : (S2.sum l).length = 32 := rfl
end Go.Proofs.YtndakfanlgilmaaDoor



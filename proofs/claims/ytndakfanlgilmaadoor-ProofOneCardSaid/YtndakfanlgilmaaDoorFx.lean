/-
  The contract of Few of package custumalref01: the walk.
-/
import Derived.Test.YtndakfanlgilmaaDoorFw
namespace Go.Proofs.YtndakfanlgilmaaDoor
open Go.RowKit
set_option linter.unusedVariables false

/-- No more than some parts, of no more than some bytes each. -/
def fewL (L : List (List UInt8)) (m z : Nat) : List (List UInt8) := (L.take m).map fun l => l.take z
set_option maxRecDepth 100000 in
theorem fewL_get (L : List (List UInt8)) (m z k : Nat) (hk : k < m) (hL : k < L.length) : (fewL L m z).getD k [] = (L[k]).take z := by
  unfold fewL
  rw [List.getD_eq_getElem?_getD, List.getElem?_map, List.getElem?_take, if_pos hk, List.getElem?_eq_getElem hL]; rfl
set_option maxRecDepth 100000 in
theorem fewL_len (L : List (List UInt8)) (m z : Nat) : (fewL L m z).length = min m L.length := by unfold fewL; simp
set_option maxRecDepth 100000 in
theorem src_sl {w : World} {k : Nat} {a : Option Addr} {n c : Nat} {t : TypeId} {fr : Nat × Nat} (h : w.heap[k]? = some (.cells #[.slice a n c] t fr)) : Src Tryd.prog 1 30 (.slice (some ⟨k, 0, none⟩) 1 1) 1 [.slice a n c] w := by
  refine Src.ofSlice w Tryd.underlying30 _ _ _ _ (by simp) ?_ (by simp [Value.oneCell'])
  intro j u hj
  rw [addr_add, Nat.zero_add, cell_of_block h]
  match j, hj with
  | 0, hj => exact hj
end Go.Proofs.YtndakfanlgilmaaDoor



/-
  The contracts of rest, sum, longer, Add and Neg of package scalar.
-/
import Derived.Test.YtgladedjgjhlaaaFo
namespace Go.Proofs.Ytgladedjgjhlaaa
open Go.RowKit
set_option linter.unusedVariables false

theorem LL_lt : LL < 115792089237316195423570985008687907853269984665640564039457584007913129639936 := by decide
theorem mod_LL (X : Nat) : X % LL < LL := Nat.mod_lt _ (by decide)
theorem mod_LP (X : Nat) : X % LL < 115792089237316195423570985008687907853269984665640564039457584007913129639936 := Nat.lt_trans (mod_LL X) LL_lt
theorem blk4 {w : World} {b : Nat} {y0 y1 y2 y3 : Value} {t : TypeId} (h : w.heap[b]? = some (.cells #[y0, y1, y2, y3] t (0, 0))) :
    w.cell? ⟨b, 0, none⟩ = some y0 ∧ w.cell? ⟨b, 1, none⟩ = some y1 ∧ w.cell? ⟨b, 2, none⟩ = some y2 ∧ w.cell? ⟨b, 3, none⟩ = some y3 ∧ w.frozen? ⟨b, 0, none⟩ = false ∧ w.frozen? ⟨b, 1, none⟩ = false ∧ w.frozen? ⟨b, 2, none⟩ = false ∧ w.frozen? ⟨b, 3, none⟩ = false :=
  ⟨(cell_of_block h 0).trans rfl, (cell_of_block h 1).trans rfl, (cell_of_block h 2).trans rfl, (cell_of_block h 3).trans rfl, free_of_block h 0, free_of_block h 1, free_of_block h 2, free_of_block h 3⟩
end Go.Proofs.Ytgladedjgjhlaaa


/-
  Blocks compared.
-/
import Derived.Test.YtgladedjgjhlaaaTu
import Derived.Stop.BytesEq
namespace Go.Proofs.Ytgladedjgjhlaaa
open Go.RowKit
set_option linter.unusedVariables false
set_option linter.unusedSimpArgs false
/-- A block's bytes. -/
def bl128 (f : Nat → UInt8) : List UInt8 := (List.range 128).map f
theorem bl128_len (f : Nat → UInt8) : (bl128 f).length = 128 := by simp [bl128]
theorem ub_cells (f : Nat → UInt8) : ub 128 f = ((bl128 f).map Extern.Stop.cell).toArray := by
  unfold ub bl128
  rw [List.map_map]
  rfl
theorem bl128_eq (f g : Nat → UInt8) : bl128 f = bl128 g ↔ ∀ j, j < 128 → f j = g j := by
  unfold bl128
  rw [List.map_inj_left]
  simp
set_option maxRecDepth 100000 in
theorem eql_blk (f g : Nat → UInt8) (w : World) : (binOp .eql 30 (.agg (ub 128 f)) (.agg (ub 128 g))).run Try.prog w = .ok (.bool (bl128 f == bl128 g)) w := by
  rw [ub_cells, ub_cells]
  refine run_eql_bytes w 30 5 128 Try.underlying30 Try.underlying5 ?_ (bl128 f) (bl128 g) (bl128_len f) (bl128_len g)
  intro w2
  have : (Try.prog.info? 5).map (·.size) = some 1 := by kernel_rfl
  obtain ⟨i0, hi, hz⟩ := Option.map_eq_some_iff.1 this
  simp [sizeOf, typeInfo, hi, hz]
end Go.Proofs.Ytgladedjgjhlaaa

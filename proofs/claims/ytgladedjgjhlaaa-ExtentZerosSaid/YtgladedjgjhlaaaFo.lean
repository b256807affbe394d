/-
  The contracts of folded, rest, sum, longer, Order, Add, Neg and Mul of package scalar.
-/
import Derived.Test.YtgladedjgjhlaaaPl
namespace Go.Proofs.Ytgladedjgjhlaaa
open Go.RowKit
set_option linter.unusedVariables false

theorem nc_of0 (a b c : Nat) (ha : a < 18446744073709551616) (hb : b < 18446744073709551616) (hc : c < 18446744073709551616) : #[.int .u64 (a : Int), .int .u64 (b : Int), .int .u64 (c : Int), .int .u64 0] = nc (nv a b c 0) := nc_of a b c 0 ha hb hc (by decide)
/-- The order; and what it is more than 2 ^ 252. -/
def LL : Nat := 7237005577332262213973186563042994240857116359379907606001950938285454250989
def tail2 : Nat := 27742317777372353535851937790883648493
theorem LL_nv : LL = nv 6346243789798364141 1503914060200516822 0 1152921504606846976 := by unfold nv LL; decide
theorem fold0 (X v Y : Nat) (hX : X < 7237005577332262213973186563042994240829374041602535252466099000494570602496) (hY : Y = v * 27742317777372353535851937790883648493) (h : Y ≤ X) : (X + v * 7237005577332262213973186563042994240829374041602535252466099000494570602496) % LL = X - Y := by
  rw [show X + v * 7237005577332262213973186563042994240829374041602535252466099000494570602496 = (X - Y) + LL * v by unfold LL; omega, Nat.add_mul_mod_self_left, Nat.mod_eq_of_lt (by unfold LL; omega)]
theorem fold1 (X v Y : Nat) (hX : X < 7237005577332262213973186563042994240829374041602535252466099000494570602496) (hv : v ≤ 256) (hY : Y = v * 27742317777372353535851937790883648493) (h : X < Y) : (X + v * 7237005577332262213973186563042994240829374041602535252466099000494570602496) % LL = X + LL - Y := by
  obtain ⟨k, rfl⟩ : ∃ k, v = k + 1 := ⟨v - 1, by omega⟩
  rw [show X + (k + 1) * 7237005577332262213973186563042994240829374041602535252466099000494570602496 = (X + LL - Y) + LL * k by unfold LL; omega, Nat.add_mul_mod_self_left, Nat.mod_eq_of_lt (by unfold LL; omega)]
end Go.Proofs.Ytgladedjgjhlaaa


/-
  The contracts of New, Fork and Len of package sha2, and of the laws' own look at a known sum.
-/
import Derived.Test.YtndakfanlgilmaaDoorPsum
import Derived.Lib.SlBytesConst
namespace Go.Proofs.YtndakfanlgilmaaDoor
open Go.RowKit
set_option linter.unusedVariables false

set_option maxRecDepth 100000 in
theorem sumc_get (l : List UInt8) (j : Nat) (hj : j < 32) : (sumc l)[j]? = some (.int .u8 (((S2.sum l).getD j 0).toNat : Int)) := ub_get 32 _ j hj

end Go.Proofs.YtndakfanlgilmaaDoor


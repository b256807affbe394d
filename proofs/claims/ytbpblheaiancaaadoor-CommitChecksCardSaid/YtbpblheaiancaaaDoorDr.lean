/-
  The law's own look at a value that is bound, and another one: their sums, reckoned.
-/
import Derived.Test.YtbpblheaiancaaaDoorQK
namespace Go.Proofs.YtbpblheaiancaaaDoor
open Go.RowKit
set_option linter.unusedVariables false

def BI.k : List UInt8 := 1 :: List.replicate 31 0
def BI.i : List UInt8 := 2 :: List.replicate 31 0
def BI.o : List UInt8 := [236, 115, 124, 200, 66, 191, 167, 18, 186, 156, 252, 139, 41, 158, 232, 176, 47, 7, 129, 86, 119, 159, 233, 186, 67, 0, 17, 30, 7, 104, 95, 39]
set_option maxRecDepth 100000 in
theorem BI.open_eq : S2.sum (HM.out BI.k (CM.mo BI.i 3)) = BI.o := by kernel_rfl
set_option maxRecDepth 100000 in
theorem BI.v_eq : S2.sum (HM.out BI.o (CM.mb BI.i 3 [118])) = [19, 45, 240, 1, 146, 86, 144, 239, 142, 237, 5, 218, 34, 85, 138, 17, 15, 132, 72, 207, 148, 215, 6, 136, 51, 44, 0, 48, 37, 2, 249, 13] := by kernel_rfl
set_option maxRecDepth 100000 in
theorem BI.w_eq : S2.sum (HM.out BI.o (CM.mb BI.i 3 [119])) = [47, 147, 6, 108, 103, 165, 58, 59, 109, 139, 126, 106, 76, 21, 30, 124, 254, 88, 167, 204, 0, 122, 9, 106, 147, 240, 189, 191, 38, 230, 159, 59] := by kernel_rfl
theorem BI.ne : (S2.sum (HM.out BI.o (CM.mb BI.i 3 [119])) == S2.sum (HM.out BI.o (CM.mb BI.i 3 [118]))) = false := by rw [BI.v_eq, BI.w_eq]; decide
end Go.Proofs.YtbpblheaiancaaaDoor

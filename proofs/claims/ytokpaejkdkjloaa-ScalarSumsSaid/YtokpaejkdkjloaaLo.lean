/-
  The contract of orders of package custumallaw06.
-/
import Derived.Test.YtokpaejkdkjloaaMl
import Derived.Test.YtokpaejkdkjloaaEq
namespace Go.Proofs.Ytokpaejkdkjloaa
open Go.RowKit
set_option linter.unusedVariables false

theorem LL_lit : nc LL = #[.int .u64 6346243789798364141, .int .u64 1503914060200516822, .int .u64 0, .int .u64 1152921504606846976] := by
  rw [LL_nv]; exact (nc_of 6346243789798364141 1503914060200516822 0 1152921504606846976 (by decide) (by decide) (by decide) (by decide)).symm
theorem one_lit : nc 1 = #[.int .u64 1, .int .u64 0, .int .u64 0, .int .u64 0] := rfl
set_option maxRecDepth 100000 in
set_option maxHeartbeats 1600000 in
theorem orders_any (w : World) :
    Calls Try.prog 59 #[] w fun e w' => e = .returned (.bool true) ∧ Fr (fun _ => False) w w' := by
  have OR := fun (W : World) => order_any W
  have AD := fun (W : World) => sadd_any LL 1 LL_lt (by decide) W
  rw [show (LL + 1) % LL = 1 by decide, one_lit, LL_lit] at AD
  rw [LL_lit] at OR
  have EQ := fun (W : World) => eql_num_same 1 0 0 0 W
  have EG := Try.guardNum
  go_enter Try.func59, Try.ntmps59
  go_wp2_with fail
  refine (OR _).mono ?_
  rintro e w1 ⟨rfl, F1⟩
  go_wp2_with fail
  refine (AD _).mono ?_
  rintro e w2 ⟨rfl, F2⟩
  go_wp2
  go_ret
  exact ⟨rfl, (F1.alloc _).trans F2 (fun _ h => h.elim)⟩
end Go.Proofs.Ytokpaejkdkjloaa


/-
  Bit of package path and of the document's answer, over what they call.
-/
import Derived.Test.YtghjcppafkaopaaZb
namespace Go.Proofs.Ytghjcppafkaopaa
open Go.RowKit
set_option linter.unusedVariables false
set_option linter.unusedSimpArgs false

set_option maxRecDepth 100000 in
set_option maxHeartbeats 3200000 in
theorem bit_one (I : Int) (q a m r : Nat) (A : Array Value) (w : World)
    (PL : Ans Try.prog 69 #[.int .i64 I] (.bool true))
    (MA : Ans Try.prog 70 #[.int .i64 I] (.int .u8 (m : Int)))
    (hq : I.tdiv 8 = (q : Int)) (hq1 : q < 32) (hA : A[q]? = some (.int .u8 (a : Int))) (ha : bits .and .u8 (a : Int) (m : Int) = (r : Int)) (hr : ((r : Int) == 0) = false) (hr2 : (r == 0) = false)
    (sA : Sz 32 A) :
    Calls Try.prog 53 #[.agg A, .int .i64 I] w fun e w' => e = .returned (.int .i64 1) ∧ Fr (fun _ => False) w w' := by
  have g0 : (0 : Int) ≤ (q : Int) := by omega
  have g1 : (q : Int) < 32 := by omega
  have K := ((Kn.start w).new (w.heap.size) 32 A 88 rfl sA.1)
  go_enter Try.func53, Try.ntmps53
  go_wp2_with fail
  have cx := fun y : Wd _ => K.celld y 0 rfl q hA
  refine wp_region_keep (by kernel_rfl) (by kernel_rfl) ?_
  repeat (any_goals (first | go_big_quiet_step ((first | (go_at_call 69; with_reducible exact Calls.keep (PL _)) | (go_at_call 70; with_reducible exact Calls.keep (MA _)))) | quiet_step ((first | (go_at_call 69; with_reducible exact Calls.keep (PL _)) | (go_at_call 70; with_reducible exact Calls.keep (MA _))))))
  refine wpQuiet_nil ?_
  intro _ hwz
  obtain ⟨y, rfl⟩ := hwz
  have Kz := K.call y.h
  clear K cx
  have K := Kz
  clear Kz
  generalize y.w = wz at K ⊢
  clear y
  go_wp2_with fail
  go_ret
  exact ⟨rfl, K.fr⟩
set_option maxRecDepth 100000 in
set_option maxHeartbeats 3200000 in
theorem bit_nil (I : Int) (q a m r : Nat) (A : Array Value) (w : World)
    (PL : Ans Try.prog 69 #[.int .i64 I] (.bool true))
    (MA : Ans Try.prog 70 #[.int .i64 I] (.int .u8 (m : Int)))
    (hq : I.tdiv 8 = (q : Int)) (hq1 : q < 32) (hA : A[q]? = some (.int .u8 (a : Int))) (ha : bits .and .u8 (a : Int) (m : Int) = (r : Int)) (hr : ((r : Int) == 0) = true) (hr2 : (r == 0) = true)
    (sA : Sz 32 A) :
    Calls Try.prog 53 #[.agg A, .int .i64 I] w fun e w' => e = .returned (.int .i64 0) ∧ Fr (fun _ => False) w w' := by
  have g0 : (0 : Int) ≤ (q : Int) := by omega
  have g1 : (q : Int) < 32 := by omega
  have K := ((Kn.start w).new (w.heap.size) 32 A 88 rfl sA.1)
  go_enter Try.func53, Try.ntmps53
  go_wp2_with fail
  have cx := fun y : Wd _ => K.celld y 0 rfl q hA
  refine wp_region_keep (by kernel_rfl) (by kernel_rfl) ?_
  repeat (any_goals (first | go_big_quiet_step ((first | (go_at_call 69; with_reducible exact Calls.keep (PL _)) | (go_at_call 70; with_reducible exact Calls.keep (MA _)))) | quiet_step ((first | (go_at_call 69; with_reducible exact Calls.keep (PL _)) | (go_at_call 70; with_reducible exact Calls.keep (MA _))))))
  refine wpQuiet_nil ?_
  intro _ hwz
  obtain ⟨y, rfl⟩ := hwz
  have Kz := K.call y.h
  clear K cx
  have K := Kz
  clear Kz
  generalize y.w = wz at K ⊢
  clear y
  go_wp2_with fail
  go_ret
  exact ⟨rfl, K.fr⟩
set_option maxRecDepth 100000 in
set_option maxHeartbeats 3200000 in
theorem bit_out (I : Int) (q a m r : Nat) (A : Array Value) (w : World)
    (PL : Ans Try.prog 69 #[.int .i64 I] (.bool false))
    (sA : Sz 32 A) :
    Calls Try.prog 53 #[.agg A, .int .i64 I] w fun e w' => e = .returned (.int .i64 0) ∧ Fr (fun _ => False) w w' := by
  have K := ((Kn.start w).new (w.heap.size) 32 A 88 rfl sA.1)
  go_enter Try.func53, Try.ntmps53
  go_wp2_with fail
  refine wp_region_keep (by kernel_rfl) (by kernel_rfl) ?_
  repeat (any_goals (first | go_big_quiet_step ((first | (go_at_call 69; with_reducible exact Calls.keep (PL _)))) | quiet_step ((first | (go_at_call 69; with_reducible exact Calls.keep (PL _))))))
  refine wpQuiet_nil ?_
  intro _ hwz
  obtain ⟨y, rfl⟩ := hwz
  have Kz := K.call y.h
  clear K 
  have K := Kz
  clear Kz
  generalize y.w = wz at K ⊢
  clear y
  go_wp2_with fail
  go_ret
  exact ⟨rfl, K.fr⟩
set_option maxRecDepth 100000 in
set_option maxHeartbeats 3200000 in
theorem rbit_in (I : Int) (q a m s v : Nat) (A : Array Value) (w : World)
    (h0 : ¬ I < 0) (h1 : ¬ 255 < I) (h2 : decide (I < 0) = false) (h3 : decide (255 < I) = false) (hq : I.tdiv 8 = (q : Int)) (hq1 : q < 32) (hA : A[q]? = some (.int .u8 (a : Int))) (hm : I.tmod 8 = (m : Int)) (hm1 : m < 8) (hs : (a : Int) / 2 ^ (7 - m) = (s : Int)) (hs1 : s < 256) (hv : (s : Int).tmod 2 = (v : Int))
    (sA : Sz 32 A) :
    Calls Try.prog 54 #[.agg A, .int .i64 I] w fun e w' => e = .returned (.int .i64 (v : Int)) ∧ Fr (fun _ => False) w w' := by
  have g0 : (0 : Int) ≤ (q : Int) := by omega
  have g1 : (q : Int) < 32 := by omega
  have w7 : IntKind.i64.wrap (7 - (m : Int)) = ((7 - m : Nat) : Int) := by rw [IntWalk.i64_in _ (by omega)]; omega
  have w8 : wrap64 (7 - (m : Int)) = ((7 - m : Nat) : Int) := by rw [IntWalk.wrap64_in _ (by omega)]; omega
  have w9 : (7 : Int) - (m : Int) = ((7 - m : Nat) : Int) := by omega
  have s9 : ¬ ((7 - m : Nat) : Int) < 0 := by omega
  have s8 : wrap64 (s : Int) = (s : Int) := IntWalk.wrap64_in _ (by omega)
  have K := ((Kn.start w).new (w.heap.size) 32 A 87 rfl sA.1)
  go_enter Try.func54, Try.ntmps54
  have cx := K.cell 0 rfl q hA
  go_wp2_with fail
  go_ret
  exact ⟨rfl, K.fr⟩
set_option maxRecDepth 100000 in
set_option maxHeartbeats 3200000 in
theorem rbit_neg (I : Int) (q a m s v : Nat) (A : Array Value) (w : World)
    (h0 : I < 0) (h2 : decide (I < 0) = true)
    (sA : Sz 32 A) :
    Calls Try.prog 54 #[.agg A, .int .i64 I] w fun e w' => e = .returned (.int .i64 0) ∧ Fr (fun _ => False) w w' := by
  have K := ((Kn.start w).new (w.heap.size) 32 A 87 rfl sA.1)
  go_enter Try.func54, Try.ntmps54
  go_wp2_with fail
  go_ret
  exact ⟨rfl, K.fr⟩
set_option maxRecDepth 100000 in
set_option maxHeartbeats 3200000 in
theorem rbit_far (I : Int) (q a m s v : Nat) (A : Array Value) (w : World)
    (h0 : ¬ I < 0) (h1 : 255 < I) (h2 : decide (I < 0) = false) (h3 : decide (255 < I) = true)
    (sA : Sz 32 A) :
    Calls Try.prog 54 #[.agg A, .int .i64 I] w fun e w' => e = .returned (.int .i64 0) ∧ Fr (fun _ => False) w w' := by
  have K := ((Kn.start w).new (w.heap.size) 32 A 87 rfl sA.1)
  go_enter Try.func54, Try.ntmps54
  go_wp2_with fail
  go_ret
  exact ⟨rfl, K.fr⟩
end Go.Proofs.Ytghjcppafkaopaa

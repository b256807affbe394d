/-
  Write, Sync, Crash where nothing is done.
-/
import Derived.Test.YtgladedjgjhlaaaTl
namespace Go.Proofs.Ytgladedjgjhlaaa
open Go.RowKit
set_option linter.unusedVariables false
set_option linter.unusedSimpArgs false

set_option maxRecDepth 100000 in
set_option maxHeartbeats 1600000 in
theorem write_bad (px : Value) (i c : Int) (hc : ¬ (c = 0)) (b : Nat → UInt8) (w : World) (hre : ∀ W : World, Fr (fun _ => False) w W → Calls Try.prog 61 #[px, .int .i64 i] W fun e w' => e = .returned (.int .i64 c) ∧ Fr (fun _ => False) W w') :
    Calls Try.prog 19 #[px, .int .i64 i, .agg (ub 128 b)] w fun e w' => e = .returned (.int .i64 c) ∧ Fr (fun _ => False) w w' := by
  have t1 : (c == 0) = false := by simpa using hc
  have t2 : decide (c = 0) = false := by simpa using hc
  have HR := Lib.hid hre
  have sB : Sz 128 (ub 128 b) := ⟨ub_size _ _, ub_one _ _⟩
  generalize ub 128 b = B at *
  have K := (Kn.start w).new (w.heap.size) 128 B 30 rfl sB.1
  clear hre hc
  go_enter Try.func19, Try.ntmps19
  go_wp2_with fail
  refine (HR.out _ K.fr).mono ?_
  rintro e w2 ⟨rfl, F2⟩
  have K2 := K.call F2
  clear K
  have K := K2
  clear K2
  go_wp2_with fail
  go_ret
  exact ⟨rfl, K.fr⟩
set_option maxRecDepth 100000 in
theorem sync_nil (w : World) : Calls Try.prog 20 #[.pointer none] w fun e w' => e = .returned (.int .i64 1) ∧ Fr (fun _ => False) w w' := by
  go_enter Try.func20, Try.ntmps20
  go_wp2_with fail
  go_ret
  exact ⟨rfl, Fr.refl _ _⟩
set_option maxRecDepth 100000 in
theorem sync_down (d : Nat) (w : World) (c5 : w.cell? ⟨d, 5, none⟩ = some (.bool true)) : Calls Try.prog 20 #[.pointer (some ⟨d, 0, none⟩)] w fun e w' => e = .returned (.int .i64 13) ∧ Fr (fun _ => False) w w' := by
  go_enter Try.func20, Try.ntmps20
  go_wp2_with fail
  go_ret
  exact ⟨rfl, Fr.refl _ _⟩
set_option maxRecDepth 100000 in
theorem crash_nil (v : Value) (w : World) : Calls Try.prog 16 #[.pointer none, v] w fun e w' => e = .returned (.tuple #[]) ∧ Fr (fun _ => False) w w' := by
  go_enter Try.func16, Try.ntmps16
  go_wp2_with fail
  refine bodyPost_ret (results_none rfl _ _ _) rfl ?_
  exact ⟨rfl, Fr.refl _ _⟩
end Go.Proofs.Ytgladedjgjhlaaa

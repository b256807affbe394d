/-
  The contract of Inv of package custumalref05.
-/
import Derived.Test.YtnobobdgoccmcaaVi
namespace Go.Proofs.Ytnobobdgoccmcaa
open Go.RowKit Pri
set_option linter.unusedVariables false

set_option maxRecDepth 100000 in
set_option maxHeartbeats 3200000 in
theorem inv5_op (A R : Array Value) (w : World)
    (PO : ∀ W : World, Calls Try.prog 35 #[.agg A, .agg #[.int .u64 18446744073709551595, .int .u64 18446744073709551615, .int .u64 18446744073709551615, .int .u64 9223372036854775807]] W fun e w' => e = .returned (.agg R) ∧ Fr (fun _ => False) W w')
    (zA : A.size = 16) (zR : R.size = 16) (oR : R.all (·.oneCell') = true) :
    Calls Try.prog 36 #[.agg A] w fun e w' => e = .returned (.agg R) ∧ Fr (fun _ => False) w w' := by
  have sA : (Try.prog.info? 26).map (·.size) = some A.size := by rw [zA]; kernel_rfl
  have sR : (Try.prog.info? 26).map (·.size) = some R.size := by rw [zR]; kernel_rfl
  have zR' : (#[.int .i64 0, .int .i64 0, .int .i64 0, .int .i64 0, .int .i64 0, .int .i64 0, .int .i64 0, .int .i64 0, .int .i64 0, .int .i64 0, .int .i64 0, .int .i64 0, .int .i64 0, .int .i64 0, .int .i64 0, .int .i64 0] : Array Value).size = R.size := by rw [zR]; rfl
  have A0 := heap_alloc2_old w (.cells A 26) (.cells #[.int .i64 0, .int .i64 0, .int .i64 0, .int .i64 0, .int .i64 0, .int .i64 0, .int .i64 0, .int .i64 0, .int .i64 0, .int .i64 0, .int .i64 0, .int .i64 0, .int .i64 0, .int .i64 0, .int .i64 0, .int .i64 0] 26)
  have R0 := heap_alloc2_new w (.cells A 26) (.cells #[.int .i64 0, .int .i64 0, .int .i64 0, .int .i64 0, .int .i64 0, .int .i64 0, .int .i64 0, .int .i64 0, .int .i64 0, .int .i64 0, .int .i64 0, .int .i64 0, .int .i64 0, .int .i64 0, .int .i64 0, .int .i64 0] 26)
  have F0 := (((Fr.refl (fun _ => False) w).alloc (.cells A 26)).alloc (.cells #[.int .i64 0, .int .i64 0, .int .i64 0, .int .i64 0, .int .i64 0, .int .i64 0, .int .i64 0, .int .i64 0, .int .i64 0, .int .i64 0, .int .i64 0, .int .i64 0, .int .i64 0, .int .i64 0, .int .i64 0, .int .i64 0] 26))
  clear zA zR
  go_enter Try.func36, Try.ntmps36
  go_wp2_with (with_reducible refine wpList_load_row rfl 26 (.tmp 1) rfl w.heap.size rfl 26 A (0, 0) _ A0 Try.underlying26 rfl sA ?_)
  refine (PO _).mono ?_
  rintro e w1 ⟨rfl, F1⟩
  have R3 := F1.keep R0
  have G3 := F0.trans F1 (fun _ h => h.elim)
  clear A0 R0 F0 F1
  go_wp2_with (with_reducible refine wpList_store_row rfl 26 (.tmp 2) (.tmp 12) rfl (w.heap.size + 1) R rfl rfl 26 #[.int .i64 0, .int .i64 0, .int .i64 0, .int .i64 0, .int .i64 0, .int .i64 0, .int .i64 0, .int .i64 0, .int .i64 0, .int .i64 0, .int .i64 0, .int .i64 0, .int .i64 0, .int .i64 0, .int .i64 0, .int .i64 0] R3 sR zR' oR ?_)
  refine bodyPost_ret (results_cell_row rfl _ _ (w.heap.size + 1) 26 R (0, 0) _ rfl (setRow_heap _ _ _ _ _ _ R3) Try.underlying26 rfl sR) rfl ?_
  exact ⟨rfl, G3.trans (Fr.setRow (S := fun k => k = w.heap.size + 1) (Fr.refl _ _) rfl _) (fun i hi => Or.inr (by have : i = w.heap.size + 1 := hi; omega))⟩
theorem inv5_any (X : Nat) (hX : X < 115792089237316195423570985008687907853269984665640564039457584007913129639936) (w : World) :
    Calls Try.prog 36 #[.agg (nd X)] w fun e w' => e = .returned (.agg (nd (pwr X (p25519 - 2)))) ∧ Fr (fun _ => False) w w' :=
  inv5_op (nd X) (nd (pwr X (p25519 - 2))) w (by rw [← nc_p2]; exact fun W => pow5_any X (p25519 - 2) hX p2_lt W) (nd_size _) (nd_size _) (iq_one 16 _)
end Go.Proofs.Ytnobobdgoccmcaa


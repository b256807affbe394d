/-
  The contract of Sub of package custumalref05.
-/
import Derived.Test.YtnobobdgoccmcaaVe
namespace Go.Proofs.Ytnobobdgoccmcaa
open Go.RowKit Pri
set_option linter.unusedVariables false

set_option maxRecDepth 100000 in
set_option maxHeartbeats 1600000 in
theorem sub5_op (A B C R : Array Value) (w : World)
    (NE : ∀ W : World, Calls Try.prog 25 #[.agg B] W fun e w' => e = .returned (.agg C) ∧ Fr (fun _ => False) W w')
    (AD : ∀ W : World, Calls Try.prog 19 #[.agg A, .agg C] W fun e w' => e = .returned (.agg R) ∧ Fr (fun _ => False) W w')
    (zA : A.size = 16) (zB : B.size = 16) (zR : R.size = 16) (oneR : R.all (·.oneCell') = true) :
    Calls Try.prog 21 #[.agg A, .agg B] w fun e w' => e = .returned (.agg R) ∧ Fr (fun _ => False) w w' := by
  have sA : (Try.prog.info? 26).map (·.size) = some A.size := by rw [zA]; kernel_rfl
  have sB : (Try.prog.info? 26).map (·.size) = some B.size := by rw [zB]; kernel_rfl
  have sR : (Try.prog.info? 26).map (·.size) = some R.size := by rw [zR]; kernel_rfl
  have zR' : (#[.int .i64 0, .int .i64 0, .int .i64 0, .int .i64 0, .int .i64 0, .int .i64 0, .int .i64 0, .int .i64 0, .int .i64 0, .int .i64 0, .int .i64 0, .int .i64 0, .int .i64 0, .int .i64 0, .int .i64 0, .int .i64 0] : Array Value).size = R.size := by rw [zR]; rfl
  have HA := Lib.hid ((Below.heap_alloc ((w.alloc (.cells A 26)).alloc (.cells B 26)) (.cells #[.int .i64 0, .int .i64 0, .int .i64 0, .int .i64 0, .int .i64 0, .int .i64 0, .int .i64 0, .int .i64 0, .int .i64 0, .int .i64 0, .int .i64 0, .int .i64 0, .int .i64 0, .int .i64 0, .int .i64 0, .int .i64 0] 26) _ (by simp; omega)).trans (heap_alloc2_old w _ _))
  have HB := Lib.hid ((Below.heap_alloc ((w.alloc (.cells A 26)).alloc (.cells B 26)) (.cells #[.int .i64 0, .int .i64 0, .int .i64 0, .int .i64 0, .int .i64 0, .int .i64 0, .int .i64 0, .int .i64 0, .int .i64 0, .int .i64 0, .int .i64 0, .int .i64 0, .int .i64 0, .int .i64 0, .int .i64 0, .int .i64 0] 26) _ (by simp)).trans (heap_alloc2_new w _ _))
  have HR := Lib.hid (heap_at ((w.alloc (.cells A 26)).alloc (.cells B 26)) #[.int .i64 0, .int .i64 0, .int .i64 0, .int .i64 0, .int .i64 0, .int .i64 0, .int .i64 0, .int .i64 0, .int .i64 0, .int .i64 0, .int .i64 0, .int .i64 0, .int .i64 0, .int .i64 0, .int .i64 0, .int .i64 0] 26 (w.heap.size + 1 + 1) (by simp))
  have HF := Lib.hid (((((Fr.refl (fun _ => False) w).alloc (.cells A 26)).alloc (.cells B 26)).alloc (.cells #[.int .i64 0, .int .i64 0, .int .i64 0, .int .i64 0, .int .i64 0, .int .i64 0, .int .i64 0, .int .i64 0, .int .i64 0, .int .i64 0, .int .i64 0, .int .i64 0, .int .i64 0, .int .i64 0, .int .i64 0, .int .i64 0] 26)))
  clear zA zB zR
  go_enter Try.func21, Try.ntmps21
  go_wp2_with fail
  refine wp_region_tail 4 [] (by kernel_rfl) (by kernel_rfl) mk_nil ?_
  apply Exists.intro
  refine ⟨?wk, ?fin⟩
  case wk =>
    intro γ
    simp only [List.take_succ_cons, List.take_zero]
    repeat (any_goals (first | (go_big_quiet_want; (with_reducible refine quiet_load_rowg 26 (.tmp 2) rfl w.heap.size rfl 26 A (0, 0) _ HA.out Try.underlying26 rfl sA ?_); simp only [Act.put, List.setIfInBounds_toArray, List.set_cons_zero, List.set_cons_succ]; go_big_quiet_on) | (go_big_quiet_want; (with_reducible refine quiet_load_rowg 26 (.tmp 3) rfl (w.heap.size + 1) rfl 26 B (0, 0) _ HB.out Try.underlying26 rfl sB ?_); simp only [Act.put, List.setIfInBounds_toArray, List.set_cons_zero, List.set_cons_succ]; go_big_quiet_on) | go_big_quiet_step (((first | (go_at_call 25; with_reducible exact Calls.keepg (NE _)) | (go_at_call 19; with_reducible exact Calls.keepg (AD _))))) | quiet_step (((first | (go_at_call 25; with_reducible exact Calls.keepg (NE _)) | (go_at_call 19; with_reducible exact Calls.keepg (AD _)))))))
    exact wpQuiet_nil rfl
  case fin =>
    intro gs wx hF hg hne
    simp only [putAll, List.drop_succ_cons, List.drop_zero, List.length_nil, Nat.add_zero]
    have R1 := hF.keep HR.out
    have G1 := HF.out.trans hF (fun _ h => h.elim)
    clear hg hne hF
    go_wp2_with (with_reducible refine wpList_store_row rfl 26 (.tmp 4) (.tmp 8) rfl (w.heap.size + 1 + 1) R rfl rfl 26 #[.int .i64 0, .int .i64 0, .int .i64 0, .int .i64 0, .int .i64 0, .int .i64 0, .int .i64 0, .int .i64 0, .int .i64 0, .int .i64 0, .int .i64 0, .int .i64 0, .int .i64 0, .int .i64 0, .int .i64 0, .int .i64 0] R1 sR zR' oneR ?_)
    refine bodyPost_ret (results_cell_row rfl _ _ (w.heap.size + 1 + 1) 26 R (0, 0) _ rfl (setRow_heap _ _ _ _ _ _ R1) Try.underlying26 rfl sR) rfl ?_
    exact ⟨rfl, G1.trans (Fr.setRow (S := fun k => k = w.heap.size + 1 + 1) (Fr.refl _ _) rfl _) (fun i hi => Or.inr (by omega))⟩
theorem nd_size (X : Nat) : (nd X).size = 16 := iq_size _ _
theorem sub5_any (X Y : Nat) (hX : X < 115792089237316195423570985008687907853269984665640564039457584007913129639936) (hY : Y ≤ p25519) (w : World) :
    Calls Try.prog 21 #[.agg (nd X), .agg (nd Y)] w fun e w' => e = .returned (.agg (nd ((X + (p25519 - Y) % p25519) % p25519))) ∧ Fr (fun _ => False) w w' :=
  sub5_op (nd X) (nd Y) (nd ((p25519 - Y) % p25519)) _ w (fun W => neg5_any Y hY W) (fun W => add5_any X _ hX (Nat.lt_trans (Nat.mod_lt _ p_pos) (by decide +kernel)) W) (nd_size _) (nd_size _) (nd_size _) (iq_one 16 _)
end Go.Proofs.Ytnobobdgoccmcaa


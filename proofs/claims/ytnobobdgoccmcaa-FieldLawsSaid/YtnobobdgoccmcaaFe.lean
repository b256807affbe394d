/-
  The contracts of Rest, Add, Mul, Same of package field.
-/
import Derived.Test.YtnobobdgoccmcaaFd
import Derived.Test.YtnobobdgoccmcaaKt
namespace Go.Proofs.Ytnobobdgoccmcaa
open Go.RowKit Pri
set_option linter.unusedVariables false

set_option maxRecDepth 100000 in
set_option maxHeartbeats 1600000 in
theorem fadd_op (A B R S : Array Value) (c : Int) (w : World)
    (PA : ∀ W : World, Calls Try.prog 78 #[.agg A] W fun e w' => e = .returned (.agg A) ∧ Fr (fun _ => False) W w')
    (PB : ∀ W : World, Calls Try.prog 78 #[.agg B] W fun e w' => e = .returned (.agg B) ∧ Fr (fun _ => False) W w')
    (SU : ∀ W : World, Calls Try.prog 80 #[.agg A, .agg B] W fun e w' => e = .returned (.tuple #[.agg S, .int .u64 c]) ∧ Fr (fun _ => False) W w')
    (FL : ∀ W : World, Calls Try.prog 79 #[.agg S, .int .u64 c] W fun e w' => e = .returned (.agg R) ∧ Fr (fun _ => False) W w')
    (EL : ∀ W : World, Calls Try.prog 76 #[.agg R] W fun e w' => e = .returned (.agg R) ∧ Fr (fun _ => False) W w')
    (zA : A.size = 4) (zB : B.size = 4) (zR : R.size = 4) (oneR : R.all (·.oneCell') = true) :
    Calls Try.prog 18 #[.agg A, .agg B] w fun e w' => e = .returned (.agg R) ∧ Fr (fun _ => False) w w' := by
  have sA : (Try.prog.info? 24).map (·.size) = some A.size := by rw [zA]; kernel_rfl
  have sB : (Try.prog.info? 24).map (·.size) = some B.size := by rw [zB]; kernel_rfl
  have sR : (Try.prog.info? 24).map (·.size) = some R.size := by rw [zR]; kernel_rfl
  have zR' : (#[.int .u64 0, .int .u64 0, .int .u64 0, .int .u64 0] : Array Value).size = R.size := by rw [zR]; rfl
  have HA := Lib.hid ((Below.heap_alloc ((w.alloc (.cells A 24)).alloc (.cells B 24)) (.cells #[.int .u64 0, .int .u64 0, .int .u64 0, .int .u64 0] 24) _ (by simp; omega)).trans (heap_alloc2_old w _ _))
  have HB := Lib.hid ((Below.heap_alloc ((w.alloc (.cells A 24)).alloc (.cells B 24)) (.cells #[.int .u64 0, .int .u64 0, .int .u64 0, .int .u64 0] 24) _ (by simp)).trans (heap_alloc2_new w _ _))
  have HR := Lib.hid (heap_at ((w.alloc (.cells A 24)).alloc (.cells B 24)) #[.int .u64 0, .int .u64 0, .int .u64 0, .int .u64 0] 24 (w.heap.size + 1 + 1) (by simp))
  have HF := Lib.hid (((((Fr.refl (fun _ => False) w).alloc (.cells A 24)).alloc (.cells B 24)).alloc (.cells #[.int .u64 0, .int .u64 0, .int .u64 0, .int .u64 0] 24)))
  clear zA zB zR
  go_enter Try.func18, Try.ntmps18
  go_wp2_with fail
  refine wp_region_tail 9 [] (by kernel_rfl) (by kernel_rfl) mk_nil ?_
  apply Exists.intro
  refine ⟨?wk, ?fin⟩
  case wk =>
    intro γ
    simp only [List.take_succ_cons, List.take_zero]
    repeat (any_goals (first | (go_big_quiet_want; (with_reducible refine quiet_load_rowg 24 (.tmp 2) rfl w.heap.size rfl 24 A (0, 0) _ HA.out Try.underlying24 rfl sA ?_); simp only [Act.put, List.setIfInBounds_toArray, List.set_cons_zero, List.set_cons_succ]; go_big_quiet_on) | (go_big_quiet_want; (with_reducible refine quiet_load_rowg 24 (.tmp 3) rfl (w.heap.size + 1) rfl 24 B (0, 0) _ HB.out Try.underlying24 rfl sB ?_); simp only [Act.put, List.setIfInBounds_toArray, List.set_cons_zero, List.set_cons_succ]; go_big_quiet_on) | go_big_quiet_step (((first | (go_at_call 78; with_reducible exact Calls.keepg (PA _)) | (go_at_call 78; with_reducible exact Calls.keepg (PB _)) | (go_at_call 80; with_reducible exact Calls.keepg (SU _)) | (go_at_call 79; with_reducible exact Calls.keepg (FL _)) | (go_at_call 76; with_reducible exact Calls.keepg (EL _))))) | quiet_step (((first | (go_at_call 78; with_reducible exact Calls.keepg (PA _)) | (go_at_call 78; with_reducible exact Calls.keepg (PB _)) | (go_at_call 80; with_reducible exact Calls.keepg (SU _)) | (go_at_call 79; with_reducible exact Calls.keepg (FL _)) | (go_at_call 76; with_reducible exact Calls.keepg (EL _)))))))
    exact wpQuiet_nil rfl
  case fin =>
    intro gs wx hF hg hne
    simp only [putAll, List.drop_succ_cons, List.drop_zero, List.length_nil, Nat.add_zero]
    have R1 := hF.keep HR.out
    have G1 := HF.out.trans hF (fun _ h => h.elim)
    clear hg hne hF
    go_wp2_with (with_reducible refine wpList_store_row rfl 24 (.tmp 4) (.tmp 13) rfl (w.heap.size + 1 + 1) R rfl rfl 24 #[.int .u64 0, .int .u64 0, .int .u64 0, .int .u64 0] R1 sR zR' oneR ?_)
    refine bodyPost_ret (results_cell_row rfl _ _ (w.heap.size + 1 + 1) 24 R (0, 0) _ rfl (setRow_heap _ _ _ _ _ _ R1) Try.underlying24 rfl sR) rfl ?_
    exact ⟨rfl, G1.trans (Fr.setRow (S := fun k => k = w.heap.size + 1 + 1) (Fr.refl _ _) rfl _) (fun i hi => Or.inr (by omega))⟩
set_option maxRecDepth 100000 in
set_option maxHeartbeats 1600000 in
theorem fmul_op (A B R  : Array Value) (c : Int) (w : World)
    (PA : ∀ W : World, Calls Try.prog 78 #[.agg A] W fun e w' => e = .returned (.agg A) ∧ Fr (fun _ => False) W w')
    (PB : ∀ W : World, Calls Try.prog 78 #[.agg B] W fun e w' => e = .returned (.agg B) ∧ Fr (fun _ => False) W w')
    (PR : ∀ W : World, Calls Try.prog 84 #[.agg A, .agg B] W fun e w' => e = .returned (.agg R) ∧ Fr (fun _ => False) W w')
    (EL : ∀ W : World, Calls Try.prog 76 #[.agg R] W fun e w' => e = .returned (.agg R) ∧ Fr (fun _ => False) W w')
    (zA : A.size = 4) (zB : B.size = 4) (zR : R.size = 4) (oneR : R.all (·.oneCell') = true) :
    Calls Try.prog 22 #[.agg A, .agg B] w fun e w' => e = .returned (.agg R) ∧ Fr (fun _ => False) w w' := by
  have sA : (Try.prog.info? 24).map (·.size) = some A.size := by rw [zA]; kernel_rfl
  have sB : (Try.prog.info? 24).map (·.size) = some B.size := by rw [zB]; kernel_rfl
  have sR : (Try.prog.info? 24).map (·.size) = some R.size := by rw [zR]; kernel_rfl
  have zR' : (#[.int .u64 0, .int .u64 0, .int .u64 0, .int .u64 0] : Array Value).size = R.size := by rw [zR]; rfl
  have HA := Lib.hid ((Below.heap_alloc ((w.alloc (.cells A 24)).alloc (.cells B 24)) (.cells #[.int .u64 0, .int .u64 0, .int .u64 0, .int .u64 0] 24) _ (by simp; omega)).trans (heap_alloc2_old w _ _))
  have HB := Lib.hid ((Below.heap_alloc ((w.alloc (.cells A 24)).alloc (.cells B 24)) (.cells #[.int .u64 0, .int .u64 0, .int .u64 0, .int .u64 0] 24) _ (by simp)).trans (heap_alloc2_new w _ _))
  have HR := Lib.hid (heap_at ((w.alloc (.cells A 24)).alloc (.cells B 24)) #[.int .u64 0, .int .u64 0, .int .u64 0, .int .u64 0] 24 (w.heap.size + 1 + 1) (by simp))
  have HF := Lib.hid (((((Fr.refl (fun _ => False) w).alloc (.cells A 24)).alloc (.cells B 24)).alloc (.cells #[.int .u64 0, .int .u64 0, .int .u64 0, .int .u64 0] 24)))
  clear zA zB zR
  go_enter Try.func22, Try.ntmps22
  go_wp2_with fail
  refine wp_region_tail 6 [] (by kernel_rfl) (by kernel_rfl) mk_nil ?_
  apply Exists.intro
  refine ⟨?wk, ?fin⟩
  case wk =>
    intro γ
    simp only [List.take_succ_cons, List.take_zero]
    repeat (any_goals (first | (go_big_quiet_want; (with_reducible refine quiet_load_rowg 24 (.tmp 2) rfl w.heap.size rfl 24 A (0, 0) _ HA.out Try.underlying24 rfl sA ?_); simp only [Act.put, List.setIfInBounds_toArray, List.set_cons_zero, List.set_cons_succ]; go_big_quiet_on) | (go_big_quiet_want; (with_reducible refine quiet_load_rowg 24 (.tmp 3) rfl (w.heap.size + 1) rfl 24 B (0, 0) _ HB.out Try.underlying24 rfl sB ?_); simp only [Act.put, List.setIfInBounds_toArray, List.set_cons_zero, List.set_cons_succ]; go_big_quiet_on) | go_big_quiet_step (((first | (go_at_call 78; with_reducible exact Calls.keepg (PA _)) | (go_at_call 78; with_reducible exact Calls.keepg (PB _)) | (go_at_call 84; with_reducible exact Calls.keepg (PR _)) | (go_at_call 76; with_reducible exact Calls.keepg (EL _))))) | quiet_step (((first | (go_at_call 78; with_reducible exact Calls.keepg (PA _)) | (go_at_call 78; with_reducible exact Calls.keepg (PB _)) | (go_at_call 84; with_reducible exact Calls.keepg (PR _)) | (go_at_call 76; with_reducible exact Calls.keepg (EL _)))))))
    exact wpQuiet_nil rfl
  case fin =>
    intro gs wx hF hg hne
    simp only [putAll, List.drop_succ_cons, List.drop_zero, List.length_nil, Nat.add_zero]
    have R1 := hF.keep HR.out
    have G1 := HF.out.trans hF (fun _ h => h.elim)
    clear hg hne hF
    go_wp2_with (with_reducible refine wpList_store_row rfl 24 (.tmp 4) (.tmp 10) rfl (w.heap.size + 1 + 1) R rfl rfl 24 #[.int .u64 0, .int .u64 0, .int .u64 0, .int .u64 0] R1 sR zR' oneR ?_)
    refine bodyPost_ret (results_cell_row rfl _ _ (w.heap.size + 1 + 1) 24 R (0, 0) _ rfl (setRow_heap _ _ _ _ _ _ R1) Try.underlying24 rfl sR) rfl ?_
    exact ⟨rfl, G1.trans (Fr.setRow (S := fun k => k = w.heap.size + 1 + 1) (Fr.refl _ _) rfl _) (fun i hi => Or.inr (by omega))⟩
theorem nc_size (X : Nat) : (nc X).size = 4 := rfl
theorem mod_p_lt (X : Nat) : X % p25519 < 115792089237316195423570985008687907853269984665640564039457584007913129639936 := Nat.lt_trans (Nat.mod_lt _ p_pos) (by decide +kernel)
theorem fadd_any (X Y : Nat) (hX : X < 115792089237316195423570985008687907853269984665640564039457584007913129639936) (hY : Y < 115792089237316195423570985008687907853269984665640564039457584007913129639936) (w : World) :
    Calls Try.prog 18 #[.agg (nc X), .agg (nc Y)] w fun e w' => e = .returned (.agg (nc ((X + Y) % p25519))) ∧ Fr (fun _ => False) w w' := by
  have hm : (X + Y) % 115792089237316195423570985008687907853269984665640564039457584007913129639936 < 115792089237316195423570985008687907853269984665640564039457584007913129639936 := Nat.mod_lt _ (by decide)
  have hd : (X + Y) / 115792089237316195423570985008687907853269984665640564039457584007913129639936 ≤ 38 := by omega
  have e : ((X + Y) % 115792089237316195423570985008687907853269984665640564039457584007913129639936 + 115792089237316195423570985008687907853269984665640564039457584007913129639936 * ((X + Y) / 115792089237316195423570985008687907853269984665640564039457584007913129639936)) % p25519 = (X + Y) % p25519 := by rw [Nat.mod_add_div]
  exact fadd_op (nc X) (nc Y) (nc ((X + Y) % p25519)) (nc ((X + Y) % 115792089237316195423570985008687907853269984665640564039457584007913129639936)) _ w (fparts_any X hX) (fparts_any Y hY) (fsum_any X Y hX hY) (fun W => by have := ffolded_any _ _ hm hd W; rwa [e] at this) (felem_any _ (mod_p_lt _)) rfl rfl rfl (nc_one _)
theorem fmul_any (X Y : Nat) (hX : X < 115792089237316195423570985008687907853269984665640564039457584007913129639936) (hY : Y < 115792089237316195423570985008687907853269984665640564039457584007913129639936) (w : World) :
    Calls Try.prog 22 #[.agg (nc X), .agg (nc Y)] w fun e w' => e = .returned (.agg (nc (X * Y % p25519))) ∧ Fr (fun _ => False) w w' :=
  fmul_op (nc X) (nc Y) (nc (X * Y % p25519)) 0 w (fparts_any X hX) (fparts_any Y hY) (fproduct_any X Y hX hY) (felem_any _ (mod_p_lt _)) rfl rfl rfl (nc_one _)
set_option maxRecDepth 100000 in
theorem frest_op (A R : Array Value) (w : World)
    (PA : ∀ W : World, Calls Try.prog 78 #[.agg A] W fun e w' => e = .returned (.agg A) ∧ Fr (fun _ => False) W w')
    (RE : ∀ W : World, Calls Try.prog 77 #[.agg A] W fun e w' => e = .returned (.agg R) ∧ Fr (fun _ => False) W w')
    (EL : ∀ W : World, Calls Try.prog 76 #[.agg R] W fun e w' => e = .returned (.agg R) ∧ Fr (fun _ => False) W w')
    (zA : A.size = 4) (zR : R.size = 4) (oneR : R.all (·.oneCell') = true) :
    Calls Try.prog 17 #[.agg A] w fun e w' => e = .returned (.agg R) ∧ Fr (fun _ => False) w w' := by
  have sA : (Try.prog.info? 24).map (·.size) = some A.size := by rw [zA]; kernel_rfl
  have sR : (Try.prog.info? 24).map (·.size) = some R.size := by rw [zR]; kernel_rfl
  have zR' : (#[.int .u64 0, .int .u64 0, .int .u64 0, .int .u64 0] : Array Value).size = R.size := by rw [zR]; rfl
  have A0 := heap_alloc2_old w (.cells A 24) (.cells #[.int .u64 0, .int .u64 0, .int .u64 0, .int .u64 0] 24)
  have R0 := heap_alloc2_new w (.cells A 24) (.cells #[.int .u64 0, .int .u64 0, .int .u64 0, .int .u64 0] 24)
  have F0 := (((Fr.refl (fun _ => False) w).alloc (.cells A 24)).alloc (.cells #[.int .u64 0, .int .u64 0, .int .u64 0, .int .u64 0] 24))
  clear zA zR
  go_enter Try.func17, Try.ntmps17
  go_wp2_with (with_reducible refine wpList_load_row rfl 24 (.tmp 1) rfl w.heap.size rfl 24 A (0, 0) _ A0 Try.underlying24 rfl sA ?_)
  refine (PA _).mono ?_
  rintro e w1 ⟨rfl, F1⟩
  go_wp2_with fail
  refine (RE _).mono ?_
  rintro e w2 ⟨rfl, F2⟩
  go_wp2_with fail
  refine (EL _).mono ?_
  rintro e w3 ⟨rfl, F3⟩
  have R3 := F3.keep (F2.keep (F1.keep R0))
  have G3 := ((F0.trans F1 (fun _ h => h.elim)).trans F2 (fun _ h => h.elim)).trans F3 (fun _ h => h.elim)
  clear A0 R0 F0 F1 F2 F3
  go_wp2_with (with_reducible refine wpList_store_row rfl 24 (.tmp 2) (.tmp 6) rfl (w.heap.size + 1) R rfl rfl 24 #[.int .u64 0, .int .u64 0, .int .u64 0, .int .u64 0] R3 sR zR' oneR ?_)
  refine bodyPost_ret (results_cell_row rfl _ _ (w.heap.size + 1) 24 R (0, 0) _ rfl (setRow_heap _ _ _ _ _ _ R3) Try.underlying24 rfl sR) rfl ?_
  exact ⟨rfl, G3.trans (Fr.setRow (S := fun k => k = w.heap.size + 1) (Fr.refl _ _) rfl _) (fun i hi => Or.inr (by omega))⟩
theorem fRest_any (X : Nat) (hX : X < 115792089237316195423570985008687907853269984665640564039457584007913129639936) (w : World) :
    Calls Try.prog 17 #[.agg (nc X)] w fun e w' => e = .returned (.agg (nc (X % p25519))) ∧ Fr (fun _ => False) w w' :=
  frest_op (nc X) (nc (X % p25519)) w (fparts_any X hX) (frest_any X hX) (felem_any _ (mod_p_lt _)) rfl rfl (nc_one _)
end Go.Proofs.Ytnobobdgoccmcaa


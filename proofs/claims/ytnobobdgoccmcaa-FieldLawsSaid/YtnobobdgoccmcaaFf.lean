/-
  The contracts of prime, Sub, Neg of package field.
-/
import Derived.Test.YtnobobdgoccmcaaFe
namespace Go.Proofs.Ytnobobdgoccmcaa
open Go.RowKit Pri
set_option linter.unusedVariables false

theorem Try.allocF : ∀ w, (Instr.alloc 100 true (.tuple #[])).run Try.prog w = .ok (.pointer (some ⟨w.heap.size, 0, none⟩)) (w.alloc (.cells #[.int .u64 0, .int .u64 0, .int .u64 0, .int .u64 0] 100)) := fun w => by kernel_rfl
theorem nc_p : nc p25519 = #[.int .u64 18446744073709551597, .int .u64 18446744073709551615, .int .u64 18446744073709551615, .int .u64 9223372036854775807] := by
  have := nc_of 18446744073709551597 18446744073709551615 18446744073709551615 9223372036854775807 (by decide) (by decide) (by decide) (by decide)
  rw [show nv 18446744073709551597 18446744073709551615 18446744073709551615 9223372036854775807 = p25519 from by decide +kernel] at this
  exact this.symm
set_option maxRecDepth 100000 in
theorem fprime_any (w : World) : Calls Try.prog 83 #[] w fun e w' => e = .returned (.agg (nc p25519)) ∧ Fr (fun _ => False) w w' := by
  rw [nc_p]
  go_enter Try.func83, Try.ntmps83
  go_wp2
  refine bodyPost_ret (results_cell_row rfl _ _ w.heap.size 24 _ (0, 0) _ rfl (heap_alloc_new w _) Try.underlying24 rfl Try.size4e) rfl ?_
  exact ⟨rfl, (Fr.refl _ w).alloc _⟩
set_option maxRecDepth 100000 in
theorem fsmall_any (n : Nat) (hn : n < 18446744073709551616) (w : World) : Calls Try.prog 32 #[.int .u64 (n : Int)] w fun e w' => e = .returned (.agg (nc n)) ∧ Fr (fun _ => False) w w' := by
  rw [nc0_ n hn]
  go_enter Try.func32, Try.ntmps32
  go_wp2
  refine bodyPost_ret (results_cell_row rfl _ _ w.heap.size 24 _ (0, 0) _ rfl (heap_alloc_new w _) Try.underlying24 rfl Try.size4e) rfl ?_
  exact ⟨rfl, (Fr.refl _ w).alloc _⟩
set_option maxRecDepth 100000 in
set_option maxHeartbeats 1600000 in
theorem fsub_op1 (A B A2 B2 D Pm R : Array Value) (c : Int) (w : World)
    (PA : ∀ W : World, Calls Try.prog 78 #[.agg A] W fun e w' => e = .returned (.agg A) ∧ Fr (fun _ => False) W w')
    (PB : ∀ W : World, Calls Try.prog 78 #[.agg B] W fun e w' => e = .returned (.agg B) ∧ Fr (fun _ => False) W w')
    (RA : ∀ W : World, Calls Try.prog 77 #[.agg A] W fun e w' => e = .returned (.agg A2) ∧ Fr (fun _ => False) W w')
    (RB : ∀ W : World, Calls Try.prog 77 #[.agg B] W fun e w' => e = .returned (.agg B2) ∧ Fr (fun _ => False) W w')
    (DI : ∀ W : World, Calls Try.prog 82 #[.agg A2, .agg B2] W fun e w' => e = .returned (.tuple #[.agg D, .int .u64 1]) ∧ Fr (fun _ => False) W w')
    (PM : ∀ W : World, Calls Try.prog 83 #[] W fun e w' => e = .returned (.agg Pm) ∧ Fr (fun _ => False) W w')
    (PP : ∀ W : World, Calls Try.prog 78 #[.agg Pm] W fun e w' => e = .returned (.agg Pm) ∧ Fr (fun _ => False) W w')
    (SU : ∀ W : World, Calls Try.prog 80 #[.agg D, .agg Pm] W fun e w' => e = .returned (.tuple #[.agg R, .int .u64 c]) ∧ Fr (fun _ => False) W w')
    (EL : ∀ W : World, Calls Try.prog 76 #[.agg R] W fun e w' => e = .returned (.agg R) ∧ Fr (fun _ => False) W w')
    (zA : A.size = 4) (zB : B.size = 4) (zR : R.size = 4) (oneR : R.all (·.oneCell') = true) (zD : D.size = 4) (oneD : D.all (·.oneCell') = true) :
    Calls Try.prog 20 #[.agg A, .agg B] w fun e w' => e = .returned (.agg R) ∧ Fr (fun _ => False) w w' := by
  have sA : (Try.prog.info? 24).map (·.size) = some A.size := by rw [zA]; kernel_rfl
  have sB : (Try.prog.info? 24).map (·.size) = some B.size := by rw [zB]; kernel_rfl
  have sR : (Try.prog.info? 24).map (·.size) = some R.size := by rw [zR]; kernel_rfl
  have zR' : (#[.int .u64 0, .int .u64 0, .int .u64 0, .int .u64 0] : Array Value).size = R.size := by rw [zR]; rfl
  have sD : (Try.prog.info? 100).map (·.size) = some D.size := by rw [zD]; kernel_rfl
  have sDe : (Try.prog.info? 24).map (·.size) = some D.size := by rw [zD]; kernel_rfl
  have sRf : (Try.prog.info? 100).map (·.size) = some R.size := by rw [zR]; kernel_rfl
  have zD' : (#[.int .u64 0, .int .u64 0, .int .u64 0, .int .u64 0] : Array Value).size = D.size := by rw [zD]; rfl
  have zDR : D.size = R.size := by rw [zR, zD]
  have HA := Lib.hid ((Below.heap_alloc ((w.alloc (.cells A 24)).alloc (.cells B 24)) (.cells #[.int .u64 0, .int .u64 0, .int .u64 0, .int .u64 0] 24) _ (by simp; omega)).trans (heap_alloc2_old w _ _))
  have HB := Lib.hid ((Below.heap_alloc ((w.alloc (.cells A 24)).alloc (.cells B 24)) (.cells #[.int .u64 0, .int .u64 0, .int .u64 0, .int .u64 0] 24) _ (by simp)).trans (heap_alloc2_new w _ _))
  have HR := Lib.hid (heap_at ((w.alloc (.cells A 24)).alloc (.cells B 24)) #[.int .u64 0, .int .u64 0, .int .u64 0, .int .u64 0] 24 (w.heap.size + 1 + 1) (by simp))
  have HF := Lib.hid (((((Fr.refl (fun _ => False) w).alloc (.cells A 24)).alloc (.cells B 24)).alloc (.cells #[.int .u64 0, .int .u64 0, .int .u64 0, .int .u64 0] 24)))
  clear zA zB zR zD
  go_enter Try.func20, Try.ntmps20
  go_wp2_with fail
  refine wp_region_late 10 [9] [(5, .cells #[.int .u64 0, .int .u64 0, .int .u64 0, .int .u64 0] 100)] (fun _ _ _ _ _ _ h => h) (by kernel_rfl) (by kernel_rfl) (mk_one ⟨_, rfl, makes_alloc _ _ _ _ _ _ Try.allocF⟩) ?_
  apply Exists.intro
  refine ⟨?wk, ?fin⟩
  case wk =>
    intro γ
    simp only [List.take_succ_cons, List.take_zero]
    repeat (any_goals (first | (go_big_quiet_want; (with_reducible refine quiet_load_rowg 24 (.tmp 2) rfl w.heap.size rfl 24 A (0, 0) _ HA.out Try.underlying24 rfl sA ?_); simp only [Act.put, List.setIfInBounds_toArray, List.set_cons_zero, List.set_cons_succ]; go_big_quiet_on) | (go_big_quiet_want; (with_reducible refine quiet_load_rowg 24 (.tmp 3) rfl (w.heap.size + 1) rfl 24 B (0, 0) _ HB.out Try.underlying24 rfl sB ?_); simp only [Act.put, List.setIfInBounds_toArray, List.set_cons_zero, List.set_cons_succ]; go_big_quiet_on) | go_big_quiet_step (((first | (go_at_call 78; with_reducible exact Calls.keepg (PA _)) | (go_at_call 78; with_reducible exact Calls.keepg (PB _)) | (go_at_call 77; with_reducible exact Calls.keepg (RA _)) | (go_at_call 77; with_reducible exact Calls.keepg (RB _)) | (go_at_call 82; with_reducible exact Calls.keepg (DI _))))) | quiet_step (((first | (go_at_call 78; with_reducible exact Calls.keepg (PA _)) | (go_at_call 78; with_reducible exact Calls.keepg (PB _)) | (go_at_call 77; with_reducible exact Calls.keepg (RA _)) | (go_at_call 77; with_reducible exact Calls.keepg (RB _)) | (go_at_call 82; with_reducible exact Calls.keepg (DI _)))))))
    exact wpQuiet_nil rfl
  case fin =>
    intro gs wx hF hg hne
    obtain ⟨l5, h5⟩ := hg 0 _ rfl
    simp only [putAll, List.drop_succ_cons, List.drop_zero, List.length_nil, List.length_cons, Nat.zero_add]
    simp only [Act.put, List.setIfInBounds_toArray, List.set_cons_zero, List.set_cons_succ]
    generalize gs 0 = g at *
    have R1 := hF.keep HR.out
    have G1 := HF.out.trans hF (fun _ h => h.elim)
    have l6 : w.heap.size + 1 + 1 < g := Nat.lt_of_lt_of_le (lt_of_block HR.out) l5
    clear hg hne hF l5
    have D2 := setRow_heap _ _ _ D _ _ h5
    have R2 := (setRow_other wx g (w.heap.size + 1 + 1) D (by omega)).trans R1
    have G2 : Fr (fun _ => False) w (wx.setRow g D) := G1.trans (Fr.setRow (S := fun k => k = g) (Fr.refl _ _) rfl D) (fun i hi => Or.inr (by omega))
    go_wp2_with (first
      | (with_reducible refine wpList_store_row rfl 100 (.tmp 5) (.tmp 15) rfl g D rfl rfl 100 #[.int .u64 0, .int .u64 0, .int .u64 0, .int .u64 0] h5 sD zD' oneD ?_))
    clear h5 R1 G1
    generalize wx.setRow g D = w2 at *
    refine wp_region_late 7 [6] [] (fun _ _ _ _ _ _ h => h) (by kernel_rfl) (by kernel_rfl) mk_nil ?_
    apply Exists.intro
    refine ⟨?wk2, ?fin2⟩
    case wk2 =>
      intro γ
      simp only [List.take_succ_cons, List.take_zero]
      repeat (any_goals (first | (go_big_quiet_want; (with_reducible refine quiet_load_rowg 100 (.tmp 5) rfl g rfl 100 D (0, 0) _ D2 Try.underlying100 rfl sD ?_); simp only [Act.put, List.setIfInBounds_toArray, List.set_cons_zero, List.set_cons_succ]; go_big_quiet_on) | go_big_quiet_step (((first | (go_at_call 83; with_reducible exact Calls.keepg (PM _)) | (go_at_call 78; with_reducible exact Calls.keepg (PP _)) | (go_at_call 80; with_reducible exact Calls.keepg (SU _))))) | quiet_step (((first | (go_at_call 83; with_reducible exact Calls.keepg (PM _)) | (go_at_call 78; with_reducible exact Calls.keepg (PP _)) | (go_at_call 80; with_reducible exact Calls.keepg (SU _)))))))
      exact wpQuiet_nil rfl
    case fin2 =>
      intro gs w3 hF hg hne
      simp only [putAll, List.drop_succ_cons, List.drop_zero, List.length_nil, Nat.add_zero]
      have D3 := hF.keep D2
      have R3 := hF.keep R2
      have G3 := G2.trans hF (fun _ h => h.elim)
      clear hg hne hF D2 R2 G2
      have D4 := setRow_heap _ _ _ R _ _ D3
      have R4 := (setRow_other w3 g (w.heap.size + 1 + 1) R (by omega)).trans R3
      have G4 : Fr (fun _ => False) w (w3.setRow g R) := G3.trans (Fr.setRow (S := fun k => k = g) (Fr.refl _ _) rfl R) (fun i hi => Or.inr (by omega))
      go_wp2_with (first
        | (with_reducible refine wpList_store_row rfl 100 (.tmp 5) (.tmp 24) rfl g R rfl rfl 100 D D3 sRf zDR oneR ?_)
        | (with_reducible refine wpList_load_row rfl 100 (.tmp 5) rfl g rfl 100 R (0, 0) _ D4 Try.underlying100 rfl sRf ?_))
      refine (EL _).mono ?_
      rintro e w5 ⟨rfl, F5⟩
      have R5 := F5.keep R4
      have G5 := G4.trans F5 (fun _ h => h.elim)
      clear D3 R3 G3 D4 R4 G4 F5
      go_wp2_with (with_reducible refine wpList_store_row rfl 24 (.tmp 4) (.tmp 27) rfl (w.heap.size + 1 + 1) R rfl rfl 24 #[.int .u64 0, .int .u64 0, .int .u64 0, .int .u64 0] R5 sR zR' oneR ?_)
      refine bodyPost_ret (results_cell_row rfl _ _ (w.heap.size + 1 + 1) 24 R (0, 0) _ rfl (setRow_heap _ _ _ _ _ _ R5) Try.underlying24 rfl sR) rfl ?_
      exact ⟨rfl, G5.trans (Fr.setRow (S := fun k => k = w.heap.size + 1 + 1) (Fr.refl _ _) rfl _) (fun i hi => Or.inr (by omega))⟩
set_option maxRecDepth 100000 in
set_option maxHeartbeats 1600000 in
theorem fsub_op0 (A B A2 B2 D Pm R : Array Value) (c : Int) (w : World)
    (PA : ∀ W : World, Calls Try.prog 78 #[.agg A] W fun e w' => e = .returned (.agg A) ∧ Fr (fun _ => False) W w')
    (PB : ∀ W : World, Calls Try.prog 78 #[.agg B] W fun e w' => e = .returned (.agg B) ∧ Fr (fun _ => False) W w')
    (RA : ∀ W : World, Calls Try.prog 77 #[.agg A] W fun e w' => e = .returned (.agg A2) ∧ Fr (fun _ => False) W w')
    (RB : ∀ W : World, Calls Try.prog 77 #[.agg B] W fun e w' => e = .returned (.agg B2) ∧ Fr (fun _ => False) W w')
    (DI : ∀ W : World, Calls Try.prog 82 #[.agg A2, .agg B2] W fun e w' => e = .returned (.tuple #[.agg D, .int .u64 0]) ∧ Fr (fun _ => False) W w')
    (EL : ∀ W : World, Calls Try.prog 76 #[.agg D] W fun e w' => e = .returned (.agg D) ∧ Fr (fun _ => False) W w')
    (zA : A.size = 4) (zB : B.size = 4) (zR : R.size = 4) (oneR : R.all (·.oneCell') = true) (zD : D.size = 4) (oneD : D.all (·.oneCell') = true) :
    Calls Try.prog 20 #[.agg A, .agg B] w fun e w' => e = .returned (.agg D) ∧ Fr (fun _ => False) w w' := by
  have sA : (Try.prog.info? 24).map (·.size) = some A.size := by rw [zA]; kernel_rfl
  have sB : (Try.prog.info? 24).map (·.size) = some B.size := by rw [zB]; kernel_rfl
  have sR : (Try.prog.info? 24).map (·.size) = some R.size := by rw [zR]; kernel_rfl
  have zR' : (#[.int .u64 0, .int .u64 0, .int .u64 0, .int .u64 0] : Array Value).size = R.size := by rw [zR]; rfl
  have sD : (Try.prog.info? 100).map (·.size) = some D.size := by rw [zD]; kernel_rfl
  have sDe : (Try.prog.info? 24).map (·.size) = some D.size := by rw [zD]; kernel_rfl
  have sRf : (Try.prog.info? 100).map (·.size) = some R.size := by rw [zR]; kernel_rfl
  have zD' : (#[.int .u64 0, .int .u64 0, .int .u64 0, .int .u64 0] : Array Value).size = D.size := by rw [zD]; rfl
  have zDR : D.size = R.size := by rw [zR, zD]
  have HA := Lib.hid ((Below.heap_alloc ((w.alloc (.cells A 24)).alloc (.cells B 24)) (.cells #[.int .u64 0, .int .u64 0, .int .u64 0, .int .u64 0] 24) _ (by simp; omega)).trans (heap_alloc2_old w _ _))
  have HB := Lib.hid ((Below.heap_alloc ((w.alloc (.cells A 24)).alloc (.cells B 24)) (.cells #[.int .u64 0, .int .u64 0, .int .u64 0, .int .u64 0] 24) _ (by simp)).trans (heap_alloc2_new w _ _))
  have HR := Lib.hid (heap_at ((w.alloc (.cells A 24)).alloc (.cells B 24)) #[.int .u64 0, .int .u64 0, .int .u64 0, .int .u64 0] 24 (w.heap.size + 1 + 1) (by simp))
  have HF := Lib.hid (((((Fr.refl (fun _ => False) w).alloc (.cells A 24)).alloc (.cells B 24)).alloc (.cells #[.int .u64 0, .int .u64 0, .int .u64 0, .int .u64 0] 24)))
  clear zA zB zR zD
  go_enter Try.func20, Try.ntmps20
  go_wp2_with fail
  refine wp_region_late 10 [9] [(5, .cells #[.int .u64 0, .int .u64 0, .int .u64 0, .int .u64 0] 100)] (fun _ _ _ _ _ _ h => h) (by kernel_rfl) (by kernel_rfl) (mk_one ⟨_, rfl, makes_alloc _ _ _ _ _ _ Try.allocF⟩) ?_
  apply Exists.intro
  refine ⟨?wk, ?fin⟩
  case wk =>
    intro γ
    simp only [List.take_succ_cons, List.take_zero]
    repeat (any_goals (first | (go_big_quiet_want; (with_reducible refine quiet_load_rowg 24 (.tmp 2) rfl w.heap.size rfl 24 A (0, 0) _ HA.out Try.underlying24 rfl sA ?_); simp only [Act.put, List.setIfInBounds_toArray, List.set_cons_zero, List.set_cons_succ]; go_big_quiet_on) | (go_big_quiet_want; (with_reducible refine quiet_load_rowg 24 (.tmp 3) rfl (w.heap.size + 1) rfl 24 B (0, 0) _ HB.out Try.underlying24 rfl sB ?_); simp only [Act.put, List.setIfInBounds_toArray, List.set_cons_zero, List.set_cons_succ]; go_big_quiet_on) | go_big_quiet_step (((first | (go_at_call 78; with_reducible exact Calls.keepg (PA _)) | (go_at_call 78; with_reducible exact Calls.keepg (PB _)) | (go_at_call 77; with_reducible exact Calls.keepg (RA _)) | (go_at_call 77; with_reducible exact Calls.keepg (RB _)) | (go_at_call 82; with_reducible exact Calls.keepg (DI _))))) | quiet_step (((first | (go_at_call 78; with_reducible exact Calls.keepg (PA _)) | (go_at_call 78; with_reducible exact Calls.keepg (PB _)) | (go_at_call 77; with_reducible exact Calls.keepg (RA _)) | (go_at_call 77; with_reducible exact Calls.keepg (RB _)) | (go_at_call 82; with_reducible exact Calls.keepg (DI _)))))))
    exact wpQuiet_nil rfl
  case fin =>
    intro gs wx hF hg hne
    obtain ⟨l5, h5⟩ := hg 0 _ rfl
    simp only [putAll, List.drop_succ_cons, List.drop_zero, List.length_nil, List.length_cons, Nat.zero_add]
    simp only [Act.put, List.setIfInBounds_toArray, List.set_cons_zero, List.set_cons_succ]
    generalize gs 0 = g at *
    have R1 := hF.keep HR.out
    have G1 := HF.out.trans hF (fun _ h => h.elim)
    have l6 : w.heap.size + 1 + 1 < g := Nat.lt_of_lt_of_le (lt_of_block HR.out) l5
    clear hg hne hF l5
    have D2 := setRow_heap _ _ _ D _ _ h5
    have R2 := (setRow_other wx g (w.heap.size + 1 + 1) D (by omega)).trans R1
    have G2 : Fr (fun _ => False) w (wx.setRow g D) := G1.trans (Fr.setRow (S := fun k => k = g) (Fr.refl _ _) rfl D) (fun i hi => Or.inr (by omega))
    go_wp2_with (first
      | (with_reducible refine wpList_store_row rfl 100 (.tmp 5) (.tmp 15) rfl g D rfl rfl 100 #[.int .u64 0, .int .u64 0, .int .u64 0, .int .u64 0] h5 sD zD' oneD ?_)
      | (with_reducible refine wpList_load_row rfl 100 (.tmp 5) rfl g rfl 100 D (0, 0) _ D2 Try.underlying100 rfl sD ?_))
    clear h5 R1 G1
    generalize wx.setRow g D = w2 at *
    refine (EL _).mono ?_
    rintro e w5 ⟨rfl, F5⟩
    have R5 := F5.keep R2
    have G5 := G2.trans F5 (fun _ h => h.elim)
    clear D2 R2 G2 F5
    go_wp2_with (with_reducible refine wpList_store_row rfl 24 (.tmp 4) (.tmp 27) rfl (w.heap.size + 1 + 1) D rfl rfl 24 #[.int .u64 0, .int .u64 0, .int .u64 0, .int .u64 0] R5 sDe zD' oneD ?_)
    refine bodyPost_ret (results_cell_row rfl _ _ (w.heap.size + 1 + 1) 24 D (0, 0) _ rfl (setRow_heap _ _ _ _ _ _ R5) Try.underlying24 rfl sDe) rfl ?_
    exact ⟨rfl, G5.trans (Fr.setRow (S := fun k => k = w.heap.size + 1 + 1) (Fr.refl _ _) rfl _) (fun i hi => Or.inr (by omega))⟩

theorem sub_num (x y : Nat) (hx : x < p25519) (hy : y < p25519) : (x < y → ((x + 115792089237316195423570985008687907853269984665640564039457584007913129639936 - y) % 115792089237316195423570985008687907853269984665640564039457584007913129639936 + p25519) % 115792089237316195423570985008687907853269984665640564039457584007913129639936 = (x + (p25519 - y)) % p25519) ∧ (¬ x < y → (x + 115792089237316195423570985008687907853269984665640564039457584007913129639936 - y) % 115792089237316195423570985008687907853269984665640564039457584007913129639936 = (x + (p25519 - y)) % p25519) := by
  rw [P_val] at *
  refine ⟨fun h => by omega, fun h => by omega⟩
theorem p_lt : p25519 < 115792089237316195423570985008687907853269984665640564039457584007913129639936 := by decide +kernel
theorem fsub_any (X Y : Nat) (hX : X < 115792089237316195423570985008687907853269984665640564039457584007913129639936) (hY : Y < 115792089237316195423570985008687907853269984665640564039457584007913129639936) (w : World) :
    Calls Try.prog 20 #[.agg (nc X), .agg (nc Y)] w fun e w' => e = .returned (.agg (nc ((X % p25519 + (p25519 - Y % p25519)) % p25519))) ∧ Fr (fun _ => False) w w' := by
  obtain ⟨h1, h2⟩ := sub_num (X % p25519) (Y % p25519) (Nat.mod_lt _ p_pos) (Nat.mod_lt _ p_pos)
  have DI := fun W => fdiff_any (X % p25519) (Y % p25519) (mod_p_lt X) (mod_p_lt Y) W
  have hD : (X % p25519 + 115792089237316195423570985008687907853269984665640564039457584007913129639936 - Y % p25519) % 115792089237316195423570985008687907853269984665640564039457584007913129639936 < 115792089237316195423570985008687907853269984665640564039457584007913129639936 := Nat.mod_lt _ (by decide)
  by_cases c : X % p25519 < Y % p25519
  · simp only [if_pos c] at DI
    rw [← h1 c]
    exact fsub_op1 (nc X) (nc Y) (nc (X % p25519)) (nc (Y % p25519)) (nc ((X % p25519 + 115792089237316195423570985008687907853269984665640564039457584007913129639936 - Y % p25519) % 115792089237316195423570985008687907853269984665640564039457584007913129639936)) (nc p25519) _ _ w (fparts_any X hX) (fparts_any Y hY) (frest_any X hX) (frest_any Y hY) DI fprime_any (fparts_any _ p_lt)
      (fsum_any _ _ hD p_lt) (felem_any _ (Nat.mod_lt _ (by decide))) rfl rfl rfl (nc_one _) rfl (nc_one _)
  · simp only [if_neg c] at DI
    rw [← h2 c]
    exact fsub_op0 (nc X) (nc Y) (nc (X % p25519)) (nc (Y % p25519)) (nc ((X % p25519 + 115792089237316195423570985008687907853269984665640564039457584007913129639936 - Y % p25519) % 115792089237316195423570985008687907853269984665640564039457584007913129639936)) (nc 0) (nc 0) 0 w (fparts_any X hX) (fparts_any Y hY) (frest_any X hX) (frest_any Y hY) DI
      (felem_any _ hD) rfl rfl rfl (nc_one _) rfl (nc_one _)
set_option maxRecDepth 100000 in
theorem fneg_op (A R : Array Value) (w : World)
    (SB : ∀ W : World, Calls Try.prog 20 #[.agg #[.int .u64 0, .int .u64 0, .int .u64 0, .int .u64 0], .agg A] W fun e w' => e = .returned (.agg R) ∧ Fr (fun _ => False) W w')
    (zA : A.size = 4) (zR : R.size = 4) (oneR : R.all (·.oneCell') = true) :
    Calls Try.prog 24 #[.agg A] w fun e w' => e = .returned (.agg R) ∧ Fr (fun _ => False) w w' := by
  have sA : (Try.prog.info? 24).map (·.size) = some A.size := by rw [zA]; kernel_rfl
  have sR : (Try.prog.info? 24).map (·.size) = some R.size := by rw [zR]; kernel_rfl
  have zR' : (#[.int .u64 0, .int .u64 0, .int .u64 0, .int .u64 0] : Array Value).size = R.size := by rw [zR]; rfl
  have A0 := heap_alloc2_old w (.cells A 24) (.cells #[.int .u64 0, .int .u64 0, .int .u64 0, .int .u64 0] 24)
  have R0 := heap_alloc2_new w (.cells A 24) (.cells #[.int .u64 0, .int .u64 0, .int .u64 0, .int .u64 0] 24)
  have F0 := (((Fr.refl (fun _ => False) w).alloc (.cells A 24)).alloc (.cells #[.int .u64 0, .int .u64 0, .int .u64 0, .int .u64 0] 24))
  clear zA zR
  go_enter Try.func24, Try.ntmps24
  go_wp2_with (with_reducible refine wpList_load_row rfl 24 (.tmp 1) rfl w.heap.size rfl 24 A (0, 0) _ A0 Try.underlying24 rfl sA ?_)
  refine (SB _).mono ?_
  rintro e w1 ⟨rfl, F1⟩
  have R3 := F1.keep R0
  have G3 := F0.trans F1 (fun _ h => h.elim)
  clear A0 R0 F0 F1
  go_wp2_with (with_reducible refine wpList_store_row rfl 24 (.tmp 2) (.tmp 5) rfl (w.heap.size + 1) R rfl rfl 24 #[.int .u64 0, .int .u64 0, .int .u64 0, .int .u64 0] R3 sR zR' oneR ?_)
  refine bodyPost_ret (results_cell_row rfl _ _ (w.heap.size + 1) 24 R (0, 0) _ rfl (setRow_heap _ _ _ _ _ _ R3) Try.underlying24 rfl sR) rfl ?_
  exact ⟨rfl, G3.trans (Fr.setRow (S := fun k => k = w.heap.size + 1) (Fr.refl _ _) rfl _) (fun i hi => Or.inr (by omega))⟩
theorem fneg_any (X : Nat) (hX : X < 115792089237316195423570985008687907853269984665640564039457584007913129639936) (w : World) :
    Calls Try.prog 24 #[.agg (nc X)] w fun e w' => e = .returned (.agg (nc ((p25519 - X % p25519) % p25519))) ∧ Fr (fun _ => False) w w' := by
  have SB := fun W => fsub_any 0 X (by decide) hX W
  rw [Nat.zero_mod, Nat.zero_add] at SB
  exact fneg_op (nc X) _ w SB rfl rfl (nc_one _)
end Go.Proofs.Ytnobobdgoccmcaa


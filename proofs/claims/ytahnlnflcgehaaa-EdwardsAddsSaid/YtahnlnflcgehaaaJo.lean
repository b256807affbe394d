/-
  The contract of Decode of package edwards, over what its callees answer: each way.
-/
import Derived.Test.YtahnlnflcgehaaaJn
namespace Go.Proofs.Ytahnlnflcgehaaa
open Go.RowKit Pri
set_option linter.unusedVariables false
set_option linter.unusedSimpArgs false

theorem Try.guardBa : Try.prog.eqGuardType Try.prog.depth 36 = false := by kernel_rfl
set_option maxRecDepth 100000 in
set_option maxHeartbeats 3200000 in
theorem dec_bad0 (z v : Nat) (B BC Y CB X N R : Array Value) (w : World)
    (OF : Ans Try.prog 29 #[.agg BC] (.agg Y))
    (BY : Ans Try.prog 28 #[.agg Y] (.agg CB))
    (h31 : B[31]? = some (.int .u8 (z : Int))) (ha : bits .and .u8 (z : Int) 128 = 0) (hn : bits .andNot .u8 (z : Int) 128 = (v : Int)) (hB : B.setIfInBounds 31 (.int .u8 (v : Int)) = BC) (E0 : ∀ W : World, (binOp .neq 36 (.agg CB) (.agg BC)).run Try.prog W = .ok (.bool true) W)
    (sB : Sz 32 B) (sBC : Sz 32 BC) (sY : Sz 4 Y) (sX : Sz 4 X) (sN : Sz 4 N) (sR : Sz 8 R) :
    Calls Try.prog 70 #[.agg B] w fun e w' => e = .returned (.tuple #[.agg #[.int .u64 0, .int .u64 0, .int .u64 0, .int .u64 0, .int .u64 0, .int .u64 0, .int .u64 0, .int .u64 0], .int .i64 15]) ∧ Fr (fun _ => False) w w' := by
  have HSB := Lib.hid hB
  have i31 : 31 < 32 := by omega
  have s0 : Sz 8 #[.int .u64 0, .int .u64 0, .int .u64 0, .int .u64 0, .int .u64 0, .int .u64 0, .int .u64 0, .int .u64 0] := ⟨rfl, by simp [Value.oneCell']⟩
  have EG := Try.guardBa
  clear hB
  have K := (((Kn.start w).new (w.heap.size) 32 B 36 rfl sB.1).new (w.heap.size + 1) 8 #[.int .u64 0, .int .u64 0, .int .u64 0, .int .u64 0, .int .u64 0, .int .u64 0, .int .u64 0, .int .u64 0] 72 (by simp) rfl)
  go_enter Try.func70, Try.ntmps70
  have c0 := K.cell 1 rfl 31 h31
  go_wp2_with (first
      | (focus ((with_reducible refine' wpList_store1_kn K rfl 5 _ _ rfl 1 _ _ 31 _ _ .u8 (v : Int) rfl rfl Try.iU8 _ i31 _); rotate_left 2; (focus exact rfl); intro wz Kz; clear K; have K := Kz; clear Kz; simp only [List.set_cons_zero, List.set_cons_succ] at K; rw [HSB.out] at K; try (simp only [Act.put, List.setIfInBounds_toArray, List.set_cons_zero, List.set_cons_succ])))
      | (focus (first | ((with_reducible refine' wpList_load_kn K rfl 36 (.tmp 1) rfl 1 _ _ _ _ rfl _ Try.underlying36 rfl Try.szBa _ _); rotate_left 2; (focus exact rfl))))
      | (focus ((first | ((with_reducible refine' wpList_store_kn K rfl 24 (.tmp 5) _ rfl 0 _ _ _ _ _ rfl rfl Try.szEl _ _ _); rotate_left 2; (focus exact rfl))); (focus assumption); intro wz Kz; clear K; have K := Kz; clear Kz; simp only [List.set_cons_zero, List.set_cons_succ] at K; try (simp only [Act.put, List.setIfInBounds_toArray, List.set_cons_zero, List.set_cons_succ])))
      | ((with_reducible refine wpList_new_kn K 24 _ _ _ _ #[.int .u64 0, .int .u64 0, .int .u64 0, .int .u64 0] 4 rfl Try.alEl rfl ?_); intro gz wz Kz; clear K; have K := Kz; clear Kz; try (simp only [Act.put, List.setIfInBounds_toArray, List.set_cons_zero, List.set_cons_succ]))
      | (go_at_call 29; (with_reducible refine Calls.kn K (OF _) ?_); intro wz Kz; clear K; have K := Kz; clear Kz))
  refine wp_region_keep (by kernel_rfl) (by kernel_rfl) ?_
  repeat (any_goals (first | (focus (go_big_quiet_want; (first | ((with_reducible refine' quiet_load_kn K 24 (.tmp 5) rfl 0 _ _ _ _ rfl _ Try.underlying24 rfl Try.szEl _ _); rotate_left 2; (focus exact rfl)) | ((with_reducible refine' quiet_load_kn K 36 (.tmp 1) rfl 2 _ _ _ _ rfl _ Try.underlying36 rfl Try.szBa _ _); rotate_left 2; (focus exact rfl))); simp only [Act.put, List.setIfInBounds_toArray, List.set_cons_zero, List.set_cons_succ]; go_big_quiet_on)) | go_big_quiet_step ((first | (go_at_call 28; with_reducible exact Calls.keep (BY _)))) | quiet_step ((first | (go_at_call 28; with_reducible exact Calls.keep (BY _))))))
  refine wpQuiet_nil ?_
  intro _ hwz
  obtain ⟨y, rfl⟩ := hwz
  have Kz := K.call y.h
  clear K c0
  have K := Kz
  clear Kz
  generalize y.w = wz at K ⊢
  clear y
  go_wp2_with (first
      | (focus ((first | ((with_reducible refine' wpList_store_kn K rfl 72 (.tmp 2) _ rfl 1 _ _ _ _ _ rfl rfl Try.szPt _ _ _); rotate_left 2; (focus exact rfl))); (focus assumption); intro wz Kz; clear K; have K := Kz; clear Kz; simp only [List.set_cons_zero, List.set_cons_succ] at K; try (simp only [Act.put, List.setIfInBounds_toArray, List.set_cons_zero, List.set_cons_succ]))))
  refine bodyPost_ret (results_kn_tmp K rfl _ 1 _ _ _ _ rfl _ Try.underlying72 rfl Try.szPt rfl) rfl ?_
  exact ⟨rfl, K.fr⟩
set_option maxRecDepth 100000 in
set_option maxHeartbeats 3200000 in
theorem dec_none0 (z v : Nat) (B BC Y CB X N R : Array Value) (w : World)
    (OF : Ans Try.prog 29 #[.agg BC] (.agg Y))
    (BY : Ans Try.prog 28 #[.agg Y] (.agg CB))
    (AC : Ans Try.prog 105 #[.agg Y] (.tuple #[.agg X, .bool false]))
    (h31 : B[31]? = some (.int .u8 (z : Int))) (ha : bits .and .u8 (z : Int) 128 = 0) (hn : bits .andNot .u8 (z : Int) 128 = (v : Int)) (hB : B.setIfInBounds 31 (.int .u8 (v : Int)) = BC) (E0 : ∀ W : World, (binOp .neq 36 (.agg CB) (.agg BC)).run Try.prog W = .ok (.bool false) W)
    (sB : Sz 32 B) (sBC : Sz 32 BC) (sY : Sz 4 Y) (sX : Sz 4 X) (sN : Sz 4 N) (sR : Sz 8 R) :
    Calls Try.prog 70 #[.agg B] w fun e w' => e = .returned (.tuple #[.agg #[.int .u64 0, .int .u64 0, .int .u64 0, .int .u64 0, .int .u64 0, .int .u64 0, .int .u64 0, .int .u64 0], .int .i64 15]) ∧ Fr (fun _ => False) w w' := by
  have HSB := Lib.hid hB
  have i31 : 31 < 32 := by omega
  have s0 : Sz 8 #[.int .u64 0, .int .u64 0, .int .u64 0, .int .u64 0, .int .u64 0, .int .u64 0, .int .u64 0, .int .u64 0] := ⟨rfl, by simp [Value.oneCell']⟩
  have EG := Try.guardBa
  clear hB
  have K := (((Kn.start w).new (w.heap.size) 32 B 36 rfl sB.1).new (w.heap.size + 1) 8 #[.int .u64 0, .int .u64 0, .int .u64 0, .int .u64 0, .int .u64 0, .int .u64 0, .int .u64 0, .int .u64 0] 72 (by simp) rfl)
  go_enter Try.func70, Try.ntmps70
  have c0 := K.cell 1 rfl 31 h31
  go_wp2_with (first
      | (focus ((with_reducible refine' wpList_store1_kn K rfl 5 _ _ rfl 1 _ _ 31 _ _ .u8 (v : Int) rfl rfl Try.iU8 _ i31 _); rotate_left 2; (focus exact rfl); intro wz Kz; clear K; have K := Kz; clear Kz; simp only [List.set_cons_zero, List.set_cons_succ] at K; rw [HSB.out] at K; try (simp only [Act.put, List.setIfInBounds_toArray, List.set_cons_zero, List.set_cons_succ])))
      | (focus (first | ((with_reducible refine' wpList_load_kn K rfl 36 (.tmp 1) rfl 1 _ _ _ _ rfl _ Try.underlying36 rfl Try.szBa _ _); rotate_left 2; (focus exact rfl))))
      | (focus ((first | ((with_reducible refine' wpList_store_kn K rfl 24 (.tmp 5) _ rfl 0 _ _ _ _ _ rfl rfl Try.szEl _ _ _); rotate_left 2; (focus exact rfl))); (focus assumption); intro wz Kz; clear K; have K := Kz; clear Kz; simp only [List.set_cons_zero, List.set_cons_succ] at K; try (simp only [Act.put, List.setIfInBounds_toArray, List.set_cons_zero, List.set_cons_succ])))
      | ((with_reducible refine wpList_new_kn K 24 _ _ _ _ #[.int .u64 0, .int .u64 0, .int .u64 0, .int .u64 0] 4 rfl Try.alEl rfl ?_); intro gz wz Kz; clear K; have K := Kz; clear Kz; try (simp only [Act.put, List.setIfInBounds_toArray, List.set_cons_zero, List.set_cons_succ]))
      | (go_at_call 29; (with_reducible refine Calls.kn K (OF _) ?_); intro wz Kz; clear K; have K := Kz; clear Kz))
  refine wp_region_keep (by kernel_rfl) (by kernel_rfl) ?_
  repeat (any_goals (first | (focus (go_big_quiet_want; (first | ((with_reducible refine' quiet_load_kn K 24 (.tmp 5) rfl 0 _ _ _ _ rfl _ Try.underlying24 rfl Try.szEl _ _); rotate_left 2; (focus exact rfl)) | ((with_reducible refine' quiet_load_kn K 36 (.tmp 1) rfl 2 _ _ _ _ rfl _ Try.underlying36 rfl Try.szBa _ _); rotate_left 2; (focus exact rfl))); simp only [Act.put, List.setIfInBounds_toArray, List.set_cons_zero, List.set_cons_succ]; go_big_quiet_on)) | go_big_quiet_step ((first | (go_at_call 28; with_reducible exact Calls.keep (BY _)))) | quiet_step ((first | (go_at_call 28; with_reducible exact Calls.keep (BY _))))))
  refine wpQuiet_nil ?_
  intro _ hwz
  obtain ⟨y, rfl⟩ := hwz
  have Kz := K.call y.h
  clear K c0
  have K := Kz
  clear Kz
  generalize y.w = wz at K ⊢
  clear y
  go_wp2_with (first
      | (focus (first | ((with_reducible refine' wpList_load_kn K rfl 24 (.tmp 5) rfl 0 _ _ _ _ rfl _ Try.underlying24 rfl Try.szEl _ _); rotate_left 2; (focus exact rfl)) | ((with_reducible refine' wpList_load_kn K rfl 24 (.tmp 6) rfl 0 _ _ _ _ rfl _ Try.underlying24 rfl Try.szEl _ _); rotate_left 2; (focus exact rfl)) | ((with_reducible refine' wpList_load_kn K rfl 24 (.tmp 5) rfl 1 _ _ _ _ rfl _ Try.underlying24 rfl Try.szEl _ _); rotate_left 2; (focus exact rfl))))
      | (focus ((first | ((with_reducible refine' wpList_store_kn K rfl 24 (.tmp 6) _ rfl 0 _ _ _ _ _ rfl rfl Try.szEl _ _ _); rotate_left 2; (focus exact rfl)) | ((with_reducible refine' wpList_store_kn K rfl 72 (.tmp 2) _ rfl 2 _ _ _ _ _ rfl rfl Try.szPt _ _ _); rotate_left 2; (focus exact rfl))); (focus assumption); intro wz Kz; clear K; have K := Kz; clear Kz; simp only [List.set_cons_zero, List.set_cons_succ] at K; try (simp only [Act.put, List.setIfInBounds_toArray, List.set_cons_zero, List.set_cons_succ])))
      | ((with_reducible refine wpList_new_kn K 24 _ _ _ _ #[.int .u64 0, .int .u64 0, .int .u64 0, .int .u64 0] 4 rfl Try.alEl rfl ?_); intro gz wz Kz; clear K; have K := Kz; clear Kz; try (simp only [Act.put, List.setIfInBounds_toArray, List.set_cons_zero, List.set_cons_succ]))
      | (go_at_call 105; (with_reducible refine Calls.kn K (AC _) ?_); intro wz Kz; clear K; have K := Kz; clear Kz))
  refine bodyPost_ret (results_kn_tmp K rfl _ 2 _ _ _ _ rfl _ Try.underlying72 rfl Try.szPt rfl) rfl ?_
  exact ⟨rfl, K.fr⟩
set_option maxRecDepth 100000 in
set_option maxHeartbeats 3200000 in
theorem dec_keep0 (z v : Nat) (B BC Y CB X N R : Array Value) (w : World)
    (OF : Ans Try.prog 29 #[.agg BC] (.agg Y))
    (BY : Ans Try.prog 28 #[.agg Y] (.agg CB))
    (AC : Ans Try.prog 105 #[.agg Y] (.tuple #[.agg X, .bool true]))
    (OX : Ans Try.prog 27 #[.agg X] (.bool false))
    (PA : Ans Try.prog 106 #[.agg X, .agg Y] (.agg R))
    (h31 : B[31]? = some (.int .u8 (z : Int))) (ha : bits .and .u8 (z : Int) 128 = 0) (hn : bits .andNot .u8 (z : Int) 128 = (v : Int)) (hB : B.setIfInBounds 31 (.int .u8 (v : Int)) = BC) (E0 : ∀ W : World, (binOp .neq 36 (.agg CB) (.agg BC)).run Try.prog W = .ok (.bool false) W)
    (sB : Sz 32 B) (sBC : Sz 32 BC) (sY : Sz 4 Y) (sX : Sz 4 X) (sN : Sz 4 N) (sR : Sz 8 R) :
    Calls Try.prog 70 #[.agg B] w fun e w' => e = .returned (.tuple #[.agg R, .int .i64 0]) ∧ Fr (fun _ => False) w w' := by
  have HSB := Lib.hid hB
  have i31 : 31 < 32 := by omega
  have s0 : Sz 8 #[.int .u64 0, .int .u64 0, .int .u64 0, .int .u64 0, .int .u64 0, .int .u64 0, .int .u64 0, .int .u64 0] := ⟨rfl, by simp [Value.oneCell']⟩
  have EG := Try.guardBa
  clear hB
  have K := (((Kn.start w).new (w.heap.size) 32 B 36 rfl sB.1).new (w.heap.size + 1) 8 #[.int .u64 0, .int .u64 0, .int .u64 0, .int .u64 0, .int .u64 0, .int .u64 0, .int .u64 0, .int .u64 0] 72 (by simp) rfl)
  go_enter Try.func70, Try.ntmps70
  have c0 := K.cell 1 rfl 31 h31
  go_wp2_with (first
      | (focus ((with_reducible refine' wpList_store1_kn K rfl 5 _ _ rfl 1 _ _ 31 _ _ .u8 (v : Int) rfl rfl Try.iU8 _ i31 _); rotate_left 2; (focus exact rfl); intro wz Kz; clear K; have K := Kz; clear Kz; simp only [List.set_cons_zero, List.set_cons_succ] at K; rw [HSB.out] at K; try (simp only [Act.put, List.setIfInBounds_toArray, List.set_cons_zero, List.set_cons_succ])))
      | (focus (first | ((with_reducible refine' wpList_load_kn K rfl 36 (.tmp 1) rfl 1 _ _ _ _ rfl _ Try.underlying36 rfl Try.szBa _ _); rotate_left 2; (focus exact rfl))))
      | (focus ((first | ((with_reducible refine' wpList_store_kn K rfl 24 (.tmp 5) _ rfl 0 _ _ _ _ _ rfl rfl Try.szEl _ _ _); rotate_left 2; (focus exact rfl))); (focus assumption); intro wz Kz; clear K; have K := Kz; clear Kz; simp only [List.set_cons_zero, List.set_cons_succ] at K; try (simp only [Act.put, List.setIfInBounds_toArray, List.set_cons_zero, List.set_cons_succ])))
      | ((with_reducible refine wpList_new_kn K 24 _ _ _ _ #[.int .u64 0, .int .u64 0, .int .u64 0, .int .u64 0] 4 rfl Try.alEl rfl ?_); intro gz wz Kz; clear K; have K := Kz; clear Kz; try (simp only [Act.put, List.setIfInBounds_toArray, List.set_cons_zero, List.set_cons_succ]))
      | (go_at_call 29; (with_reducible refine Calls.kn K (OF _) ?_); intro wz Kz; clear K; have K := Kz; clear Kz))
  refine wp_region_keep (by kernel_rfl) (by kernel_rfl) ?_
  repeat (any_goals (first | (focus (go_big_quiet_want; (first | ((with_reducible refine' quiet_load_kn K 24 (.tmp 5) rfl 0 _ _ _ _ rfl _ Try.underlying24 rfl Try.szEl _ _); rotate_left 2; (focus exact rfl)) | ((with_reducible refine' quiet_load_kn K 36 (.tmp 1) rfl 2 _ _ _ _ rfl _ Try.underlying36 rfl Try.szBa _ _); rotate_left 2; (focus exact rfl))); simp only [Act.put, List.setIfInBounds_toArray, List.set_cons_zero, List.set_cons_succ]; go_big_quiet_on)) | go_big_quiet_step ((first | (go_at_call 28; with_reducible exact Calls.keep (BY _)))) | quiet_step ((first | (go_at_call 28; with_reducible exact Calls.keep (BY _))))))
  refine wpQuiet_nil ?_
  intro _ hwz
  obtain ⟨y, rfl⟩ := hwz
  have Kz := K.call y.h
  clear K c0
  have K := Kz
  clear Kz
  generalize y.w = wz at K ⊢
  clear y
  go_wp2_with (first
      | (focus (first | ((with_reducible refine' wpList_load_kn K rfl 24 (.tmp 5) rfl 0 _ _ _ _ rfl _ Try.underlying24 rfl Try.szEl _ _); rotate_left 2; (focus exact rfl)) | ((with_reducible refine' wpList_load_kn K rfl 24 (.tmp 6) rfl 0 _ _ _ _ rfl _ Try.underlying24 rfl Try.szEl _ _); rotate_left 2; (focus exact rfl)) | ((with_reducible refine' wpList_load_kn K rfl 24 (.tmp 5) rfl 1 _ _ _ _ rfl _ Try.underlying24 rfl Try.szEl _ _); rotate_left 2; (focus exact rfl))))
      | (focus ((first | ((with_reducible refine' wpList_store_kn K rfl 24 (.tmp 6) _ rfl 0 _ _ _ _ _ rfl rfl Try.szEl _ _ _); rotate_left 2; (focus exact rfl)) | ((with_reducible refine' wpList_store_kn K rfl 72 (.tmp 2) _ rfl 2 _ _ _ _ _ rfl rfl Try.szPt _ _ _); rotate_left 2; (focus exact rfl))); (focus assumption); intro wz Kz; clear K; have K := Kz; clear Kz; simp only [List.set_cons_zero, List.set_cons_succ] at K; try (simp only [Act.put, List.setIfInBounds_toArray, List.set_cons_zero, List.set_cons_succ])))
      | ((with_reducible refine wpList_new_kn K 24 _ _ _ _ #[.int .u64 0, .int .u64 0, .int .u64 0, .int .u64 0] 4 rfl Try.alEl rfl ?_); intro gz wz Kz; clear K; have K := Kz; clear Kz; try (simp only [Act.put, List.setIfInBounds_toArray, List.set_cons_zero, List.set_cons_succ]))
      | (go_at_call 105; (with_reducible refine Calls.kn K (AC _) ?_); intro wz Kz; clear K; have K := Kz; clear Kz)
      | (go_at_call 27; (with_reducible refine Calls.kn K (OX _) ?_); intro wz Kz; clear K; have K := Kz; clear Kz)
      | (go_at_call 106; (with_reducible refine Calls.kn K (PA _) ?_); intro wz Kz; clear K; have K := Kz; clear Kz))
  refine bodyPost_ret (results_kn_tmp K rfl _ 2 _ _ _ _ rfl _ Try.underlying72 rfl Try.szPt rfl) rfl ?_
  exact ⟨rfl, K.fr⟩
set_option maxRecDepth 100000 in
set_option maxHeartbeats 3200000 in
theorem dec_neg0 (z v : Nat) (B BC Y CB X N R : Array Value) (w : World)
    (OF : Ans Try.prog 29 #[.agg BC] (.agg Y))
    (BY : Ans Try.prog 28 #[.agg Y] (.agg CB))
    (AC : Ans Try.prog 105 #[.agg Y] (.tuple #[.agg X, .bool true]))
    (OX : Ans Try.prog 27 #[.agg X] (.bool true))
    (NE : Ans Try.prog 24 #[.agg X] (.agg N))
    (ON : Ans Try.prog 27 #[.agg N] (.bool false))
    (PA : Ans Try.prog 106 #[.agg N, .agg Y] (.agg R))
    (h31 : B[31]? = some (.int .u8 (z : Int))) (ha : bits .and .u8 (z : Int) 128 = 0) (hn : bits .andNot .u8 (z : Int) 128 = (v : Int)) (hB : B.setIfInBounds 31 (.int .u8 (v : Int)) = BC) (E0 : ∀ W : World, (binOp .neq 36 (.agg CB) (.agg BC)).run Try.prog W = .ok (.bool false) W)
    (sB : Sz 32 B) (sBC : Sz 32 BC) (sY : Sz 4 Y) (sX : Sz 4 X) (sN : Sz 4 N) (sR : Sz 8 R) :
    Calls Try.prog 70 #[.agg B] w fun e w' => e = .returned (.tuple #[.agg R, .int .i64 0]) ∧ Fr (fun _ => False) w w' := by
  have HSB := Lib.hid hB
  have i31 : 31 < 32 := by omega
  have s0 : Sz 8 #[.int .u64 0, .int .u64 0, .int .u64 0, .int .u64 0, .int .u64 0, .int .u64 0, .int .u64 0, .int .u64 0] := ⟨rfl, by simp [Value.oneCell']⟩
  have EG := Try.guardBa
  clear hB
  have K := (((Kn.start w).new (w.heap.size) 32 B 36 rfl sB.1).new (w.heap.size + 1) 8 #[.int .u64 0, .int .u64 0, .int .u64 0, .int .u64 0, .int .u64 0, .int .u64 0, .int .u64 0, .int .u64 0] 72 (by simp) rfl)
  go_enter Try.func70, Try.ntmps70
  have c0 := K.cell 1 rfl 31 h31
  go_wp2_with (first
      | (focus ((with_reducible refine' wpList_store1_kn K rfl 5 _ _ rfl 1 _ _ 31 _ _ .u8 (v : Int) rfl rfl Try.iU8 _ i31 _); rotate_left 2; (focus exact rfl); intro wz Kz; clear K; have K := Kz; clear Kz; simp only [List.set_cons_zero, List.set_cons_succ] at K; rw [HSB.out] at K; try (simp only [Act.put, List.setIfInBounds_toArray, List.set_cons_zero, List.set_cons_succ])))
      | (focus (first | ((with_reducible refine' wpList_load_kn K rfl 36 (.tmp 1) rfl 1 _ _ _ _ rfl _ Try.underlying36 rfl Try.szBa _ _); rotate_left 2; (focus exact rfl))))
      | (focus ((first | ((with_reducible refine' wpList_store_kn K rfl 24 (.tmp 5) _ rfl 0 _ _ _ _ _ rfl rfl Try.szEl _ _ _); rotate_left 2; (focus exact rfl))); (focus assumption); intro wz Kz; clear K; have K := Kz; clear Kz; simp only [List.set_cons_zero, List.set_cons_succ] at K; try (simp only [Act.put, List.setIfInBounds_toArray, List.set_cons_zero, List.set_cons_succ])))
      | ((with_reducible refine wpList_new_kn K 24 _ _ _ _ #[.int .u64 0, .int .u64 0, .int .u64 0, .int .u64 0] 4 rfl Try.alEl rfl ?_); intro gz wz Kz; clear K; have K := Kz; clear Kz; try (simp only [Act.put, List.setIfInBounds_toArray, List.set_cons_zero, List.set_cons_succ]))
      | (go_at_call 29; (with_reducible refine Calls.kn K (OF _) ?_); intro wz Kz; clear K; have K := Kz; clear Kz))
  refine wp_region_keep (by kernel_rfl) (by kernel_rfl) ?_
  repeat (any_goals (first | (focus (go_big_quiet_want; (first | ((with_reducible refine' quiet_load_kn K 24 (.tmp 5) rfl 0 _ _ _ _ rfl _ Try.underlying24 rfl Try.szEl _ _); rotate_left 2; (focus exact rfl)) | ((with_reducible refine' quiet_load_kn K 36 (.tmp 1) rfl 2 _ _ _ _ rfl _ Try.underlying36 rfl Try.szBa _ _); rotate_left 2; (focus exact rfl))); simp only [Act.put, List.setIfInBounds_toArray, List.set_cons_zero, List.set_cons_succ]; go_big_quiet_on)) | go_big_quiet_step ((first | (go_at_call 28; with_reducible exact Calls.keep (BY _)))) | quiet_step ((first | (go_at_call 28; with_reducible exact Calls.keep (BY _))))))
  refine wpQuiet_nil ?_
  intro _ hwz
  obtain ⟨y, rfl⟩ := hwz
  have Kz := K.call y.h
  clear K c0
  have K := Kz
  clear Kz
  generalize y.w = wz at K ⊢
  clear y
  go_wp2_with (first
      | (focus (first | ((with_reducible refine' wpList_load_kn K rfl 24 (.tmp 5) rfl 0 _ _ _ _ rfl _ Try.underlying24 rfl Try.szEl _ _); rotate_left 2; (focus exact rfl)) | ((with_reducible refine' wpList_load_kn K rfl 24 (.tmp 6) rfl 0 _ _ _ _ rfl _ Try.underlying24 rfl Try.szEl _ _); rotate_left 2; (focus exact rfl)) | ((with_reducible refine' wpList_load_kn K rfl 24 (.tmp 5) rfl 1 _ _ _ _ rfl _ Try.underlying24 rfl Try.szEl _ _); rotate_left 2; (focus exact rfl))))
      | (focus ((first | ((with_reducible refine' wpList_store_kn K rfl 24 (.tmp 6) _ rfl 0 _ _ _ _ _ rfl rfl Try.szEl _ _ _); rotate_left 2; (focus exact rfl)) | ((with_reducible refine' wpList_store_kn K rfl 72 (.tmp 2) _ rfl 2 _ _ _ _ _ rfl rfl Try.szPt _ _ _); rotate_left 2; (focus exact rfl))); (focus assumption); intro wz Kz; clear K; have K := Kz; clear Kz; simp only [List.set_cons_zero, List.set_cons_succ] at K; try (simp only [Act.put, List.setIfInBounds_toArray, List.set_cons_zero, List.set_cons_succ])))
      | ((with_reducible refine wpList_new_kn K 24 _ _ _ _ #[.int .u64 0, .int .u64 0, .int .u64 0, .int .u64 0] 4 rfl Try.alEl rfl ?_); intro gz wz Kz; clear K; have K := Kz; clear Kz; try (simp only [Act.put, List.setIfInBounds_toArray, List.set_cons_zero, List.set_cons_succ]))
      | (go_at_call 105; (with_reducible refine Calls.kn K (AC _) ?_); intro wz Kz; clear K; have K := Kz; clear Kz)
      | (go_at_call 27; (with_reducible refine Calls.kn K (OX _) ?_); intro wz Kz; clear K; have K := Kz; clear Kz)
      | (go_at_call 27; (with_reducible refine Calls.kn K (ON _) ?_); intro wz Kz; clear K; have K := Kz; clear Kz)
      | (go_at_call 24; (with_reducible refine Calls.kn K (NE _) ?_); intro wz Kz; clear K; have K := Kz; clear Kz)
      | (go_at_call 106; (with_reducible refine Calls.kn K (PA _) ?_); intro wz Kz; clear K; have K := Kz; clear Kz))
  refine bodyPost_ret (results_kn_tmp K rfl _ 2 _ _ _ _ rfl _ Try.underlying72 rfl Try.szPt rfl) rfl ?_
  exact ⟨rfl, K.fr⟩
set_option maxRecDepth 100000 in
set_option maxHeartbeats 3200000 in
theorem dec_zero0 (z v : Nat) (B BC Y CB X N R : Array Value) (w : World)
    (OF : Ans Try.prog 29 #[.agg BC] (.agg Y))
    (BY : Ans Try.prog 28 #[.agg Y] (.agg CB))
    (AC : Ans Try.prog 105 #[.agg Y] (.tuple #[.agg X, .bool true]))
    (OX : Ans Try.prog 27 #[.agg X] (.bool true))
    (NE : Ans Try.prog 24 #[.agg X] (.agg N))
    (ON : Ans Try.prog 27 #[.agg N] (.bool true))
    (h31 : B[31]? = some (.int .u8 (z : Int))) (ha : bits .and .u8 (z : Int) 128 = 0) (hn : bits .andNot .u8 (z : Int) 128 = (v : Int)) (hB : B.setIfInBounds 31 (.int .u8 (v : Int)) = BC) (E0 : ∀ W : World, (binOp .neq 36 (.agg CB) (.agg BC)).run Try.prog W = .ok (.bool false) W)
    (sB : Sz 32 B) (sBC : Sz 32 BC) (sY : Sz 4 Y) (sX : Sz 4 X) (sN : Sz 4 N) (sR : Sz 8 R) :
    Calls Try.prog 70 #[.agg B] w fun e w' => e = .returned (.tuple #[.agg #[.int .u64 0, .int .u64 0, .int .u64 0, .int .u64 0, .int .u64 0, .int .u64 0, .int .u64 0, .int .u64 0], .int .i64 15]) ∧ Fr (fun _ => False) w w' := by
  have HSB := Lib.hid hB
  have i31 : 31 < 32 := by omega
  have s0 : Sz 8 #[.int .u64 0, .int .u64 0, .int .u64 0, .int .u64 0, .int .u64 0, .int .u64 0, .int .u64 0, .int .u64 0] := ⟨rfl, by simp [Value.oneCell']⟩
  have EG := Try.guardBa
  clear hB
  have K := (((Kn.start w).new (w.heap.size) 32 B 36 rfl sB.1).new (w.heap.size + 1) 8 #[.int .u64 0, .int .u64 0, .int .u64 0, .int .u64 0, .int .u64 0, .int .u64 0, .int .u64 0, .int .u64 0] 72 (by simp) rfl)
  go_enter Try.func70, Try.ntmps70
  have c0 := K.cell 1 rfl 31 h31
  go_wp2_with (first
      | (focus ((with_reducible refine' wpList_store1_kn K rfl 5 _ _ rfl 1 _ _ 31 _ _ .u8 (v : Int) rfl rfl Try.iU8 _ i31 _); rotate_left 2; (focus exact rfl); intro wz Kz; clear K; have K := Kz; clear Kz; simp only [List.set_cons_zero, List.set_cons_succ] at K; rw [HSB.out] at K; try (simp only [Act.put, List.setIfInBounds_toArray, List.set_cons_zero, List.set_cons_succ])))
      | (focus (first | ((with_reducible refine' wpList_load_kn K rfl 36 (.tmp 1) rfl 1 _ _ _ _ rfl _ Try.underlying36 rfl Try.szBa _ _); rotate_left 2; (focus exact rfl))))
      | (focus ((first | ((with_reducible refine' wpList_store_kn K rfl 24 (.tmp 5) _ rfl 0 _ _ _ _ _ rfl rfl Try.szEl _ _ _); rotate_left 2; (focus exact rfl))); (focus assumption); intro wz Kz; clear K; have K := Kz; clear Kz; simp only [List.set_cons_zero, List.set_cons_succ] at K; try (simp only [Act.put, List.setIfInBounds_toArray, List.set_cons_zero, List.set_cons_succ])))
      | ((with_reducible refine wpList_new_kn K 24 _ _ _ _ #[.int .u64 0, .int .u64 0, .int .u64 0, .int .u64 0] 4 rfl Try.alEl rfl ?_); intro gz wz Kz; clear K; have K := Kz; clear Kz; try (simp only [Act.put, List.setIfInBounds_toArray, List.set_cons_zero, List.set_cons_succ]))
      | (go_at_call 29; (with_reducible refine Calls.kn K (OF _) ?_); intro wz Kz; clear K; have K := Kz; clear Kz))
  refine wp_region_keep (by kernel_rfl) (by kernel_rfl) ?_
  repeat (any_goals (first | (focus (go_big_quiet_want; (first | ((with_reducible refine' quiet_load_kn K 24 (.tmp 5) rfl 0 _ _ _ _ rfl _ Try.underlying24 rfl Try.szEl _ _); rotate_left 2; (focus exact rfl)) | ((with_reducible refine' quiet_load_kn K 36 (.tmp 1) rfl 2 _ _ _ _ rfl _ Try.underlying36 rfl Try.szBa _ _); rotate_left 2; (focus exact rfl))); simp only [Act.put, List.setIfInBounds_toArray, List.set_cons_zero, List.set_cons_succ]; go_big_quiet_on)) | go_big_quiet_step ((first | (go_at_call 28; with_reducible exact Calls.keep (BY _)))) | quiet_step ((first | (go_at_call 28; with_reducible exact Calls.keep (BY _))))))
  refine wpQuiet_nil ?_
  intro _ hwz
  obtain ⟨y, rfl⟩ := hwz
  have Kz := K.call y.h
  clear K c0
  have K := Kz
  clear Kz
  generalize y.w = wz at K ⊢
  clear y
  go_wp2_with (first
      | (focus (first | ((with_reducible refine' wpList_load_kn K rfl 24 (.tmp 5) rfl 0 _ _ _ _ rfl _ Try.underlying24 rfl Try.szEl _ _); rotate_left 2; (focus exact rfl)) | ((with_reducible refine' wpList_load_kn K rfl 24 (.tmp 6) rfl 0 _ _ _ _ rfl _ Try.underlying24 rfl Try.szEl _ _); rotate_left 2; (focus exact rfl)) | ((with_reducible refine' wpList_load_kn K rfl 24 (.tmp 5) rfl 1 _ _ _ _ rfl _ Try.underlying24 rfl Try.szEl _ _); rotate_left 2; (focus exact rfl))))
      | (focus ((first | ((with_reducible refine' wpList_store_kn K rfl 24 (.tmp 6) _ rfl 0 _ _ _ _ _ rfl rfl Try.szEl _ _ _); rotate_left 2; (focus exact rfl)) | ((with_reducible refine' wpList_store_kn K rfl 72 (.tmp 2) _ rfl 2 _ _ _ _ _ rfl rfl Try.szPt _ _ _); rotate_left 2; (focus exact rfl))); (focus assumption); intro wz Kz; clear K; have K := Kz; clear Kz; simp only [List.set_cons_zero, List.set_cons_succ] at K; try (simp only [Act.put, List.setIfInBounds_toArray, List.set_cons_zero, List.set_cons_succ])))
      | ((with_reducible refine wpList_new_kn K 24 _ _ _ _ #[.int .u64 0, .int .u64 0, .int .u64 0, .int .u64 0] 4 rfl Try.alEl rfl ?_); intro gz wz Kz; clear K; have K := Kz; clear Kz; try (simp only [Act.put, List.setIfInBounds_toArray, List.set_cons_zero, List.set_cons_succ]))
      | (go_at_call 105; (with_reducible refine Calls.kn K (AC _) ?_); intro wz Kz; clear K; have K := Kz; clear Kz)
      | (go_at_call 27; (with_reducible refine Calls.kn K (OX _) ?_); intro wz Kz; clear K; have K := Kz; clear Kz)
      | (go_at_call 27; (with_reducible refine Calls.kn K (ON _) ?_); intro wz Kz; clear K; have K := Kz; clear Kz)
      | (go_at_call 24; (with_reducible refine Calls.kn K (NE _) ?_); intro wz Kz; clear K; have K := Kz; clear Kz))
  refine bodyPost_ret (results_kn_tmp K rfl _ 2 _ _ _ _ rfl _ Try.underlying72 rfl Try.szPt rfl) rfl ?_
  exact ⟨rfl, K.fr⟩
set_option maxRecDepth 100000 in
set_option maxHeartbeats 3200000 in
theorem dec_bad1 (z v : Nat) (B BC Y CB X N R : Array Value) (w : World)
    (OF : Ans Try.prog 29 #[.agg BC] (.agg Y))
    (BY : Ans Try.prog 28 #[.agg Y] (.agg CB))
    (h31 : B[31]? = some (.int .u8 (z : Int))) (ha : bits .and .u8 (z : Int) 128 = 128) (hn : bits .andNot .u8 (z : Int) 128 = (v : Int)) (hB : B.setIfInBounds 31 (.int .u8 (v : Int)) = BC) (E0 : ∀ W : World, (binOp .neq 36 (.agg CB) (.agg BC)).run Try.prog W = .ok (.bool true) W)
    (sB : Sz 32 B) (sBC : Sz 32 BC) (sY : Sz 4 Y) (sX : Sz 4 X) (sN : Sz 4 N) (sR : Sz 8 R) :
    Calls Try.prog 70 #[.agg B] w fun e w' => e = .returned (.tuple #[.agg #[.int .u64 0, .int .u64 0, .int .u64 0, .int .u64 0, .int .u64 0, .int .u64 0, .int .u64 0, .int .u64 0], .int .i64 15]) ∧ Fr (fun _ => False) w w' := by
  have HSB := Lib.hid hB
  have i31 : 31 < 32 := by omega
  have s0 : Sz 8 #[.int .u64 0, .int .u64 0, .int .u64 0, .int .u64 0, .int .u64 0, .int .u64 0, .int .u64 0, .int .u64 0] := ⟨rfl, by simp [Value.oneCell']⟩
  have EG := Try.guardBa
  clear hB
  have K := (((Kn.start w).new (w.heap.size) 32 B 36 rfl sB.1).new (w.heap.size + 1) 8 #[.int .u64 0, .int .u64 0, .int .u64 0, .int .u64 0, .int .u64 0, .int .u64 0, .int .u64 0, .int .u64 0] 72 (by simp) rfl)
  go_enter Try.func70, Try.ntmps70
  have c0 := K.cell 1 rfl 31 h31
  go_wp2_with (first
      | (focus ((with_reducible refine' wpList_store1_kn K rfl 5 _ _ rfl 1 _ _ 31 _ _ .u8 (v : Int) rfl rfl Try.iU8 _ i31 _); rotate_left 2; (focus exact rfl); intro wz Kz; clear K; have K := Kz; clear Kz; simp only [List.set_cons_zero, List.set_cons_succ] at K; rw [HSB.out] at K; try (simp only [Act.put, List.setIfInBounds_toArray, List.set_cons_zero, List.set_cons_succ])))
      | (focus (first | ((with_reducible refine' wpList_load_kn K rfl 36 (.tmp 1) rfl 1 _ _ _ _ rfl _ Try.underlying36 rfl Try.szBa _ _); rotate_left 2; (focus exact rfl))))
      | (focus ((first | ((with_reducible refine' wpList_store_kn K rfl 24 (.tmp 5) _ rfl 0 _ _ _ _ _ rfl rfl Try.szEl _ _ _); rotate_left 2; (focus exact rfl))); (focus assumption); intro wz Kz; clear K; have K := Kz; clear Kz; simp only [List.set_cons_zero, List.set_cons_succ] at K; try (simp only [Act.put, List.setIfInBounds_toArray, List.set_cons_zero, List.set_cons_succ])))
      | ((with_reducible refine wpList_new_kn K 24 _ _ _ _ #[.int .u64 0, .int .u64 0, .int .u64 0, .int .u64 0] 4 rfl Try.alEl rfl ?_); intro gz wz Kz; clear K; have K := Kz; clear Kz; try (simp only [Act.put, List.setIfInBounds_toArray, List.set_cons_zero, List.set_cons_succ]))
      | (go_at_call 29; (with_reducible refine Calls.kn K (OF _) ?_); intro wz Kz; clear K; have K := Kz; clear Kz))
  refine wp_region_keep (by kernel_rfl) (by kernel_rfl) ?_
  repeat (any_goals (first | (focus (go_big_quiet_want; (first | ((with_reducible refine' quiet_load_kn K 24 (.tmp 5) rfl 0 _ _ _ _ rfl _ Try.underlying24 rfl Try.szEl _ _); rotate_left 2; (focus exact rfl)) | ((with_reducible refine' quiet_load_kn K 36 (.tmp 1) rfl 2 _ _ _ _ rfl _ Try.underlying36 rfl Try.szBa _ _); rotate_left 2; (focus exact rfl))); simp only [Act.put, List.setIfInBounds_toArray, List.set_cons_zero, List.set_cons_succ]; go_big_quiet_on)) | go_big_quiet_step ((first | (go_at_call 28; with_reducible exact Calls.keep (BY _)))) | quiet_step ((first | (go_at_call 28; with_reducible exact Calls.keep (BY _))))))
  refine wpQuiet_nil ?_
  intro _ hwz
  obtain ⟨y, rfl⟩ := hwz
  have Kz := K.call y.h
  clear K c0
  have K := Kz
  clear Kz
  generalize y.w = wz at K ⊢
  clear y
  go_wp2_with (first
      | (focus ((first | ((with_reducible refine' wpList_store_kn K rfl 72 (.tmp 2) _ rfl 1 _ _ _ _ _ rfl rfl Try.szPt _ _ _); rotate_left 2; (focus exact rfl))); (focus assumption); intro wz Kz; clear K; have K := Kz; clear Kz; simp only [List.set_cons_zero, List.set_cons_succ] at K; try (simp only [Act.put, List.setIfInBounds_toArray, List.set_cons_zero, List.set_cons_succ]))))
  refine bodyPost_ret (results_kn_tmp K rfl _ 1 _ _ _ _ rfl _ Try.underlying72 rfl Try.szPt rfl) rfl ?_
  exact ⟨rfl, K.fr⟩
set_option maxRecDepth 100000 in
set_option maxHeartbeats 3200000 in
theorem dec_none1 (z v : Nat) (B BC Y CB X N R : Array Value) (w : World)
    (OF : Ans Try.prog 29 #[.agg BC] (.agg Y))
    (BY : Ans Try.prog 28 #[.agg Y] (.agg CB))
    (AC : Ans Try.prog 105 #[.agg Y] (.tuple #[.agg X, .bool false]))
    (h31 : B[31]? = some (.int .u8 (z : Int))) (ha : bits .and .u8 (z : Int) 128 = 128) (hn : bits .andNot .u8 (z : Int) 128 = (v : Int)) (hB : B.setIfInBounds 31 (.int .u8 (v : Int)) = BC) (E0 : ∀ W : World, (binOp .neq 36 (.agg CB) (.agg BC)).run Try.prog W = .ok (.bool false) W)
    (sB : Sz 32 B) (sBC : Sz 32 BC) (sY : Sz 4 Y) (sX : Sz 4 X) (sN : Sz 4 N) (sR : Sz 8 R) :
    Calls Try.prog 70 #[.agg B] w fun e w' => e = .returned (.tuple #[.agg #[.int .u64 0, .int .u64 0, .int .u64 0, .int .u64 0, .int .u64 0, .int .u64 0, .int .u64 0, .int .u64 0], .int .i64 15]) ∧ Fr (fun _ => False) w w' := by
  have HSB := Lib.hid hB
  have i31 : 31 < 32 := by omega
  have s0 : Sz 8 #[.int .u64 0, .int .u64 0, .int .u64 0, .int .u64 0, .int .u64 0, .int .u64 0, .int .u64 0, .int .u64 0] := ⟨rfl, by simp [Value.oneCell']⟩
  have EG := Try.guardBa
  clear hB
  have K := (((Kn.start w).new (w.heap.size) 32 B 36 rfl sB.1).new (w.heap.size + 1) 8 #[.int .u64 0, .int .u64 0, .int .u64 0, .int .u64 0, .int .u64 0, .int .u64 0, .int .u64 0, .int .u64 0] 72 (by simp) rfl)
  go_enter Try.func70, Try.ntmps70
  have c0 := K.cell 1 rfl 31 h31
  go_wp2_with (first
      | (focus ((with_reducible refine' wpList_store1_kn K rfl 5 _ _ rfl 1 _ _ 31 _ _ .u8 (v : Int) rfl rfl Try.iU8 _ i31 _); rotate_left 2; (focus exact rfl); intro wz Kz; clear K; have K := Kz; clear Kz; simp only [List.set_cons_zero, List.set_cons_succ] at K; rw [HSB.out] at K; try (simp only [Act.put, List.setIfInBounds_toArray, List.set_cons_zero, List.set_cons_succ])))
      | (focus (first | ((with_reducible refine' wpList_load_kn K rfl 36 (.tmp 1) rfl 1 _ _ _ _ rfl _ Try.underlying36 rfl Try.szBa _ _); rotate_left 2; (focus exact rfl))))
      | (focus ((first | ((with_reducible refine' wpList_store_kn K rfl 24 (.tmp 5) _ rfl 0 _ _ _ _ _ rfl rfl Try.szEl _ _ _); rotate_left 2; (focus exact rfl))); (focus assumption); intro wz Kz; clear K; have K := Kz; clear Kz; simp only [List.set_cons_zero, List.set_cons_succ] at K; try (simp only [Act.put, List.setIfInBounds_toArray, List.set_cons_zero, List.set_cons_succ])))
      | ((with_reducible refine wpList_new_kn K 24 _ _ _ _ #[.int .u64 0, .int .u64 0, .int .u64 0, .int .u64 0] 4 rfl Try.alEl rfl ?_); intro gz wz Kz; clear K; have K := Kz; clear Kz; try (simp only [Act.put, List.setIfInBounds_toArray, List.set_cons_zero, List.set_cons_succ]))
      | (go_at_call 29; (with_reducible refine Calls.kn K (OF _) ?_); intro wz Kz; clear K; have K := Kz; clear Kz))
  refine wp_region_keep (by kernel_rfl) (by kernel_rfl) ?_
  repeat (any_goals (first | (focus (go_big_quiet_want; (first | ((with_reducible refine' quiet_load_kn K 24 (.tmp 5) rfl 0 _ _ _ _ rfl _ Try.underlying24 rfl Try.szEl _ _); rotate_left 2; (focus exact rfl)) | ((with_reducible refine' quiet_load_kn K 36 (.tmp 1) rfl 2 _ _ _ _ rfl _ Try.underlying36 rfl Try.szBa _ _); rotate_left 2; (focus exact rfl))); simp only [Act.put, List.setIfInBounds_toArray, List.set_cons_zero, List.set_cons_succ]; go_big_quiet_on)) | go_big_quiet_step ((first | (go_at_call 28; with_reducible exact Calls.keep (BY _)))) | quiet_step ((first | (go_at_call 28; with_reducible exact Calls.keep (BY _))))))
  refine wpQuiet_nil ?_
  intro _ hwz
  obtain ⟨y, rfl⟩ := hwz
  have Kz := K.call y.h
  clear K c0
  have K := Kz
  clear Kz
  generalize y.w = wz at K ⊢
  clear y
  go_wp2_with (first
      | (focus (first | ((with_reducible refine' wpList_load_kn K rfl 24 (.tmp 5) rfl 0 _ _ _ _ rfl _ Try.underlying24 rfl Try.szEl _ _); rotate_left 2; (focus exact rfl)) | ((with_reducible refine' wpList_load_kn K rfl 24 (.tmp 6) rfl 0 _ _ _ _ rfl _ Try.underlying24 rfl Try.szEl _ _); rotate_left 2; (focus exact rfl)) | ((with_reducible refine' wpList_load_kn K rfl 24 (.tmp 5) rfl 1 _ _ _ _ rfl _ Try.underlying24 rfl Try.szEl _ _); rotate_left 2; (focus exact rfl))))
      | (focus ((first | ((with_reducible refine' wpList_store_kn K rfl 24 (.tmp 6) _ rfl 0 _ _ _ _ _ rfl rfl Try.szEl _ _ _); rotate_left 2; (focus exact rfl)) | ((with_reducible refine' wpList_store_kn K rfl 72 (.tmp 2) _ rfl 2 _ _ _ _ _ rfl rfl Try.szPt _ _ _); rotate_left 2; (focus exact rfl))); (focus assumption); intro wz Kz; clear K; have K := Kz; clear Kz; simp only [List.set_cons_zero, List.set_cons_succ] at K; try (simp only [Act.put, List.setIfInBounds_toArray, List.set_cons_zero, List.set_cons_succ])))
      | ((with_reducible refine wpList_new_kn K 24 _ _ _ _ #[.int .u64 0, .int .u64 0, .int .u64 0, .int .u64 0] 4 rfl Try.alEl rfl ?_); intro gz wz Kz; clear K; have K := Kz; clear Kz; try (simp only [Act.put, List.setIfInBounds_toArray, List.set_cons_zero, List.set_cons_succ]))
      | (go_at_call 105; (with_reducible refine Calls.kn K (AC _) ?_); intro wz Kz; clear K; have K := Kz; clear Kz))
  refine bodyPost_ret (results_kn_tmp K rfl _ 2 _ _ _ _ rfl _ Try.underlying72 rfl Try.szPt rfl) rfl ?_
  exact ⟨rfl, K.fr⟩
set_option maxRecDepth 100000 in
set_option maxHeartbeats 3200000 in
theorem dec_keep1 (z v : Nat) (B BC Y CB X N R : Array Value) (w : World)
    (OF : Ans Try.prog 29 #[.agg BC] (.agg Y))
    (BY : Ans Try.prog 28 #[.agg Y] (.agg CB))
    (AC : Ans Try.prog 105 #[.agg Y] (.tuple #[.agg X, .bool true]))
    (OX : Ans Try.prog 27 #[.agg X] (.bool true))
    (PA : Ans Try.prog 106 #[.agg X, .agg Y] (.agg R))
    (h31 : B[31]? = some (.int .u8 (z : Int))) (ha : bits .and .u8 (z : Int) 128 = 128) (hn : bits .andNot .u8 (z : Int) 128 = (v : Int)) (hB : B.setIfInBounds 31 (.int .u8 (v : Int)) = BC) (E0 : ∀ W : World, (binOp .neq 36 (.agg CB) (.agg BC)).run Try.prog W = .ok (.bool false) W)
    (sB : Sz 32 B) (sBC : Sz 32 BC) (sY : Sz 4 Y) (sX : Sz 4 X) (sN : Sz 4 N) (sR : Sz 8 R) :
    Calls Try.prog 70 #[.agg B] w fun e w' => e = .returned (.tuple #[.agg R, .int .i64 0]) ∧ Fr (fun _ => False) w w' := by
  have HSB := Lib.hid hB
  have i31 : 31 < 32 := by omega
  have s0 : Sz 8 #[.int .u64 0, .int .u64 0, .int .u64 0, .int .u64 0, .int .u64 0, .int .u64 0, .int .u64 0, .int .u64 0] := ⟨rfl, by simp [Value.oneCell']⟩
  have EG := Try.guardBa
  clear hB
  have K := (((Kn.start w).new (w.heap.size) 32 B 36 rfl sB.1).new (w.heap.size + 1) 8 #[.int .u64 0, .int .u64 0, .int .u64 0, .int .u64 0, .int .u64 0, .int .u64 0, .int .u64 0, .int .u64 0] 72 (by simp) rfl)
  go_enter Try.func70, Try.ntmps70
  have c0 := K.cell 1 rfl 31 h31
  go_wp2_with (first
      | (focus ((with_reducible refine' wpList_store1_kn K rfl 5 _ _ rfl 1 _ _ 31 _ _ .u8 (v : Int) rfl rfl Try.iU8 _ i31 _); rotate_left 2; (focus exact rfl); intro wz Kz; clear K; have K := Kz; clear Kz; simp only [List.set_cons_zero, List.set_cons_succ] at K; rw [HSB.out] at K; try (simp only [Act.put, List.setIfInBounds_toArray, List.set_cons_zero, List.set_cons_succ])))
      | (focus (first | ((with_reducible refine' wpList_load_kn K rfl 36 (.tmp 1) rfl 1 _ _ _ _ rfl _ Try.underlying36 rfl Try.szBa _ _); rotate_left 2; (focus exact rfl))))
      | (focus ((first | ((with_reducible refine' wpList_store_kn K rfl 24 (.tmp 5) _ rfl 0 _ _ _ _ _ rfl rfl Try.szEl _ _ _); rotate_left 2; (focus exact rfl))); (focus assumption); intro wz Kz; clear K; have K := Kz; clear Kz; simp only [List.set_cons_zero, List.set_cons_succ] at K; try (simp only [Act.put, List.setIfInBounds_toArray, List.set_cons_zero, List.set_cons_succ])))
      | ((with_reducible refine wpList_new_kn K 24 _ _ _ _ #[.int .u64 0, .int .u64 0, .int .u64 0, .int .u64 0] 4 rfl Try.alEl rfl ?_); intro gz wz Kz; clear K; have K := Kz; clear Kz; try (simp only [Act.put, List.setIfInBounds_toArray, List.set_cons_zero, List.set_cons_succ]))
      | (go_at_call 29; (with_reducible refine Calls.kn K (OF _) ?_); intro wz Kz; clear K; have K := Kz; clear Kz))
  refine wp_region_keep (by kernel_rfl) (by kernel_rfl) ?_
  repeat (any_goals (first | (focus (go_big_quiet_want; (first | ((with_reducible refine' quiet_load_kn K 24 (.tmp 5) rfl 0 _ _ _ _ rfl _ Try.underlying24 rfl Try.szEl _ _); rotate_left 2; (focus exact rfl)) | ((with_reducible refine' quiet_load_kn K 36 (.tmp 1) rfl 2 _ _ _ _ rfl _ Try.underlying36 rfl Try.szBa _ _); rotate_left 2; (focus exact rfl))); simp only [Act.put, List.setIfInBounds_toArray, List.set_cons_zero, List.set_cons_succ]; go_big_quiet_on)) | go_big_quiet_step ((first | (go_at_call 28; with_reducible exact Calls.keep (BY _)))) | quiet_step ((first | (go_at_call 28; with_reducible exact Calls.keep (BY _))))))
  refine wpQuiet_nil ?_
  intro _ hwz
  obtain ⟨y, rfl⟩ := hwz
  have Kz := K.call y.h
  clear K c0
  have K := Kz
  clear Kz
  generalize y.w = wz at K ⊢
  clear y
  go_wp2_with (first
      | (focus (first | ((with_reducible refine' wpList_load_kn K rfl 24 (.tmp 5) rfl 0 _ _ _ _ rfl _ Try.underlying24 rfl Try.szEl _ _); rotate_left 2; (focus exact rfl)) | ((with_reducible refine' wpList_load_kn K rfl 24 (.tmp 6) rfl 0 _ _ _ _ rfl _ Try.underlying24 rfl Try.szEl _ _); rotate_left 2; (focus exact rfl)) | ((with_reducible refine' wpList_load_kn K rfl 24 (.tmp 5) rfl 1 _ _ _ _ rfl _ Try.underlying24 rfl Try.szEl _ _); rotate_left 2; (focus exact rfl))))
      | (focus ((first | ((with_reducible refine' wpList_store_kn K rfl 24 (.tmp 6) _ rfl 0 _ _ _ _ _ rfl rfl Try.szEl _ _ _); rotate_left 2; (focus exact rfl)) | ((with_reducible refine' wpList_store_kn K rfl 72 (.tmp 2) _ rfl 2 _ _ _ _ _ rfl rfl Try.szPt _ _ _); rotate_left 2; (focus exact rfl))); (focus assumption); intro wz Kz; clear K; have K := Kz; clear Kz; simp only [List.set_cons_zero, List.set_cons_succ] at K; try (simp only [Act.put, List.setIfInBounds_toArray, List.set_cons_zero, List.set_cons_succ])))
      | ((with_reducible refine wpList_new_kn K 24 _ _ _ _ #[.int .u64 0, .int .u64 0, .int .u64 0, .int .u64 0] 4 rfl Try.alEl rfl ?_); intro gz wz Kz; clear K; have K := Kz; clear Kz; try (simp only [Act.put, List.setIfInBounds_toArray, List.set_cons_zero, List.set_cons_succ]))
      | (go_at_call 105; (with_reducible refine Calls.kn K (AC _) ?_); intro wz Kz; clear K; have K := Kz; clear Kz)
      | (go_at_call 27; (with_reducible refine Calls.kn K (OX _) ?_); intro wz Kz; clear K; have K := Kz; clear Kz)
      | (go_at_call 106; (with_reducible refine Calls.kn K (PA _) ?_); intro wz Kz; clear K; have K := Kz; clear Kz))
  refine bodyPost_ret (results_kn_tmp K rfl _ 2 _ _ _ _ rfl _ Try.underlying72 rfl Try.szPt rfl) rfl ?_
  exact ⟨rfl, K.fr⟩
set_option maxRecDepth 100000 in
set_option maxHeartbeats 3200000 in
theorem dec_neg1 (z v : Nat) (B BC Y CB X N R : Array Value) (w : World)
    (OF : Ans Try.prog 29 #[.agg BC] (.agg Y))
    (BY : Ans Try.prog 28 #[.agg Y] (.agg CB))
    (AC : Ans Try.prog 105 #[.agg Y] (.tuple #[.agg X, .bool true]))
    (OX : Ans Try.prog 27 #[.agg X] (.bool false))
    (NE : Ans Try.prog 24 #[.agg X] (.agg N))
    (ON : Ans Try.prog 27 #[.agg N] (.bool true))
    (PA : Ans Try.prog 106 #[.agg N, .agg Y] (.agg R))
    (h31 : B[31]? = some (.int .u8 (z : Int))) (ha : bits .and .u8 (z : Int) 128 = 128) (hn : bits .andNot .u8 (z : Int) 128 = (v : Int)) (hB : B.setIfInBounds 31 (.int .u8 (v : Int)) = BC) (E0 : ∀ W : World, (binOp .neq 36 (.agg CB) (.agg BC)).run Try.prog W = .ok (.bool false) W)
    (sB : Sz 32 B) (sBC : Sz 32 BC) (sY : Sz 4 Y) (sX : Sz 4 X) (sN : Sz 4 N) (sR : Sz 8 R) :
    Calls Try.prog 70 #[.agg B] w fun e w' => e = .returned (.tuple #[.agg R, .int .i64 0]) ∧ Fr (fun _ => False) w w' := by
  have HSB := Lib.hid hB
  have i31 : 31 < 32 := by omega
  have s0 : Sz 8 #[.int .u64 0, .int .u64 0, .int .u64 0, .int .u64 0, .int .u64 0, .int .u64 0, .int .u64 0, .int .u64 0] := ⟨rfl, by simp [Value.oneCell']⟩
  have EG := Try.guardBa
  clear hB
  have K := (((Kn.start w).new (w.heap.size) 32 B 36 rfl sB.1).new (w.heap.size + 1) 8 #[.int .u64 0, .int .u64 0, .int .u64 0, .int .u64 0, .int .u64 0, .int .u64 0, .int .u64 0, .int .u64 0] 72 (by simp) rfl)
  go_enter Try.func70, Try.ntmps70
  have c0 := K.cell 1 rfl 31 h31
  go_wp2_with (first
      | (focus ((with_reducible refine' wpList_store1_kn K rfl 5 _ _ rfl 1 _ _ 31 _ _ .u8 (v : Int) rfl rfl Try.iU8 _ i31 _); rotate_left 2; (focus exact rfl); intro wz Kz; clear K; have K := Kz; clear Kz; simp only [List.set_cons_zero, List.set_cons_succ] at K; rw [HSB.out] at K; try (simp only [Act.put, List.setIfInBounds_toArray, List.set_cons_zero, List.set_cons_succ])))
      | (focus (first | ((with_reducible refine' wpList_load_kn K rfl 36 (.tmp 1) rfl 1 _ _ _ _ rfl _ Try.underlying36 rfl Try.szBa _ _); rotate_left 2; (focus exact rfl))))
      | (focus ((first | ((with_reducible refine' wpList_store_kn K rfl 24 (.tmp 5) _ rfl 0 _ _ _ _ _ rfl rfl Try.szEl _ _ _); rotate_left 2; (focus exact rfl))); (focus assumption); intro wz Kz; clear K; have K := Kz; clear Kz; simp only [List.set_cons_zero, List.set_cons_succ] at K; try (simp only [Act.put, List.setIfInBounds_toArray, List.set_cons_zero, List.set_cons_succ])))
      | ((with_reducible refine wpList_new_kn K 24 _ _ _ _ #[.int .u64 0, .int .u64 0, .int .u64 0, .int .u64 0] 4 rfl Try.alEl rfl ?_); intro gz wz Kz; clear K; have K := Kz; clear Kz; try (simp only [Act.put, List.setIfInBounds_toArray, List.set_cons_zero, List.set_cons_succ]))
      | (go_at_call 29; (with_reducible refine Calls.kn K (OF _) ?_); intro wz Kz; clear K; have K := Kz; clear Kz))
  refine wp_region_keep (by kernel_rfl) (by kernel_rfl) ?_
  repeat (any_goals (first | (focus (go_big_quiet_want; (first | ((with_reducible refine' quiet_load_kn K 24 (.tmp 5) rfl 0 _ _ _ _ rfl _ Try.underlying24 rfl Try.szEl _ _); rotate_left 2; (focus exact rfl)) | ((with_reducible refine' quiet_load_kn K 36 (.tmp 1) rfl 2 _ _ _ _ rfl _ Try.underlying36 rfl Try.szBa _ _); rotate_left 2; (focus exact rfl))); simp only [Act.put, List.setIfInBounds_toArray, List.set_cons_zero, List.set_cons_succ]; go_big_quiet_on)) | go_big_quiet_step ((first | (go_at_call 28; with_reducible exact Calls.keep (BY _)))) | quiet_step ((first | (go_at_call 28; with_reducible exact Calls.keep (BY _))))))
  refine wpQuiet_nil ?_
  intro _ hwz
  obtain ⟨y, rfl⟩ := hwz
  have Kz := K.call y.h
  clear K c0
  have K := Kz
  clear Kz
  generalize y.w = wz at K ⊢
  clear y
  go_wp2_with (first
      | (focus (first | ((with_reducible refine' wpList_load_kn K rfl 24 (.tmp 5) rfl 0 _ _ _ _ rfl _ Try.underlying24 rfl Try.szEl _ _); rotate_left 2; (focus exact rfl)) | ((with_reducible refine' wpList_load_kn K rfl 24 (.tmp 6) rfl 0 _ _ _ _ rfl _ Try.underlying24 rfl Try.szEl _ _); rotate_left 2; (focus exact rfl)) | ((with_reducible refine' wpList_load_kn K rfl 24 (.tmp 5) rfl 1 _ _ _ _ rfl _ Try.underlying24 rfl Try.szEl _ _); rotate_left 2; (focus exact rfl))))
      | (focus ((first | ((with_reducible refine' wpList_store_kn K rfl 24 (.tmp 6) _ rfl 0 _ _ _ _ _ rfl rfl Try.szEl _ _ _); rotate_left 2; (focus exact rfl)) | ((with_reducible refine' wpList_store_kn K rfl 72 (.tmp 2) _ rfl 2 _ _ _ _ _ rfl rfl Try.szPt _ _ _); rotate_left 2; (focus exact rfl))); (focus assumption); intro wz Kz; clear K; have K := Kz; clear Kz; simp only [List.set_cons_zero, List.set_cons_succ] at K; try (simp only [Act.put, List.setIfInBounds_toArray, List.set_cons_zero, List.set_cons_succ])))
      | ((with_reducible refine wpList_new_kn K 24 _ _ _ _ #[.int .u64 0, .int .u64 0, .int .u64 0, .int .u64 0] 4 rfl Try.alEl rfl ?_); intro gz wz Kz; clear K; have K := Kz; clear Kz; try (simp only [Act.put, List.setIfInBounds_toArray, List.set_cons_zero, List.set_cons_succ]))
      | (go_at_call 105; (with_reducible refine Calls.kn K (AC _) ?_); intro wz Kz; clear K; have K := Kz; clear Kz)
      | (go_at_call 27; (with_reducible refine Calls.kn K (OX _) ?_); intro wz Kz; clear K; have K := Kz; clear Kz)
      | (go_at_call 27; (with_reducible refine Calls.kn K (ON _) ?_); intro wz Kz; clear K; have K := Kz; clear Kz)
      | (go_at_call 24; (with_reducible refine Calls.kn K (NE _) ?_); intro wz Kz; clear K; have K := Kz; clear Kz)
      | (go_at_call 106; (with_reducible refine Calls.kn K (PA _) ?_); intro wz Kz; clear K; have K := Kz; clear Kz))
  refine bodyPost_ret (results_kn_tmp K rfl _ 2 _ _ _ _ rfl _ Try.underlying72 rfl Try.szPt rfl) rfl ?_
  exact ⟨rfl, K.fr⟩
set_option maxRecDepth 100000 in
set_option maxHeartbeats 3200000 in
theorem dec_zero1 (z v : Nat) (B BC Y CB X N R : Array Value) (w : World)
    (OF : Ans Try.prog 29 #[.agg BC] (.agg Y))
    (BY : Ans Try.prog 28 #[.agg Y] (.agg CB))
    (AC : Ans Try.prog 105 #[.agg Y] (.tuple #[.agg X, .bool true]))
    (OX : Ans Try.prog 27 #[.agg X] (.bool false))
    (NE : Ans Try.prog 24 #[.agg X] (.agg N))
    (ON : Ans Try.prog 27 #[.agg N] (.bool false))
    (h31 : B[31]? = some (.int .u8 (z : Int))) (ha : bits .and .u8 (z : Int) 128 = 128) (hn : bits .andNot .u8 (z : Int) 128 = (v : Int)) (hB : B.setIfInBounds 31 (.int .u8 (v : Int)) = BC) (E0 : ∀ W : World, (binOp .neq 36 (.agg CB) (.agg BC)).run Try.prog W = .ok (.bool false) W)
    (sB : Sz 32 B) (sBC : Sz 32 BC) (sY : Sz 4 Y) (sX : Sz 4 X) (sN : Sz 4 N) (sR : Sz 8 R) :
    Calls Try.prog 70 #[.agg B] w fun e w' => e = .returned (.tuple #[.agg #[.int .u64 0, .int .u64 0, .int .u64 0, .int .u64 0, .int .u64 0, .int .u64 0, .int .u64 0, .int .u64 0], .int .i64 15]) ∧ Fr (fun _ => False) w w' := by
  have HSB := Lib.hid hB
  have i31 : 31 < 32 := by omega
  have s0 : Sz 8 #[.int .u64 0, .int .u64 0, .int .u64 0, .int .u64 0, .int .u64 0, .int .u64 0, .int .u64 0, .int .u64 0] := ⟨rfl, by simp [Value.oneCell']⟩
  have EG := Try.guardBa
  clear hB
  have K := (((Kn.start w).new (w.heap.size) 32 B 36 rfl sB.1).new (w.heap.size + 1) 8 #[.int .u64 0, .int .u64 0, .int .u64 0, .int .u64 0, .int .u64 0, .int .u64 0, .int .u64 0, .int .u64 0] 72 (by simp) rfl)
  go_enter Try.func70, Try.ntmps70
  have c0 := K.cell 1 rfl 31 h31
  go_wp2_with (first
      | (focus ((with_reducible refine' wpList_store1_kn K rfl 5 _ _ rfl 1 _ _ 31 _ _ .u8 (v : Int) rfl rfl Try.iU8 _ i31 _); rotate_left 2; (focus exact rfl); intro wz Kz; clear K; have K := Kz; clear Kz; simp only [List.set_cons_zero, List.set_cons_succ] at K; rw [HSB.out] at K; try (simp only [Act.put, List.setIfInBounds_toArray, List.set_cons_zero, List.set_cons_succ])))
      | (focus (first | ((with_reducible refine' wpList_load_kn K rfl 36 (.tmp 1) rfl 1 _ _ _ _ rfl _ Try.underlying36 rfl Try.szBa _ _); rotate_left 2; (focus exact rfl))))
      | (focus ((first | ((with_reducible refine' wpList_store_kn K rfl 24 (.tmp 5) _ rfl 0 _ _ _ _ _ rfl rfl Try.szEl _ _ _); rotate_left 2; (focus exact rfl))); (focus assumption); intro wz Kz; clear K; have K := Kz; clear Kz; simp only [List.set_cons_zero, List.set_cons_succ] at K; try (simp only [Act.put, List.setIfInBounds_toArray, List.set_cons_zero, List.set_cons_succ])))
      | ((with_reducible refine wpList_new_kn K 24 _ _ _ _ #[.int .u64 0, .int .u64 0, .int .u64 0, .int .u64 0] 4 rfl Try.alEl rfl ?_); intro gz wz Kz; clear K; have K := Kz; clear Kz; try (simp only [Act.put, List.setIfInBounds_toArray, List.set_cons_zero, List.set_cons_succ]))
      | (go_at_call 29; (with_reducible refine Calls.kn K (OF _) ?_); intro wz Kz; clear K; have K := Kz; clear Kz))
  refine wp_region_keep (by kernel_rfl) (by kernel_rfl) ?_
  repeat (any_goals (first | (focus (go_big_quiet_want; (first | ((with_reducible refine' quiet_load_kn K 24 (.tmp 5) rfl 0 _ _ _ _ rfl _ Try.underlying24 rfl Try.szEl _ _); rotate_left 2; (focus exact rfl)) | ((with_reducible refine' quiet_load_kn K 36 (.tmp 1) rfl 2 _ _ _ _ rfl _ Try.underlying36 rfl Try.szBa _ _); rotate_left 2; (focus exact rfl))); simp only [Act.put, List.setIfInBounds_toArray, List.set_cons_zero, List.set_cons_succ]; go_big_quiet_on)) | go_big_quiet_step ((first | (go_at_call 28; with_reducible exact Calls.keep (BY _)))) | quiet_step ((first | (go_at_call 28; with_reducible exact Calls.keep (BY _))))))
  refine wpQuiet_nil ?_
  intro _ hwz
  obtain ⟨y, rfl⟩ := hwz
  have Kz := K.call y.h
  clear K c0
  have K := Kz
  clear Kz
  generalize y.w = wz at K ⊢
  clear y
  go_wp2_with (first
      | (focus (first | ((with_reducible refine' wpList_load_kn K rfl 24 (.tmp 5) rfl 0 _ _ _ _ rfl _ Try.underlying24 rfl Try.szEl _ _); rotate_left 2; (focus exact rfl)) | ((with_reducible refine' wpList_load_kn K rfl 24 (.tmp 6) rfl 0 _ _ _ _ rfl _ Try.underlying24 rfl Try.szEl _ _); rotate_left 2; (focus exact rfl)) | ((with_reducible refine' wpList_load_kn K rfl 24 (.tmp 5) rfl 1 _ _ _ _ rfl _ Try.underlying24 rfl Try.szEl _ _); rotate_left 2; (focus exact rfl))))
      | (focus ((first | ((with_reducible refine' wpList_store_kn K rfl 24 (.tmp 6) _ rfl 0 _ _ _ _ _ rfl rfl Try.szEl _ _ _); rotate_left 2; (focus exact rfl)) | ((with_reducible refine' wpList_store_kn K rfl 72 (.tmp 2) _ rfl 2 _ _ _ _ _ rfl rfl Try.szPt _ _ _); rotate_left 2; (focus exact rfl))); (focus assumption); intro wz Kz; clear K; have K := Kz; clear Kz; simp only [List.set_cons_zero, List.set_cons_succ] at K; try (simp only [Act.put, List.setIfInBounds_toArray, List.set_cons_zero, List.set_cons_succ])))
      | ((with_reducible refine wpList_new_kn K 24 _ _ _ _ #[.int .u64 0, .int .u64 0, .int .u64 0, .int .u64 0] 4 rfl Try.alEl rfl ?_); intro gz wz Kz; clear K; have K := Kz; clear Kz; try (simp only [Act.put, List.setIfInBounds_toArray, List.set_cons_zero, List.set_cons_succ]))
      | (go_at_call 105; (with_reducible refine Calls.kn K (AC _) ?_); intro wz Kz; clear K; have K := Kz; clear Kz)
      | (go_at_call 27; (with_reducible refine Calls.kn K (OX _) ?_); intro wz Kz; clear K; have K := Kz; clear Kz)
      | (go_at_call 27; (with_reducible refine Calls.kn K (ON _) ?_); intro wz Kz; clear K; have K := Kz; clear Kz)
      | (go_at_call 24; (with_reducible refine Calls.kn K (NE _) ?_); intro wz Kz; clear K; have K := Kz; clear Kz))
  refine bodyPost_ret (results_kn_tmp K rfl _ 2 _ _ _ _ rfl _ Try.underlying72 rfl Try.szPt rfl) rfl ?_
  exact ⟨rfl, K.fr⟩
end Go.Proofs.Ytahnlnflcgehaaa

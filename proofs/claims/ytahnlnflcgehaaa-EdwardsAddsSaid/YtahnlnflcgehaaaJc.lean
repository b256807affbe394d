/-
  The contracts of package edwards' functions on points, over what their callees answer.
-/
import Derived.Test.YtahnlnflcgehaaaJb
namespace Go.Proofs.Ytahnlnflcgehaaa
open Go.RowKit Pri
set_option linter.unusedVariables false
set_option linter.unusedSimpArgs false

theorem Try.guardPoint : Try.prog.eqGuardType Try.prog.depth 72 = false := by kernel_rfl
set_option maxRecDepth 100000 in
set_option maxHeartbeats 3200000 in
theorem py_op (A XA RA O Y : Array Value) (w : World)
    (SM : Ans Try.prog 32 #[.int .u64 1] (.agg O))
    (AD : Ans Try.prog 18 #[.agg RA, .agg O] (.agg Y))
    (pXA : Part A 0 XA) (pRA : Part A 4 RA)
    (sA : Sz 8 A) (sXA : Sz 4 XA) (sRA : Sz 4 RA) (sY : Sz 4 Y) :
    Calls Try.prog 107 #[.agg A] w fun e w' => e = .returned (.agg Y) ∧ Fr (fun _ => False) w w' := by
  have K := (((Kn.start w).new (w.heap.size) 8 A 72 rfl sA.1).new (w.heap.size + 1) 4 #[.int .u64 0, .int .u64 0, .int .u64 0, .int .u64 0] 24 (by simp) rfl)
  go_enter Try.func107, Try.ntmps107
  go_wp2_with fail
  refine wp_region_kn_tail K 4 [] (by kernel_rfl) (by kernel_rfl) mk_nil sz_nil ?_
  apply Exists.intro
  refine ⟨?wk1, ?fin1⟩
  case wk1 =>
    intro γ
  
    simp only [List.take_succ_cons, List.take_zero]
    repeat (any_goals (first | (focus (go_big_quiet_want; (first | ((with_reducible refine' quiet_load_ptg K 24 (.tmp 3) rfl 1 _ _ 4 4 _ _ _ rfl _ Try.underlying24 rfl Try.szEl _ pRA (Sz.n sRA) _); rotate_left 2; (focus exact rfl))); simp only [Act.put, List.setIfInBounds_toArray, List.set_cons_zero, List.set_cons_succ]; go_big_quiet_on)) | go_big_quiet_step ((first | (go_at_call 32; with_reducible exact Calls.keepg (SM _)) | (go_at_call 18; with_reducible exact Calls.keepg (AD _)))) | quiet_step ((first | (go_at_call 32; with_reducible exact Calls.keepg (SM _)) | (go_at_call 18; with_reducible exact Calls.keepg (AD _))))))
    exact wpQuiet_nil rfl
  case fin1 =>
    intro gs wz Kz
    clear K
    have K := Kz
    clear Kz
    try simp only [mkAll, asObj, List.map_cons, List.map_nil, putAll, List.drop_succ_cons, List.drop_zero, List.length_cons, List.length_nil, Nat.zero_add, Nat.add_zero] at K ⊢
    try simp only [Act.put, List.setIfInBounds_toArray, List.set_cons_zero, List.set_cons_succ]

    go_wp2_with (first
      | (focus ((first | ((with_reducible refine' wpList_store_kn K rfl 24 (.tmp 2) _ rfl 0 _ _ _ _ _ rfl rfl Try.szEl _ _ _); rotate_left 2; (focus exact rfl))); (focus assumption); intro wz Kz; clear K; have K := Kz; clear Kz; simp only [List.set_cons_zero, List.set_cons_succ] at K; try (simp only [Act.put, List.setIfInBounds_toArray, List.set_cons_zero, List.set_cons_succ]))))
    refine bodyPost_ret (results_kn K rfl _ 0 _ _ _ _ rfl _ Try.underlying24 rfl Try.szEl rfl) rfl ?_
    exact ⟨rfl, K.fr⟩
set_option maxRecDepth 100000 in
set_option maxHeartbeats 3200000 in
theorem pair_op (X Y O R : Array Value) (w : World)
    (SM : Ans Try.prog 32 #[.int .u64 1] (.agg O))
    (SU : Ans Try.prog 20 #[.agg Y, .agg O] (.agg R))
    (sX : Sz 4 X) (sY : Sz 4 Y) (sR : Sz 4 R) :
    Calls Try.prog 106 #[.agg X, .agg Y] w fun e w' => e = .returned (.agg (cat2 X R)) ∧ Fr (fun _ => False) w w' := by
  have hb := built_point sX sR
  have sP : Sz 8 (cat2 X R) := sz2 sX sR
  have K := ((((Kn.start w).new (w.heap.size) 4 X 24 rfl sX.1).new (w.heap.size + 1) 4 Y 24 (by simp) sY.1).new (w.heap.size + 1 + 1) 8 #[.int .u64 0, .int .u64 0, .int .u64 0, .int .u64 0, .int .u64 0, .int .u64 0, .int .u64 0, .int .u64 0] 72 (by simp) rfl)
  go_enter Try.func106, Try.ntmps106
  go_wp2_with fail
  refine wp_region_kn_tail K 5 [] (by kernel_rfl) (by kernel_rfl) mk_nil sz_nil ?_
  apply Exists.intro
  refine ⟨?wk1, ?fin1⟩
  case wk1 =>
    intro γ
  
    simp only [List.take_succ_cons, List.take_zero]
    repeat (any_goals (first | (focus (go_big_quiet_want; (first | ((with_reducible refine' quiet_load_kng K 24 (.tmp 2) rfl 2 _ _ _ _ rfl _ Try.underlying24 rfl Try.szEl _ _); rotate_left 2; (focus exact rfl)) | ((with_reducible refine' quiet_load_kng K 24 (.tmp 3) rfl 1 _ _ _ _ rfl _ Try.underlying24 rfl Try.szEl _ _); rotate_left 2; (focus exact rfl)) | (with_reducible refine' quiet_build2 72 _ _ _ _ _ _ rfl _ hb rfl rfl _)); simp only [Act.put, List.setIfInBounds_toArray, List.set_cons_zero, List.set_cons_succ]; go_big_quiet_on)) | go_big_quiet_step ((first | (go_at_call 32; with_reducible exact Calls.keepg (SM _)) | (go_at_call 20; with_reducible exact Calls.keepg (SU _)))) | quiet_step ((first | (go_at_call 32; with_reducible exact Calls.keepg (SM _)) | (go_at_call 20; with_reducible exact Calls.keepg (SU _))))))
    exact wpQuiet_nil rfl
  case fin1 =>
    intro gs wz Kz
    clear K
    have K := Kz
    clear Kz
    try simp only [mkAll, asObj, List.map_cons, List.map_nil, putAll, List.drop_succ_cons, List.drop_zero, List.length_cons, List.length_nil, Nat.zero_add, Nat.add_zero] at K ⊢
    try simp only [Act.put, List.setIfInBounds_toArray, List.set_cons_zero, List.set_cons_succ]

    go_wp2_with (first
      | (focus ((first | ((with_reducible refine' wpList_store_kn K rfl 72 (.tmp 4) _ rfl 0 _ _ _ _ _ rfl rfl Try.szPt _ _ _); rotate_left 2; (focus exact rfl))); (focus assumption); intro wz Kz; clear K; have K := Kz; clear Kz; simp only [List.set_cons_zero, List.set_cons_succ] at K; try (simp only [Act.put, List.setIfInBounds_toArray, List.set_cons_zero, List.set_cons_succ]))))
    refine bodyPost_ret (results_kn K rfl _ 0 _ _ _ _ rfl _ Try.underlying72 rfl Try.szPt rfl) rfl ?_
    exact ⟨rfl, K.fr⟩
set_option maxRecDepth 100000 in
set_option maxHeartbeats 3200000 in
theorem pwide_op (A XA RA O Y T : Array Value) (w : World)
    (SM : Ans Try.prog 32 #[.int .u64 1] (.agg O))
    (YY : Ans Try.prog 107 #[.agg A] (.agg Y))
    (MU : Ans Try.prog 22 #[.agg XA, .agg Y] (.agg T))
    (pXA : Part A 0 XA) (pRA : Part A 4 RA)
    (sA : Sz 8 A) (sXA : Sz 4 XA) (sRA : Sz 4 RA) (sO : Sz 4 O) (sY : Sz 4 Y) (sT : Sz 4 T) :
    Calls Try.prog 99 #[.agg A] w fun e w' => e = .returned (.agg (cat4 XA Y O T)) ∧ Fr (fun _ => False) w w' := by
  have hb := built_wide sXA sY sO sT
  have sW : Sz 16 (cat4 XA Y O T) := sz4 sXA sY sO sT
  have K := (((Kn.start w).new (w.heap.size) 8 A 72 rfl sA.1).new (w.heap.size + 1) 16 #[.int .u64 0, .int .u64 0, .int .u64 0, .int .u64 0, .int .u64 0, .int .u64 0, .int .u64 0, .int .u64 0, .int .u64 0, .int .u64 0, .int .u64 0, .int .u64 0, .int .u64 0, .int .u64 0, .int .u64 0, .int .u64 0] 121 (by simp) rfl)
  go_enter Try.func99, Try.ntmps99
  go_wp2_with (first
      | (focus (first | ((with_reducible refine' wpList_load_kn K rfl 72 (.tmp 1) rfl 1 _ _ _ _ rfl _ Try.underlying72 rfl Try.szPt _ _); rotate_left 2; (focus exact rfl))))
      | (focus ((first | ((with_reducible refine' wpList_store_kn K rfl 24 (.tmp 3) _ rfl 0 _ _ _ _ _ rfl rfl Try.szEl _ _ _); rotate_left 2; (focus exact rfl))); (focus assumption); intro wz Kz; clear K; have K := Kz; clear Kz; simp only [List.set_cons_zero, List.set_cons_succ] at K; try (simp only [Act.put, List.setIfInBounds_toArray, List.set_cons_zero, List.set_cons_succ])))
      | ((with_reducible refine wpList_new_kn K 24 _ _ _ _ #[.int .u64 0, .int .u64 0, .int .u64 0, .int .u64 0] 4 rfl Try.alEl rfl ?_); intro gz wz Kz; clear K; have K := Kz; clear Kz; try (simp only [Act.put, List.setIfInBounds_toArray, List.set_cons_zero, List.set_cons_succ]))
      | (go_at_call 107; (with_reducible refine Calls.kn K (YY _) ?_); intro wz Kz; clear K; have K := Kz; clear Kz))
  refine wp_region_kn_tail K 9 [] (by kernel_rfl) (by kernel_rfl) mk_nil sz_nil ?_
  apply Exists.intro
  refine ⟨?wk2, ?fin2⟩
  case wk2 =>
    intro γ
  
    simp only [List.take_succ_cons, List.take_zero]
    repeat (any_goals (first | (focus (go_big_quiet_want; (first | ((with_reducible refine' quiet_load_ptg K 24 (.tmp 6) rfl 2 _ _ 0 4 _ _ _ rfl _ Try.underlying24 rfl Try.szEl _ pXA (Sz.n sXA) _); rotate_left 2; (focus exact rfl)) | ((with_reducible refine' quiet_load_kng K 24 (.tmp 3) rfl 0 _ _ _ _ rfl _ Try.underlying24 rfl Try.szEl _ _); rotate_left 2; (focus exact rfl)) | ((with_reducible refine' quiet_load_ptg K 24 (.tmp 10) rfl 2 _ _ 0 4 _ _ _ rfl _ Try.underlying24 rfl Try.szEl _ pXA (Sz.n sXA) _); rotate_left 2; (focus exact rfl)) | (with_reducible refine' quiet_build4 121 _ _ _ _ _ _ _ _ _ _ _ _ rfl _ hb rfl rfl rfl rfl _)); simp only [Act.put, List.setIfInBounds_toArray, List.set_cons_zero, List.set_cons_succ]; go_big_quiet_on)) | go_big_quiet_step ((first | (go_at_call 32; with_reducible exact Calls.keepg (SM _)) | (go_at_call 22; with_reducible exact Calls.keepg (MU _)))) | quiet_step ((first | (go_at_call 32; with_reducible exact Calls.keepg (SM _)) | (go_at_call 22; with_reducible exact Calls.keepg (MU _))))))
    exact wpQuiet_nil rfl
  case fin2 =>
    intro gs wz Kz
    clear K
    have K := Kz
    clear Kz
    try simp only [mkAll, asObj, List.map_cons, List.map_nil, putAll, List.drop_succ_cons, List.drop_zero, List.length_cons, List.length_nil, Nat.zero_add, Nat.add_zero] at K ⊢
    try simp only [Act.put, List.setIfInBounds_toArray, List.set_cons_zero, List.set_cons_succ]

    go_wp2_with (first
      | (focus ((first | ((with_reducible refine' wpList_store_kn K rfl 121 (.tmp 2) _ rfl 1 _ _ _ _ _ rfl rfl Try.szWd _ _ _); rotate_left 2; (focus exact rfl))); (focus assumption); intro wz Kz; clear K; have K := Kz; clear Kz; simp only [List.set_cons_zero, List.set_cons_succ] at K; try (simp only [Act.put, List.setIfInBounds_toArray, List.set_cons_zero, List.set_cons_succ]))))
    refine bodyPost_ret (results_kn K rfl _ 1 _ _ _ _ rfl _ Try.underlying121 rfl Try.szWd rfl) rfl ?_
    exact ⟨rfl, K.fr⟩
set_option maxRecDepth 100000 in
set_option maxHeartbeats 3200000 in
theorem wpoint_op (A XA YA ZA I X2 Y2 R : Array Value) (w : World)
    (IV : Ans Try.prog 33 #[.agg ZA] (.agg I))
    (M1 : Ans Try.prog 22 #[.agg XA, .agg I] (.agg X2))
    (M2 : Ans Try.prog 22 #[.agg YA, .agg I] (.agg Y2))
    (PA : Ans Try.prog 106 #[.agg X2, .agg Y2] (.agg R))
    (pXA : Part A 0 XA) (pYA : Part A 4 YA) (pZA : Part A 8 ZA)
    (sA : Sz 16 A) (sXA : Sz 4 XA) (sYA : Sz 4 YA) (sZA : Sz 4 ZA) (sI : Sz 4 I) (sR : Sz 8 R) :
    Calls Try.prog 103 #[.agg A] w fun e w' => e = .returned (.agg R) ∧ Fr (fun _ => False) w w' := by
  have K := (((Kn.start w).new (w.heap.size) 16 A 121 rfl sA.1).new (w.heap.size + 1) 8 #[.int .u64 0, .int .u64 0, .int .u64 0, .int .u64 0, .int .u64 0, .int .u64 0, .int .u64 0, .int .u64 0] 72 (by simp) rfl)
  go_enter Try.func103, Try.ntmps103
  go_wp2_with (first
      | (focus (first | ((with_reducible refine' wpList_load_pt K rfl 24 (.tmp 4) rfl 1 _ _ 8 4 _ _ _ rfl _ Try.underlying24 rfl Try.szEl _ pZA (Sz.n sZA) _); rotate_left 2; (focus exact rfl))))
      | (focus ((first | ((with_reducible refine' wpList_store_kn K rfl 24 (.tmp 3) _ rfl 0 _ _ _ _ _ rfl rfl Try.szEl _ _ _); rotate_left 2; (focus exact rfl))); (focus assumption); intro wz Kz; clear K; have K := Kz; clear Kz; simp only [List.set_cons_zero, List.set_cons_succ] at K; try (simp only [Act.put, List.setIfInBounds_toArray, List.set_cons_zero, List.set_cons_succ])))
      | ((with_reducible refine wpList_new_kn K 24 _ _ _ _ #[.int .u64 0, .int .u64 0, .int .u64 0, .int .u64 0] 4 rfl Try.alEl rfl ?_); intro gz wz Kz; clear K; have K := Kz; clear Kz; try (simp only [Act.put, List.setIfInBounds_toArray, List.set_cons_zero, List.set_cons_succ]))
      | (go_at_call 33; (with_reducible refine Calls.kn K (IV _) ?_); intro wz Kz; clear K; have K := Kz; clear Kz))
  refine wp_region_kn_tail K 9 [] (by kernel_rfl) (by kernel_rfl) mk_nil sz_nil ?_
  apply Exists.intro
  refine ⟨?wk2, ?fin2⟩
  case wk2 =>
    intro γ
  
    simp only [List.take_succ_cons, List.take_zero]
    repeat (any_goals (first | (focus (go_big_quiet_want; (first | ((with_reducible refine' quiet_load_ptg K 24 (.tmp 7) rfl 2 _ _ 0 4 _ _ _ rfl _ Try.underlying24 rfl Try.szEl _ pXA (Sz.n sXA) _); rotate_left 2; (focus exact rfl)) | ((with_reducible refine' quiet_load_kng K 24 (.tmp 3) rfl 0 _ _ _ _ rfl _ Try.underlying24 rfl Try.szEl _ _); rotate_left 2; (focus exact rfl)) | ((with_reducible refine' quiet_load_ptg K 24 (.tmp 11) rfl 2 _ _ 4 4 _ _ _ rfl _ Try.underlying24 rfl Try.szEl _ pYA (Sz.n sYA) _); rotate_left 2; (focus exact rfl))); simp only [Act.put, List.setIfInBounds_toArray, List.set_cons_zero, List.set_cons_succ]; go_big_quiet_on)) | go_big_quiet_step ((first | (go_at_call 22; with_reducible exact Calls.keepg (M1 _)) | (go_at_call 22; with_reducible exact Calls.keepg (M2 _)) | (go_at_call 106; with_reducible exact Calls.keepg (PA _)))) | quiet_step ((first | (go_at_call 22; with_reducible exact Calls.keepg (M1 _)) | (go_at_call 22; with_reducible exact Calls.keepg (M2 _)) | (go_at_call 106; with_reducible exact Calls.keepg (PA _))))))
    exact wpQuiet_nil rfl
  case fin2 =>
    intro gs wz Kz
    clear K
    have K := Kz
    clear Kz
    try simp only [mkAll, asObj, List.map_cons, List.map_nil, putAll, List.drop_succ_cons, List.drop_zero, List.length_cons, List.length_nil, Nat.zero_add, Nat.add_zero] at K ⊢
    try simp only [Act.put, List.setIfInBounds_toArray, List.set_cons_zero, List.set_cons_succ]

    go_wp2_with (first
      | (focus ((first | ((with_reducible refine' wpList_store_kn K rfl 72 (.tmp 2) _ rfl 1 _ _ _ _ _ rfl rfl Try.szPt _ _ _); rotate_left 2; (focus exact rfl))); (focus assumption); intro wz Kz; clear K; have K := Kz; clear Kz; simp only [List.set_cons_zero, List.set_cons_succ] at K; try (simp only [Act.put, List.setIfInBounds_toArray, List.set_cons_zero, List.set_cons_succ]))))
    refine bodyPost_ret (results_kn K rfl _ 1 _ _ _ _ rfl _ Try.underlying72 rfl Try.szPt rfl) rfl ?_
    exact ⟨rfl, K.fr⟩
set_option maxRecDepth 100000 in
set_option maxHeartbeats 3200000 in
theorem twice_op (A R : Array Value) (w : World)
    (AD : Ans Try.prog 102 #[.agg A, .agg A] (.agg R))
    (sA : Sz 16 A) (sR : Sz 16 R) :
    Calls Try.prog 101 #[.agg A] w fun e w' => e = .returned (.agg R) ∧ Fr (fun _ => False) w w' := by
  have K := (((Kn.start w).new (w.heap.size) 16 A 121 rfl sA.1).new (w.heap.size + 1) 16 #[.int .u64 0, .int .u64 0, .int .u64 0, .int .u64 0, .int .u64 0, .int .u64 0, .int .u64 0, .int .u64 0, .int .u64 0, .int .u64 0, .int .u64 0, .int .u64 0, .int .u64 0, .int .u64 0, .int .u64 0, .int .u64 0] 121 (by simp) rfl)
  go_enter Try.func101, Try.ntmps101
  go_wp2_with (first
      | (focus (first | ((with_reducible refine' wpList_load_kn K rfl 121 (.tmp 1) rfl 1 _ _ _ _ rfl _ Try.underlying121 rfl Try.szWd _ _); rotate_left 2; (focus exact rfl))))
      | (focus ((first | ((with_reducible refine' wpList_store_kn K rfl 121 (.tmp 2) _ rfl 0 _ _ _ _ _ rfl rfl Try.szWd _ _ _); rotate_left 2; (focus exact rfl))); (focus assumption); intro wz Kz; clear K; have K := Kz; clear Kz; simp only [List.set_cons_zero, List.set_cons_succ] at K; try (simp only [Act.put, List.setIfInBounds_toArray, List.set_cons_zero, List.set_cons_succ])))
      | (go_at_call 102; (with_reducible refine Calls.kn K (AD _) ?_); intro wz Kz; clear K; have K := Kz; clear Kz))
  refine bodyPost_ret (results_kn K rfl _ 0 _ _ _ _ rfl _ Try.underlying121 rfl Try.szWd rfl) rfl ?_
  exact ⟨rfl, K.fr⟩
set_option maxRecDepth 100000 in
set_option maxHeartbeats 3200000 in
theorem weight_op (A B C R : Array Value) (w : World)
    (T1 : Ans Try.prog 101 #[.agg A] (.agg B))
    (T2 : Ans Try.prog 101 #[.agg B] (.agg C))
    (T3 : Ans Try.prog 101 #[.agg C] (.agg R))
    (sA : Sz 16 A) (sR : Sz 16 R) :
    Calls Try.prog 100 #[.agg A] w fun e w' => e = .returned (.agg R) ∧ Fr (fun _ => False) w w' := by
  have K := (((Kn.start w).new (w.heap.size) 16 A 121 rfl sA.1).new (w.heap.size + 1) 16 #[.int .u64 0, .int .u64 0, .int .u64 0, .int .u64 0, .int .u64 0, .int .u64 0, .int .u64 0, .int .u64 0, .int .u64 0, .int .u64 0, .int .u64 0, .int .u64 0, .int .u64 0, .int .u64 0, .int .u64 0, .int .u64 0] 121 (by simp) rfl)
  go_enter Try.func100, Try.ntmps100
  go_wp2_with (first
      | (focus (first | ((with_reducible refine' wpList_load_kn K rfl 121 (.tmp 1) rfl 1 _ _ _ _ rfl _ Try.underlying121 rfl Try.szWd _ _); rotate_left 2; (focus exact rfl))))
      | (focus ((first | ((with_reducible refine' wpList_store_kn K rfl 121 (.tmp 2) _ rfl 0 _ _ _ _ _ rfl rfl Try.szWd _ _ _); rotate_left 2; (focus exact rfl))); (focus assumption); intro wz Kz; clear K; have K := Kz; clear Kz; simp only [List.set_cons_zero, List.set_cons_succ] at K; try (simp only [Act.put, List.setIfInBounds_toArray, List.set_cons_zero, List.set_cons_succ])))
      | (go_at_call 101; (with_reducible refine Calls.kn K (T1 _) ?_); intro wz Kz; clear K; have K := Kz; clear Kz)
      | (go_at_call 101; (with_reducible refine Calls.kn K (T2 _) ?_); intro wz Kz; clear K; have K := Kz; clear Kz)
      | (go_at_call 101; (with_reducible refine Calls.kn K (T3 _) ?_); intro wz Kz; clear K; have K := Kz; clear Kz))
  refine bodyPost_ret (results_kn K rfl _ 0 _ _ _ _ rfl _ Try.underlying121 rfl Try.szWd rfl) rfl ?_
  exact ⟨rfl, K.fr⟩
set_option maxRecDepth 100000 in
set_option maxHeartbeats 3200000 in
theorem padd_op (A B U V W R : Array Value) (w : World)
    (W1 : Ans Try.prog 99 #[.agg A] (.agg U))
    (W2 : Ans Try.prog 99 #[.agg B] (.agg V))
    (AD : Ans Try.prog 102 #[.agg U, .agg V] (.agg W))
    (PP : Ans Try.prog 103 #[.agg W] (.agg R))
    (sA : Sz 8 A) (sB : Sz 8 B) (sR : Sz 8 R) :
    Calls Try.prog 62 #[.agg A, .agg B] w fun e w' => e = .returned (.agg R) ∧ Fr (fun _ => False) w w' := by
  have K := ((((Kn.start w).new (w.heap.size) 8 A 72 rfl sA.1).new (w.heap.size + 1) 8 B 72 (by simp) sB.1).new (w.heap.size + 1 + 1) 8 #[.int .u64 0, .int .u64 0, .int .u64 0, .int .u64 0, .int .u64 0, .int .u64 0, .int .u64 0, .int .u64 0] 72 (by simp) rfl)
  go_enter Try.func62, Try.ntmps62
  go_wp2_with fail
  refine wp_region_kn_tail K 6 [] (by kernel_rfl) (by kernel_rfl) mk_nil sz_nil ?_
  apply Exists.intro
  refine ⟨?wk1, ?fin1⟩
  case wk1 =>
    intro γ
  
    simp only [List.take_succ_cons, List.take_zero]
    repeat (any_goals (first | (focus (go_big_quiet_want; (first | ((with_reducible refine' quiet_load_kng K 72 (.tmp 2) rfl 2 _ _ _ _ rfl _ Try.underlying72 rfl Try.szPt _ _); rotate_left 2; (focus exact rfl)) | ((with_reducible refine' quiet_load_kng K 72 (.tmp 3) rfl 1 _ _ _ _ rfl _ Try.underlying72 rfl Try.szPt _ _); rotate_left 2; (focus exact rfl))); simp only [Act.put, List.setIfInBounds_toArray, List.set_cons_zero, List.set_cons_succ]; go_big_quiet_on)) | go_big_quiet_step ((first | (go_at_call 99; with_reducible exact Calls.keepg (W1 _)) | (go_at_call 99; with_reducible exact Calls.keepg (W2 _)) | (go_at_call 102; with_reducible exact Calls.keepg (AD _)) | (go_at_call 103; with_reducible exact Calls.keepg (PP _)))) | quiet_step ((first | (go_at_call 99; with_reducible exact Calls.keepg (W1 _)) | (go_at_call 99; with_reducible exact Calls.keepg (W2 _)) | (go_at_call 102; with_reducible exact Calls.keepg (AD _)) | (go_at_call 103; with_reducible exact Calls.keepg (PP _))))))
    exact wpQuiet_nil rfl
  case fin1 =>
    intro gs wz Kz
    clear K
    have K := Kz
    clear Kz
    try simp only [mkAll, asObj, List.map_cons, List.map_nil, putAll, List.drop_succ_cons, List.drop_zero, List.length_cons, List.length_nil, Nat.zero_add, Nat.add_zero] at K ⊢
    try simp only [Act.put, List.setIfInBounds_toArray, List.set_cons_zero, List.set_cons_succ]

    go_wp2_with (first
      | (focus ((first | ((with_reducible refine' wpList_store_kn K rfl 72 (.tmp 4) _ rfl 0 _ _ _ _ _ rfl rfl Try.szPt _ _ _); rotate_left 2; (focus exact rfl))); (focus assumption); intro wz Kz; clear K; have K := Kz; clear Kz; simp only [List.set_cons_zero, List.set_cons_succ] at K; try (simp only [Act.put, List.setIfInBounds_toArray, List.set_cons_zero, List.set_cons_succ]))))
    refine bodyPost_ret (results_kn K rfl _ 0 _ _ _ _ rfl _ Try.underlying72 rfl Try.szPt rfl) rfl ?_
    exact ⟨rfl, K.fr⟩
set_option maxRecDepth 100000 in
set_option maxHeartbeats 3200000 in
theorem pneg_op (A XA RA N : Array Value) (w : World)
    (NE : Ans Try.prog 24 #[.agg XA] (.agg N))
    (pXA : Part A 0 XA) (pRA : Part A 4 RA)
    (sA : Sz 8 A) (sXA : Sz 4 XA) (sRA : Sz 4 RA) (sN : Sz 4 N) :
    Calls Try.prog 64 #[.agg A] w fun e w' => e = .returned (.agg (cat2 N RA)) ∧ Fr (fun _ => False) w w' := by
  have hb := built_point sN sRA
  have sP : Sz 8 (cat2 N RA) := sz2 sN sRA
  have K := (((Kn.start w).new (w.heap.size) 8 A 72 rfl sA.1).new (w.heap.size + 1) 8 #[.int .u64 0, .int .u64 0, .int .u64 0, .int .u64 0, .int .u64 0, .int .u64 0, .int .u64 0, .int .u64 0] 72 (by simp) rfl)
  go_enter Try.func64, Try.ntmps64
  go_wp2_with fail
  refine wp_region_kn_tail K 6 [] (by kernel_rfl) (by kernel_rfl) mk_nil sz_nil ?_
  apply Exists.intro
  refine ⟨?wk1, ?fin1⟩
  case wk1 =>
    intro γ
  
    simp only [List.take_succ_cons, List.take_zero]
    repeat (any_goals (first | (focus (go_big_quiet_want; (first | ((with_reducible refine' quiet_load_ptg K 24 (.tmp 3) rfl 1 _ _ 0 4 _ _ _ rfl _ Try.underlying24 rfl Try.szEl _ pXA (Sz.n sXA) _); rotate_left 2; (focus exact rfl)) | ((with_reducible refine' quiet_load_ptg K 24 (.tmp 6) rfl 1 _ _ 4 4 _ _ _ rfl _ Try.underlying24 rfl Try.szEl _ pRA (Sz.n sRA) _); rotate_left 2; (focus exact rfl)) | (with_reducible refine' quiet_build2 72 _ _ _ _ _ _ rfl _ hb rfl rfl _)); simp only [Act.put, List.setIfInBounds_toArray, List.set_cons_zero, List.set_cons_succ]; go_big_quiet_on)) | go_big_quiet_step ((first | (go_at_call 24; with_reducible exact Calls.keepg (NE _)))) | quiet_step ((first | (go_at_call 24; with_reducible exact Calls.keepg (NE _))))))
    exact wpQuiet_nil rfl
  case fin1 =>
    intro gs wz Kz
    clear K
    have K := Kz
    clear Kz
    try simp only [mkAll, asObj, List.map_cons, List.map_nil, putAll, List.drop_succ_cons, List.drop_zero, List.length_cons, List.length_nil, Nat.zero_add, Nat.add_zero] at K ⊢
    try simp only [Act.put, List.setIfInBounds_toArray, List.set_cons_zero, List.set_cons_succ]

    go_wp2_with (first
      | (focus ((first | ((with_reducible refine' wpList_store_kn K rfl 72 (.tmp 2) _ rfl 0 _ _ _ _ _ rfl rfl Try.szPt _ _ _); rotate_left 2; (focus exact rfl))); (focus assumption); intro wz Kz; clear K; have K := Kz; clear Kz; simp only [List.set_cons_zero, List.set_cons_succ] at K; try (simp only [Act.put, List.setIfInBounds_toArray, List.set_cons_zero, List.set_cons_succ]))))
    refine bodyPost_ret (results_kn K rfl _ 0 _ _ _ _ rfl _ Try.underlying72 rfl Try.szPt rfl) rfl ?_
    exact ⟨rfl, K.fr⟩
set_option maxRecDepth 100000 in
set_option maxHeartbeats 3200000 in
theorem peight_op (A U V R : Array Value) (w : World)
    (W1 : Ans Try.prog 99 #[.agg A] (.agg U))
    (EI : Ans Try.prog 100 #[.agg U] (.agg V))
    (PP : Ans Try.prog 103 #[.agg V] (.agg R))
    (sA : Sz 8 A) (sR : Sz 8 R) :
    Calls Try.prog 66 #[.agg A] w fun e w' => e = .returned (.agg R) ∧ Fr (fun _ => False) w w' := by
  have K := (((Kn.start w).new (w.heap.size) 8 A 72 rfl sA.1).new (w.heap.size + 1) 8 #[.int .u64 0, .int .u64 0, .int .u64 0, .int .u64 0, .int .u64 0, .int .u64 0, .int .u64 0, .int .u64 0] 72 (by simp) rfl)
  go_enter Try.func66, Try.ntmps66
  go_wp2_with (first
      | (focus (first | ((with_reducible refine' wpList_load_kn K rfl 72 (.tmp 1) rfl 1 _ _ _ _ rfl _ Try.underlying72 rfl Try.szPt _ _); rotate_left 2; (focus exact rfl))))
      | (focus ((first | ((with_reducible refine' wpList_store_kn K rfl 72 (.tmp 2) _ rfl 0 _ _ _ _ _ rfl rfl Try.szPt _ _ _); rotate_left 2; (focus exact rfl))); (focus assumption); intro wz Kz; clear K; have K := Kz; clear Kz; simp only [List.set_cons_zero, List.set_cons_succ] at K; try (simp only [Act.put, List.setIfInBounds_toArray, List.set_cons_zero, List.set_cons_succ])))
      | (go_at_call 99; (with_reducible refine Calls.kn K (W1 _) ?_); intro wz Kz; clear K; have K := Kz; clear Kz)
      | (go_at_call 100; (with_reducible refine Calls.kn K (EI _) ?_); intro wz Kz; clear K; have K := Kz; clear Kz)
      | (go_at_call 103; (with_reducible refine Calls.kn K (PP _) ?_); intro wz Kz; clear K; have K := Kz; clear Kz))
  refine bodyPost_ret (results_kn K rfl _ 0 _ _ _ _ rfl _ Try.underlying72 rfl Try.szPt rfl) rfl ?_
  exact ⟨rfl, K.fr⟩
set_option maxRecDepth 100000 in
set_option maxHeartbeats 3200000 in
theorem psame_op (c : Bool) (A B : Array Value) (w : World)
    (EQ : ∀ W : World, (binOp .eql 72 (.agg A) (.agg B)).run Try.prog W = .ok (.bool c) W)
    (sA : Sz 8 A) (sB : Sz 8 B) :
    Calls Try.prog 68 #[.agg A, .agg B] w fun e w' => e = .returned (.bool c) ∧ Fr (fun _ => False) w w' := by
  have EG := Try.guardPoint
  have K := (((Kn.start w).new (w.heap.size) 8 A 72 rfl sA.1).new (w.heap.size + 1) 8 B 72 (by simp) sB.1)
  go_enter Try.func68, Try.ntmps68
  go_wp2_with (first
      | (focus (first | ((with_reducible refine' wpList_load_kn K rfl 72 (.tmp 2) rfl 1 _ _ _ _ rfl _ Try.underlying72 rfl Try.szPt _ _); rotate_left 2; (focus exact rfl)) | ((with_reducible refine' wpList_load_kn K rfl 72 (.tmp 3) rfl 0 _ _ _ _ rfl _ Try.underlying72 rfl Try.szPt _ _); rotate_left 2; (focus exact rfl)))))
  go_ret
  exact ⟨rfl, K.fr⟩
set_option maxRecDepth 100000 in
set_option maxHeartbeats 3200000 in
theorem across_op (b : Bool) (Y O Q S D E F R : Array Value) (w : World)
    (SM : Ans Try.prog 32 #[.int .u64 1] (.agg O))
    (M1 : Ans Try.prog 22 #[.agg Y, .agg Y] (.agg Q))
    (SU : Ans Try.prog 20 #[.agg Q, .agg O] (.agg S))
    (BE : Ans Try.prog 116 #[] (.agg D))
    (M2 : Ans Try.prog 22 #[.agg D, .agg Q] (.agg E))
    (AD : Ans Try.prog 18 #[.agg E, .agg O] (.agg F))
    (RT : Ans Try.prog 37 #[.agg S, .agg F] (.tuple #[.agg R, .bool b]))
    (sY : Sz 4 Y) (sO : Sz 4 O) (sQ : Sz 4 Q) (sR : Sz 4 R) :
    Calls Try.prog 105 #[.agg Y] w fun e w' => e = .returned (.tuple #[.agg R, .bool b]) ∧ Fr (fun _ => False) w w' := by
  have K := (((Kn.start w).new (w.heap.size) 4 Y 24 rfl sY.1).new (w.heap.size + 1) 4 #[.int .u64 0, .int .u64 0, .int .u64 0, .int .u64 0] 24 (by simp) rfl)
  go_enter Try.func105, Try.ntmps105
  go_wp2_with (first
      | (focus (first | ((with_reducible refine' wpList_load_kn K rfl 24 (.tmp 1) rfl 2 _ _ _ _ rfl _ Try.underlying24 rfl Try.szEl _ _); rotate_left 2; (focus exact rfl))))
      | (focus ((first | ((with_reducible refine' wpList_store_kn K rfl 24 (.tmp 4) _ rfl 0 _ _ _ _ _ rfl rfl Try.szEl _ _ _); rotate_left 2; (focus exact rfl)) | ((with_reducible refine' wpList_store_kn K rfl 24 (.tmp 5) _ rfl 0 _ _ _ _ _ rfl rfl Try.szEl _ _ _); rotate_left 2; (focus exact rfl))); (focus assumption); intro wz Kz; clear K; have K := Kz; clear Kz; simp only [List.set_cons_zero, List.set_cons_succ] at K; try (simp only [Act.put, List.setIfInBounds_toArray, List.set_cons_zero, List.set_cons_succ])))
      | ((with_reducible refine wpList_new_kn K 24 _ _ _ _ #[.int .u64 0, .int .u64 0, .int .u64 0, .int .u64 0] 4 rfl Try.alEl rfl ?_); intro gz wz Kz; clear K; have K := Kz; clear Kz; try (simp only [Act.put, List.setIfInBounds_toArray, List.set_cons_zero, List.set_cons_succ]))
      | (go_at_call 32; (with_reducible refine Calls.kn K (SM _) ?_); intro wz Kz; clear K; have K := Kz; clear Kz)
      | (go_at_call 22; (with_reducible refine Calls.kn K (M1 _) ?_); intro wz Kz; clear K; have K := Kz; clear Kz)
      | (go_at_call 22; (with_reducible refine Calls.kn K (M2 _) ?_); intro wz Kz; clear K; have K := Kz; clear Kz))
  refine wp_region_kn_late K 11 [10] [] (fun _ _ _ _ _ _ h => h) (by kernel_rfl) (by kernel_rfl) mk_nil sz_nil ?_
  apply Exists.intro
  refine ⟨?wk3, ?fin3⟩
  case wk3 =>
    intro γ
  
    simp only [List.take_succ_cons, List.take_zero]
    repeat (any_goals (first | (focus (go_big_quiet_want; (first | ((with_reducible refine' quiet_load_kng K 24 (.tmp 5) rfl 0 _ _ _ _ rfl _ Try.underlying24 rfl Try.szEl _ _); rotate_left 2; (focus exact rfl)) | ((with_reducible refine' quiet_load_kng K 24 (.tmp 4) rfl 1 _ _ _ _ rfl _ Try.underlying24 rfl Try.szEl _ _); rotate_left 2; (focus exact rfl))); simp only [Act.put, List.setIfInBounds_toArray, List.set_cons_zero, List.set_cons_succ]; go_big_quiet_on)) | go_big_quiet_step ((first | (go_at_call 22; with_reducible exact Calls.keepg (M1 _)) | (go_at_call 20; with_reducible exact Calls.keepg (SU _)) | (go_at_call 116; with_reducible exact Calls.keepg (BE _)) | (go_at_call 22; with_reducible exact Calls.keepg (M2 _)) | (go_at_call 18; with_reducible exact Calls.keepg (AD _)) | (go_at_call 37; with_reducible exact Calls.keepg (RT _)))) | quiet_step ((first | (go_at_call 22; with_reducible exact Calls.keepg (M1 _)) | (go_at_call 20; with_reducible exact Calls.keepg (SU _)) | (go_at_call 116; with_reducible exact Calls.keepg (BE _)) | (go_at_call 22; with_reducible exact Calls.keepg (M2 _)) | (go_at_call 18; with_reducible exact Calls.keepg (AD _)) | (go_at_call 37; with_reducible exact Calls.keepg (RT _))))))
    exact wpQuiet_nil rfl
  case fin3 =>
    intro gs wz Kz
    clear K
    have K := Kz
    clear Kz
    try simp only [mkAll, asObj, List.map_cons, List.map_nil, putAll, List.drop_succ_cons, List.drop_zero, List.length_cons, List.length_nil, Nat.zero_add, Nat.add_zero] at K ⊢
    try simp only [Act.put, List.setIfInBounds_toArray, List.set_cons_zero, List.set_cons_succ]

    go_wp2_with (first
      | (focus ((first | ((with_reducible refine' wpList_store_kn K rfl 24 (.tmp 2) _ rfl 2 _ _ _ _ _ rfl rfl Try.szEl _ _ _); rotate_left 2; (focus exact rfl))); (focus assumption); intro wz Kz; clear K; have K := Kz; clear Kz; simp only [List.set_cons_zero, List.set_cons_succ] at K; try (simp only [Act.put, List.setIfInBounds_toArray, List.set_cons_zero, List.set_cons_succ]))))
    refine bodyPost_ret (results_kn_tmp K rfl _ 2 _ _ _ _ rfl _ Try.underlying24 rfl Try.szEl rfl) rfl ?_
    exact ⟨rfl, K.fr⟩
end Go.Proofs.Ytahnlnflcgehaaa

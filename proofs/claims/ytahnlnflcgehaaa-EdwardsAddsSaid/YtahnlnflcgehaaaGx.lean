/-
  The laws FieldRoots and FieldLaws at all their contracts.
-/
import Derived.Test.YtahnlnflcgehaaaQe
namespace Go.Proofs.Ytahnlnflcgehaaa
open Go.RowKit Pri
set_option linter.unusedVariables false
set_option linter.unusedSimpArgs false

set_option maxRecDepth 100000 in
set_option maxHeartbeats 3200000 in
theorem froots_yes (U V C D R E RR M : Array Value) (w : World)
    (RT : ∀ W : World, Calls Try.prog 37 #[.agg U, .agg V] W fun e w' => e = .returned (.tuple #[.agg R, .bool true]) ∧ Fr (fun _ => False) W w')
    (OU : ∀ W : World, Calls Try.prog 14 #[.agg U] W fun e w' => e = .returned (.agg C) ∧ Fr (fun _ => False) W w')
    (OV : ∀ W : World, Calls Try.prog 14 #[.agg V] W fun e w' => e = .returned (.agg D) ∧ Fr (fun _ => False) W w')
    (RE : ∀ W : World, Calls Try.prog 38 #[.agg C, .agg D] W fun e w' => e = .returned (.tuple #[.agg E, .bool true]) ∧ Fr (fun _ => False) W w')
    (HV : ∀ W : World, Calls Try.prog 15 #[] W fun e w' => e = .returned (.bool true) ∧ Fr (fun _ => False) W w')
    (SM : ∀ W : World, Calls Try.prog 16 #[.agg R, .agg E] W fun e w' => e = .returned (.bool true) ∧ Fr (fun _ => False) W w')
    (MA : ∀ W : World, Calls Try.prog 22 #[.agg R, .agg R] W fun e w' => e = .returned (.agg RR) ∧ Fr (fun _ => False) W w')
    (MB : ∀ W : World, Calls Try.prog 22 #[.agg V, .agg RR] W fun e w' => e = .returned (.agg M) ∧ Fr (fun _ => False) W w')
    (SA : ∀ W : World, Calls Try.prog 26 #[.agg M, .agg U] W fun e w' => e = .returned (.bool true) ∧ Fr (fun _ => False) W w')
    (sU : Sz 4 U) (sV : Sz 4 V) (sR : Sz 4 R) (sE : Sz 16 E) :
    Calls Try.prog 6 #[.agg U, .agg V] w fun e w' => e = .returned (.bool true) ∧ Fr (fun _ => False) w w' := by
  have K := (((Kn.start w).new (w.heap.size) 4 U 24 rfl sU.1).new (w.heap.size + 1) 4 V 24 (by simp) sV.1)
  go_enter Try.func6, Try.ntmps6
  go_wp2_with (first
      | (focus (first | ((with_reducible refine' wpList_load_kn K rfl 24 (.tmp 2) rfl 1 _ _ _ _ rfl _ Try.underlying24 rfl Try.szEl _ _); rotate_left 2; (focus exact rfl)) | ((with_reducible refine' wpList_load_kn K rfl 24 (.tmp 3) rfl 0 _ _ _ _ rfl _ Try.underlying24 rfl Try.szEl _ _); rotate_left 2; (focus exact rfl))))
      | (focus ((first | ((with_reducible refine' wpList_store_kn K rfl 24 (.tmp 5) _ rfl 0 _ _ _ _ _ rfl rfl Try.szEl _ _ _); rotate_left 2; (focus exact rfl))); (focus assumption); intro wz Kz; clear K; have K := Kz; clear Kz; simp only [List.set_cons_zero, List.set_cons_succ] at K; try (simp only [Act.put, List.setIfInBounds_toArray, List.set_cons_zero, List.set_cons_succ])))
      | ((with_reducible refine wpList_new_kn K 24 _ _ _ _ #[.int .u64 0, .int .u64 0, .int .u64 0, .int .u64 0] 4 rfl Try.alEl rfl ?_); intro gz wz Kz; clear K; have K := Kz; clear Kz; try (simp only [Act.put, List.setIfInBounds_toArray, List.set_cons_zero, List.set_cons_succ]))
      | (go_at_call 37; (with_reducible refine Calls.kn K (RT _) ?_); intro wz Kz; clear K; have K := Kz; clear Kz))
  refine wp_region_kn_late K 8 [7] [(7, 16, #[.int .i64 0, .int .i64 0, .int .i64 0, .int .i64 0, .int .i64 0, .int .i64 0, .int .i64 0, .int .i64 0, .int .i64 0, .int .i64 0, .int .i64 0, .int .i64 0, .int .i64 0, .int .i64 0, .int .i64 0, .int .i64 0], 26)] (fun _ _ _ _ _ _ h => h) (by kernel_rfl) (by kernel_rfl) (mk_one ⟨_, rfl, makes_alloc _ _ _ _ _ _ Try.alN5⟩) (sz_one rfl) ?_
  apply Exists.intro
  refine ⟨?wk2, ?fin2⟩
  case wk2 =>
    intro γ
  
    simp only [List.take_succ_cons, List.take_zero]
    repeat (any_goals (first | (focus (go_big_quiet_want; (first | ((with_reducible refine' quiet_load_kng K 24 (.tmp 2) rfl 2 _ _ _ _ rfl _ Try.underlying24 rfl Try.szEl _ _); rotate_left 2; (focus exact rfl)) | ((with_reducible refine' quiet_load_kng K 24 (.tmp 3) rfl 1 _ _ _ _ rfl _ Try.underlying24 rfl Try.szEl _ _); rotate_left 2; (focus exact rfl))); simp only [Act.put, List.setIfInBounds_toArray, List.set_cons_zero, List.set_cons_succ]; go_big_quiet_on)) | go_big_quiet_step ((first | (go_at_call 14; with_reducible exact Calls.keepg (OU _)) | (go_at_call 14; with_reducible exact Calls.keepg (OV _)) | (go_at_call 38; with_reducible exact Calls.keepg (RE _)))) | quiet_step ((first | (go_at_call 14; with_reducible exact Calls.keepg (OU _)) | (go_at_call 14; with_reducible exact Calls.keepg (OV _)) | (go_at_call 38; with_reducible exact Calls.keepg (RE _))))))
    exact wpQuiet_nil rfl
  case fin2 =>
    intro gs wz Kz
    clear K
    have K := Kz
    clear Kz
    try simp only [mkAll, asObj, List.map_cons, List.map_nil, putAll, List.drop_succ_cons, List.drop_zero, List.length_cons, List.length_nil, Nat.zero_add, Nat.add_zero] at K ⊢
    try simp only [Act.put, List.setIfInBounds_toArray, List.set_cons_zero, List.set_cons_succ]
    generalize gs 0 = gz0 at *
    go_wp2_with (first
      | (focus ((first | ((with_reducible refine' wpList_store_kn K rfl 26 (.tmp 7) _ rfl 0 _ _ _ _ _ rfl rfl Try.szN5 _ _ _); rotate_left 2; (focus exact rfl))); (focus assumption); intro wz Kz; clear K; have K := Kz; clear Kz; simp only [List.set_cons_zero, List.set_cons_succ] at K; try (simp only [Act.put, List.setIfInBounds_toArray, List.set_cons_zero, List.set_cons_succ]))))
    refine wp_region_keep (by kernel_rfl) (by kernel_rfl) ?_
    repeat (any_goals (first | (focus (go_big_quiet_want; (first | ((with_reducible refine' quiet_load_kn K 24 (.tmp 5) rfl 1 _ _ _ _ rfl _ Try.underlying24 rfl Try.szEl _ _); rotate_left 2; (focus exact rfl)) | ((with_reducible refine' quiet_load_kn K 26 (.tmp 7) rfl 0 _ _ _ _ rfl _ Try.underlying26 rfl Try.szN5 _ _); rotate_left 2; (focus exact rfl)) | ((with_reducible refine' quiet_load_kn K 24 (.tmp 3) rfl 2 _ _ _ _ rfl _ Try.underlying24 rfl Try.szEl _ _); rotate_left 2; (focus exact rfl)) | ((with_reducible refine' quiet_load_kn K 24 (.tmp 2) rfl 3 _ _ _ _ rfl _ Try.underlying24 rfl Try.szEl _ _); rotate_left 2; (focus exact rfl))); simp only [Act.put, List.setIfInBounds_toArray, List.set_cons_zero, List.set_cons_succ]; go_big_quiet_on)) | go_big_quiet_step ((first | (go_at_call 15; with_reducible exact Calls.keep (HV _)) | (go_at_call 16; with_reducible exact Calls.keep (SM _)) | (go_at_call 22; with_reducible exact Calls.keep (MA _)) | (go_at_call 22; with_reducible exact Calls.keep (MB _)) | (go_at_call 26; with_reducible exact Calls.keep (SA _)))) | quiet_step ((first | (go_at_call 15; with_reducible exact Calls.keep (HV _)) | (go_at_call 16; with_reducible exact Calls.keep (SM _)) | (go_at_call 22; with_reducible exact Calls.keep (MA _)) | (go_at_call 22; with_reducible exact Calls.keep (MB _)) | (go_at_call 26; with_reducible exact Calls.keep (SA _))))))
    refine wpQuiet_nil ?_
    intro _ hwz
    obtain ⟨y, rfl⟩ := hwz
    have Kz := K.call y.h
    clear K 
    have K := Kz
    clear Kz
    generalize y.w = wz at K ⊢
    clear y
    go_wp2_with fail
    go_ret
    exact ⟨rfl, K.fr⟩
set_option maxRecDepth 100000 in
set_option maxHeartbeats 3200000 in
theorem froots_no (U V C D R E RR M : Array Value) (w : World)
    (RT : ∀ W : World, Calls Try.prog 37 #[.agg U, .agg V] W fun e w' => e = .returned (.tuple #[.agg R, .bool false]) ∧ Fr (fun _ => False) W w')
    (OU : ∀ W : World, Calls Try.prog 14 #[.agg U] W fun e w' => e = .returned (.agg C) ∧ Fr (fun _ => False) W w')
    (OV : ∀ W : World, Calls Try.prog 14 #[.agg V] W fun e w' => e = .returned (.agg D) ∧ Fr (fun _ => False) W w')
    (RE : ∀ W : World, Calls Try.prog 38 #[.agg C, .agg D] W fun e w' => e = .returned (.tuple #[.agg E, .bool false]) ∧ Fr (fun _ => False) W w')
    (HV : ∀ W : World, Calls Try.prog 15 #[] W fun e w' => e = .returned (.bool true) ∧ Fr (fun _ => False) W w')
    (SM : ∀ W : World, Calls Try.prog 16 #[.agg R, .agg E] W fun e w' => e = .returned (.bool true) ∧ Fr (fun _ => False) W w')
    (sU : Sz 4 U) (sV : Sz 4 V) (sR : Sz 4 R) (sE : Sz 16 E) :
    Calls Try.prog 6 #[.agg U, .agg V] w fun e w' => e = .returned (.bool true) ∧ Fr (fun _ => False) w w' := by
  have K := (((Kn.start w).new (w.heap.size) 4 U 24 rfl sU.1).new (w.heap.size + 1) 4 V 24 (by simp) sV.1)
  go_enter Try.func6, Try.ntmps6
  go_wp2_with (first
      | (focus (first | ((with_reducible refine' wpList_load_kn K rfl 24 (.tmp 2) rfl 1 _ _ _ _ rfl _ Try.underlying24 rfl Try.szEl _ _); rotate_left 2; (focus exact rfl)) | ((with_reducible refine' wpList_load_kn K rfl 24 (.tmp 3) rfl 0 _ _ _ _ rfl _ Try.underlying24 rfl Try.szEl _ _); rotate_left 2; (focus exact rfl))))
      | (focus ((first | ((with_reducible refine' wpList_store_kn K rfl 24 (.tmp 5) _ rfl 0 _ _ _ _ _ rfl rfl Try.szEl _ _ _); rotate_left 2; (focus exact rfl))); (focus assumption); intro wz Kz; clear K; have K := Kz; clear Kz; simp only [List.set_cons_zero, List.set_cons_succ] at K; try (simp only [Act.put, List.setIfInBounds_toArray, List.set_cons_zero, List.set_cons_succ])))
      | ((with_reducible refine wpList_new_kn K 24 _ _ _ _ #[.int .u64 0, .int .u64 0, .int .u64 0, .int .u64 0] 4 rfl Try.alEl rfl ?_); intro gz wz Kz; clear K; have K := Kz; clear Kz; try (simp only [Act.put, List.setIfInBounds_toArray, List.set_cons_zero, List.set_cons_succ]))
      | (go_at_call 37; (with_reducible refine Calls.kn K (RT _) ?_); intro wz Kz; clear K; have K := Kz; clear Kz))
  refine wp_region_kn_late K 8 [7] [(7, 16, #[.int .i64 0, .int .i64 0, .int .i64 0, .int .i64 0, .int .i64 0, .int .i64 0, .int .i64 0, .int .i64 0, .int .i64 0, .int .i64 0, .int .i64 0, .int .i64 0, .int .i64 0, .int .i64 0, .int .i64 0, .int .i64 0], 26)] (fun _ _ _ _ _ _ h => h) (by kernel_rfl) (by kernel_rfl) (mk_one ⟨_, rfl, makes_alloc _ _ _ _ _ _ Try.alN5⟩) (sz_one rfl) ?_
  apply Exists.intro
  refine ⟨?wk2, ?fin2⟩
  case wk2 =>
    intro γ
  
    simp only [List.take_succ_cons, List.take_zero]
    repeat (any_goals (first | (focus (go_big_quiet_want; (first | ((with_reducible refine' quiet_load_kng K 24 (.tmp 2) rfl 2 _ _ _ _ rfl _ Try.underlying24 rfl Try.szEl _ _); rotate_left 2; (focus exact rfl)) | ((with_reducible refine' quiet_load_kng K 24 (.tmp 3) rfl 1 _ _ _ _ rfl _ Try.underlying24 rfl Try.szEl _ _); rotate_left 2; (focus exact rfl))); simp only [Act.put, List.setIfInBounds_toArray, List.set_cons_zero, List.set_cons_succ]; go_big_quiet_on)) | go_big_quiet_step ((first | (go_at_call 14; with_reducible exact Calls.keepg (OU _)) | (go_at_call 14; with_reducible exact Calls.keepg (OV _)) | (go_at_call 38; with_reducible exact Calls.keepg (RE _)))) | quiet_step ((first | (go_at_call 14; with_reducible exact Calls.keepg (OU _)) | (go_at_call 14; with_reducible exact Calls.keepg (OV _)) | (go_at_call 38; with_reducible exact Calls.keepg (RE _))))))
    exact wpQuiet_nil rfl
  case fin2 =>
    intro gs wz Kz
    clear K
    have K := Kz
    clear Kz
    try simp only [mkAll, asObj, List.map_cons, List.map_nil, putAll, List.drop_succ_cons, List.drop_zero, List.length_cons, List.length_nil, Nat.zero_add, Nat.add_zero] at K ⊢
    try simp only [Act.put, List.setIfInBounds_toArray, List.set_cons_zero, List.set_cons_succ]
    generalize gs 0 = gz0 at *
    go_wp2_with (first
      | (focus ((first | ((with_reducible refine' wpList_store_kn K rfl 26 (.tmp 7) _ rfl 0 _ _ _ _ _ rfl rfl Try.szN5 _ _ _); rotate_left 2; (focus exact rfl))); (focus assumption); intro wz Kz; clear K; have K := Kz; clear Kz; simp only [List.set_cons_zero, List.set_cons_succ] at K; try (simp only [Act.put, List.setIfInBounds_toArray, List.set_cons_zero, List.set_cons_succ]))))
    refine wp_region_keep (by kernel_rfl) (by kernel_rfl) ?_
    repeat (any_goals (first | (focus (go_big_quiet_want; (first | ((with_reducible refine' quiet_load_kn K 24 (.tmp 5) rfl 1 _ _ _ _ rfl _ Try.underlying24 rfl Try.szEl _ _); rotate_left 2; (focus exact rfl)) | ((with_reducible refine' quiet_load_kn K 26 (.tmp 7) rfl 0 _ _ _ _ rfl _ Try.underlying26 rfl Try.szN5 _ _); rotate_left 2; (focus exact rfl)) | ((with_reducible refine' quiet_load_kn K 24 (.tmp 3) rfl 2 _ _ _ _ rfl _ Try.underlying24 rfl Try.szEl _ _); rotate_left 2; (focus exact rfl)) | ((with_reducible refine' quiet_load_kn K 24 (.tmp 2) rfl 3 _ _ _ _ rfl _ Try.underlying24 rfl Try.szEl _ _); rotate_left 2; (focus exact rfl))); simp only [Act.put, List.setIfInBounds_toArray, List.set_cons_zero, List.set_cons_succ]; go_big_quiet_on)) | go_big_quiet_step ((first | (go_at_call 15; with_reducible exact Calls.keep (HV _)) | (go_at_call 16; with_reducible exact Calls.keep (SM _)))) | quiet_step ((first | (go_at_call 15; with_reducible exact Calls.keep (HV _)) | (go_at_call 16; with_reducible exact Calls.keep (SM _))))))
    refine wpQuiet_nil ?_
    intro _ hwz
    obtain ⟨y, rfl⟩ := hwz
    have Kz := K.call y.h
    clear K 
    have K := Kz
    clear Kz
    generalize y.w = wz at K ⊢
    clear y
    go_wp2_with fail
    go_ret
    exact ⟨rfl, K.fr⟩
set_option maxRecDepth 100000 in
set_option maxHeartbeats 3200000 in
theorem flaws_a (A B C BC L AB AC AA X NA : Array Value) (w : World)
    (AD : ∀ W : World, Calls Try.prog 18 #[.agg B, .agg C] W fun e w' => e = .returned (.agg BC) ∧ Fr (fun _ => False) W w')
    (M1 : ∀ W : World, Calls Try.prog 22 #[.agg A, .agg BC] W fun e w' => e = .returned (.agg L) ∧ Fr (fun _ => False) W w')
    (M2 : ∀ W : World, Calls Try.prog 22 #[.agg A, .agg B] W fun e w' => e = .returned (.agg AB) ∧ Fr (fun _ => False) W w')
    (M3 : ∀ W : World, Calls Try.prog 22 #[.agg A, .agg C] W fun e w' => e = .returned (.agg AC) ∧ Fr (fun _ => False) W w')
    (A2 : ∀ W : World, Calls Try.prog 18 #[.agg AB, .agg AC] W fun e w' => e = .returned (.agg L) ∧ Fr (fun _ => False) W w')
    (M4 : ∀ W : World, Calls Try.prog 22 #[.agg A, .agg A] W fun e w' => e = .returned (.agg AA) ∧ Fr (fun _ => False) W w')
    (RT : ∀ W : World, Calls Try.prog 37 #[.agg AA, .agg #[.int .u64 1, .int .u64 0, .int .u64 0, .int .u64 0]] W fun e w' => e = .returned (.tuple #[.agg X, .bool true]) ∧ Fr (fun _ => False) W w')
    (HV : ∀ W : World, Calls Try.prog 15 #[] W fun e w' => e = .returned (.bool true) ∧ Fr (fun _ => False) W w')
    (S1 : ∀ W : World, Calls Try.prog 26 #[.agg X, .agg A] W fun e w' => e = .returned (.bool true) ∧ Fr (fun _ => False) W w')
    (NE : ∀ W : World, Calls Try.prog 24 #[.agg A] W fun e w' => e = .returned (.agg NA) ∧ Fr (fun _ => False) W w')
    (A3 : ∀ W : World, Calls Try.prog 18 #[.agg A, .agg NA] W fun e w' => e = .returned (.agg #[.int .u64 0, .int .u64 0, .int .u64 0, .int .u64 0]) ∧ Fr (fun _ => False) W w')
    (E1 : ∀ W : World, (binOp .eql 24 (.agg L) (.agg L)).run Try.prog W = .ok (.bool true) W) (E2 : ∀ W : World, (binOp .eql 24 (.agg #[.int .u64 0, .int .u64 0, .int .u64 0, .int .u64 0]) (.agg #[.int .u64 0, .int .u64 0, .int .u64 0, .int .u64 0])).run Try.prog W = .ok (.bool true) W)
    (sA : Sz 4 A) (sB : Sz 4 B) (sC : Sz 4 C) (sL : Sz 4 L) (sX : Sz 4 X) :
    Calls Try.prog 7 #[.agg A, .agg B, .agg C] w fun e w' => e = .returned (.bool true) ∧ Fr (fun _ => False) w w' := by
  have K := ((((Kn.start w).new (w.heap.size) 4 A 24 rfl sA.1).new (w.heap.size + 1) 4 B 24 (by simp) sB.1).new (w.heap.size + 1 + 1) 4 C 24 (by simp) sC.1)
  have EG := Try.guardElem
  go_enter Try.func7, Try.ntmps7
  go_wp2_with fail
  refine wp_region_kn_tail K 5 [(7, 4, #[.int .u64 0, .int .u64 0, .int .u64 0, .int .u64 0], 24)] (by kernel_rfl) (by kernel_rfl) (mk_one ⟨_, rfl, makes_alloc _ _ _ _ _ _ Try.alEl⟩) (sz_one rfl) ?_
  apply Exists.intro
  refine ⟨?wk1, ?fin1⟩
  case wk1 =>
    intro γ
  
    simp only [List.take_succ_cons, List.take_zero]
    repeat (any_goals (first | (focus (go_big_quiet_want; (first | ((with_reducible refine' quiet_load_kng K 24 (.tmp 3) rfl 2 _ _ _ _ rfl _ Try.underlying24 rfl Try.szEl _ _); rotate_left 2; (focus exact rfl)) | ((with_reducible refine' quiet_load_kng K 24 (.tmp 4) rfl 1 _ _ _ _ rfl _ Try.underlying24 rfl Try.szEl _ _); rotate_left 2; (focus exact rfl)) | ((with_reducible refine' quiet_load_kng K 24 (.tmp 5) rfl 0 _ _ _ _ rfl _ Try.underlying24 rfl Try.szEl _ _); rotate_left 2; (focus exact rfl))); simp only [Act.put, List.setIfInBounds_toArray, List.set_cons_zero, List.set_cons_succ]; go_big_quiet_on)) | go_big_quiet_step ((first | (go_at_call 18; with_reducible exact Calls.keepg (AD _)) | (go_at_call 22; with_reducible exact Calls.keepg (M1 _)) | (go_at_call 22; with_reducible exact Calls.keepg (M2 _)) | (go_at_call 22; with_reducible exact Calls.keepg (M3 _)) | (go_at_call 18; with_reducible exact Calls.keepg (A2 _)) | (go_at_call 22; with_reducible exact Calls.keepg (M4 _)) | (go_at_call 18; with_reducible exact Calls.keepg (A3 _)))) | quiet_step ((first | (go_at_call 18; with_reducible exact Calls.keepg (AD _)) | (go_at_call 22; with_reducible exact Calls.keepg (M1 _)) | (go_at_call 22; with_reducible exact Calls.keepg (M2 _)) | (go_at_call 22; with_reducible exact Calls.keepg (M3 _)) | (go_at_call 18; with_reducible exact Calls.keepg (A2 _)) | (go_at_call 22; with_reducible exact Calls.keepg (M4 _)) | (go_at_call 18; with_reducible exact Calls.keepg (A3 _))))))
    exact wpQuiet_nil rfl
  case fin1 =>
    intro gs wz Kz
    clear K
    have K := Kz
    clear Kz
    try simp only [mkAll, asObj, List.map_cons, List.map_nil, putAll, List.drop_succ_cons, List.drop_zero, List.length_cons, List.length_nil, Nat.zero_add, Nat.add_zero] at K ⊢
    try simp only [Act.put, List.setIfInBounds_toArray, List.set_cons_zero, List.set_cons_succ]
    generalize gs 0 = gz0 at *
    go_wp2_with (first
      | (focus ((first | ((with_reducible refine' wpList_store_kn K rfl 24 (.tmp 7) _ rfl 0 _ _ _ _ _ rfl rfl Try.szEl _ _ _); rotate_left 2; (focus exact rfl))); (focus assumption); intro wz Kz; clear K; have K := Kz; clear Kz; simp only [List.set_cons_zero, List.set_cons_succ] at K; try (simp only [Act.put, List.setIfInBounds_toArray, List.set_cons_zero, List.set_cons_succ]))))
    refine wp_region_kn_tail K 7 [(8, 4, #[.int .u64 0, .int .u64 0, .int .u64 0, .int .u64 0], 24)] (by kernel_rfl) (by kernel_rfl) (mk_one ⟨_, rfl, makes_alloc _ _ _ _ _ _ Try.alEl⟩) (sz_one rfl) ?_
    apply Exists.intro
    refine ⟨?wk2, ?fin2⟩
    case wk2 =>
      intro γ
  
      simp only [List.take_succ_cons, List.take_zero]
      repeat (any_goals (first | (focus (go_big_quiet_want; (first | ((with_reducible refine' quiet_load_kng K 24 (.tmp 3) rfl 3 _ _ _ _ rfl _ Try.underlying24 rfl Try.szEl _ _); rotate_left 2; (focus exact rfl)) | ((with_reducible refine' quiet_load_kng K 24 (.tmp 4) rfl 2 _ _ _ _ rfl _ Try.underlying24 rfl Try.szEl _ _); rotate_left 2; (focus exact rfl)) | ((with_reducible refine' quiet_load_kng K 24 (.tmp 5) rfl 1 _ _ _ _ rfl _ Try.underlying24 rfl Try.szEl _ _); rotate_left 2; (focus exact rfl))); simp only [Act.put, List.setIfInBounds_toArray, List.set_cons_zero, List.set_cons_succ]; go_big_quiet_on)) | go_big_quiet_step ((first | (go_at_call 18; with_reducible exact Calls.keepg (AD _)) | (go_at_call 22; with_reducible exact Calls.keepg (M1 _)) | (go_at_call 22; with_reducible exact Calls.keepg (M2 _)) | (go_at_call 22; with_reducible exact Calls.keepg (M3 _)) | (go_at_call 18; with_reducible exact Calls.keepg (A2 _)) | (go_at_call 22; with_reducible exact Calls.keepg (M4 _)) | (go_at_call 18; with_reducible exact Calls.keepg (A3 _)))) | quiet_step ((first | (go_at_call 18; with_reducible exact Calls.keepg (AD _)) | (go_at_call 22; with_reducible exact Calls.keepg (M1 _)) | (go_at_call 22; with_reducible exact Calls.keepg (M2 _)) | (go_at_call 22; with_reducible exact Calls.keepg (M3 _)) | (go_at_call 18; with_reducible exact Calls.keepg (A2 _)) | (go_at_call 22; with_reducible exact Calls.keepg (M4 _)) | (go_at_call 18; with_reducible exact Calls.keepg (A3 _))))))
      exact wpQuiet_nil rfl
    case fin2 =>
      intro gs wz Kz
      clear K
      have K := Kz
      clear Kz
      try simp only [mkAll, asObj, List.map_cons, List.map_nil, putAll, List.drop_succ_cons, List.drop_zero, List.length_cons, List.length_nil, Nat.zero_add, Nat.add_zero] at K ⊢
      try simp only [Act.put, List.setIfInBounds_toArray, List.set_cons_zero, List.set_cons_succ]
      generalize gs 0 = gz0 at *
      go_wp2_with (first
        | (focus (first | ((with_reducible refine' wpList_load_kn K rfl 24 (.tmp 3) rfl 4 _ _ _ _ rfl _ Try.underlying24 rfl Try.szEl _ _); rotate_left 2; (focus exact rfl))))
        | (focus ((first | ((with_reducible refine' wpList_store_kn K rfl 24 (.tmp 8) _ rfl 0 _ _ _ _ _ rfl rfl Try.szEl _ _ _); rotate_left 2; (focus exact rfl)) | ((with_reducible refine' wpList_store_kn K rfl 24 (.tmp 9) _ rfl 0 _ _ _ _ _ rfl rfl Try.szEl _ _ _); rotate_left 2; (focus exact rfl))); (focus assumption); intro wz Kz; clear K; have K := Kz; clear Kz; simp only [List.set_cons_zero, List.set_cons_succ] at K; try (simp only [Act.put, List.setIfInBounds_toArray, List.set_cons_zero, List.set_cons_succ])))
        | ((with_reducible refine wpList_new_kn K 24 _ _ _ _ #[.int .u64 0, .int .u64 0, .int .u64 0, .int .u64 0] 4 rfl Try.alEl rfl ?_); intro gz wz Kz; clear K; have K := Kz; clear Kz; try (simp only [Act.put, List.setIfInBounds_toArray, List.set_cons_zero, List.set_cons_succ]))
        | (go_at_call 22; (with_reducible refine Calls.kn K (M1 _) ?_); intro wz Kz; clear K; have K := Kz; clear Kz)
        | (go_at_call 22; (with_reducible refine Calls.kn K (M2 _) ?_); intro wz Kz; clear K; have K := Kz; clear Kz)
        | (go_at_call 22; (with_reducible refine Calls.kn K (M3 _) ?_); intro wz Kz; clear K; have K := Kz; clear Kz)
        | (go_at_call 22; (with_reducible refine Calls.kn K (M4 _) ?_); intro wz Kz; clear K; have K := Kz; clear Kz)
        | (go_at_call 37; (with_reducible refine Calls.kn K (RT _) ?_); intro wz Kz; clear K; have K := Kz; clear Kz))
      refine wp_region_keep (by kernel_rfl) (by kernel_rfl) ?_
      repeat (any_goals (first | (focus (go_big_quiet_want; (first | ((with_reducible refine' quiet_load_kn K 24 (.tmp 7) rfl 2 _ _ _ _ rfl _ Try.underlying24 rfl Try.szEl _ _); rotate_left 2; (focus exact rfl)) | ((with_reducible refine' quiet_load_kn K 24 (.tmp 8) rfl 1 _ _ _ _ rfl _ Try.underlying24 rfl Try.szEl _ _); rotate_left 2; (focus exact rfl)) | ((with_reducible refine' quiet_load_kn K 24 (.tmp 9) rfl 0 _ _ _ _ rfl _ Try.underlying24 rfl Try.szEl _ _); rotate_left 2; (focus exact rfl)) | ((with_reducible refine' quiet_load_kn K 24 (.tmp 3) rfl 5 _ _ _ _ rfl _ Try.underlying24 rfl Try.szEl _ _); rotate_left 2; (focus exact rfl))); simp only [Act.put, List.setIfInBounds_toArray, List.set_cons_zero, List.set_cons_succ]; go_big_quiet_on)) | go_big_quiet_step ((first | (go_at_call 18; with_reducible exact Calls.keep (AD _)) | (go_at_call 18; with_reducible exact Calls.keep (A2 _)) | (go_at_call 15; with_reducible exact Calls.keep (HV _)) | (go_at_call 26; with_reducible exact Calls.keep (S1 _)) | (go_at_call 24; with_reducible exact Calls.keep (NE _)) | (go_at_call 18; with_reducible exact Calls.keep (A3 _)))) | quiet_step ((first | (go_at_call 18; with_reducible exact Calls.keep (AD _)) | (go_at_call 18; with_reducible exact Calls.keep (A2 _)) | (go_at_call 15; with_reducible exact Calls.keep (HV _)) | (go_at_call 26; with_reducible exact Calls.keep (S1 _)) | (go_at_call 24; with_reducible exact Calls.keep (NE _)) | (go_at_call 18; with_reducible exact Calls.keep (A3 _))))))
      refine wpQuiet_nil ?_
      intro _ hwz
      obtain ⟨y, rfl⟩ := hwz
      have Kz := K.call y.h
      clear K 
      have K := Kz
      clear Kz
      generalize y.w = wz at K ⊢
      clear y
      go_wp2_with fail
      go_ret
      exact ⟨rfl, K.fr⟩
set_option maxRecDepth 100000 in
set_option maxHeartbeats 3200000 in
theorem flaws_b (A B C BC L AB AC AA X NA : Array Value) (w : World)
    (AD : ∀ W : World, Calls Try.prog 18 #[.agg B, .agg C] W fun e w' => e = .returned (.agg BC) ∧ Fr (fun _ => False) W w')
    (M1 : ∀ W : World, Calls Try.prog 22 #[.agg A, .agg BC] W fun e w' => e = .returned (.agg L) ∧ Fr (fun _ => False) W w')
    (M2 : ∀ W : World, Calls Try.prog 22 #[.agg A, .agg B] W fun e w' => e = .returned (.agg AB) ∧ Fr (fun _ => False) W w')
    (M3 : ∀ W : World, Calls Try.prog 22 #[.agg A, .agg C] W fun e w' => e = .returned (.agg AC) ∧ Fr (fun _ => False) W w')
    (A2 : ∀ W : World, Calls Try.prog 18 #[.agg AB, .agg AC] W fun e w' => e = .returned (.agg L) ∧ Fr (fun _ => False) W w')
    (M4 : ∀ W : World, Calls Try.prog 22 #[.agg A, .agg A] W fun e w' => e = .returned (.agg AA) ∧ Fr (fun _ => False) W w')
    (RT : ∀ W : World, Calls Try.prog 37 #[.agg AA, .agg #[.int .u64 1, .int .u64 0, .int .u64 0, .int .u64 0]] W fun e w' => e = .returned (.tuple #[.agg X, .bool true]) ∧ Fr (fun _ => False) W w')
    (HV : ∀ W : World, Calls Try.prog 15 #[] W fun e w' => e = .returned (.bool true) ∧ Fr (fun _ => False) W w')
    (S1 : ∀ W : World, Calls Try.prog 26 #[.agg X, .agg A] W fun e w' => e = .returned (.bool false) ∧ Fr (fun _ => False) W w')
    (NE : ∀ W : World, Calls Try.prog 24 #[.agg A] W fun e w' => e = .returned (.agg NA) ∧ Fr (fun _ => False) W w')
    (S2 : ∀ W : World, Calls Try.prog 26 #[.agg X, .agg NA] W fun e w' => e = .returned (.bool true) ∧ Fr (fun _ => False) W w')
    (A3 : ∀ W : World, Calls Try.prog 18 #[.agg A, .agg NA] W fun e w' => e = .returned (.agg #[.int .u64 0, .int .u64 0, .int .u64 0, .int .u64 0]) ∧ Fr (fun _ => False) W w')
    (E1 : ∀ W : World, (binOp .eql 24 (.agg L) (.agg L)).run Try.prog W = .ok (.bool true) W) (E2 : ∀ W : World, (binOp .eql 24 (.agg #[.int .u64 0, .int .u64 0, .int .u64 0, .int .u64 0]) (.agg #[.int .u64 0, .int .u64 0, .int .u64 0, .int .u64 0])).run Try.prog W = .ok (.bool true) W)
    (sA : Sz 4 A) (sB : Sz 4 B) (sC : Sz 4 C) (sL : Sz 4 L) (sX : Sz 4 X) :
    Calls Try.prog 7 #[.agg A, .agg B, .agg C] w fun e w' => e = .returned (.bool true) ∧ Fr (fun _ => False) w w' := by
  have K := ((((Kn.start w).new (w.heap.size) 4 A 24 rfl sA.1).new (w.heap.size + 1) 4 B 24 (by simp) sB.1).new (w.heap.size + 1 + 1) 4 C 24 (by simp) sC.1)
  have EG := Try.guardElem
  go_enter Try.func7, Try.ntmps7
  go_wp2_with fail
  refine wp_region_kn_tail K 5 [(7, 4, #[.int .u64 0, .int .u64 0, .int .u64 0, .int .u64 0], 24)] (by kernel_rfl) (by kernel_rfl) (mk_one ⟨_, rfl, makes_alloc _ _ _ _ _ _ Try.alEl⟩) (sz_one rfl) ?_
  apply Exists.intro
  refine ⟨?wk1, ?fin1⟩
  case wk1 =>
    intro γ
  
    simp only [List.take_succ_cons, List.take_zero]
    repeat (any_goals (first | (focus (go_big_quiet_want; (first | ((with_reducible refine' quiet_load_kng K 24 (.tmp 3) rfl 2 _ _ _ _ rfl _ Try.underlying24 rfl Try.szEl _ _); rotate_left 2; (focus exact rfl)) | ((with_reducible refine' quiet_load_kng K 24 (.tmp 4) rfl 1 _ _ _ _ rfl _ Try.underlying24 rfl Try.szEl _ _); rotate_left 2; (focus exact rfl)) | ((with_reducible refine' quiet_load_kng K 24 (.tmp 5) rfl 0 _ _ _ _ rfl _ Try.underlying24 rfl Try.szEl _ _); rotate_left 2; (focus exact rfl))); simp only [Act.put, List.setIfInBounds_toArray, List.set_cons_zero, List.set_cons_succ]; go_big_quiet_on)) | go_big_quiet_step ((first | (go_at_call 18; with_reducible exact Calls.keepg (AD _)) | (go_at_call 22; with_reducible exact Calls.keepg (M1 _)) | (go_at_call 22; with_reducible exact Calls.keepg (M2 _)) | (go_at_call 22; with_reducible exact Calls.keepg (M3 _)) | (go_at_call 18; with_reducible exact Calls.keepg (A2 _)) | (go_at_call 22; with_reducible exact Calls.keepg (M4 _)) | (go_at_call 18; with_reducible exact Calls.keepg (A3 _)))) | quiet_step ((first | (go_at_call 18; with_reducible exact Calls.keepg (AD _)) | (go_at_call 22; with_reducible exact Calls.keepg (M1 _)) | (go_at_call 22; with_reducible exact Calls.keepg (M2 _)) | (go_at_call 22; with_reducible exact Calls.keepg (M3 _)) | (go_at_call 18; with_reducible exact Calls.keepg (A2 _)) | (go_at_call 22; with_reducible exact Calls.keepg (M4 _)) | (go_at_call 18; with_reducible exact Calls.keepg (A3 _))))))
    exact wpQuiet_nil rfl
  case fin1 =>
    intro gs wz Kz
    clear K
    have K := Kz
    clear Kz
    try simp only [mkAll, asObj, List.map_cons, List.map_nil, putAll, List.drop_succ_cons, List.drop_zero, List.length_cons, List.length_nil, Nat.zero_add, Nat.add_zero] at K ⊢
    try simp only [Act.put, List.setIfInBounds_toArray, List.set_cons_zero, List.set_cons_succ]
    generalize gs 0 = gz0 at *
    go_wp2_with (first
      | (focus ((first | ((with_reducible refine' wpList_store_kn K rfl 24 (.tmp 7) _ rfl 0 _ _ _ _ _ rfl rfl Try.szEl _ _ _); rotate_left 2; (focus exact rfl))); (focus assumption); intro wz Kz; clear K; have K := Kz; clear Kz; simp only [List.set_cons_zero, List.set_cons_succ] at K; try (simp only [Act.put, List.setIfInBounds_toArray, List.set_cons_zero, List.set_cons_succ]))))
    refine wp_region_kn_tail K 7 [(8, 4, #[.int .u64 0, .int .u64 0, .int .u64 0, .int .u64 0], 24)] (by kernel_rfl) (by kernel_rfl) (mk_one ⟨_, rfl, makes_alloc _ _ _ _ _ _ Try.alEl⟩) (sz_one rfl) ?_
    apply Exists.intro
    refine ⟨?wk2, ?fin2⟩
    case wk2 =>
      intro γ
  
      simp only [List.take_succ_cons, List.take_zero]
      repeat (any_goals (first | (focus (go_big_quiet_want; (first | ((with_reducible refine' quiet_load_kng K 24 (.tmp 3) rfl 3 _ _ _ _ rfl _ Try.underlying24 rfl Try.szEl _ _); rotate_left 2; (focus exact rfl)) | ((with_reducible refine' quiet_load_kng K 24 (.tmp 4) rfl 2 _ _ _ _ rfl _ Try.underlying24 rfl Try.szEl _ _); rotate_left 2; (focus exact rfl)) | ((with_reducible refine' quiet_load_kng K 24 (.tmp 5) rfl 1 _ _ _ _ rfl _ Try.underlying24 rfl Try.szEl _ _); rotate_left 2; (focus exact rfl))); simp only [Act.put, List.setIfInBounds_toArray, List.set_cons_zero, List.set_cons_succ]; go_big_quiet_on)) | go_big_quiet_step ((first | (go_at_call 18; with_reducible exact Calls.keepg (AD _)) | (go_at_call 22; with_reducible exact Calls.keepg (M1 _)) | (go_at_call 22; with_reducible exact Calls.keepg (M2 _)) | (go_at_call 22; with_reducible exact Calls.keepg (M3 _)) | (go_at_call 18; with_reducible exact Calls.keepg (A2 _)) | (go_at_call 22; with_reducible exact Calls.keepg (M4 _)) | (go_at_call 18; with_reducible exact Calls.keepg (A3 _)))) | quiet_step ((first | (go_at_call 18; with_reducible exact Calls.keepg (AD _)) | (go_at_call 22; with_reducible exact Calls.keepg (M1 _)) | (go_at_call 22; with_reducible exact Calls.keepg (M2 _)) | (go_at_call 22; with_reducible exact Calls.keepg (M3 _)) | (go_at_call 18; with_reducible exact Calls.keepg (A2 _)) | (go_at_call 22; with_reducible exact Calls.keepg (M4 _)) | (go_at_call 18; with_reducible exact Calls.keepg (A3 _))))))
      exact wpQuiet_nil rfl
    case fin2 =>
      intro gs wz Kz
      clear K
      have K := Kz
      clear Kz
      try simp only [mkAll, asObj, List.map_cons, List.map_nil, putAll, List.drop_succ_cons, List.drop_zero, List.length_cons, List.length_nil, Nat.zero_add, Nat.add_zero] at K ⊢
      try simp only [Act.put, List.setIfInBounds_toArray, List.set_cons_zero, List.set_cons_succ]
      generalize gs 0 = gz0 at *
      go_wp2_with (first
        | (focus (first | ((with_reducible refine' wpList_load_kn K rfl 24 (.tmp 3) rfl 4 _ _ _ _ rfl _ Try.underlying24 rfl Try.szEl _ _); rotate_left 2; (focus exact rfl))))
        | (focus ((first | ((with_reducible refine' wpList_store_kn K rfl 24 (.tmp 8) _ rfl 0 _ _ _ _ _ rfl rfl Try.szEl _ _ _); rotate_left 2; (focus exact rfl)) | ((with_reducible refine' wpList_store_kn K rfl 24 (.tmp 9) _ rfl 0 _ _ _ _ _ rfl rfl Try.szEl _ _ _); rotate_left 2; (focus exact rfl))); (focus assumption); intro wz Kz; clear K; have K := Kz; clear Kz; simp only [List.set_cons_zero, List.set_cons_succ] at K; try (simp only [Act.put, List.setIfInBounds_toArray, List.set_cons_zero, List.set_cons_succ])))
        | ((with_reducible refine wpList_new_kn K 24 _ _ _ _ #[.int .u64 0, .int .u64 0, .int .u64 0, .int .u64 0] 4 rfl Try.alEl rfl ?_); intro gz wz Kz; clear K; have K := Kz; clear Kz; try (simp only [Act.put, List.setIfInBounds_toArray, List.set_cons_zero, List.set_cons_succ]))
        | (go_at_call 22; (with_reducible refine Calls.kn K (M1 _) ?_); intro wz Kz; clear K; have K := Kz; clear Kz)
        | (go_at_call 22; (with_reducible refine Calls.kn K (M2 _) ?_); intro wz Kz; clear K; have K := Kz; clear Kz)
        | (go_at_call 22; (with_reducible refine Calls.kn K (M3 _) ?_); intro wz Kz; clear K; have K := Kz; clear Kz)
        | (go_at_call 22; (with_reducible refine Calls.kn K (M4 _) ?_); intro wz Kz; clear K; have K := Kz; clear Kz)
        | (go_at_call 37; (with_reducible refine Calls.kn K (RT _) ?_); intro wz Kz; clear K; have K := Kz; clear Kz))
      refine wp_region_keep (by kernel_rfl) (by kernel_rfl) ?_
      repeat (any_goals (first | (focus (go_big_quiet_want; (first | ((with_reducible refine' quiet_load_kn K 24 (.tmp 7) rfl 2 _ _ _ _ rfl _ Try.underlying24 rfl Try.szEl _ _); rotate_left 2; (focus exact rfl)) | ((with_reducible refine' quiet_load_kn K 24 (.tmp 8) rfl 1 _ _ _ _ rfl _ Try.underlying24 rfl Try.szEl _ _); rotate_left 2; (focus exact rfl)) | ((with_reducible refine' quiet_load_kn K 24 (.tmp 9) rfl 0 _ _ _ _ rfl _ Try.underlying24 rfl Try.szEl _ _); rotate_left 2; (focus exact rfl)) | ((with_reducible refine' quiet_load_kn K 24 (.tmp 3) rfl 5 _ _ _ _ rfl _ Try.underlying24 rfl Try.szEl _ _); rotate_left 2; (focus exact rfl))); simp only [Act.put, List.setIfInBounds_toArray, List.set_cons_zero, List.set_cons_succ]; go_big_quiet_on)) | go_big_quiet_step ((first | (go_at_call 18; with_reducible exact Calls.keep (AD _)) | (go_at_call 18; with_reducible exact Calls.keep (A2 _)) | (go_at_call 15; with_reducible exact Calls.keep (HV _)) | (go_at_call 26; with_reducible exact Calls.keep (S1 _)) | (go_at_call 24; with_reducible exact Calls.keep (NE _)) | (go_at_call 26; with_reducible exact Calls.keep (S2 _)) | (go_at_call 18; with_reducible exact Calls.keep (A3 _)))) | quiet_step ((first | (go_at_call 18; with_reducible exact Calls.keep (AD _)) | (go_at_call 18; with_reducible exact Calls.keep (A2 _)) | (go_at_call 15; with_reducible exact Calls.keep (HV _)) | (go_at_call 26; with_reducible exact Calls.keep (S1 _)) | (go_at_call 24; with_reducible exact Calls.keep (NE _)) | (go_at_call 26; with_reducible exact Calls.keep (S2 _)) | (go_at_call 18; with_reducible exact Calls.keep (A3 _))))))
      refine wpQuiet_nil ?_
      intro _ hwz
      obtain ⟨y, rfl⟩ := hwz
      have Kz := K.call y.h
      clear K 
      have K := Kz
      clear Kz
      generalize y.w = wz at K ⊢
      clear y
      go_wp2_with fail
      go_ret
      exact ⟨rfl, K.fr⟩
set_option maxRecDepth 100000 in
theorem froots_any (U V : Nat) (hU : U < 115792089237316195423570985008687907853269984665640564039457584007913129639936) (hV : V < 115792089237316195423570985008687907853269984665640564039457584007913129639936) (w : World) :
    Calls Try.prog 6 #[.agg (nc U), .agg (nc V)] w fun e w' => e = .returned (.bool true) ∧ Fr (fun _ => False) w w' := by
  have RT := fun W : World => froot_any U V hU hV W
  have RE := fun W : World => root5_any (U % p25519) (V % p25519) (Nat.mod_lt _ p_pos) (Nat.mod_lt _ p_pos) W
  rw [rootN_mod, rootB_mod] at RE
  have hr : rootN U V < 115792089237316195423570985008687907853269984665640564039457584007913129639936 := Nat.lt_trans (rootN_lt U V) p_lt
  have SM := fun W : World => same5_any (rootN U V) hr W
  have SA := fun W : World => fsame_any (V * (rootN U V * rootN U V % p25519) % p25519) U (mod_p_lt _) hU W
  by_cases c : rootB U V = true
  · rw [root_sq U V c, decide_eq_true rfl] at SA
    rw [c] at RT RE
    exact froots_yes (nc U) (nc V) (nd (U % p25519)) (nd (V % p25519)) (nc (rootN U V)) (nd (rootN U V)) (nc (rootN U V * rootN U V % p25519)) (nc (V * (rootN U V * rootN U V % p25519) % p25519)) w RT (lof5_any U hU) (lof5_any V hV) RE halves_any SM (fmul_any _ _ hr hr) (fmul_any V _ hV (mod_p_lt _)) SA (sz_nc _) (sz_nc _) (sz_nc _) (sz_nd _)
  · rw [Bool.eq_false_iff.2 c] at RT RE
    exact froots_no (nc U) (nc V) (nd (U % p25519)) (nd (V % p25519)) (nc (rootN U V)) (nd (rootN U V)) #[] #[] w RT (lof5_any U hU) (lof5_any V hV) RE halves_any SM (sz_nc _) (sz_nc _) (sz_nc _) (sz_nd _)
theorem add_opp (A : Nat) : (A + (p25519 - A % p25519) % p25519) % p25519 = 0 := by
  have h : (A + (p25519 - A % p25519) % p25519) % p25519 = 0 % p25519 := modp (by rw [fv_add, fv_negm, fv_zero]; grind)
  rw [h, Nat.zero_mod]
theorem eql_same (X : Nat) (hX : X < 115792089237316195423570985008687907853269984665640564039457584007913129639936) (W : World) : (binOp .eql 24 (.agg (nc X)) (.agg (nc X))).run Try.prog W = .ok (.bool true) W := by
  have := eql_elem X X hX hX W
  rwa [decide_eq_true rfl] at this
theorem spread (A B C : Nat) : (A * B % p25519 + A * C % p25519) % p25519 = A * ((B + C) % p25519) % p25519 := by rw [← Nat.add_mod, Nat.mul_mod_mod, Nat.mul_add]
theorem nc_lit1_ : nc 1 = #[.int .u64 1, .int .u64 0, .int .u64 0, .int .u64 0] := by kernel_rfl
set_option maxRecDepth 100000 in
theorem flaws_any (A B C : Nat) (hA : A < 115792089237316195423570985008687907853269984665640564039457584007913129639936) (hB : B < 115792089237316195423570985008687907853269984665640564039457584007913129639936) (hC : C < 115792089237316195423570985008687907853269984665640564039457584007913129639936) (w : World) :
    Calls Try.prog 7 #[.agg (nc A), .agg (nc B), .agg (nc C)] w fun e w' => e = .returned (.bool true) ∧ Fr (fun _ => False) w w' := by
  obtain ⟨hb, hx⟩ := root_of_sq A
  have RT := fun W : World => froot_any (A * A % p25519) 1 (mod_p_lt _) (by decide) W
  rw [hb, nc_lit1_] at RT
  have hr : rootN (A * A % p25519) 1 < 115792089237316195423570985008687907853269984665640564039457584007913129639936 := Nat.lt_trans (rootN_lt _ _) p_lt
  generalize rootN (A * A % p25519) 1 = R at *
  have A2 := fun W : World => fadd_any (A * B % p25519) (A * C % p25519) (mod_p_lt _) (mod_p_lt _) W
  rw [spread] at A2
  have A3 := fun W : World => fadd_any A ((p25519 - A % p25519) % p25519) hA (mod_p_lt _) W
  rw [add_opp, nc_lit0_] at A3
  have E2 := fun W : World => eql_same 0 (by decide) W
  rw [nc_lit0_] at E2
  have S1 := fun W : World => fsame_any R A hr hA W
  have S2 := fun W : World => fsame_any R ((p25519 - A % p25519) % p25519) hr (mod_p_lt _) W
  by_cases c : R % p25519 = A % p25519
  · rw [decide_eq_true c] at S1
    exact flaws_a (nc A) (nc B) (nc C) (nc ((B + C) % p25519)) (nc (A * ((B + C) % p25519) % p25519)) (nc (A * B % p25519)) (nc (A * C % p25519)) (nc (A * A % p25519)) (nc R) (nc ((p25519 - A % p25519) % p25519)) w (fadd_any B C hB hC) (fmul_any A _ hA (mod_p_lt _)) (fmul_any A B hA hB) (fmul_any A C hA hC) A2 (fmul_any A A hA hA) RT halves_any S1 (fneg_any A hA) A3 (eql_same _ (mod_p_lt _)) E2 (sz_nc _) (sz_nc _) (sz_nc _) (sz_nc _) (sz_nc _)
  · have d : R % p25519 = (p25519 - A % p25519) % p25519 % p25519 := modp ((hx.resolve_left (fun h => c (modp h))).trans (fv_negm A).symm)
    rw [decide_eq_false c] at S1
    rw [decide_eq_true d] at S2
    exact flaws_b (nc A) (nc B) (nc C) (nc ((B + C) % p25519)) (nc (A * ((B + C) % p25519) % p25519)) (nc (A * B % p25519)) (nc (A * C % p25519)) (nc (A * A % p25519)) (nc R) (nc ((p25519 - A % p25519) % p25519)) w (fadd_any B C hB hC) (fmul_any A _ hA (mod_p_lt _)) (fmul_any A B hA hB) (fmul_any A C hA hC) A2 (fmul_any A A hA hA) RT halves_any S1 (fneg_any A hA) S2 A3 (eql_same _ (mod_p_lt _)) E2 (sz_nc _) (sz_nc _) (sz_nc _) (sz_nc _) (sz_nc _)
end Go.Proofs.Ytahnlnflcgehaaa

/-
  The laws PathBits and PathThree, over what their callees answer: each way.
-/
import Derived.Test.YtghjcppafkaopaaZf
import Derived.Laws.Cover1
namespace Go.Proofs.Ytghjcppafkaopaa
open Go.RowKit
set_option linter.unusedVariables false
set_option linter.unusedSimpArgs false

theorem Try.guardKy : Try.prog.eqGuardType Try.prog.depth 88 = false := by kernel_rfl
set_option maxRecDepth 100000 in
set_option maxHeartbeats 3200000 in
theorem paths_op (Q : Array Value) (w : World)
    (B0 : Ans Try.prog 53 #[.agg #[.int .u8 128, .int .u8 0, .int .u8 0, .int .u8 0, .int .u8 0, .int .u8 0, .int .u8 0, .int .u8 0, .int .u8 0, .int .u8 0, .int .u8 0, .int .u8 0, .int .u8 0, .int .u8 0, .int .u8 0, .int .u8 0, .int .u8 0, .int .u8 0, .int .u8 0, .int .u8 0, .int .u8 0, .int .u8 0, .int .u8 0, .int .u8 0, .int .u8 0, .int .u8 0, .int .u8 0, .int .u8 0, .int .u8 0, .int .u8 0, .int .u8 0, .int .u8 0], .int .i64 0] (.int .i64 1))
    (B1 : Ans Try.prog 53 #[.agg #[.int .u8 128, .int .u8 0, .int .u8 0, .int .u8 0, .int .u8 0, .int .u8 0, .int .u8 0, .int .u8 0, .int .u8 0, .int .u8 0, .int .u8 0, .int .u8 0, .int .u8 0, .int .u8 0, .int .u8 0, .int .u8 0, .int .u8 0, .int .u8 0, .int .u8 0, .int .u8 0, .int .u8 0, .int .u8 0, .int .u8 0, .int .u8 0, .int .u8 0, .int .u8 0, .int .u8 0, .int .u8 0, .int .u8 0, .int .u8 0, .int .u8 0, .int .u8 0], .int .i64 1] (.int .i64 0))
    (CO : Ans Try.prog 55 #[.agg #[.int .u8 128, .int .u8 0, .int .u8 0, .int .u8 0, .int .u8 0, .int .u8 0, .int .u8 0, .int .u8 0, .int .u8 0, .int .u8 0, .int .u8 0, .int .u8 0, .int .u8 0, .int .u8 0, .int .u8 0, .int .u8 0, .int .u8 0, .int .u8 0, .int .u8 0, .int .u8 0, .int .u8 0, .int .u8 0, .int .u8 0, .int .u8 0, .int .u8 0, .int .u8 0, .int .u8 0, .int .u8 0, .int .u8 0, .int .u8 0, .int .u8 0, .int .u8 0], .agg #[.int .u8 0, .int .u8 0, .int .u8 0, .int .u8 0, .int .u8 0, .int .u8 0, .int .u8 0, .int .u8 0, .int .u8 0, .int .u8 0, .int .u8 0, .int .u8 0, .int .u8 0, .int .u8 0, .int .u8 0, .int .u8 0, .int .u8 0, .int .u8 0, .int .u8 0, .int .u8 0, .int .u8 0, .int .u8 0, .int .u8 0, .int .u8 0, .int .u8 0, .int .u8 0, .int .u8 0, .int .u8 0, .int .u8 0, .int .u8 0, .int .u8 0, .int .u8 0]] (.int .i64 0))
    (LE : Ans Try.prog 56 #[.agg #[.int .u8 0, .int .u8 0, .int .u8 0, .int .u8 0, .int .u8 0, .int .u8 0, .int .u8 0, .int .u8 0, .int .u8 0, .int .u8 0, .int .u8 0, .int .u8 0, .int .u8 0, .int .u8 0, .int .u8 0, .int .u8 0, .int .u8 0, .int .u8 0, .int .u8 0, .int .u8 0, .int .u8 0, .int .u8 0, .int .u8 0, .int .u8 0, .int .u8 0, .int .u8 0, .int .u8 0, .int .u8 0, .int .u8 0, .int .u8 0, .int .u8 0, .int .u8 0], .agg #[.int .u8 128, .int .u8 0, .int .u8 0, .int .u8 0, .int .u8 0, .int .u8 0, .int .u8 0, .int .u8 0, .int .u8 0, .int .u8 0, .int .u8 0, .int .u8 0, .int .u8 0, .int .u8 0, .int .u8 0, .int .u8 0, .int .u8 0, .int .u8 0, .int .u8 0, .int .u8 0, .int .u8 0, .int .u8 0, .int .u8 0, .int .u8 0, .int .u8 0, .int .u8 0, .int .u8 0, .int .u8 0, .int .u8 0, .int .u8 0, .int .u8 0, .int .u8 0]] (.bool true))
    (sQ : Sz 0 Q) :
    Calls Try.prog 52 #[] w fun e w' => e = .returned (.bool true) ∧ Fr (fun _ => False) w w' := by
  have sL : Sz 32 #[.int .u8 128, .int .u8 0, .int .u8 0, .int .u8 0, .int .u8 0, .int .u8 0, .int .u8 0, .int .u8 0, .int .u8 0, .int .u8 0, .int .u8 0, .int .u8 0, .int .u8 0, .int .u8 0, .int .u8 0, .int .u8 0, .int .u8 0, .int .u8 0, .int .u8 0, .int .u8 0, .int .u8 0, .int .u8 0, .int .u8 0, .int .u8 0, .int .u8 0, .int .u8 0, .int .u8 0, .int .u8 0, .int .u8 0, .int .u8 0, .int .u8 0, .int .u8 0] := ⟨rfl, by simp [Value.oneCell']⟩
  have K := (Kn.start w)
  go_enter Try.func52, Try.ntmps52
  go_wp2_with (first
      | (focus ((with_reducible refine' wpList_load_kn_gd K _ 88 (.tmp 1) rfl 0 _ _ _ _ rfl _ Try.underlying88 rfl Try.szKy _ _); rotate_left 3; (focus exact rfl); rotate_left 1; (focus exact rfl)))
      | (focus (first | ((with_reducible refine' wpList_load_kn K rfl 88 (.tmp 1) rfl 0 _ _ _ _ rfl _ Try.underlying88 rfl Try.szKy _ _); rotate_left 2; (focus exact rfl))))
      | (focus ((first | ((with_reducible refine' wpList_store_kn K rfl 88 (.tmp 1) _ rfl 0 _ _ _ _ _ rfl rfl Try.szKy _ _ _); rotate_left 2; (focus exact rfl))); (focus assumption); intro wz Kz; clear K; have K := Kz; clear Kz; simp only [List.set_cons_zero, List.set_cons_succ] at K; try (simp only [Act.put, List.setIfInBounds_toArray, List.set_cons_zero, List.set_cons_succ])))
      | ((with_reducible refine wpList_new_kn K 88 _ _ _ _ #[.int .u8 0, .int .u8 0, .int .u8 0, .int .u8 0, .int .u8 0, .int .u8 0, .int .u8 0, .int .u8 0, .int .u8 0, .int .u8 0, .int .u8 0, .int .u8 0, .int .u8 0, .int .u8 0, .int .u8 0, .int .u8 0, .int .u8 0, .int .u8 0, .int .u8 0, .int .u8 0, .int .u8 0, .int .u8 0, .int .u8 0, .int .u8 0, .int .u8 0, .int .u8 0, .int .u8 0, .int .u8 0, .int .u8 0, .int .u8 0, .int .u8 0, .int .u8 0] 32 rfl Try.alKy rfl ?_); intro gz wz Kz; clear K; have K := Kz; clear Kz; try (simp only [Act.put, List.setIfInBounds_toArray, List.set_cons_zero, List.set_cons_succ]))
      | (go_at_call 53; (with_reducible refine Calls.kn K (B0 _) ?_); intro wz Kz; clear K; have K := Kz; clear Kz)
      | (go_at_call 53; (with_reducible refine Calls.kn K (B1 _) ?_); intro wz Kz; clear K; have K := Kz; clear Kz)
      | (go_at_call 55; (with_reducible refine Calls.kn K (CO _) ?_); intro wz Kz; clear K; have K := Kz; clear Kz)
      | (go_at_call 56; (with_reducible refine Calls.kn K (LE _) ?_); intro wz Kz; clear K; have K := Kz; clear Kz))
  go_ret
  exact ⟨rfl, K.fr⟩
set_option maxRecDepth 100000 in
set_option maxHeartbeats 3200000 in
theorem three_ae (x z : Nat) (A B C : Array Value) (w : World)
    (C1 : Ans Try.prog 55 #[.agg A, .agg B] (.int .i64 (x : Int)))
    (C2 : Ans Try.prog 55 #[.agg B, .agg C] (.int .i64 (x : Int)))
    (C3 : Ans Try.prog 55 #[.agg A, .agg C] (.int .i64 (x : Int)))
    (C4 : Ans Try.prog 55 #[.agg A, .agg A] (.int .i64 256))
    (C5 : Ans Try.prog 55 #[.agg B, .agg A] (.int .i64 (x : Int)))
    (PA : Ans Try.prog 52 #[] (.bool true))
    (L1 : Ans Try.prog 56 #[.agg A, .agg B] (.bool false))
    (L2 : Ans Try.prog 56 #[.agg B, .agg A] (.bool false))
    (hl : x < z) (E1 : ∀ W : World, (binOp .eql 88 (.agg A) (.agg B)).run Try.prog W = .ok (.bool true) W)
    (sA : Sz 32 A) (sB : Sz 32 B) (sC : Sz 32 C) :
    Calls Try.prog 12 #[.agg A, .agg B, .agg C] w fun e w' => e = .returned (.bool true) ∧ Fr (fun _ => False) w w' := by
  have EG := Try.guardKy
  have l1 : (x : Int) < (z : Int) := by omega
  have l2 : (x : Int) ≤ (z : Int) := by omega
  have l3 : ¬ (z : Int) < (x : Int) := by omega
  have l4 : ¬ (z : Int) ≤ (x : Int) := by omega
  have l5 : ((z : Int) == (x : Int)) = false := by rw [beq_eq_false_iff_ne]; omega
  have l6 : decide ((z : Int) = (x : Int)) = false := decide_eq_false (by omega)
  have l7 : min (x : Int) (z : Int) = (x : Int) := by omega
  have l8 : min (z : Int) (x : Int) = (x : Int) := by omega
  have l9 : (z == x) = false := by rw [beq_eq_false_iff_ne]; omega
  have l10 : ¬ z = x := by omega
  have K := ((((Kn.start w).new (w.heap.size) 32 A 88 rfl sA.1).new (w.heap.size + 1) 32 B 88 (by simp) sB.1).new (w.heap.size + 1 + 1) 32 C 88 (by simp) sC.1)
  go_enter Try.func12, Try.ntmps12
  go_wp2_with fail
  refine wp_region_keep (by kernel_rfl) (by kernel_rfl) ?_

  repeat (any_goals (first | (focus (go_big_quiet_want; (first | ((with_reducible refine' quiet_load_kn K 88 (.tmp 3) rfl 2 _ _ _ _ rfl _ Try.underlying88 rfl Try.szKy _ _); rotate_left 2; (focus exact rfl)) | ((with_reducible refine' quiet_load_kn K 88 (.tmp 4) rfl 1 _ _ _ _ rfl _ Try.underlying88 rfl Try.szKy _ _); rotate_left 2; (focus exact rfl)) | ((with_reducible refine' quiet_load_kn K 88 (.tmp 5) rfl 0 _ _ _ _ rfl _ Try.underlying88 rfl Try.szKy _ _); rotate_left 2; (focus exact rfl))); simp only [Act.put, List.setIfInBounds_toArray, List.set_cons_zero, List.set_cons_succ]; go_big_quiet_on)) | go_big_quiet_step ((first | (go_at_call 55; with_reducible exact Calls.keep (C1 _)) | (go_at_call 55; with_reducible exact Calls.keep (C2 _)) | (go_at_call 55; with_reducible exact Calls.keep (C3 _)) | (go_at_call 55; with_reducible exact Calls.keep (C4 _)) | (go_at_call 55; with_reducible exact Calls.keep (C5 _)))) | quiet_step ((first | (go_at_call 55; with_reducible exact Calls.keep (C1 _)) | (go_at_call 55; with_reducible exact Calls.keep (C2 _)) | (go_at_call 55; with_reducible exact Calls.keep (C3 _)) | (go_at_call 55; with_reducible exact Calls.keep (C4 _)) | (go_at_call 55; with_reducible exact Calls.keep (C5 _))))))
  refine wpQuiet_nil ?_
  intro _ hwz
  obtain ⟨y, rfl⟩ := hwz
  have Kz := K.call y.h
  clear K 
  have K := Kz
  clear Kz
  generalize y.w = wz at K ⊢
  clear y
  go_wp2_with (first
      | (focus ((with_reducible refine' wpList_load_kn_gd K _ 88 (.tmp 3) rfl 2 _ _ _ _ rfl _ Try.underlying88 rfl Try.szKy _ _); rotate_left 3; (focus exact rfl); rotate_left 1; (focus exact rfl)))
      | (focus ((with_reducible refine' wpList_load_kn_gd K _ 88 (.tmp 4) rfl 1 _ _ _ _ rfl _ Try.underlying88 rfl Try.szKy _ _); rotate_left 3; (focus exact rfl); rotate_left 1; (focus exact rfl)))
      | (focus (first | ((with_reducible refine' wpList_load_kn K rfl 88 (.tmp 3) rfl 2 _ _ _ _ rfl _ Try.underlying88 rfl Try.szKy _ _); rotate_left 2; (focus exact rfl)) | ((with_reducible refine' wpList_load_kn K rfl 88 (.tmp 4) rfl 1 _ _ _ _ rfl _ Try.underlying88 rfl Try.szKy _ _); rotate_left 2; (focus exact rfl))))
      | (go_at_call 52; (with_reducible refine Calls.kn K (PA _) ?_); intro wz Kz; clear K; have K := Kz; clear Kz)
      | (go_at_call 55; (with_reducible refine Calls.kn K (C1 _) ?_); intro wz Kz; clear K; have K := Kz; clear Kz)
      | (go_at_call 55; (with_reducible refine Calls.kn K (C2 _) ?_); intro wz Kz; clear K; have K := Kz; clear Kz)
      | (go_at_call 55; (with_reducible refine Calls.kn K (C3 _) ?_); intro wz Kz; clear K; have K := Kz; clear Kz)
      | (go_at_call 55; (with_reducible refine Calls.kn K (C4 _) ?_); intro wz Kz; clear K; have K := Kz; clear Kz)
      | (go_at_call 55; (with_reducible refine Calls.kn K (C5 _) ?_); intro wz Kz; clear K; have K := Kz; clear Kz)
      | (go_at_call 56; (with_reducible refine Calls.kn K (L1 _) ?_); intro wz Kz; clear K; have K := Kz; clear Kz)
      | (go_at_call 56; (with_reducible refine Calls.kn K (L2 _) ?_); intro wz Kz; clear K; have K := Kz; clear Kz))
  go_ret
  exact ⟨rfl, K.fr⟩
set_option maxRecDepth 100000 in
set_option maxHeartbeats 3200000 in
theorem three_af (x z : Nat) (A B C : Array Value) (w : World)
    (C1 : Ans Try.prog 55 #[.agg A, .agg B] (.int .i64 (x : Int)))
    (C2 : Ans Try.prog 55 #[.agg B, .agg C] (.int .i64 (x : Int)))
    (C3 : Ans Try.prog 55 #[.agg A, .agg C] (.int .i64 (x : Int)))
    (C4 : Ans Try.prog 55 #[.agg A, .agg A] (.int .i64 256))
    (C5 : Ans Try.prog 55 #[.agg B, .agg A] (.int .i64 (x : Int)))
    (PA : Ans Try.prog 52 #[] (.bool true))
    (L1 : Ans Try.prog 56 #[.agg A, .agg B] (.bool true))
    (L2 : Ans Try.prog 56 #[.agg B, .agg A] (.bool false))
    (hl : x < z) (E1 : ∀ W : World, (binOp .eql 88 (.agg A) (.agg B)).run Try.prog W = .ok (.bool false) W)
    (sA : Sz 32 A) (sB : Sz 32 B) (sC : Sz 32 C) :
    Calls Try.prog 12 #[.agg A, .agg B, .agg C] w fun e w' => e = .returned (.bool true) ∧ Fr (fun _ => False) w w' := by
  have EG := Try.guardKy
  have l1 : (x : Int) < (z : Int) := by omega
  have l2 : (x : Int) ≤ (z : Int) := by omega
  have l3 : ¬ (z : Int) < (x : Int) := by omega
  have l4 : ¬ (z : Int) ≤ (x : Int) := by omega
  have l5 : ((z : Int) == (x : Int)) = false := by rw [beq_eq_false_iff_ne]; omega
  have l6 : decide ((z : Int) = (x : Int)) = false := decide_eq_false (by omega)
  have l7 : min (x : Int) (z : Int) = (x : Int) := by omega
  have l8 : min (z : Int) (x : Int) = (x : Int) := by omega
  have l9 : (z == x) = false := by rw [beq_eq_false_iff_ne]; omega
  have l10 : ¬ z = x := by omega
  have K := ((((Kn.start w).new (w.heap.size) 32 A 88 rfl sA.1).new (w.heap.size + 1) 32 B 88 (by simp) sB.1).new (w.heap.size + 1 + 1) 32 C 88 (by simp) sC.1)
  go_enter Try.func12, Try.ntmps12
  go_wp2_with fail
  refine wp_region_keep (by kernel_rfl) (by kernel_rfl) ?_

  repeat (any_goals (first | (focus (go_big_quiet_want; (first | ((with_reducible refine' quiet_load_kn K 88 (.tmp 3) rfl 2 _ _ _ _ rfl _ Try.underlying88 rfl Try.szKy _ _); rotate_left 2; (focus exact rfl)) | ((with_reducible refine' quiet_load_kn K 88 (.tmp 4) rfl 1 _ _ _ _ rfl _ Try.underlying88 rfl Try.szKy _ _); rotate_left 2; (focus exact rfl)) | ((with_reducible refine' quiet_load_kn K 88 (.tmp 5) rfl 0 _ _ _ _ rfl _ Try.underlying88 rfl Try.szKy _ _); rotate_left 2; (focus exact rfl))); simp only [Act.put, List.setIfInBounds_toArray, List.set_cons_zero, List.set_cons_succ]; go_big_quiet_on)) | go_big_quiet_step ((first | (go_at_call 55; with_reducible exact Calls.keep (C1 _)) | (go_at_call 55; with_reducible exact Calls.keep (C2 _)) | (go_at_call 55; with_reducible exact Calls.keep (C3 _)) | (go_at_call 55; with_reducible exact Calls.keep (C4 _)) | (go_at_call 55; with_reducible exact Calls.keep (C5 _)))) | quiet_step ((first | (go_at_call 55; with_reducible exact Calls.keep (C1 _)) | (go_at_call 55; with_reducible exact Calls.keep (C2 _)) | (go_at_call 55; with_reducible exact Calls.keep (C3 _)) | (go_at_call 55; with_reducible exact Calls.keep (C4 _)) | (go_at_call 55; with_reducible exact Calls.keep (C5 _))))))
  refine wpQuiet_nil ?_
  intro _ hwz
  obtain ⟨y, rfl⟩ := hwz
  have Kz := K.call y.h
  clear K 
  have K := Kz
  clear Kz
  generalize y.w = wz at K ⊢
  clear y
  go_wp2_with (first
      | (focus ((with_reducible refine' wpList_load_kn_gd K _ 88 (.tmp 3) rfl 2 _ _ _ _ rfl _ Try.underlying88 rfl Try.szKy _ _); rotate_left 3; (focus exact rfl); rotate_left 1; (focus exact rfl)))
      | (focus ((with_reducible refine' wpList_load_kn_gd K _ 88 (.tmp 4) rfl 1 _ _ _ _ rfl _ Try.underlying88 rfl Try.szKy _ _); rotate_left 3; (focus exact rfl); rotate_left 1; (focus exact rfl)))
      | (focus (first | ((with_reducible refine' wpList_load_kn K rfl 88 (.tmp 3) rfl 2 _ _ _ _ rfl _ Try.underlying88 rfl Try.szKy _ _); rotate_left 2; (focus exact rfl)) | ((with_reducible refine' wpList_load_kn K rfl 88 (.tmp 4) rfl 1 _ _ _ _ rfl _ Try.underlying88 rfl Try.szKy _ _); rotate_left 2; (focus exact rfl))))
      | (go_at_call 52; (with_reducible refine Calls.kn K (PA _) ?_); intro wz Kz; clear K; have K := Kz; clear Kz)
      | (go_at_call 55; (with_reducible refine Calls.kn K (C1 _) ?_); intro wz Kz; clear K; have K := Kz; clear Kz)
      | (go_at_call 55; (with_reducible refine Calls.kn K (C2 _) ?_); intro wz Kz; clear K; have K := Kz; clear Kz)
      | (go_at_call 55; (with_reducible refine Calls.kn K (C3 _) ?_); intro wz Kz; clear K; have K := Kz; clear Kz)
      | (go_at_call 55; (with_reducible refine Calls.kn K (C4 _) ?_); intro wz Kz; clear K; have K := Kz; clear Kz)
      | (go_at_call 55; (with_reducible refine Calls.kn K (C5 _) ?_); intro wz Kz; clear K; have K := Kz; clear Kz)
      | (go_at_call 56; (with_reducible refine Calls.kn K (L1 _) ?_); intro wz Kz; clear K; have K := Kz; clear Kz)
      | (go_at_call 56; (with_reducible refine Calls.kn K (L2 _) ?_); intro wz Kz; clear K; have K := Kz; clear Kz))
  go_ret
  exact ⟨rfl, K.fr⟩
set_option maxRecDepth 100000 in
set_option maxHeartbeats 3200000 in
theorem three_ag (x z : Nat) (A B C : Array Value) (w : World)
    (C1 : Ans Try.prog 55 #[.agg A, .agg B] (.int .i64 (x : Int)))
    (C2 : Ans Try.prog 55 #[.agg B, .agg C] (.int .i64 (x : Int)))
    (C3 : Ans Try.prog 55 #[.agg A, .agg C] (.int .i64 (x : Int)))
    (C4 : Ans Try.prog 55 #[.agg A, .agg A] (.int .i64 256))
    (C5 : Ans Try.prog 55 #[.agg B, .agg A] (.int .i64 (x : Int)))
    (PA : Ans Try.prog 52 #[] (.bool true))
    (L1 : Ans Try.prog 56 #[.agg A, .agg B] (.bool false))
    (L2 : Ans Try.prog 56 #[.agg B, .agg A] (.bool true))
    (hl : x < z) (E1 : ∀ W : World, (binOp .eql 88 (.agg A) (.agg B)).run Try.prog W = .ok (.bool false) W)
    (sA : Sz 32 A) (sB : Sz 32 B) (sC : Sz 32 C) :
    Calls Try.prog 12 #[.agg A, .agg B, .agg C] w fun e w' => e = .returned (.bool true) ∧ Fr (fun _ => False) w w' := by
  have EG := Try.guardKy
  have l1 : (x : Int) < (z : Int) := by omega
  have l2 : (x : Int) ≤ (z : Int) := by omega
  have l3 : ¬ (z : Int) < (x : Int) := by omega
  have l4 : ¬ (z : Int) ≤ (x : Int) := by omega
  have l5 : ((z : Int) == (x : Int)) = false := by rw [beq_eq_false_iff_ne]; omega
  have l6 : decide ((z : Int) = (x : Int)) = false := decide_eq_false (by omega)
  have l7 : min (x : Int) (z : Int) = (x : Int) := by omega
  have l8 : min (z : Int) (x : Int) = (x : Int) := by omega
  have l9 : (z == x) = false := by rw [beq_eq_false_iff_ne]; omega
  have l10 : ¬ z = x := by omega
  have K := ((((Kn.start w).new (w.heap.size) 32 A 88 rfl sA.1).new (w.heap.size + 1) 32 B 88 (by simp) sB.1).new (w.heap.size + 1 + 1) 32 C 88 (by simp) sC.1)
  go_enter Try.func12, Try.ntmps12
  go_wp2_with fail
  refine wp_region_keep (by kernel_rfl) (by kernel_rfl) ?_

  repeat (any_goals (first | (focus (go_big_quiet_want; (first | ((with_reducible refine' quiet_load_kn K 88 (.tmp 3) rfl 2 _ _ _ _ rfl _ Try.underlying88 rfl Try.szKy _ _); rotate_left 2; (focus exact rfl)) | ((with_reducible refine' quiet_load_kn K 88 (.tmp 4) rfl 1 _ _ _ _ rfl _ Try.underlying88 rfl Try.szKy _ _); rotate_left 2; (focus exact rfl)) | ((with_reducible refine' quiet_load_kn K 88 (.tmp 5) rfl 0 _ _ _ _ rfl _ Try.underlying88 rfl Try.szKy _ _); rotate_left 2; (focus exact rfl))); simp only [Act.put, List.setIfInBounds_toArray, List.set_cons_zero, List.set_cons_succ]; go_big_quiet_on)) | go_big_quiet_step ((first | (go_at_call 55; with_reducible exact Calls.keep (C1 _)) | (go_at_call 55; with_reducible exact Calls.keep (C2 _)) | (go_at_call 55; with_reducible exact Calls.keep (C3 _)) | (go_at_call 55; with_reducible exact Calls.keep (C4 _)) | (go_at_call 55; with_reducible exact Calls.keep (C5 _)))) | quiet_step ((first | (go_at_call 55; with_reducible exact Calls.keep (C1 _)) | (go_at_call 55; with_reducible exact Calls.keep (C2 _)) | (go_at_call 55; with_reducible exact Calls.keep (C3 _)) | (go_at_call 55; with_reducible exact Calls.keep (C4 _)) | (go_at_call 55; with_reducible exact Calls.keep (C5 _))))))
  refine wpQuiet_nil ?_
  intro _ hwz
  obtain ⟨y, rfl⟩ := hwz
  have Kz := K.call y.h
  clear K 
  have K := Kz
  clear Kz
  generalize y.w = wz at K ⊢
  clear y
  go_wp2_with (first
      | (focus ((with_reducible refine' wpList_load_kn_gd K _ 88 (.tmp 3) rfl 2 _ _ _ _ rfl _ Try.underlying88 rfl Try.szKy _ _); rotate_left 3; (focus exact rfl); rotate_left 1; (focus exact rfl)))
      | (focus ((with_reducible refine' wpList_load_kn_gd K _ 88 (.tmp 4) rfl 1 _ _ _ _ rfl _ Try.underlying88 rfl Try.szKy _ _); rotate_left 3; (focus exact rfl); rotate_left 1; (focus exact rfl)))
      | (focus (first | ((with_reducible refine' wpList_load_kn K rfl 88 (.tmp 3) rfl 2 _ _ _ _ rfl _ Try.underlying88 rfl Try.szKy _ _); rotate_left 2; (focus exact rfl)) | ((with_reducible refine' wpList_load_kn K rfl 88 (.tmp 4) rfl 1 _ _ _ _ rfl _ Try.underlying88 rfl Try.szKy _ _); rotate_left 2; (focus exact rfl))))
      | (go_at_call 52; (with_reducible refine Calls.kn K (PA _) ?_); intro wz Kz; clear K; have K := Kz; clear Kz)
      | (go_at_call 55; (with_reducible refine Calls.kn K (C1 _) ?_); intro wz Kz; clear K; have K := Kz; clear Kz)
      | (go_at_call 55; (with_reducible refine Calls.kn K (C2 _) ?_); intro wz Kz; clear K; have K := Kz; clear Kz)
      | (go_at_call 55; (with_reducible refine Calls.kn K (C3 _) ?_); intro wz Kz; clear K; have K := Kz; clear Kz)
      | (go_at_call 55; (with_reducible refine Calls.kn K (C4 _) ?_); intro wz Kz; clear K; have K := Kz; clear Kz)
      | (go_at_call 55; (with_reducible refine Calls.kn K (C5 _) ?_); intro wz Kz; clear K; have K := Kz; clear Kz)
      | (go_at_call 56; (with_reducible refine Calls.kn K (L1 _) ?_); intro wz Kz; clear K; have K := Kz; clear Kz)
      | (go_at_call 56; (with_reducible refine Calls.kn K (L2 _) ?_); intro wz Kz; clear K; have K := Kz; clear Kz))
  go_ret
  exact ⟨rfl, K.fr⟩
set_option maxRecDepth 100000 in
set_option maxHeartbeats 3200000 in
theorem three_be (x z : Nat) (A B C : Array Value) (w : World)
    (C1 : Ans Try.prog 55 #[.agg A, .agg B] (.int .i64 (x : Int)))
    (C2 : Ans Try.prog 55 #[.agg B, .agg C] (.int .i64 (x : Int)))
    (C3 : Ans Try.prog 55 #[.agg A, .agg C] (.int .i64 (z : Int)))
    (C4 : Ans Try.prog 55 #[.agg A, .agg A] (.int .i64 256))
    (C5 : Ans Try.prog 55 #[.agg B, .agg A] (.int .i64 (x : Int)))
    (PA : Ans Try.prog 52 #[] (.bool true))
    (L1 : Ans Try.prog 56 #[.agg A, .agg B] (.bool false))
    (L2 : Ans Try.prog 56 #[.agg B, .agg A] (.bool false))
    (hl : x < z) (E1 : ∀ W : World, (binOp .eql 88 (.agg A) (.agg B)).run Try.prog W = .ok (.bool true) W)
    (sA : Sz 32 A) (sB : Sz 32 B) (sC : Sz 32 C) :
    Calls Try.prog 12 #[.agg A, .agg B, .agg C] w fun e w' => e = .returned (.bool true) ∧ Fr (fun _ => False) w w' := by
  have EG := Try.guardKy
  have l1 : (x : Int) < (z : Int) := by omega
  have l2 : (x : Int) ≤ (z : Int) := by omega
  have l3 : ¬ (z : Int) < (x : Int) := by omega
  have l4 : ¬ (z : Int) ≤ (x : Int) := by omega
  have l5 : ((z : Int) == (x : Int)) = false := by rw [beq_eq_false_iff_ne]; omega
  have l6 : decide ((z : Int) = (x : Int)) = false := decide_eq_false (by omega)
  have l7 : min (x : Int) (z : Int) = (x : Int) := by omega
  have l8 : min (z : Int) (x : Int) = (x : Int) := by omega
  have l9 : (z == x) = false := by rw [beq_eq_false_iff_ne]; omega
  have l10 : ¬ z = x := by omega
  have K := ((((Kn.start w).new (w.heap.size) 32 A 88 rfl sA.1).new (w.heap.size + 1) 32 B 88 (by simp) sB.1).new (w.heap.size + 1 + 1) 32 C 88 (by simp) sC.1)
  go_enter Try.func12, Try.ntmps12
  go_wp2_with fail
  refine wp_region_keep (by kernel_rfl) (by kernel_rfl) ?_

  repeat (any_goals (first | (focus (go_big_quiet_want; (first | ((with_reducible refine' quiet_load_kn K 88 (.tmp 3) rfl 2 _ _ _ _ rfl _ Try.underlying88 rfl Try.szKy _ _); rotate_left 2; (focus exact rfl)) | ((with_reducible refine' quiet_load_kn K 88 (.tmp 4) rfl 1 _ _ _ _ rfl _ Try.underlying88 rfl Try.szKy _ _); rotate_left 2; (focus exact rfl)) | ((with_reducible refine' quiet_load_kn K 88 (.tmp 5) rfl 0 _ _ _ _ rfl _ Try.underlying88 rfl Try.szKy _ _); rotate_left 2; (focus exact rfl))); simp only [Act.put, List.setIfInBounds_toArray, List.set_cons_zero, List.set_cons_succ]; go_big_quiet_on)) | go_big_quiet_step ((first | (go_at_call 55; with_reducible exact Calls.keep (C1 _)) | (go_at_call 55; with_reducible exact Calls.keep (C2 _)) | (go_at_call 55; with_reducible exact Calls.keep (C3 _)) | (go_at_call 55; with_reducible exact Calls.keep (C4 _)) | (go_at_call 55; with_reducible exact Calls.keep (C5 _)))) | quiet_step ((first | (go_at_call 55; with_reducible exact Calls.keep (C1 _)) | (go_at_call 55; with_reducible exact Calls.keep (C2 _)) | (go_at_call 55; with_reducible exact Calls.keep (C3 _)) | (go_at_call 55; with_reducible exact Calls.keep (C4 _)) | (go_at_call 55; with_reducible exact Calls.keep (C5 _))))))
  refine wpQuiet_nil ?_
  intro _ hwz
  obtain ⟨y, rfl⟩ := hwz
  have Kz := K.call y.h
  clear K 
  have K := Kz
  clear Kz
  generalize y.w = wz at K ⊢
  clear y
  go_wp2_with (first
      | (focus ((with_reducible refine' wpList_load_kn_gd K _ 88 (.tmp 3) rfl 2 _ _ _ _ rfl _ Try.underlying88 rfl Try.szKy _ _); rotate_left 3; (focus exact rfl); rotate_left 1; (focus exact rfl)))
      | (focus ((with_reducible refine' wpList_load_kn_gd K _ 88 (.tmp 4) rfl 1 _ _ _ _ rfl _ Try.underlying88 rfl Try.szKy _ _); rotate_left 3; (focus exact rfl); rotate_left 1; (focus exact rfl)))
      | (focus (first | ((with_reducible refine' wpList_load_kn K rfl 88 (.tmp 3) rfl 2 _ _ _ _ rfl _ Try.underlying88 rfl Try.szKy _ _); rotate_left 2; (focus exact rfl)) | ((with_reducible refine' wpList_load_kn K rfl 88 (.tmp 4) rfl 1 _ _ _ _ rfl _ Try.underlying88 rfl Try.szKy _ _); rotate_left 2; (focus exact rfl))))
      | (go_at_call 52; (with_reducible refine Calls.kn K (PA _) ?_); intro wz Kz; clear K; have K := Kz; clear Kz)
      | (go_at_call 55; (with_reducible refine Calls.kn K (C1 _) ?_); intro wz Kz; clear K; have K := Kz; clear Kz)
      | (go_at_call 55; (with_reducible refine Calls.kn K (C2 _) ?_); intro wz Kz; clear K; have K := Kz; clear Kz)
      | (go_at_call 55; (with_reducible refine Calls.kn K (C3 _) ?_); intro wz Kz; clear K; have K := Kz; clear Kz)
      | (go_at_call 55; (with_reducible refine Calls.kn K (C4 _) ?_); intro wz Kz; clear K; have K := Kz; clear Kz)
      | (go_at_call 55; (with_reducible refine Calls.kn K (C5 _) ?_); intro wz Kz; clear K; have K := Kz; clear Kz)
      | (go_at_call 56; (with_reducible refine Calls.kn K (L1 _) ?_); intro wz Kz; clear K; have K := Kz; clear Kz)
      | (go_at_call 56; (with_reducible refine Calls.kn K (L2 _) ?_); intro wz Kz; clear K; have K := Kz; clear Kz))
  go_ret
  exact ⟨rfl, K.fr⟩
set_option maxRecDepth 100000 in
set_option maxHeartbeats 3200000 in
theorem three_bf (x z : Nat) (A B C : Array Value) (w : World)
    (C1 : Ans Try.prog 55 #[.agg A, .agg B] (.int .i64 (x : Int)))
    (C2 : Ans Try.prog 55 #[.agg B, .agg C] (.int .i64 (x : Int)))
    (C3 : Ans Try.prog 55 #[.agg A, .agg C] (.int .i64 (z : Int)))
    (C4 : Ans Try.prog 55 #[.agg A, .agg A] (.int .i64 256))
    (C5 : Ans Try.prog 55 #[.agg B, .agg A] (.int .i64 (x : Int)))
    (PA : Ans Try.prog 52 #[] (.bool true))
    (L1 : Ans Try.prog 56 #[.agg A, .agg B] (.bool true))
    (L2 : Ans Try.prog 56 #[.agg B, .agg A] (.bool false))
    (hl : x < z) (E1 : ∀ W : World, (binOp .eql 88 (.agg A) (.agg B)).run Try.prog W = .ok (.bool false) W)
    (sA : Sz 32 A) (sB : Sz 32 B) (sC : Sz 32 C) :
    Calls Try.prog 12 #[.agg A, .agg B, .agg C] w fun e w' => e = .returned (.bool true) ∧ Fr (fun _ => False) w w' := by
  have EG := Try.guardKy
  have l1 : (x : Int) < (z : Int) := by omega
  have l2 : (x : Int) ≤ (z : Int) := by omega
  have l3 : ¬ (z : Int) < (x : Int) := by omega
  have l4 : ¬ (z : Int) ≤ (x : Int) := by omega
  have l5 : ((z : Int) == (x : Int)) = false := by rw [beq_eq_false_iff_ne]; omega
  have l6 : decide ((z : Int) = (x : Int)) = false := decide_eq_false (by omega)
  have l7 : min (x : Int) (z : Int) = (x : Int) := by omega
  have l8 : min (z : Int) (x : Int) = (x : Int) := by omega
  have l9 : (z == x) = false := by rw [beq_eq_false_iff_ne]; omega
  have l10 : ¬ z = x := by omega
  have K := ((((Kn.start w).new (w.heap.size) 32 A 88 rfl sA.1).new (w.heap.size + 1) 32 B 88 (by simp) sB.1).new (w.heap.size + 1 + 1) 32 C 88 (by simp) sC.1)
  go_enter Try.func12, Try.ntmps12
  go_wp2_with fail
  refine wp_region_keep (by kernel_rfl) (by kernel_rfl) ?_

  repeat (any_goals (first | (focus (go_big_quiet_want; (first | ((with_reducible refine' quiet_load_kn K 88 (.tmp 3) rfl 2 _ _ _ _ rfl _ Try.underlying88 rfl Try.szKy _ _); rotate_left 2; (focus exact rfl)) | ((with_reducible refine' quiet_load_kn K 88 (.tmp 4) rfl 1 _ _ _ _ rfl _ Try.underlying88 rfl Try.szKy _ _); rotate_left 2; (focus exact rfl)) | ((with_reducible refine' quiet_load_kn K 88 (.tmp 5) rfl 0 _ _ _ _ rfl _ Try.underlying88 rfl Try.szKy _ _); rotate_left 2; (focus exact rfl))); simp only [Act.put, List.setIfInBounds_toArray, List.set_cons_zero, List.set_cons_succ]; go_big_quiet_on)) | go_big_quiet_step ((first | (go_at_call 55; with_reducible exact Calls.keep (C1 _)) | (go_at_call 55; with_reducible exact Calls.keep (C2 _)) | (go_at_call 55; with_reducible exact Calls.keep (C3 _)) | (go_at_call 55; with_reducible exact Calls.keep (C4 _)) | (go_at_call 55; with_reducible exact Calls.keep (C5 _)))) | quiet_step ((first | (go_at_call 55; with_reducible exact Calls.keep (C1 _)) | (go_at_call 55; with_reducible exact Calls.keep (C2 _)) | (go_at_call 55; with_reducible exact Calls.keep (C3 _)) | (go_at_call 55; with_reducible exact Calls.keep (C4 _)) | (go_at_call 55; with_reducible exact Calls.keep (C5 _))))))
  refine wpQuiet_nil ?_
  intro _ hwz
  obtain ⟨y, rfl⟩ := hwz
  have Kz := K.call y.h
  clear K 
  have K := Kz
  clear Kz
  generalize y.w = wz at K ⊢
  clear y
  go_wp2_with (first
      | (focus ((with_reducible refine' wpList_load_kn_gd K _ 88 (.tmp 3) rfl 2 _ _ _ _ rfl _ Try.underlying88 rfl Try.szKy _ _); rotate_left 3; (focus exact rfl); rotate_left 1; (focus exact rfl)))
      | (focus ((with_reducible refine' wpList_load_kn_gd K _ 88 (.tmp 4) rfl 1 _ _ _ _ rfl _ Try.underlying88 rfl Try.szKy _ _); rotate_left 3; (focus exact rfl); rotate_left 1; (focus exact rfl)))
      | (focus (first | ((with_reducible refine' wpList_load_kn K rfl 88 (.tmp 3) rfl 2 _ _ _ _ rfl _ Try.underlying88 rfl Try.szKy _ _); rotate_left 2; (focus exact rfl)) | ((with_reducible refine' wpList_load_kn K rfl 88 (.tmp 4) rfl 1 _ _ _ _ rfl _ Try.underlying88 rfl Try.szKy _ _); rotate_left 2; (focus exact rfl))))
      | (go_at_call 52; (with_reducible refine Calls.kn K (PA _) ?_); intro wz Kz; clear K; have K := Kz; clear Kz)
      | (go_at_call 55; (with_reducible refine Calls.kn K (C1 _) ?_); intro wz Kz; clear K; have K := Kz; clear Kz)
      | (go_at_call 55; (with_reducible refine Calls.kn K (C2 _) ?_); intro wz Kz; clear K; have K := Kz; clear Kz)
      | (go_at_call 55; (with_reducible refine Calls.kn K (C3 _) ?_); intro wz Kz; clear K; have K := Kz; clear Kz)
      | (go_at_call 55; (with_reducible refine Calls.kn K (C4 _) ?_); intro wz Kz; clear K; have K := Kz; clear Kz)
      | (go_at_call 55; (with_reducible refine Calls.kn K (C5 _) ?_); intro wz Kz; clear K; have K := Kz; clear Kz)
      | (go_at_call 56; (with_reducible refine Calls.kn K (L1 _) ?_); intro wz Kz; clear K; have K := Kz; clear Kz)
      | (go_at_call 56; (with_reducible refine Calls.kn K (L2 _) ?_); intro wz Kz; clear K; have K := Kz; clear Kz))
  go_ret
  exact ⟨rfl, K.fr⟩
set_option maxRecDepth 100000 in
set_option maxHeartbeats 3200000 in
theorem three_bg (x z : Nat) (A B C : Array Value) (w : World)
    (C1 : Ans Try.prog 55 #[.agg A, .agg B] (.int .i64 (x : Int)))
    (C2 : Ans Try.prog 55 #[.agg B, .agg C] (.int .i64 (x : Int)))
    (C3 : Ans Try.prog 55 #[.agg A, .agg C] (.int .i64 (z : Int)))
    (C4 : Ans Try.prog 55 #[.agg A, .agg A] (.int .i64 256))
    (C5 : Ans Try.prog 55 #[.agg B, .agg A] (.int .i64 (x : Int)))
    (PA : Ans Try.prog 52 #[] (.bool true))
    (L1 : Ans Try.prog 56 #[.agg A, .agg B] (.bool false))
    (L2 : Ans Try.prog 56 #[.agg B, .agg A] (.bool true))
    (hl : x < z) (E1 : ∀ W : World, (binOp .eql 88 (.agg A) (.agg B)).run Try.prog W = .ok (.bool false) W)
    (sA : Sz 32 A) (sB : Sz 32 B) (sC : Sz 32 C) :
    Calls Try.prog 12 #[.agg A, .agg B, .agg C] w fun e w' => e = .returned (.bool true) ∧ Fr (fun _ => False) w w' := by
  have EG := Try.guardKy
  have l1 : (x : Int) < (z : Int) := by omega
  have l2 : (x : Int) ≤ (z : Int) := by omega
  have l3 : ¬ (z : Int) < (x : Int) := by omega
  have l4 : ¬ (z : Int) ≤ (x : Int) := by omega
  have l5 : ((z : Int) == (x : Int)) = false := by rw [beq_eq_false_iff_ne]; omega
  have l6 : decide ((z : Int) = (x : Int)) = false := decide_eq_false (by omega)
  have l7 : min (x : Int) (z : Int) = (x : Int) := by omega
  have l8 : min (z : Int) (x : Int) = (x : Int) := by omega
  have l9 : (z == x) = false := by rw [beq_eq_false_iff_ne]; omega
  have l10 : ¬ z = x := by omega
  have K := ((((Kn.start w).new (w.heap.size) 32 A 88 rfl sA.1).new (w.heap.size + 1) 32 B 88 (by simp) sB.1).new (w.heap.size + 1 + 1) 32 C 88 (by simp) sC.1)
  go_enter Try.func12, Try.ntmps12
  go_wp2_with fail
  refine wp_region_keep (by kernel_rfl) (by kernel_rfl) ?_

  repeat (any_goals (first | (focus (go_big_quiet_want; (first | ((with_reducible refine' quiet_load_kn K 88 (.tmp 3) rfl 2 _ _ _ _ rfl _ Try.underlying88 rfl Try.szKy _ _); rotate_left 2; (focus exact rfl)) | ((with_reducible refine' quiet_load_kn K 88 (.tmp 4) rfl 1 _ _ _ _ rfl _ Try.underlying88 rfl Try.szKy _ _); rotate_left 2; (focus exact rfl)) | ((with_reducible refine' quiet_load_kn K 88 (.tmp 5) rfl 0 _ _ _ _ rfl _ Try.underlying88 rfl Try.szKy _ _); rotate_left 2; (focus exact rfl))); simp only [Act.put, List.setIfInBounds_toArray, List.set_cons_zero, List.set_cons_succ]; go_big_quiet_on)) | go_big_quiet_step ((first | (go_at_call 55; with_reducible exact Calls.keep (C1 _)) | (go_at_call 55; with_reducible exact Calls.keep (C2 _)) | (go_at_call 55; with_reducible exact Calls.keep (C3 _)) | (go_at_call 55; with_reducible exact Calls.keep (C4 _)) | (go_at_call 55; with_reducible exact Calls.keep (C5 _)))) | quiet_step ((first | (go_at_call 55; with_reducible exact Calls.keep (C1 _)) | (go_at_call 55; with_reducible exact Calls.keep (C2 _)) | (go_at_call 55; with_reducible exact Calls.keep (C3 _)) | (go_at_call 55; with_reducible exact Calls.keep (C4 _)) | (go_at_call 55; with_reducible exact Calls.keep (C5 _))))))
  refine wpQuiet_nil ?_
  intro _ hwz
  obtain ⟨y, rfl⟩ := hwz
  have Kz := K.call y.h
  clear K 
  have K := Kz
  clear Kz
  generalize y.w = wz at K ⊢
  clear y
  go_wp2_with (first
      | (focus ((with_reducible refine' wpList_load_kn_gd K _ 88 (.tmp 3) rfl 2 _ _ _ _ rfl _ Try.underlying88 rfl Try.szKy _ _); rotate_left 3; (focus exact rfl); rotate_left 1; (focus exact rfl)))
      | (focus ((with_reducible refine' wpList_load_kn_gd K _ 88 (.tmp 4) rfl 1 _ _ _ _ rfl _ Try.underlying88 rfl Try.szKy _ _); rotate_left 3; (focus exact rfl); rotate_left 1; (focus exact rfl)))
      | (focus (first | ((with_reducible refine' wpList_load_kn K rfl 88 (.tmp 3) rfl 2 _ _ _ _ rfl _ Try.underlying88 rfl Try.szKy _ _); rotate_left 2; (focus exact rfl)) | ((with_reducible refine' wpList_load_kn K rfl 88 (.tmp 4) rfl 1 _ _ _ _ rfl _ Try.underlying88 rfl Try.szKy _ _); rotate_left 2; (focus exact rfl))))
      | (go_at_call 52; (with_reducible refine Calls.kn K (PA _) ?_); intro wz Kz; clear K; have K := Kz; clear Kz)
      | (go_at_call 55; (with_reducible refine Calls.kn K (C1 _) ?_); intro wz Kz; clear K; have K := Kz; clear Kz)
      | (go_at_call 55; (with_reducible refine Calls.kn K (C2 _) ?_); intro wz Kz; clear K; have K := Kz; clear Kz)
      | (go_at_call 55; (with_reducible refine Calls.kn K (C3 _) ?_); intro wz Kz; clear K; have K := Kz; clear Kz)
      | (go_at_call 55; (with_reducible refine Calls.kn K (C4 _) ?_); intro wz Kz; clear K; have K := Kz; clear Kz)
      | (go_at_call 55; (with_reducible refine Calls.kn K (C5 _) ?_); intro wz Kz; clear K; have K := Kz; clear Kz)
      | (go_at_call 56; (with_reducible refine Calls.kn K (L1 _) ?_); intro wz Kz; clear K; have K := Kz; clear Kz)
      | (go_at_call 56; (with_reducible refine Calls.kn K (L2 _) ?_); intro wz Kz; clear K; have K := Kz; clear Kz))
  go_ret
  exact ⟨rfl, K.fr⟩
set_option maxRecDepth 100000 in
set_option maxHeartbeats 3200000 in
theorem three_ce (x z : Nat) (A B C : Array Value) (w : World)
    (C1 : Ans Try.prog 55 #[.agg A, .agg B] (.int .i64 (x : Int)))
    (C2 : Ans Try.prog 55 #[.agg B, .agg C] (.int .i64 (z : Int)))
    (C3 : Ans Try.prog 55 #[.agg A, .agg C] (.int .i64 (x : Int)))
    (C4 : Ans Try.prog 55 #[.agg A, .agg A] (.int .i64 256))
    (C5 : Ans Try.prog 55 #[.agg B, .agg A] (.int .i64 (x : Int)))
    (PA : Ans Try.prog 52 #[] (.bool true))
    (L1 : Ans Try.prog 56 #[.agg A, .agg B] (.bool false))
    (L2 : Ans Try.prog 56 #[.agg B, .agg A] (.bool false))
    (hl : x < z) (E1 : ∀ W : World, (binOp .eql 88 (.agg A) (.agg B)).run Try.prog W = .ok (.bool true) W)
    (sA : Sz 32 A) (sB : Sz 32 B) (sC : Sz 32 C) :
    Calls Try.prog 12 #[.agg A, .agg B, .agg C] w fun e w' => e = .returned (.bool true) ∧ Fr (fun _ => False) w w' := by
  have EG := Try.guardKy
  have l1 : (x : Int) < (z : Int) := by omega
  have l2 : (x : Int) ≤ (z : Int) := by omega
  have l3 : ¬ (z : Int) < (x : Int) := by omega
  have l4 : ¬ (z : Int) ≤ (x : Int) := by omega
  have l5 : ((z : Int) == (x : Int)) = false := by rw [beq_eq_false_iff_ne]; omega
  have l6 : decide ((z : Int) = (x : Int)) = false := decide_eq_false (by omega)
  have l7 : min (x : Int) (z : Int) = (x : Int) := by omega
  have l8 : min (z : Int) (x : Int) = (x : Int) := by omega
  have l9 : (z == x) = false := by rw [beq_eq_false_iff_ne]; omega
  have l10 : ¬ z = x := by omega
  have K := ((((Kn.start w).new (w.heap.size) 32 A 88 rfl sA.1).new (w.heap.size + 1) 32 B 88 (by simp) sB.1).new (w.heap.size + 1 + 1) 32 C 88 (by simp) sC.1)
  go_enter Try.func12, Try.ntmps12
  go_wp2_with fail
  refine wp_region_keep (by kernel_rfl) (by kernel_rfl) ?_

  repeat (any_goals (first | (focus (go_big_quiet_want; (first | ((with_reducible refine' quiet_load_kn K 88 (.tmp 3) rfl 2 _ _ _ _ rfl _ Try.underlying88 rfl Try.szKy _ _); rotate_left 2; (focus exact rfl)) | ((with_reducible refine' quiet_load_kn K 88 (.tmp 4) rfl 1 _ _ _ _ rfl _ Try.underlying88 rfl Try.szKy _ _); rotate_left 2; (focus exact rfl)) | ((with_reducible refine' quiet_load_kn K 88 (.tmp 5) rfl 0 _ _ _ _ rfl _ Try.underlying88 rfl Try.szKy _ _); rotate_left 2; (focus exact rfl))); simp only [Act.put, List.setIfInBounds_toArray, List.set_cons_zero, List.set_cons_succ]; go_big_quiet_on)) | go_big_quiet_step ((first | (go_at_call 55; with_reducible exact Calls.keep (C1 _)) | (go_at_call 55; with_reducible exact Calls.keep (C2 _)) | (go_at_call 55; with_reducible exact Calls.keep (C3 _)) | (go_at_call 55; with_reducible exact Calls.keep (C4 _)) | (go_at_call 55; with_reducible exact Calls.keep (C5 _)))) | quiet_step ((first | (go_at_call 55; with_reducible exact Calls.keep (C1 _)) | (go_at_call 55; with_reducible exact Calls.keep (C2 _)) | (go_at_call 55; with_reducible exact Calls.keep (C3 _)) | (go_at_call 55; with_reducible exact Calls.keep (C4 _)) | (go_at_call 55; with_reducible exact Calls.keep (C5 _))))))
  refine wpQuiet_nil ?_
  intro _ hwz
  obtain ⟨y, rfl⟩ := hwz
  have Kz := K.call y.h
  clear K 
  have K := Kz
  clear Kz
  generalize y.w = wz at K ⊢
  clear y
  go_wp2_with (first
      | (focus ((with_reducible refine' wpList_load_kn_gd K _ 88 (.tmp 3) rfl 2 _ _ _ _ rfl _ Try.underlying88 rfl Try.szKy _ _); rotate_left 3; (focus exact rfl); rotate_left 1; (focus exact rfl)))
      | (focus ((with_reducible refine' wpList_load_kn_gd K _ 88 (.tmp 4) rfl 1 _ _ _ _ rfl _ Try.underlying88 rfl Try.szKy _ _); rotate_left 3; (focus exact rfl); rotate_left 1; (focus exact rfl)))
      | (focus (first | ((with_reducible refine' wpList_load_kn K rfl 88 (.tmp 3) rfl 2 _ _ _ _ rfl _ Try.underlying88 rfl Try.szKy _ _); rotate_left 2; (focus exact rfl)) | ((with_reducible refine' wpList_load_kn K rfl 88 (.tmp 4) rfl 1 _ _ _ _ rfl _ Try.underlying88 rfl Try.szKy _ _); rotate_left 2; (focus exact rfl))))
      | (go_at_call 52; (with_reducible refine Calls.kn K (PA _) ?_); intro wz Kz; clear K; have K := Kz; clear Kz)
      | (go_at_call 55; (with_reducible refine Calls.kn K (C1 _) ?_); intro wz Kz; clear K; have K := Kz; clear Kz)
      | (go_at_call 55; (with_reducible refine Calls.kn K (C2 _) ?_); intro wz Kz; clear K; have K := Kz; clear Kz)
      | (go_at_call 55; (with_reducible refine Calls.kn K (C3 _) ?_); intro wz Kz; clear K; have K := Kz; clear Kz)
      | (go_at_call 55; (with_reducible refine Calls.kn K (C4 _) ?_); intro wz Kz; clear K; have K := Kz; clear Kz)
      | (go_at_call 55; (with_reducible refine Calls.kn K (C5 _) ?_); intro wz Kz; clear K; have K := Kz; clear Kz)
      | (go_at_call 56; (with_reducible refine Calls.kn K (L1 _) ?_); intro wz Kz; clear K; have K := Kz; clear Kz)
      | (go_at_call 56; (with_reducible refine Calls.kn K (L2 _) ?_); intro wz Kz; clear K; have K := Kz; clear Kz))
  go_ret
  exact ⟨rfl, K.fr⟩
set_option maxRecDepth 100000 in
set_option maxHeartbeats 3200000 in
theorem three_cf (x z : Nat) (A B C : Array Value) (w : World)
    (C1 : Ans Try.prog 55 #[.agg A, .agg B] (.int .i64 (x : Int)))
    (C2 : Ans Try.prog 55 #[.agg B, .agg C] (.int .i64 (z : Int)))
    (C3 : Ans Try.prog 55 #[.agg A, .agg C] (.int .i64 (x : Int)))
    (C4 : Ans Try.prog 55 #[.agg A, .agg A] (.int .i64 256))
    (C5 : Ans Try.prog 55 #[.agg B, .agg A] (.int .i64 (x : Int)))
    (PA : Ans Try.prog 52 #[] (.bool true))
    (L1 : Ans Try.prog 56 #[.agg A, .agg B] (.bool true))
    (L2 : Ans Try.prog 56 #[.agg B, .agg A] (.bool false))
    (hl : x < z) (E1 : ∀ W : World, (binOp .eql 88 (.agg A) (.agg B)).run Try.prog W = .ok (.bool false) W)
    (sA : Sz 32 A) (sB : Sz 32 B) (sC : Sz 32 C) :
    Calls Try.prog 12 #[.agg A, .agg B, .agg C] w fun e w' => e = .returned (.bool true) ∧ Fr (fun _ => False) w w' := by
  have EG := Try.guardKy
  have l1 : (x : Int) < (z : Int) := by omega
  have l2 : (x : Int) ≤ (z : Int) := by omega
  have l3 : ¬ (z : Int) < (x : Int) := by omega
  have l4 : ¬ (z : Int) ≤ (x : Int) := by omega
  have l5 : ((z : Int) == (x : Int)) = false := by rw [beq_eq_false_iff_ne]; omega
  have l6 : decide ((z : Int) = (x : Int)) = false := decide_eq_false (by omega)
  have l7 : min (x : Int) (z : Int) = (x : Int) := by omega
  have l8 : min (z : Int) (x : Int) = (x : Int) := by omega
  have l9 : (z == x) = false := by rw [beq_eq_false_iff_ne]; omega
  have l10 : ¬ z = x := by omega
  have K := ((((Kn.start w).new (w.heap.size) 32 A 88 rfl sA.1).new (w.heap.size + 1) 32 B 88 (by simp) sB.1).new (w.heap.size + 1 + 1) 32 C 88 (by simp) sC.1)
  go_enter Try.func12, Try.ntmps12
  go_wp2_with fail
  refine wp_region_keep (by kernel_rfl) (by kernel_rfl) ?_

  repeat (any_goals (first | (focus (go_big_quiet_want; (first | ((with_reducible refine' quiet_load_kn K 88 (.tmp 3) rfl 2 _ _ _ _ rfl _ Try.underlying88 rfl Try.szKy _ _); rotate_left 2; (focus exact rfl)) | ((with_reducible refine' quiet_load_kn K 88 (.tmp 4) rfl 1 _ _ _ _ rfl _ Try.underlying88 rfl Try.szKy _ _); rotate_left 2; (focus exact rfl)) | ((with_reducible refine' quiet_load_kn K 88 (.tmp 5) rfl 0 _ _ _ _ rfl _ Try.underlying88 rfl Try.szKy _ _); rotate_left 2; (focus exact rfl))); simp only [Act.put, List.setIfInBounds_toArray, List.set_cons_zero, List.set_cons_succ]; go_big_quiet_on)) | go_big_quiet_step ((first | (go_at_call 55; with_reducible exact Calls.keep (C1 _)) | (go_at_call 55; with_reducible exact Calls.keep (C2 _)) | (go_at_call 55; with_reducible exact Calls.keep (C3 _)) | (go_at_call 55; with_reducible exact Calls.keep (C4 _)) | (go_at_call 55; with_reducible exact Calls.keep (C5 _)))) | quiet_step ((first | (go_at_call 55; with_reducible exact Calls.keep (C1 _)) | (go_at_call 55; with_reducible exact Calls.keep (C2 _)) | (go_at_call 55; with_reducible exact Calls.keep (C3 _)) | (go_at_call 55; with_reducible exact Calls.keep (C4 _)) | (go_at_call 55; with_reducible exact Calls.keep (C5 _))))))
  refine wpQuiet_nil ?_
  intro _ hwz
  obtain ⟨y, rfl⟩ := hwz
  have Kz := K.call y.h
  clear K 
  have K := Kz
  clear Kz
  generalize y.w = wz at K ⊢
  clear y
  go_wp2_with (first
      | (focus ((with_reducible refine' wpList_load_kn_gd K _ 88 (.tmp 3) rfl 2 _ _ _ _ rfl _ Try.underlying88 rfl Try.szKy _ _); rotate_left 3; (focus exact rfl); rotate_left 1; (focus exact rfl)))
      | (focus ((with_reducible refine' wpList_load_kn_gd K _ 88 (.tmp 4) rfl 1 _ _ _ _ rfl _ Try.underlying88 rfl Try.szKy _ _); rotate_left 3; (focus exact rfl); rotate_left 1; (focus exact rfl)))
      | (focus (first | ((with_reducible refine' wpList_load_kn K rfl 88 (.tmp 3) rfl 2 _ _ _ _ rfl _ Try.underlying88 rfl Try.szKy _ _); rotate_left 2; (focus exact rfl)) | ((with_reducible refine' wpList_load_kn K rfl 88 (.tmp 4) rfl 1 _ _ _ _ rfl _ Try.underlying88 rfl Try.szKy _ _); rotate_left 2; (focus exact rfl))))
      | (go_at_call 52; (with_reducible refine Calls.kn K (PA _) ?_); intro wz Kz; clear K; have K := Kz; clear Kz)
      | (go_at_call 55; (with_reducible refine Calls.kn K (C1 _) ?_); intro wz Kz; clear K; have K := Kz; clear Kz)
      | (go_at_call 55; (with_reducible refine Calls.kn K (C2 _) ?_); intro wz Kz; clear K; have K := Kz; clear Kz)
      | (go_at_call 55; (with_reducible refine Calls.kn K (C3 _) ?_); intro wz Kz; clear K; have K := Kz; clear Kz)
      | (go_at_call 55; (with_reducible refine Calls.kn K (C4 _) ?_); intro wz Kz; clear K; have K := Kz; clear Kz)
      | (go_at_call 55; (with_reducible refine Calls.kn K (C5 _) ?_); intro wz Kz; clear K; have K := Kz; clear Kz)
      | (go_at_call 56; (with_reducible refine Calls.kn K (L1 _) ?_); intro wz Kz; clear K; have K := Kz; clear Kz)
      | (go_at_call 56; (with_reducible refine Calls.kn K (L2 _) ?_); intro wz Kz; clear K; have K := Kz; clear Kz))
  go_ret
  exact ⟨rfl, K.fr⟩
set_option maxRecDepth 100000 in
set_option maxHeartbeats 3200000 in
theorem three_cg (x z : Nat) (A B C : Array Value) (w : World)
    (C1 : Ans Try.prog 55 #[.agg A, .agg B] (.int .i64 (x : Int)))
    (C2 : Ans Try.prog 55 #[.agg B, .agg C] (.int .i64 (z : Int)))
    (C3 : Ans Try.prog 55 #[.agg A, .agg C] (.int .i64 (x : Int)))
    (C4 : Ans Try.prog 55 #[.agg A, .agg A] (.int .i64 256))
    (C5 : Ans Try.prog 55 #[.agg B, .agg A] (.int .i64 (x : Int)))
    (PA : Ans Try.prog 52 #[] (.bool true))
    (L1 : Ans Try.prog 56 #[.agg A, .agg B] (.bool false))
    (L2 : Ans Try.prog 56 #[.agg B, .agg A] (.bool true))
    (hl : x < z) (E1 : ∀ W : World, (binOp .eql 88 (.agg A) (.agg B)).run Try.prog W = .ok (.bool false) W)
    (sA : Sz 32 A) (sB : Sz 32 B) (sC : Sz 32 C) :
    Calls Try.prog 12 #[.agg A, .agg B, .agg C] w fun e w' => e = .returned (.bool true) ∧ Fr (fun _ => False) w w' := by
  have EG := Try.guardKy
  have l1 : (x : Int) < (z : Int) := by omega
  have l2 : (x : Int) ≤ (z : Int) := by omega
  have l3 : ¬ (z : Int) < (x : Int) := by omega
  have l4 : ¬ (z : Int) ≤ (x : Int) := by omega
  have l5 : ((z : Int) == (x : Int)) = false := by rw [beq_eq_false_iff_ne]; omega
  have l6 : decide ((z : Int) = (x : Int)) = false := decide_eq_false (by omega)
  have l7 : min (x : Int) (z : Int) = (x : Int) := by omega
  have l8 : min (z : Int) (x : Int) = (x : Int) := by omega
  have l9 : (z == x) = false := by rw [beq_eq_false_iff_ne]; omega
  have l10 : ¬ z = x := by omega
  have K := ((((Kn.start w).new (w.heap.size) 32 A 88 rfl sA.1).new (w.heap.size + 1) 32 B 88 (by simp) sB.1).new (w.heap.size + 1 + 1) 32 C 88 (by simp) sC.1)
  go_enter Try.func12, Try.ntmps12
  go_wp2_with fail
  refine wp_region_keep (by kernel_rfl) (by kernel_rfl) ?_

  repeat (any_goals (first | (focus (go_big_quiet_want; (first | ((with_reducible refine' quiet_load_kn K 88 (.tmp 3) rfl 2 _ _ _ _ rfl _ Try.underlying88 rfl Try.szKy _ _); rotate_left 2; (focus exact rfl)) | ((with_reducible refine' quiet_load_kn K 88 (.tmp 4) rfl 1 _ _ _ _ rfl _ Try.underlying88 rfl Try.szKy _ _); rotate_left 2; (focus exact rfl)) | ((with_reducible refine' quiet_load_kn K 88 (.tmp 5) rfl 0 _ _ _ _ rfl _ Try.underlying88 rfl Try.szKy _ _); rotate_left 2; (focus exact rfl))); simp only [Act.put, List.setIfInBounds_toArray, List.set_cons_zero, List.set_cons_succ]; go_big_quiet_on)) | go_big_quiet_step ((first | (go_at_call 55; with_reducible exact Calls.keep (C1 _)) | (go_at_call 55; with_reducible exact Calls.keep (C2 _)) | (go_at_call 55; with_reducible exact Calls.keep (C3 _)) | (go_at_call 55; with_reducible exact Calls.keep (C4 _)) | (go_at_call 55; with_reducible exact Calls.keep (C5 _)))) | quiet_step ((first | (go_at_call 55; with_reducible exact Calls.keep (C1 _)) | (go_at_call 55; with_reducible exact Calls.keep (C2 _)) | (go_at_call 55; with_reducible exact Calls.keep (C3 _)) | (go_at_call 55; with_reducible exact Calls.keep (C4 _)) | (go_at_call 55; with_reducible exact Calls.keep (C5 _))))))
  refine wpQuiet_nil ?_
  intro _ hwz
  obtain ⟨y, rfl⟩ := hwz
  have Kz := K.call y.h
  clear K 
  have K := Kz
  clear Kz
  generalize y.w = wz at K ⊢
  clear y
  go_wp2_with (first
      | (focus ((with_reducible refine' wpList_load_kn_gd K _ 88 (.tmp 3) rfl 2 _ _ _ _ rfl _ Try.underlying88 rfl Try.szKy _ _); rotate_left 3; (focus exact rfl); rotate_left 1; (focus exact rfl)))
      | (focus ((with_reducible refine' wpList_load_kn_gd K _ 88 (.tmp 4) rfl 1 _ _ _ _ rfl _ Try.underlying88 rfl Try.szKy _ _); rotate_left 3; (focus exact rfl); rotate_left 1; (focus exact rfl)))
      | (focus (first | ((with_reducible refine' wpList_load_kn K rfl 88 (.tmp 3) rfl 2 _ _ _ _ rfl _ Try.underlying88 rfl Try.szKy _ _); rotate_left 2; (focus exact rfl)) | ((with_reducible refine' wpList_load_kn K rfl 88 (.tmp 4) rfl 1 _ _ _ _ rfl _ Try.underlying88 rfl Try.szKy _ _); rotate_left 2; (focus exact rfl))))
      | (go_at_call 52; (with_reducible refine Calls.kn K (PA _) ?_); intro wz Kz; clear K; have K := Kz; clear Kz)
      | (go_at_call 55; (with_reducible refine Calls.kn K (C1 _) ?_); intro wz Kz; clear K; have K := Kz; clear Kz)
      | (go_at_call 55; (with_reducible refine Calls.kn K (C2 _) ?_); intro wz Kz; clear K; have K := Kz; clear Kz)
      | (go_at_call 55; (with_reducible refine Calls.kn K (C3 _) ?_); intro wz Kz; clear K; have K := Kz; clear Kz)
      | (go_at_call 55; (with_reducible refine Calls.kn K (C4 _) ?_); intro wz Kz; clear K; have K := Kz; clear Kz)
      | (go_at_call 55; (with_reducible refine Calls.kn K (C5 _) ?_); intro wz Kz; clear K; have K := Kz; clear Kz)
      | (go_at_call 56; (with_reducible refine Calls.kn K (L1 _) ?_); intro wz Kz; clear K; have K := Kz; clear Kz)
      | (go_at_call 56; (with_reducible refine Calls.kn K (L2 _) ?_); intro wz Kz; clear K; have K := Kz; clear Kz))
  go_ret
  exact ⟨rfl, K.fr⟩
set_option maxRecDepth 100000 in
set_option maxHeartbeats 3200000 in
theorem three_de (x z : Nat) (A B C : Array Value) (w : World)
    (C1 : Ans Try.prog 55 #[.agg A, .agg B] (.int .i64 (z : Int)))
    (C2 : Ans Try.prog 55 #[.agg B, .agg C] (.int .i64 (x : Int)))
    (C3 : Ans Try.prog 55 #[.agg A, .agg C] (.int .i64 (x : Int)))
    (C4 : Ans Try.prog 55 #[.agg A, .agg A] (.int .i64 256))
    (C5 : Ans Try.prog 55 #[.agg B, .agg A] (.int .i64 (z : Int)))
    (PA : Ans Try.prog 52 #[] (.bool true))
    (L1 : Ans Try.prog 56 #[.agg A, .agg B] (.bool false))
    (L2 : Ans Try.prog 56 #[.agg B, .agg A] (.bool false))
    (hl : x < z) (E1 : ∀ W : World, (binOp .eql 88 (.agg A) (.agg B)).run Try.prog W = .ok (.bool true) W)
    (sA : Sz 32 A) (sB : Sz 32 B) (sC : Sz 32 C) :
    Calls Try.prog 12 #[.agg A, .agg B, .agg C] w fun e w' => e = .returned (.bool true) ∧ Fr (fun _ => False) w w' := by
  have EG := Try.guardKy
  have l1 : (x : Int) < (z : Int) := by omega
  have l2 : (x : Int) ≤ (z : Int) := by omega
  have l3 : ¬ (z : Int) < (x : Int) := by omega
  have l4 : ¬ (z : Int) ≤ (x : Int) := by omega
  have l5 : ((z : Int) == (x : Int)) = false := by rw [beq_eq_false_iff_ne]; omega
  have l6 : decide ((z : Int) = (x : Int)) = false := decide_eq_false (by omega)
  have l7 : min (x : Int) (z : Int) = (x : Int) := by omega
  have l8 : min (z : Int) (x : Int) = (x : Int) := by omega
  have l9 : (z == x) = false := by rw [beq_eq_false_iff_ne]; omega
  have l10 : ¬ z = x := by omega
  have K := ((((Kn.start w).new (w.heap.size) 32 A 88 rfl sA.1).new (w.heap.size + 1) 32 B 88 (by simp) sB.1).new (w.heap.size + 1 + 1) 32 C 88 (by simp) sC.1)
  go_enter Try.func12, Try.ntmps12
  go_wp2_with fail
  refine wp_region_keep (by kernel_rfl) (by kernel_rfl) ?_

  repeat (any_goals (first | (focus (go_big_quiet_want; (first | ((with_reducible refine' quiet_load_kn K 88 (.tmp 3) rfl 2 _ _ _ _ rfl _ Try.underlying88 rfl Try.szKy _ _); rotate_left 2; (focus exact rfl)) | ((with_reducible refine' quiet_load_kn K 88 (.tmp 4) rfl 1 _ _ _ _ rfl _ Try.underlying88 rfl Try.szKy _ _); rotate_left 2; (focus exact rfl)) | ((with_reducible refine' quiet_load_kn K 88 (.tmp 5) rfl 0 _ _ _ _ rfl _ Try.underlying88 rfl Try.szKy _ _); rotate_left 2; (focus exact rfl))); simp only [Act.put, List.setIfInBounds_toArray, List.set_cons_zero, List.set_cons_succ]; go_big_quiet_on)) | go_big_quiet_step ((first | (go_at_call 55; with_reducible exact Calls.keep (C1 _)) | (go_at_call 55; with_reducible exact Calls.keep (C2 _)) | (go_at_call 55; with_reducible exact Calls.keep (C3 _)) | (go_at_call 55; with_reducible exact Calls.keep (C4 _)) | (go_at_call 55; with_reducible exact Calls.keep (C5 _)))) | quiet_step ((first | (go_at_call 55; with_reducible exact Calls.keep (C1 _)) | (go_at_call 55; with_reducible exact Calls.keep (C2 _)) | (go_at_call 55; with_reducible exact Calls.keep (C3 _)) | (go_at_call 55; with_reducible exact Calls.keep (C4 _)) | (go_at_call 55; with_reducible exact Calls.keep (C5 _))))))
  refine wpQuiet_nil ?_
  intro _ hwz
  obtain ⟨y, rfl⟩ := hwz
  have Kz := K.call y.h
  clear K 
  have K := Kz
  clear Kz
  generalize y.w = wz at K ⊢
  clear y
  go_wp2_with (first
      | (focus ((with_reducible refine' wpList_load_kn_gd K _ 88 (.tmp 3) rfl 2 _ _ _ _ rfl _ Try.underlying88 rfl Try.szKy _ _); rotate_left 3; (focus exact rfl); rotate_left 1; (focus exact rfl)))
      | (focus ((with_reducible refine' wpList_load_kn_gd K _ 88 (.tmp 4) rfl 1 _ _ _ _ rfl _ Try.underlying88 rfl Try.szKy _ _); rotate_left 3; (focus exact rfl); rotate_left 1; (focus exact rfl)))
      | (focus (first | ((with_reducible refine' wpList_load_kn K rfl 88 (.tmp 3) rfl 2 _ _ _ _ rfl _ Try.underlying88 rfl Try.szKy _ _); rotate_left 2; (focus exact rfl)) | ((with_reducible refine' wpList_load_kn K rfl 88 (.tmp 4) rfl 1 _ _ _ _ rfl _ Try.underlying88 rfl Try.szKy _ _); rotate_left 2; (focus exact rfl))))
      | (go_at_call 52; (with_reducible refine Calls.kn K (PA _) ?_); intro wz Kz; clear K; have K := Kz; clear Kz)
      | (go_at_call 55; (with_reducible refine Calls.kn K (C1 _) ?_); intro wz Kz; clear K; have K := Kz; clear Kz)
      | (go_at_call 55; (with_reducible refine Calls.kn K (C2 _) ?_); intro wz Kz; clear K; have K := Kz; clear Kz)
      | (go_at_call 55; (with_reducible refine Calls.kn K (C3 _) ?_); intro wz Kz; clear K; have K := Kz; clear Kz)
      | (go_at_call 55; (with_reducible refine Calls.kn K (C4 _) ?_); intro wz Kz; clear K; have K := Kz; clear Kz)
      | (go_at_call 55; (with_reducible refine Calls.kn K (C5 _) ?_); intro wz Kz; clear K; have K := Kz; clear Kz)
      | (go_at_call 56; (with_reducible refine Calls.kn K (L1 _) ?_); intro wz Kz; clear K; have K := Kz; clear Kz)
      | (go_at_call 56; (with_reducible refine Calls.kn K (L2 _) ?_); intro wz Kz; clear K; have K := Kz; clear Kz))
  go_ret
  exact ⟨rfl, K.fr⟩
set_option maxRecDepth 100000 in
set_option maxHeartbeats 3200000 in
theorem three_df (x z : Nat) (A B C : Array Value) (w : World)
    (C1 : Ans Try.prog 55 #[.agg A, .agg B] (.int .i64 (z : Int)))
    (C2 : Ans Try.prog 55 #[.agg B, .agg C] (.int .i64 (x : Int)))
    (C3 : Ans Try.prog 55 #[.agg A, .agg C] (.int .i64 (x : Int)))
    (C4 : Ans Try.prog 55 #[.agg A, .agg A] (.int .i64 256))
    (C5 : Ans Try.prog 55 #[.agg B, .agg A] (.int .i64 (z : Int)))
    (PA : Ans Try.prog 52 #[] (.bool true))
    (L1 : Ans Try.prog 56 #[.agg A, .agg B] (.bool true))
    (L2 : Ans Try.prog 56 #[.agg B, .agg A] (.bool false))
    (hl : x < z) (E1 : ∀ W : World, (binOp .eql 88 (.agg A) (.agg B)).run Try.prog W = .ok (.bool false) W)
    (sA : Sz 32 A) (sB : Sz 32 B) (sC : Sz 32 C) :
    Calls Try.prog 12 #[.agg A, .agg B, .agg C] w fun e w' => e = .returned (.bool true) ∧ Fr (fun _ => False) w w' := by
  have EG := Try.guardKy
  have l1 : (x : Int) < (z : Int) := by omega
  have l2 : (x : Int) ≤ (z : Int) := by omega
  have l3 : ¬ (z : Int) < (x : Int) := by omega
  have l4 : ¬ (z : Int) ≤ (x : Int) := by omega
  have l5 : ((z : Int) == (x : Int)) = false := by rw [beq_eq_false_iff_ne]; omega
  have l6 : decide ((z : Int) = (x : Int)) = false := decide_eq_false (by omega)
  have l7 : min (x : Int) (z : Int) = (x : Int) := by omega
  have l8 : min (z : Int) (x : Int) = (x : Int) := by omega
  have l9 : (z == x) = false := by rw [beq_eq_false_iff_ne]; omega
  have l10 : ¬ z = x := by omega
  have K := ((((Kn.start w).new (w.heap.size) 32 A 88 rfl sA.1).new (w.heap.size + 1) 32 B 88 (by simp) sB.1).new (w.heap.size + 1 + 1) 32 C 88 (by simp) sC.1)
  go_enter Try.func12, Try.ntmps12
  go_wp2_with fail
  refine wp_region_keep (by kernel_rfl) (by kernel_rfl) ?_

  repeat (any_goals (first | (focus (go_big_quiet_want; (first | ((with_reducible refine' quiet_load_kn K 88 (.tmp 3) rfl 2 _ _ _ _ rfl _ Try.underlying88 rfl Try.szKy _ _); rotate_left 2; (focus exact rfl)) | ((with_reducible refine' quiet_load_kn K 88 (.tmp 4) rfl 1 _ _ _ _ rfl _ Try.underlying88 rfl Try.szKy _ _); rotate_left 2; (focus exact rfl)) | ((with_reducible refine' quiet_load_kn K 88 (.tmp 5) rfl 0 _ _ _ _ rfl _ Try.underlying88 rfl Try.szKy _ _); rotate_left 2; (focus exact rfl))); simp only [Act.put, List.setIfInBounds_toArray, List.set_cons_zero, List.set_cons_succ]; go_big_quiet_on)) | go_big_quiet_step ((first | (go_at_call 55; with_reducible exact Calls.keep (C1 _)) | (go_at_call 55; with_reducible exact Calls.keep (C2 _)) | (go_at_call 55; with_reducible exact Calls.keep (C3 _)) | (go_at_call 55; with_reducible exact Calls.keep (C4 _)) | (go_at_call 55; with_reducible exact Calls.keep (C5 _)))) | quiet_step ((first | (go_at_call 55; with_reducible exact Calls.keep (C1 _)) | (go_at_call 55; with_reducible exact Calls.keep (C2 _)) | (go_at_call 55; with_reducible exact Calls.keep (C3 _)) | (go_at_call 55; with_reducible exact Calls.keep (C4 _)) | (go_at_call 55; with_reducible exact Calls.keep (C5 _))))))
  refine wpQuiet_nil ?_
  intro _ hwz
  obtain ⟨y, rfl⟩ := hwz
  have Kz := K.call y.h
  clear K 
  have K := Kz
  clear Kz
  generalize y.w = wz at K ⊢
  clear y
  go_wp2_with (first
      | (focus ((with_reducible refine' wpList_load_kn_gd K _ 88 (.tmp 3) rfl 2 _ _ _ _ rfl _ Try.underlying88 rfl Try.szKy _ _); rotate_left 3; (focus exact rfl); rotate_left 1; (focus exact rfl)))
      | (focus ((with_reducible refine' wpList_load_kn_gd K _ 88 (.tmp 4) rfl 1 _ _ _ _ rfl _ Try.underlying88 rfl Try.szKy _ _); rotate_left 3; (focus exact rfl); rotate_left 1; (focus exact rfl)))
      | (focus (first | ((with_reducible refine' wpList_load_kn K rfl 88 (.tmp 3) rfl 2 _ _ _ _ rfl _ Try.underlying88 rfl Try.szKy _ _); rotate_left 2; (focus exact rfl)) | ((with_reducible refine' wpList_load_kn K rfl 88 (.tmp 4) rfl 1 _ _ _ _ rfl _ Try.underlying88 rfl Try.szKy _ _); rotate_left 2; (focus exact rfl))))
      | (go_at_call 52; (with_reducible refine Calls.kn K (PA _) ?_); intro wz Kz; clear K; have K := Kz; clear Kz)
      | (go_at_call 55; (with_reducible refine Calls.kn K (C1 _) ?_); intro wz Kz; clear K; have K := Kz; clear Kz)
      | (go_at_call 55; (with_reducible refine Calls.kn K (C2 _) ?_); intro wz Kz; clear K; have K := Kz; clear Kz)
      | (go_at_call 55; (with_reducible refine Calls.kn K (C3 _) ?_); intro wz Kz; clear K; have K := Kz; clear Kz)
      | (go_at_call 55; (with_reducible refine Calls.kn K (C4 _) ?_); intro wz Kz; clear K; have K := Kz; clear Kz)
      | (go_at_call 55; (with_reducible refine Calls.kn K (C5 _) ?_); intro wz Kz; clear K; have K := Kz; clear Kz)
      | (go_at_call 56; (with_reducible refine Calls.kn K (L1 _) ?_); intro wz Kz; clear K; have K := Kz; clear Kz)
      | (go_at_call 56; (with_reducible refine Calls.kn K (L2 _) ?_); intro wz Kz; clear K; have K := Kz; clear Kz))
  go_ret
  exact ⟨rfl, K.fr⟩
set_option maxRecDepth 100000 in
set_option maxHeartbeats 3200000 in
theorem three_dg (x z : Nat) (A B C : Array Value) (w : World)
    (C1 : Ans Try.prog 55 #[.agg A, .agg B] (.int .i64 (z : Int)))
    (C2 : Ans Try.prog 55 #[.agg B, .agg C] (.int .i64 (x : Int)))
    (C3 : Ans Try.prog 55 #[.agg A, .agg C] (.int .i64 (x : Int)))
    (C4 : Ans Try.prog 55 #[.agg A, .agg A] (.int .i64 256))
    (C5 : Ans Try.prog 55 #[.agg B, .agg A] (.int .i64 (z : Int)))
    (PA : Ans Try.prog 52 #[] (.bool true))
    (L1 : Ans Try.prog 56 #[.agg A, .agg B] (.bool false))
    (L2 : Ans Try.prog 56 #[.agg B, .agg A] (.bool true))
    (hl : x < z) (E1 : ∀ W : World, (binOp .eql 88 (.agg A) (.agg B)).run Try.prog W = .ok (.bool false) W)
    (sA : Sz 32 A) (sB : Sz 32 B) (sC : Sz 32 C) :
    Calls Try.prog 12 #[.agg A, .agg B, .agg C] w fun e w' => e = .returned (.bool true) ∧ Fr (fun _ => False) w w' := by
  have EG := Try.guardKy
  have l1 : (x : Int) < (z : Int) := by omega
  have l2 : (x : Int) ≤ (z : Int) := by omega
  have l3 : ¬ (z : Int) < (x : Int) := by omega
  have l4 : ¬ (z : Int) ≤ (x : Int) := by omega
  have l5 : ((z : Int) == (x : Int)) = false := by rw [beq_eq_false_iff_ne]; omega
  have l6 : decide ((z : Int) = (x : Int)) = false := decide_eq_false (by omega)
  have l7 : min (x : Int) (z : Int) = (x : Int) := by omega
  have l8 : min (z : Int) (x : Int) = (x : Int) := by omega
  have l9 : (z == x) = false := by rw [beq_eq_false_iff_ne]; omega
  have l10 : ¬ z = x := by omega
  have K := ((((Kn.start w).new (w.heap.size) 32 A 88 rfl sA.1).new (w.heap.size + 1) 32 B 88 (by simp) sB.1).new (w.heap.size + 1 + 1) 32 C 88 (by simp) sC.1)
  go_enter Try.func12, Try.ntmps12
  go_wp2_with fail
  refine wp_region_keep (by kernel_rfl) (by kernel_rfl) ?_

  repeat (any_goals (first | (focus (go_big_quiet_want; (first | ((with_reducible refine' quiet_load_kn K 88 (.tmp 3) rfl 2 _ _ _ _ rfl _ Try.underlying88 rfl Try.szKy _ _); rotate_left 2; (focus exact rfl)) | ((with_reducible refine' quiet_load_kn K 88 (.tmp 4) rfl 1 _ _ _ _ rfl _ Try.underlying88 rfl Try.szKy _ _); rotate_left 2; (focus exact rfl)) | ((with_reducible refine' quiet_load_kn K 88 (.tmp 5) rfl 0 _ _ _ _ rfl _ Try.underlying88 rfl Try.szKy _ _); rotate_left 2; (focus exact rfl))); simp only [Act.put, List.setIfInBounds_toArray, List.set_cons_zero, List.set_cons_succ]; go_big_quiet_on)) | go_big_quiet_step ((first | (go_at_call 55; with_reducible exact Calls.keep (C1 _)) | (go_at_call 55; with_reducible exact Calls.keep (C2 _)) | (go_at_call 55; with_reducible exact Calls.keep (C3 _)) | (go_at_call 55; with_reducible exact Calls.keep (C4 _)) | (go_at_call 55; with_reducible exact Calls.keep (C5 _)))) | quiet_step ((first | (go_at_call 55; with_reducible exact Calls.keep (C1 _)) | (go_at_call 55; with_reducible exact Calls.keep (C2 _)) | (go_at_call 55; with_reducible exact Calls.keep (C3 _)) | (go_at_call 55; with_reducible exact Calls.keep (C4 _)) | (go_at_call 55; with_reducible exact Calls.keep (C5 _))))))
  refine wpQuiet_nil ?_
  intro _ hwz
  obtain ⟨y, rfl⟩ := hwz
  have Kz := K.call y.h
  clear K 
  have K := Kz
  clear Kz
  generalize y.w = wz at K ⊢
  clear y
  go_wp2_with (first
      | (focus ((with_reducible refine' wpList_load_kn_gd K _ 88 (.tmp 3) rfl 2 _ _ _ _ rfl _ Try.underlying88 rfl Try.szKy _ _); rotate_left 3; (focus exact rfl); rotate_left 1; (focus exact rfl)))
      | (focus ((with_reducible refine' wpList_load_kn_gd K _ 88 (.tmp 4) rfl 1 _ _ _ _ rfl _ Try.underlying88 rfl Try.szKy _ _); rotate_left 3; (focus exact rfl); rotate_left 1; (focus exact rfl)))
      | (focus (first | ((with_reducible refine' wpList_load_kn K rfl 88 (.tmp 3) rfl 2 _ _ _ _ rfl _ Try.underlying88 rfl Try.szKy _ _); rotate_left 2; (focus exact rfl)) | ((with_reducible refine' wpList_load_kn K rfl 88 (.tmp 4) rfl 1 _ _ _ _ rfl _ Try.underlying88 rfl Try.szKy _ _); rotate_left 2; (focus exact rfl))))
      | (go_at_call 52; (with_reducible refine Calls.kn K (PA _) ?_); intro wz Kz; clear K; have K := Kz; clear Kz)
      | (go_at_call 55; (with_reducible refine Calls.kn K (C1 _) ?_); intro wz Kz; clear K; have K := Kz; clear Kz)
      | (go_at_call 55; (with_reducible refine Calls.kn K (C2 _) ?_); intro wz Kz; clear K; have K := Kz; clear Kz)
      | (go_at_call 55; (with_reducible refine Calls.kn K (C3 _) ?_); intro wz Kz; clear K; have K := Kz; clear Kz)
      | (go_at_call 55; (with_reducible refine Calls.kn K (C4 _) ?_); intro wz Kz; clear K; have K := Kz; clear Kz)
      | (go_at_call 55; (with_reducible refine Calls.kn K (C5 _) ?_); intro wz Kz; clear K; have K := Kz; clear Kz)
      | (go_at_call 56; (with_reducible refine Calls.kn K (L1 _) ?_); intro wz Kz; clear K; have K := Kz; clear Kz)
      | (go_at_call 56; (with_reducible refine Calls.kn K (L2 _) ?_); intro wz Kz; clear K; have K := Kz; clear Kz))
  go_ret
  exact ⟨rfl, K.fr⟩
set_option maxRecDepth 100000 in
set_option maxHeartbeats 3200000 in
theorem bits_neg (I : Int) (c v y : Nat) (r : Bool) (A B D : Array Value) (w : World)
    (FL : Ans Try.prog 50 #[.agg A, .int .i64 I] (.agg D))
    (RC : Ans Try.prog 51 #[.agg A, .agg B] (.int .i64 (c : Int)))
    (PA : Ans Try.prog 52 #[] (.bool true))
    (B1 : Ans Try.prog 53 #[.agg A, .int .i64 I] (.int .i64 (v : Int)))
    (B2 : Ans Try.prog 54 #[.agg A, .int .i64 I] (.int .i64 (v : Int)))
    (C1 : Ans Try.prog 55 #[.agg A, .agg B] (.int .i64 (c : Int)))
    (L1 : Ans Try.prog 56 #[.agg A, .agg B] (.bool r))
    (L2 : Ans Try.prog 57 #[.agg A, .agg B] (.bool r))
    (UN : Ans Try.prog 58 #[.agg A, .agg B, .int .i64 I] (.bool true))
    (h0 : I < 0) (h2 : decide (I < 0) = true) (hle : I ≤ (c : Int)) (hle2 : decide (I ≤ (c : Int)) = true) (E1 : ∀ W : World, (binOp .eql 88 (.agg D) (.agg A)).run Try.prog W = .ok (.bool true) W)
    (sA : Sz 32 A) (sB : Sz 32 B) (sD : Sz 32 D) :
    Calls Try.prog 10 #[.agg A, .agg B, .int .i64 I] w fun e w' => e = .returned (.bool true) ∧ Fr (fun _ => False) w w' := by
  have EG := Try.guardKy
  have K := (((Kn.start w).new (w.heap.size) 32 A 88 rfl sA.1).new (w.heap.size + 1) 32 B 88 (by simp) sB.1)
  go_enter Try.func10, Try.ntmps10
  go_wp2_with (first
      | (focus (first | ((with_reducible refine' wpList_load_kn K rfl 88 (.tmp 3) rfl 1 _ _ _ _ rfl _ Try.underlying88 rfl Try.szKy _ _); rotate_left 2; (focus exact rfl)) | ((with_reducible refine' wpList_load_kn K rfl 88 (.tmp 3) rfl 2 _ _ _ _ rfl _ Try.underlying88 rfl Try.szKy _ _); rotate_left 2; (focus exact rfl)) | ((with_reducible refine' wpList_load_kn K rfl 88 (.tmp 4) rfl 1 _ _ _ _ rfl _ Try.underlying88 rfl Try.szKy _ _); rotate_left 2; (focus exact rfl))))
      | (focus ((first | ((with_reducible refine' wpList_store_kn K rfl 88 (.tmp 7) _ rfl 0 _ _ _ _ _ rfl rfl Try.szKy _ _ _); rotate_left 2; (focus exact rfl))); (focus assumption); intro wz Kz; clear K; have K := Kz; clear Kz; simp only [List.set_cons_zero, List.set_cons_succ] at K; try (simp only [Act.put, List.setIfInBounds_toArray, List.set_cons_zero, List.set_cons_succ])))
      | ((with_reducible refine wpList_new_kn K 88 _ _ _ _ #[.int .u8 0, .int .u8 0, .int .u8 0, .int .u8 0, .int .u8 0, .int .u8 0, .int .u8 0, .int .u8 0, .int .u8 0, .int .u8 0, .int .u8 0, .int .u8 0, .int .u8 0, .int .u8 0, .int .u8 0, .int .u8 0, .int .u8 0, .int .u8 0, .int .u8 0, .int .u8 0, .int .u8 0, .int .u8 0, .int .u8 0, .int .u8 0, .int .u8 0, .int .u8 0, .int .u8 0, .int .u8 0, .int .u8 0, .int .u8 0, .int .u8 0, .int .u8 0] 32 rfl Try.alKy rfl ?_); intro gz wz Kz; clear K; have K := Kz; clear Kz; try (simp only [Act.put, List.setIfInBounds_toArray, List.set_cons_zero, List.set_cons_succ]))
      | (go_at_call 50; (with_reducible refine Calls.kn K (FL _) ?_); intro wz Kz; clear K; have K := Kz; clear Kz)
      | (go_at_call 51; (with_reducible refine Calls.kn K (RC _) ?_); intro wz Kz; clear K; have K := Kz; clear Kz))
  refine wp_region_keep (by kernel_rfl) (by kernel_rfl) ?_

  repeat (any_goals (first | (focus (go_big_quiet_want; (first | ((with_reducible refine' quiet_load_kn K 88 (.tmp 3) rfl 2 _ _ _ _ rfl _ Try.underlying88 rfl Try.szKy _ _); rotate_left 2; (focus exact rfl)) | ((with_reducible refine' quiet_load_kn K 88 (.tmp 4) rfl 1 _ _ _ _ rfl _ Try.underlying88 rfl Try.szKy _ _); rotate_left 2; (focus exact rfl))); simp only [Act.put, List.setIfInBounds_toArray, List.set_cons_zero, List.set_cons_succ]; go_big_quiet_on)) | go_big_quiet_step ((first | (go_at_call 52; with_reducible exact Calls.keep (PA _)) | (go_at_call 53; with_reducible exact Calls.keep (B1 _)) | (go_at_call 54; with_reducible exact Calls.keep (B2 _)) | (go_at_call 55; with_reducible exact Calls.keep (C1 _)) | (go_at_call 56; with_reducible exact Calls.keep (L1 _)) | (go_at_call 57; with_reducible exact Calls.keep (L2 _)) | (go_at_call 58; with_reducible exact Calls.keep (UN _)))) | quiet_step ((first | (go_at_call 52; with_reducible exact Calls.keep (PA _)) | (go_at_call 53; with_reducible exact Calls.keep (B1 _)) | (go_at_call 54; with_reducible exact Calls.keep (B2 _)) | (go_at_call 55; with_reducible exact Calls.keep (C1 _)) | (go_at_call 56; with_reducible exact Calls.keep (L1 _)) | (go_at_call 57; with_reducible exact Calls.keep (L2 _)) | (go_at_call 58; with_reducible exact Calls.keep (UN _))))))
  refine wpQuiet_nil ?_
  intro _ hwz
  obtain ⟨y, rfl⟩ := hwz
  have Kz := K.call y.h
  clear K 
  have K := Kz
  clear Kz
  generalize y.w = wz at K ⊢
  clear y
  go_wp2_with (first
      | (focus (first | ((with_reducible refine' wpList_load_kn K rfl 88 (.tmp 7) rfl 0 _ _ _ _ rfl _ Try.underlying88 rfl Try.szKy _ _); rotate_left 2; (focus exact rfl)) | ((with_reducible refine' wpList_load_kn K rfl 88 (.tmp 3) rfl 2 _ _ _ _ rfl _ Try.underlying88 rfl Try.szKy _ _); rotate_left 2; (focus exact rfl)))))
  go_ret
  exact ⟨rfl, K.fr⟩
set_option maxRecDepth 100000 in
set_option maxHeartbeats 3200000 in
theorem bits_far1 (I : Int) (c v y : Nat) (r : Bool) (A B D : Array Value) (w : World)
    (FL : Ans Try.prog 50 #[.agg A, .int .i64 I] (.agg D))
    (RC : Ans Try.prog 51 #[.agg A, .agg B] (.int .i64 (c : Int)))
    (PA : Ans Try.prog 52 #[] (.bool true))
    (B1 : Ans Try.prog 53 #[.agg A, .int .i64 I] (.int .i64 (v : Int)))
    (B2 : Ans Try.prog 54 #[.agg A, .int .i64 I] (.int .i64 (v : Int)))
    (C1 : Ans Try.prog 55 #[.agg A, .agg B] (.int .i64 (c : Int)))
    (L1 : Ans Try.prog 56 #[.agg A, .agg B] (.bool r))
    (L2 : Ans Try.prog 57 #[.agg A, .agg B] (.bool r))
    (UN : Ans Try.prog 58 #[.agg A, .agg B, .int .i64 I] (.bool true))
    (h0 : ¬ I < 0) (h1 : 255 < I) (h2 : decide (I < 0) = false) (h3 : decide (255 < I) = true) (hle : I ≤ (c : Int)) (hle2 : decide (I ≤ (c : Int)) = true) (E1 : ∀ W : World, (binOp .eql 88 (.agg D) (.agg A)).run Try.prog W = .ok (.bool true) W)
    (sA : Sz 32 A) (sB : Sz 32 B) (sD : Sz 32 D) :
    Calls Try.prog 10 #[.agg A, .agg B, .int .i64 I] w fun e w' => e = .returned (.bool true) ∧ Fr (fun _ => False) w w' := by
  have EG := Try.guardKy
  have K := (((Kn.start w).new (w.heap.size) 32 A 88 rfl sA.1).new (w.heap.size + 1) 32 B 88 (by simp) sB.1)
  go_enter Try.func10, Try.ntmps10
  go_wp2_with (first
      | (focus (first | ((with_reducible refine' wpList_load_kn K rfl 88 (.tmp 3) rfl 1 _ _ _ _ rfl _ Try.underlying88 rfl Try.szKy _ _); rotate_left 2; (focus exact rfl)) | ((with_reducible refine' wpList_load_kn K rfl 88 (.tmp 3) rfl 2 _ _ _ _ rfl _ Try.underlying88 rfl Try.szKy _ _); rotate_left 2; (focus exact rfl)) | ((with_reducible refine' wpList_load_kn K rfl 88 (.tmp 4) rfl 1 _ _ _ _ rfl _ Try.underlying88 rfl Try.szKy _ _); rotate_left 2; (focus exact rfl))))
      | (focus ((first | ((with_reducible refine' wpList_store_kn K rfl 88 (.tmp 7) _ rfl 0 _ _ _ _ _ rfl rfl Try.szKy _ _ _); rotate_left 2; (focus exact rfl))); (focus assumption); intro wz Kz; clear K; have K := Kz; clear Kz; simp only [List.set_cons_zero, List.set_cons_succ] at K; try (simp only [Act.put, List.setIfInBounds_toArray, List.set_cons_zero, List.set_cons_succ])))
      | ((with_reducible refine wpList_new_kn K 88 _ _ _ _ #[.int .u8 0, .int .u8 0, .int .u8 0, .int .u8 0, .int .u8 0, .int .u8 0, .int .u8 0, .int .u8 0, .int .u8 0, .int .u8 0, .int .u8 0, .int .u8 0, .int .u8 0, .int .u8 0, .int .u8 0, .int .u8 0, .int .u8 0, .int .u8 0, .int .u8 0, .int .u8 0, .int .u8 0, .int .u8 0, .int .u8 0, .int .u8 0, .int .u8 0, .int .u8 0, .int .u8 0, .int .u8 0, .int .u8 0, .int .u8 0, .int .u8 0, .int .u8 0] 32 rfl Try.alKy rfl ?_); intro gz wz Kz; clear K; have K := Kz; clear Kz; try (simp only [Act.put, List.setIfInBounds_toArray, List.set_cons_zero, List.set_cons_succ]))
      | (go_at_call 50; (with_reducible refine Calls.kn K (FL _) ?_); intro wz Kz; clear K; have K := Kz; clear Kz)
      | (go_at_call 51; (with_reducible refine Calls.kn K (RC _) ?_); intro wz Kz; clear K; have K := Kz; clear Kz))
  refine wp_region_keep (by kernel_rfl) (by kernel_rfl) ?_

  repeat (any_goals (first | (focus (go_big_quiet_want; (first | ((with_reducible refine' quiet_load_kn K 88 (.tmp 3) rfl 2 _ _ _ _ rfl _ Try.underlying88 rfl Try.szKy _ _); rotate_left 2; (focus exact rfl)) | ((with_reducible refine' quiet_load_kn K 88 (.tmp 4) rfl 1 _ _ _ _ rfl _ Try.underlying88 rfl Try.szKy _ _); rotate_left 2; (focus exact rfl))); simp only [Act.put, List.setIfInBounds_toArray, List.set_cons_zero, List.set_cons_succ]; go_big_quiet_on)) | go_big_quiet_step ((first | (go_at_call 52; with_reducible exact Calls.keep (PA _)) | (go_at_call 53; with_reducible exact Calls.keep (B1 _)) | (go_at_call 54; with_reducible exact Calls.keep (B2 _)) | (go_at_call 55; with_reducible exact Calls.keep (C1 _)) | (go_at_call 56; with_reducible exact Calls.keep (L1 _)) | (go_at_call 57; with_reducible exact Calls.keep (L2 _)) | (go_at_call 58; with_reducible exact Calls.keep (UN _)))) | quiet_step ((first | (go_at_call 52; with_reducible exact Calls.keep (PA _)) | (go_at_call 53; with_reducible exact Calls.keep (B1 _)) | (go_at_call 54; with_reducible exact Calls.keep (B2 _)) | (go_at_call 55; with_reducible exact Calls.keep (C1 _)) | (go_at_call 56; with_reducible exact Calls.keep (L1 _)) | (go_at_call 57; with_reducible exact Calls.keep (L2 _)) | (go_at_call 58; with_reducible exact Calls.keep (UN _))))))
  refine wpQuiet_nil ?_
  intro _ hwz
  obtain ⟨y, rfl⟩ := hwz
  have Kz := K.call y.h
  clear K 
  have K := Kz
  clear Kz
  generalize y.w = wz at K ⊢
  clear y
  go_wp2_with (first
      | (focus (first | ((with_reducible refine' wpList_load_kn K rfl 88 (.tmp 7) rfl 0 _ _ _ _ rfl _ Try.underlying88 rfl Try.szKy _ _); rotate_left 2; (focus exact rfl)) | ((with_reducible refine' wpList_load_kn K rfl 88 (.tmp 3) rfl 2 _ _ _ _ rfl _ Try.underlying88 rfl Try.szKy _ _); rotate_left 2; (focus exact rfl)))))
  go_ret
  exact ⟨rfl, K.fr⟩
set_option maxRecDepth 100000 in
set_option maxHeartbeats 3200000 in
theorem bits_far2 (I : Int) (c v y : Nat) (r : Bool) (A B D : Array Value) (w : World)
    (FL : Ans Try.prog 50 #[.agg A, .int .i64 I] (.agg D))
    (RC : Ans Try.prog 51 #[.agg A, .agg B] (.int .i64 (c : Int)))
    (PA : Ans Try.prog 52 #[] (.bool true))
    (B1 : Ans Try.prog 53 #[.agg A, .int .i64 I] (.int .i64 (v : Int)))
    (B2 : Ans Try.prog 54 #[.agg A, .int .i64 I] (.int .i64 (v : Int)))
    (C1 : Ans Try.prog 55 #[.agg A, .agg B] (.int .i64 (c : Int)))
    (L1 : Ans Try.prog 56 #[.agg A, .agg B] (.bool r))
    (L2 : Ans Try.prog 57 #[.agg A, .agg B] (.bool r))
    (UN : Ans Try.prog 58 #[.agg A, .agg B, .int .i64 I] (.bool true))
    (h0 : ¬ I < 0) (h1 : 255 < I) (h2 : decide (I < 0) = false) (h3 : decide (255 < I) = true) (hle : ¬ I ≤ (c : Int)) (hle2 : decide (I ≤ (c : Int)) = false) (hf : ((c : Int) == 256) = true) (hf2 : (c == 256) = true) (hf3 : decide ((c : Int) = 256) = true) (E1 : ∀ W : World, (binOp .eql 88 (.agg D) (.agg A)).run Try.prog W = .ok (.bool true) W)
    (sA : Sz 32 A) (sB : Sz 32 B) (sD : Sz 32 D) :
    Calls Try.prog 10 #[.agg A, .agg B, .int .i64 I] w fun e w' => e = .returned (.bool true) ∧ Fr (fun _ => False) w w' := by
  have EG := Try.guardKy
  have K := (((Kn.start w).new (w.heap.size) 32 A 88 rfl sA.1).new (w.heap.size + 1) 32 B 88 (by simp) sB.1)
  go_enter Try.func10, Try.ntmps10
  go_wp2_with (first
      | (focus (first | ((with_reducible refine' wpList_load_kn K rfl 88 (.tmp 3) rfl 1 _ _ _ _ rfl _ Try.underlying88 rfl Try.szKy _ _); rotate_left 2; (focus exact rfl)) | ((with_reducible refine' wpList_load_kn K rfl 88 (.tmp 3) rfl 2 _ _ _ _ rfl _ Try.underlying88 rfl Try.szKy _ _); rotate_left 2; (focus exact rfl)) | ((with_reducible refine' wpList_load_kn K rfl 88 (.tmp 4) rfl 1 _ _ _ _ rfl _ Try.underlying88 rfl Try.szKy _ _); rotate_left 2; (focus exact rfl))))
      | (focus ((first | ((with_reducible refine' wpList_store_kn K rfl 88 (.tmp 7) _ rfl 0 _ _ _ _ _ rfl rfl Try.szKy _ _ _); rotate_left 2; (focus exact rfl))); (focus assumption); intro wz Kz; clear K; have K := Kz; clear Kz; simp only [List.set_cons_zero, List.set_cons_succ] at K; try (simp only [Act.put, List.setIfInBounds_toArray, List.set_cons_zero, List.set_cons_succ])))
      | ((with_reducible refine wpList_new_kn K 88 _ _ _ _ #[.int .u8 0, .int .u8 0, .int .u8 0, .int .u8 0, .int .u8 0, .int .u8 0, .int .u8 0, .int .u8 0, .int .u8 0, .int .u8 0, .int .u8 0, .int .u8 0, .int .u8 0, .int .u8 0, .int .u8 0, .int .u8 0, .int .u8 0, .int .u8 0, .int .u8 0, .int .u8 0, .int .u8 0, .int .u8 0, .int .u8 0, .int .u8 0, .int .u8 0, .int .u8 0, .int .u8 0, .int .u8 0, .int .u8 0, .int .u8 0, .int .u8 0, .int .u8 0] 32 rfl Try.alKy rfl ?_); intro gz wz Kz; clear K; have K := Kz; clear Kz; try (simp only [Act.put, List.setIfInBounds_toArray, List.set_cons_zero, List.set_cons_succ]))
      | (go_at_call 50; (with_reducible refine Calls.kn K (FL _) ?_); intro wz Kz; clear K; have K := Kz; clear Kz)
      | (go_at_call 51; (with_reducible refine Calls.kn K (RC _) ?_); intro wz Kz; clear K; have K := Kz; clear Kz))
  refine wp_region_keep (by kernel_rfl) (by kernel_rfl) ?_

  repeat (any_goals (first | (focus (go_big_quiet_want; (first | ((with_reducible refine' quiet_load_kn K 88 (.tmp 3) rfl 2 _ _ _ _ rfl _ Try.underlying88 rfl Try.szKy _ _); rotate_left 2; (focus exact rfl)) | ((with_reducible refine' quiet_load_kn K 88 (.tmp 4) rfl 1 _ _ _ _ rfl _ Try.underlying88 rfl Try.szKy _ _); rotate_left 2; (focus exact rfl))); simp only [Act.put, List.setIfInBounds_toArray, List.set_cons_zero, List.set_cons_succ]; go_big_quiet_on)) | go_big_quiet_step ((first | (go_at_call 52; with_reducible exact Calls.keep (PA _)) | (go_at_call 53; with_reducible exact Calls.keep (B1 _)) | (go_at_call 54; with_reducible exact Calls.keep (B2 _)) | (go_at_call 55; with_reducible exact Calls.keep (C1 _)) | (go_at_call 56; with_reducible exact Calls.keep (L1 _)) | (go_at_call 57; with_reducible exact Calls.keep (L2 _)) | (go_at_call 58; with_reducible exact Calls.keep (UN _)))) | quiet_step ((first | (go_at_call 52; with_reducible exact Calls.keep (PA _)) | (go_at_call 53; with_reducible exact Calls.keep (B1 _)) | (go_at_call 54; with_reducible exact Calls.keep (B2 _)) | (go_at_call 55; with_reducible exact Calls.keep (C1 _)) | (go_at_call 56; with_reducible exact Calls.keep (L1 _)) | (go_at_call 57; with_reducible exact Calls.keep (L2 _)) | (go_at_call 58; with_reducible exact Calls.keep (UN _))))))
  refine wpQuiet_nil ?_
  intro _ hwz
  obtain ⟨y, rfl⟩ := hwz
  have Kz := K.call y.h
  clear K 
  have K := Kz
  clear Kz
  generalize y.w = wz at K ⊢
  clear y
  go_wp2_with (first
      | (focus (first | ((with_reducible refine' wpList_load_kn K rfl 88 (.tmp 7) rfl 0 _ _ _ _ rfl _ Try.underlying88 rfl Try.szKy _ _); rotate_left 2; (focus exact rfl)) | ((with_reducible refine' wpList_load_kn K rfl 88 (.tmp 3) rfl 2 _ _ _ _ rfl _ Try.underlying88 rfl Try.szKy _ _); rotate_left 2; (focus exact rfl)))))
  go_ret
  exact ⟨rfl, K.fr⟩
set_option maxRecDepth 100000 in
set_option maxHeartbeats 3200000 in
theorem bits_far3 (I : Int) (c v y : Nat) (r : Bool) (A B D : Array Value) (w : World)
    (FL : Ans Try.prog 50 #[.agg A, .int .i64 I] (.agg D))
    (RC : Ans Try.prog 51 #[.agg A, .agg B] (.int .i64 (c : Int)))
    (PA : Ans Try.prog 52 #[] (.bool true))
    (B1 : Ans Try.prog 53 #[.agg A, .int .i64 I] (.int .i64 (v : Int)))
    (B2 : Ans Try.prog 54 #[.agg A, .int .i64 I] (.int .i64 (v : Int)))
    (C1 : Ans Try.prog 55 #[.agg A, .agg B] (.int .i64 (c : Int)))
    (L1 : Ans Try.prog 56 #[.agg A, .agg B] (.bool r))
    (L2 : Ans Try.prog 57 #[.agg A, .agg B] (.bool r))
    (UN : Ans Try.prog 58 #[.agg A, .agg B, .int .i64 I] (.bool false))
    (h0 : ¬ I < 0) (h1 : 255 < I) (h2 : decide (I < 0) = false) (h3 : decide (255 < I) = true) (hle : ¬ I ≤ (c : Int)) (hle2 : decide (I ≤ (c : Int)) = false) (hf : ((c : Int) == 256) = false) (hf2 : (c == 256) = false) (hf3 : decide ((c : Int) = 256) = false) (E1 : ∀ W : World, (binOp .eql 88 (.agg D) (.agg A)).run Try.prog W = .ok (.bool true) W)
    (sA : Sz 32 A) (sB : Sz 32 B) (sD : Sz 32 D) :
    Calls Try.prog 10 #[.agg A, .agg B, .int .i64 I] w fun e w' => e = .returned (.bool true) ∧ Fr (fun _ => False) w w' := by
  have EG := Try.guardKy
  have K := (((Kn.start w).new (w.heap.size) 32 A 88 rfl sA.1).new (w.heap.size + 1) 32 B 88 (by simp) sB.1)
  go_enter Try.func10, Try.ntmps10
  go_wp2_with (first
      | (focus (first | ((with_reducible refine' wpList_load_kn K rfl 88 (.tmp 3) rfl 1 _ _ _ _ rfl _ Try.underlying88 rfl Try.szKy _ _); rotate_left 2; (focus exact rfl)) | ((with_reducible refine' wpList_load_kn K rfl 88 (.tmp 3) rfl 2 _ _ _ _ rfl _ Try.underlying88 rfl Try.szKy _ _); rotate_left 2; (focus exact rfl)) | ((with_reducible refine' wpList_load_kn K rfl 88 (.tmp 4) rfl 1 _ _ _ _ rfl _ Try.underlying88 rfl Try.szKy _ _); rotate_left 2; (focus exact rfl))))
      | (focus ((first | ((with_reducible refine' wpList_store_kn K rfl 88 (.tmp 7) _ rfl 0 _ _ _ _ _ rfl rfl Try.szKy _ _ _); rotate_left 2; (focus exact rfl))); (focus assumption); intro wz Kz; clear K; have K := Kz; clear Kz; simp only [List.set_cons_zero, List.set_cons_succ] at K; try (simp only [Act.put, List.setIfInBounds_toArray, List.set_cons_zero, List.set_cons_succ])))
      | ((with_reducible refine wpList_new_kn K 88 _ _ _ _ #[.int .u8 0, .int .u8 0, .int .u8 0, .int .u8 0, .int .u8 0, .int .u8 0, .int .u8 0, .int .u8 0, .int .u8 0, .int .u8 0, .int .u8 0, .int .u8 0, .int .u8 0, .int .u8 0, .int .u8 0, .int .u8 0, .int .u8 0, .int .u8 0, .int .u8 0, .int .u8 0, .int .u8 0, .int .u8 0, .int .u8 0, .int .u8 0, .int .u8 0, .int .u8 0, .int .u8 0, .int .u8 0, .int .u8 0, .int .u8 0, .int .u8 0, .int .u8 0] 32 rfl Try.alKy rfl ?_); intro gz wz Kz; clear K; have K := Kz; clear Kz; try (simp only [Act.put, List.setIfInBounds_toArray, List.set_cons_zero, List.set_cons_succ]))
      | (go_at_call 50; (with_reducible refine Calls.kn K (FL _) ?_); intro wz Kz; clear K; have K := Kz; clear Kz)
      | (go_at_call 51; (with_reducible refine Calls.kn K (RC _) ?_); intro wz Kz; clear K; have K := Kz; clear Kz))
  refine wp_region_keep (by kernel_rfl) (by kernel_rfl) ?_

  repeat (any_goals (first | (focus (go_big_quiet_want; (first | ((with_reducible refine' quiet_load_kn K 88 (.tmp 3) rfl 2 _ _ _ _ rfl _ Try.underlying88 rfl Try.szKy _ _); rotate_left 2; (focus exact rfl)) | ((with_reducible refine' quiet_load_kn K 88 (.tmp 4) rfl 1 _ _ _ _ rfl _ Try.underlying88 rfl Try.szKy _ _); rotate_left 2; (focus exact rfl))); simp only [Act.put, List.setIfInBounds_toArray, List.set_cons_zero, List.set_cons_succ]; go_big_quiet_on)) | go_big_quiet_step ((first | (go_at_call 52; with_reducible exact Calls.keep (PA _)) | (go_at_call 53; with_reducible exact Calls.keep (B1 _)) | (go_at_call 54; with_reducible exact Calls.keep (B2 _)) | (go_at_call 55; with_reducible exact Calls.keep (C1 _)) | (go_at_call 56; with_reducible exact Calls.keep (L1 _)) | (go_at_call 57; with_reducible exact Calls.keep (L2 _)) | (go_at_call 58; with_reducible exact Calls.keep (UN _)))) | quiet_step ((first | (go_at_call 52; with_reducible exact Calls.keep (PA _)) | (go_at_call 53; with_reducible exact Calls.keep (B1 _)) | (go_at_call 54; with_reducible exact Calls.keep (B2 _)) | (go_at_call 55; with_reducible exact Calls.keep (C1 _)) | (go_at_call 56; with_reducible exact Calls.keep (L1 _)) | (go_at_call 57; with_reducible exact Calls.keep (L2 _)) | (go_at_call 58; with_reducible exact Calls.keep (UN _))))))
  refine wpQuiet_nil ?_
  intro _ hwz
  obtain ⟨y, rfl⟩ := hwz
  have Kz := K.call y.h
  clear K 
  have K := Kz
  clear Kz
  generalize y.w = wz at K ⊢
  clear y
  go_wp2_with (first
      | (focus (first | ((with_reducible refine' wpList_load_kn K rfl 88 (.tmp 7) rfl 0 _ _ _ _ rfl _ Try.underlying88 rfl Try.szKy _ _); rotate_left 2; (focus exact rfl)) | ((with_reducible refine' wpList_load_kn K rfl 88 (.tmp 3) rfl 2 _ _ _ _ rfl _ Try.underlying88 rfl Try.szKy _ _); rotate_left 2; (focus exact rfl)))))
  go_ret
  exact ⟨rfl, K.fr⟩
set_option maxRecDepth 100000 in
set_option maxHeartbeats 3200000 in
theorem bits_in1 (I : Int) (c v y : Nat) (r : Bool) (A B D : Array Value) (w : World)
    (FL : Ans Try.prog 50 #[.agg A, .int .i64 I] (.agg D))
    (RC : Ans Try.prog 51 #[.agg A, .agg B] (.int .i64 (c : Int)))
    (PA : Ans Try.prog 52 #[] (.bool true))
    (B1 : Ans Try.prog 53 #[.agg A, .int .i64 I] (.int .i64 (v : Int)))
    (B2 : Ans Try.prog 54 #[.agg A, .int .i64 I] (.int .i64 (v : Int)))
    (C1 : Ans Try.prog 55 #[.agg A, .agg B] (.int .i64 (c : Int)))
    (L1 : Ans Try.prog 56 #[.agg A, .agg B] (.bool r))
    (L2 : Ans Try.prog 57 #[.agg A, .agg B] (.bool r))
    (UN : Ans Try.prog 58 #[.agg A, .agg B, .int .i64 I] (.bool true))
    (B3 : Ans Try.prog 53 #[.agg D, .int .i64 I] (.int .i64 (y : Int)))
    (C2 : Ans Try.prog 55 #[.agg D, .agg A] (.int .i64 I))
    (F2 : Ans Try.prog 50 #[.agg D, .int .i64 I] (.agg A))
    (h0 : ¬ I < 0) (h1 : ¬ 255 < I) (h2 : decide (I < 0) = false) (h3 : decide (255 < I) = false) (hv : 1 - (v : Int) = (y : Int)) (hy : y < 2) (hle : I ≤ (c : Int)) (hle2 : decide (I ≤ (c : Int)) = true) (E1 : ∀ W : World, (binOp .eql 88 (.agg A) (.agg A)).run Try.prog W = .ok (.bool true) W)
    (sA : Sz 32 A) (sB : Sz 32 B) (sD : Sz 32 D) :
    Calls Try.prog 10 #[.agg A, .agg B, .int .i64 I] w fun e w' => e = .returned (.bool true) ∧ Fr (fun _ => False) w w' := by
  have EG := Try.guardKy
  have hy2 : wrap64 (y : Int) = (y : Int) := IntWalk.wrap64_in _ (by omega)
  have hy3 : IntKind.i64.wrap (y : Int) = (y : Int) := IntWalk.i64_in _ (by omega)
  have K := (((Kn.start w).new (w.heap.size) 32 A 88 rfl sA.1).new (w.heap.size + 1) 32 B 88 (by simp) sB.1)
  go_enter Try.func10, Try.ntmps10
  go_wp2_with (first
      | (focus (first | ((with_reducible refine' wpList_load_kn K rfl 88 (.tmp 3) rfl 1 _ _ _ _ rfl _ Try.underlying88 rfl Try.szKy _ _); rotate_left 2; (focus exact rfl)) | ((with_reducible refine' wpList_load_kn K rfl 88 (.tmp 3) rfl 2 _ _ _ _ rfl _ Try.underlying88 rfl Try.szKy _ _); rotate_left 2; (focus exact rfl)) | ((with_reducible refine' wpList_load_kn K rfl 88 (.tmp 4) rfl 1 _ _ _ _ rfl _ Try.underlying88 rfl Try.szKy _ _); rotate_left 2; (focus exact rfl))))
      | (focus ((first | ((with_reducible refine' wpList_store_kn K rfl 88 (.tmp 7) _ rfl 0 _ _ _ _ _ rfl rfl Try.szKy _ _ _); rotate_left 2; (focus exact rfl))); (focus assumption); intro wz Kz; clear K; have K := Kz; clear Kz; simp only [List.set_cons_zero, List.set_cons_succ] at K; try (simp only [Act.put, List.setIfInBounds_toArray, List.set_cons_zero, List.set_cons_succ])))
      | ((with_reducible refine wpList_new_kn K 88 _ _ _ _ #[.int .u8 0, .int .u8 0, .int .u8 0, .int .u8 0, .int .u8 0, .int .u8 0, .int .u8 0, .int .u8 0, .int .u8 0, .int .u8 0, .int .u8 0, .int .u8 0, .int .u8 0, .int .u8 0, .int .u8 0, .int .u8 0, .int .u8 0, .int .u8 0, .int .u8 0, .int .u8 0, .int .u8 0, .int .u8 0, .int .u8 0, .int .u8 0, .int .u8 0, .int .u8 0, .int .u8 0, .int .u8 0, .int .u8 0, .int .u8 0, .int .u8 0, .int .u8 0] 32 rfl Try.alKy rfl ?_); intro gz wz Kz; clear K; have K := Kz; clear Kz; try (simp only [Act.put, List.setIfInBounds_toArray, List.set_cons_zero, List.set_cons_succ]))
      | (go_at_call 50; (with_reducible refine Calls.kn K (FL _) ?_); intro wz Kz; clear K; have K := Kz; clear Kz)
      | (go_at_call 50; (with_reducible refine Calls.kn K (F2 _) ?_); intro wz Kz; clear K; have K := Kz; clear Kz)
      | (go_at_call 51; (with_reducible refine Calls.kn K (RC _) ?_); intro wz Kz; clear K; have K := Kz; clear Kz))
  refine wp_region_keep (by kernel_rfl) (by kernel_rfl) ?_

  repeat (any_goals (first | (focus (go_big_quiet_want; (first | ((with_reducible refine' quiet_load_kn K 88 (.tmp 3) rfl 2 _ _ _ _ rfl _ Try.underlying88 rfl Try.szKy _ _); rotate_left 2; (focus exact rfl)) | ((with_reducible refine' quiet_load_kn K 88 (.tmp 4) rfl 1 _ _ _ _ rfl _ Try.underlying88 rfl Try.szKy _ _); rotate_left 2; (focus exact rfl))); simp only [Act.put, List.setIfInBounds_toArray, List.set_cons_zero, List.set_cons_succ]; go_big_quiet_on)) | go_big_quiet_step ((first | (go_at_call 52; with_reducible exact Calls.keep (PA _)) | (go_at_call 53; with_reducible exact Calls.keep (B1 _)) | (go_at_call 54; with_reducible exact Calls.keep (B2 _)) | (go_at_call 55; with_reducible exact Calls.keep (C1 _)) | (go_at_call 56; with_reducible exact Calls.keep (L1 _)) | (go_at_call 57; with_reducible exact Calls.keep (L2 _)) | (go_at_call 58; with_reducible exact Calls.keep (UN _)) | (go_at_call 53; with_reducible exact Calls.keep (B3 _)) | (go_at_call 55; with_reducible exact Calls.keep (C2 _)))) | quiet_step ((first | (go_at_call 52; with_reducible exact Calls.keep (PA _)) | (go_at_call 53; with_reducible exact Calls.keep (B1 _)) | (go_at_call 54; with_reducible exact Calls.keep (B2 _)) | (go_at_call 55; with_reducible exact Calls.keep (C1 _)) | (go_at_call 56; with_reducible exact Calls.keep (L1 _)) | (go_at_call 57; with_reducible exact Calls.keep (L2 _)) | (go_at_call 58; with_reducible exact Calls.keep (UN _)) | (go_at_call 53; with_reducible exact Calls.keep (B3 _)) | (go_at_call 55; with_reducible exact Calls.keep (C2 _))))))
  refine wpQuiet_nil ?_
  intro _ hwz
  obtain ⟨y, rfl⟩ := hwz
  have Kz := K.call y.h
  clear K 
  have K := Kz
  clear Kz
  generalize y.w = wz at K ⊢
  clear y
  go_wp2_with fail
  refine wp_region_keep (by kernel_rfl) (by kernel_rfl) ?_

  repeat (any_goals (first | (focus (go_big_quiet_want; (first | ((with_reducible refine' quiet_load_kn K 88 (.tmp 7) rfl 0 _ _ _ _ rfl _ Try.underlying88 rfl Try.szKy _ _); rotate_left 2; (focus exact rfl)) | ((with_reducible refine' quiet_load_kn K 88 (.tmp 3) rfl 2 _ _ _ _ rfl _ Try.underlying88 rfl Try.szKy _ _); rotate_left 2; (focus exact rfl))); simp only [Act.put, List.setIfInBounds_toArray, List.set_cons_zero, List.set_cons_succ]; go_big_quiet_on)) | go_big_quiet_step ((first | (go_at_call 50; with_reducible exact Calls.keep (FL _)) | (go_at_call 53; with_reducible exact Calls.keep (B1 _)) | (go_at_call 55; with_reducible exact Calls.keep (C1 _)) | (go_at_call 53; with_reducible exact Calls.keep (B3 _)) | (go_at_call 55; with_reducible exact Calls.keep (C2 _)) | (go_at_call 50; with_reducible exact Calls.keep (F2 _)))) | quiet_step ((first | (go_at_call 50; with_reducible exact Calls.keep (FL _)) | (go_at_call 53; with_reducible exact Calls.keep (B1 _)) | (go_at_call 55; with_reducible exact Calls.keep (C1 _)) | (go_at_call 53; with_reducible exact Calls.keep (B3 _)) | (go_at_call 55; with_reducible exact Calls.keep (C2 _)) | (go_at_call 50; with_reducible exact Calls.keep (F2 _))))))
  refine wpQuiet_nil ?_
  intro _ hwz
  obtain ⟨y, rfl⟩ := hwz
  have Kz := K.call y.h
  clear K 
  have K := Kz
  clear Kz
  generalize y.w = wz at K ⊢
  clear y
  go_wp2_with fail
  go_ret
  exact ⟨rfl, K.fr⟩
set_option maxRecDepth 100000 in
set_option maxHeartbeats 3200000 in
theorem bits_in2 (I : Int) (c v y : Nat) (r : Bool) (A B D : Array Value) (w : World)
    (FL : Ans Try.prog 50 #[.agg A, .int .i64 I] (.agg D))
    (RC : Ans Try.prog 51 #[.agg A, .agg B] (.int .i64 (c : Int)))
    (PA : Ans Try.prog 52 #[] (.bool true))
    (B1 : Ans Try.prog 53 #[.agg A, .int .i64 I] (.int .i64 (v : Int)))
    (B2 : Ans Try.prog 54 #[.agg A, .int .i64 I] (.int .i64 (v : Int)))
    (C1 : Ans Try.prog 55 #[.agg A, .agg B] (.int .i64 (c : Int)))
    (L1 : Ans Try.prog 56 #[.agg A, .agg B] (.bool r))
    (L2 : Ans Try.prog 57 #[.agg A, .agg B] (.bool r))
    (UN : Ans Try.prog 58 #[.agg A, .agg B, .int .i64 I] (.bool false))
    (B3 : Ans Try.prog 53 #[.agg D, .int .i64 I] (.int .i64 (y : Int)))
    (C2 : Ans Try.prog 55 #[.agg D, .agg A] (.int .i64 I))
    (F2 : Ans Try.prog 50 #[.agg D, .int .i64 I] (.agg A))
    (h0 : ¬ I < 0) (h1 : ¬ 255 < I) (h2 : decide (I < 0) = false) (h3 : decide (255 < I) = false) (hv : 1 - (v : Int) = (y : Int)) (hy : y < 2) (hle : ¬ I ≤ (c : Int)) (hle2 : decide (I ≤ (c : Int)) = false) (hf : ((c : Int) == 256) = false) (hf2 : (c == 256) = false) (hf3 : decide ((c : Int) = 256) = false) (E1 : ∀ W : World, (binOp .eql 88 (.agg A) (.agg A)).run Try.prog W = .ok (.bool true) W)
    (sA : Sz 32 A) (sB : Sz 32 B) (sD : Sz 32 D) :
    Calls Try.prog 10 #[.agg A, .agg B, .int .i64 I] w fun e w' => e = .returned (.bool true) ∧ Fr (fun _ => False) w w' := by
  have EG := Try.guardKy
  have hy2 : wrap64 (y : Int) = (y : Int) := IntWalk.wrap64_in _ (by omega)
  have hy3 : IntKind.i64.wrap (y : Int) = (y : Int) := IntWalk.i64_in _ (by omega)
  have K := (((Kn.start w).new (w.heap.size) 32 A 88 rfl sA.1).new (w.heap.size + 1) 32 B 88 (by simp) sB.1)
  go_enter Try.func10, Try.ntmps10
  go_wp2_with (first
      | (focus (first | ((with_reducible refine' wpList_load_kn K rfl 88 (.tmp 3) rfl 1 _ _ _ _ rfl _ Try.underlying88 rfl Try.szKy _ _); rotate_left 2; (focus exact rfl)) | ((with_reducible refine' wpList_load_kn K rfl 88 (.tmp 3) rfl 2 _ _ _ _ rfl _ Try.underlying88 rfl Try.szKy _ _); rotate_left 2; (focus exact rfl)) | ((with_reducible refine' wpList_load_kn K rfl 88 (.tmp 4) rfl 1 _ _ _ _ rfl _ Try.underlying88 rfl Try.szKy _ _); rotate_left 2; (focus exact rfl))))
      | (focus ((first | ((with_reducible refine' wpList_store_kn K rfl 88 (.tmp 7) _ rfl 0 _ _ _ _ _ rfl rfl Try.szKy _ _ _); rotate_left 2; (focus exact rfl))); (focus assumption); intro wz Kz; clear K; have K := Kz; clear Kz; simp only [List.set_cons_zero, List.set_cons_succ] at K; try (simp only [Act.put, List.setIfInBounds_toArray, List.set_cons_zero, List.set_cons_succ])))
      | ((with_reducible refine wpList_new_kn K 88 _ _ _ _ #[.int .u8 0, .int .u8 0, .int .u8 0, .int .u8 0, .int .u8 0, .int .u8 0, .int .u8 0, .int .u8 0, .int .u8 0, .int .u8 0, .int .u8 0, .int .u8 0, .int .u8 0, .int .u8 0, .int .u8 0, .int .u8 0, .int .u8 0, .int .u8 0, .int .u8 0, .int .u8 0, .int .u8 0, .int .u8 0, .int .u8 0, .int .u8 0, .int .u8 0, .int .u8 0, .int .u8 0, .int .u8 0, .int .u8 0, .int .u8 0, .int .u8 0, .int .u8 0] 32 rfl Try.alKy rfl ?_); intro gz wz Kz; clear K; have K := Kz; clear Kz; try (simp only [Act.put, List.setIfInBounds_toArray, List.set_cons_zero, List.set_cons_succ]))
      | (go_at_call 50; (with_reducible refine Calls.kn K (FL _) ?_); intro wz Kz; clear K; have K := Kz; clear Kz)
      | (go_at_call 50; (with_reducible refine Calls.kn K (F2 _) ?_); intro wz Kz; clear K; have K := Kz; clear Kz)
      | (go_at_call 51; (with_reducible refine Calls.kn K (RC _) ?_); intro wz Kz; clear K; have K := Kz; clear Kz))
  refine wp_region_keep (by kernel_rfl) (by kernel_rfl) ?_

  repeat (any_goals (first | (focus (go_big_quiet_want; (first | ((with_reducible refine' quiet_load_kn K 88 (.tmp 3) rfl 2 _ _ _ _ rfl _ Try.underlying88 rfl Try.szKy _ _); rotate_left 2; (focus exact rfl)) | ((with_reducible refine' quiet_load_kn K 88 (.tmp 4) rfl 1 _ _ _ _ rfl _ Try.underlying88 rfl Try.szKy _ _); rotate_left 2; (focus exact rfl))); simp only [Act.put, List.setIfInBounds_toArray, List.set_cons_zero, List.set_cons_succ]; go_big_quiet_on)) | go_big_quiet_step ((first | (go_at_call 52; with_reducible exact Calls.keep (PA _)) | (go_at_call 53; with_reducible exact Calls.keep (B1 _)) | (go_at_call 54; with_reducible exact Calls.keep (B2 _)) | (go_at_call 55; with_reducible exact Calls.keep (C1 _)) | (go_at_call 56; with_reducible exact Calls.keep (L1 _)) | (go_at_call 57; with_reducible exact Calls.keep (L2 _)) | (go_at_call 58; with_reducible exact Calls.keep (UN _)) | (go_at_call 53; with_reducible exact Calls.keep (B3 _)) | (go_at_call 55; with_reducible exact Calls.keep (C2 _)))) | quiet_step ((first | (go_at_call 52; with_reducible exact Calls.keep (PA _)) | (go_at_call 53; with_reducible exact Calls.keep (B1 _)) | (go_at_call 54; with_reducible exact Calls.keep (B2 _)) | (go_at_call 55; with_reducible exact Calls.keep (C1 _)) | (go_at_call 56; with_reducible exact Calls.keep (L1 _)) | (go_at_call 57; with_reducible exact Calls.keep (L2 _)) | (go_at_call 58; with_reducible exact Calls.keep (UN _)) | (go_at_call 53; with_reducible exact Calls.keep (B3 _)) | (go_at_call 55; with_reducible exact Calls.keep (C2 _))))))
  refine wpQuiet_nil ?_
  intro _ hwz
  obtain ⟨y, rfl⟩ := hwz
  have Kz := K.call y.h
  clear K 
  have K := Kz
  clear Kz
  generalize y.w = wz at K ⊢
  clear y
  go_wp2_with fail
  refine wp_region_keep (by kernel_rfl) (by kernel_rfl) ?_

  repeat (any_goals (first | (focus (go_big_quiet_want; (first | ((with_reducible refine' quiet_load_kn K 88 (.tmp 7) rfl 0 _ _ _ _ rfl _ Try.underlying88 rfl Try.szKy _ _); rotate_left 2; (focus exact rfl)) | ((with_reducible refine' quiet_load_kn K 88 (.tmp 3) rfl 2 _ _ _ _ rfl _ Try.underlying88 rfl Try.szKy _ _); rotate_left 2; (focus exact rfl))); simp only [Act.put, List.setIfInBounds_toArray, List.set_cons_zero, List.set_cons_succ]; go_big_quiet_on)) | go_big_quiet_step ((first | (go_at_call 50; with_reducible exact Calls.keep (FL _)) | (go_at_call 53; with_reducible exact Calls.keep (B1 _)) | (go_at_call 55; with_reducible exact Calls.keep (C1 _)) | (go_at_call 53; with_reducible exact Calls.keep (B3 _)) | (go_at_call 55; with_reducible exact Calls.keep (C2 _)) | (go_at_call 50; with_reducible exact Calls.keep (F2 _)))) | quiet_step ((first | (go_at_call 50; with_reducible exact Calls.keep (FL _)) | (go_at_call 53; with_reducible exact Calls.keep (B1 _)) | (go_at_call 55; with_reducible exact Calls.keep (C1 _)) | (go_at_call 53; with_reducible exact Calls.keep (B3 _)) | (go_at_call 55; with_reducible exact Calls.keep (C2 _)) | (go_at_call 50; with_reducible exact Calls.keep (F2 _))))))
  refine wpQuiet_nil ?_
  intro _ hwz
  obtain ⟨y, rfl⟩ := hwz
  have Kz := K.call y.h
  clear K 
  have K := Kz
  clear Kz
  generalize y.w = wz at K ⊢
  clear y
  go_wp2_with fail
  go_ret
  exact ⟨rfl, K.fr⟩
end Go.Proofs.Ytghjcppafkaopaa

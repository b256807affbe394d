/-
  The law EdwardsDecodes, over what its callees answer.
-/
import Derived.Test.YtnobobdgoccmcaaJt
namespace Go.Proofs.Ytnobobdgoccmcaa
open Go.RowKit Pri
set_option linter.unusedVariables false
set_option linter.unusedSimpArgs false

set_option maxRecDepth 100000 in
set_option maxHeartbeats 3200000 in
theorem edec_bad (SC : ByteArray) (A B C : Array Value) (w : World)
    (DE : Ans Try.prog 53 #[.agg C] (.tuple #[.agg #[.int .u64 0, .int .u64 0, .int .u64 0, .int .u64 0, .int .u64 0, .int .u64 0, .int .u64 0, .int .u64 0], .int .i64 15]))
    (RD : Ans Try.prog 54 #[.string SC] (.tuple #[.agg #[.int .i64 0, .int .i64 0, .int .i64 0, .int .i64 0, .int .i64 0, .int .i64 0, .int .i64 0, .int .i64 0, .int .i64 0, .int .i64 0, .int .i64 0, .int .i64 0, .int .i64 0, .int .i64 0, .int .i64 0, .int .i64 0, .int .i64 0, .int .i64 0, .int .i64 0, .int .i64 0, .int .i64 0, .int .i64 0, .int .i64 0, .int .i64 0, .int .i64 0, .int .i64 0, .int .i64 0, .int .i64 0, .int .i64 0, .int .i64 0, .int .i64 0, .int .i64 0, .int .i64 0, .int .i64 0, .int .i64 0, .int .i64 0, .int .i64 0, .int .i64 0, .int .i64 0, .int .i64 0, .int .i64 0, .int .i64 0, .int .i64 0, .int .i64 0, .int .i64 0, .int .i64 0, .int .i64 0, .int .i64 0], .int .i64 15]))
    (BS : Ans Try.prog 40 #[] (.bool true))
    (SA : Ans Try.prog 51 #[.agg #[.int .u64 0, .int .u64 0, .int .u64 0, .int .u64 0, .int .u64 0, .int .u64 0, .int .u64 0, .int .u64 0], .agg #[.int .u64 0, .int .u64 0, .int .u64 0, .int .u64 0, .int .u64 0, .int .u64 0, .int .u64 0, .int .u64 0]] (.bool true))
    (V1 : ∀ (W : World) (g : Nat), W.heap[g]? = some (.cells C 36 (0, 0)) → (convert 40 9 (.slice (some ⟨g, 0, none⟩) 32 32)).run Try.prog W = .ok (.string SC) W)
    (sA : Sz 8 A) (sB : Sz 48 B) (sC : Sz 32 C) :
    Calls Try.prog 10 #[.agg C] w fun e w' => e = .returned (.bool true) ∧ Fr (fun _ => False) w w' := by
  have HV1 := Lib.hid V1
  clear V1
  have EG := Try.guardBa
  have s8 : Sz 8 #[.int .u64 0, .int .u64 0, .int .u64 0, .int .u64 0, .int .u64 0, .int .u64 0, .int .u64 0, .int .u64 0] := ⟨rfl, by simp [Value.oneCell']⟩
  have s48 : Sz 48 #[.int .i64 0, .int .i64 0, .int .i64 0, .int .i64 0, .int .i64 0, .int .i64 0, .int .i64 0, .int .i64 0, .int .i64 0, .int .i64 0, .int .i64 0, .int .i64 0, .int .i64 0, .int .i64 0, .int .i64 0, .int .i64 0, .int .i64 0, .int .i64 0, .int .i64 0, .int .i64 0, .int .i64 0, .int .i64 0, .int .i64 0, .int .i64 0, .int .i64 0, .int .i64 0, .int .i64 0, .int .i64 0, .int .i64 0, .int .i64 0, .int .i64 0, .int .i64 0, .int .i64 0, .int .i64 0, .int .i64 0, .int .i64 0, .int .i64 0, .int .i64 0, .int .i64 0, .int .i64 0, .int .i64 0, .int .i64 0, .int .i64 0, .int .i64 0, .int .i64 0, .int .i64 0, .int .i64 0, .int .i64 0] := ⟨rfl, by simp [Value.oneCell']⟩
  have K := ((Kn.start w).new (w.heap.size) 32 C 36 rfl sC.1)
  go_enter Try.func10, Try.ntmps10
  go_wp2_with (first
      | (focus ((with_reducible refine' wpList_store_kn K rfl 53 (.tmp 3) _ rfl 0 _ _ _ _ _ rfl rfl Try.szPt _ _ _); rotate_left 2; (focus exact rfl); (focus (with_reducible assumption)); intro wz Kz; clear K; have K := Kz; clear Kz; simp only [List.set_cons_zero, List.set_cons_succ] at K; have cv := HV1.out wz _ (K.heap 1 rfl); try (simp only [Act.put, List.setIfInBounds_toArray, List.set_cons_zero, List.set_cons_succ])))
      | (focus ((with_reducible refine' wpList_load_kn_gd K _ 53 (.tmp 3) rfl 1 _ _ _ _ rfl _ Try.underlying53 rfl Try.szPt _ _); rotate_left 3; (focus exact rfl); rotate_left 1; (focus exact rfl)))
      | (focus (first | ((with_reducible refine' wpList_load_kn K rfl 36 (.tmp 1) rfl 0 _ _ _ _ rfl _ Try.underlying36 rfl Try.szBa _ _); rotate_left 2; (focus exact rfl)) | ((with_reducible refine' wpList_load_kn K rfl 53 (.tmp 3) rfl 1 _ _ _ _ rfl _ Try.underlying53 rfl Try.szPt _ _); rotate_left 2; (focus exact rfl))))
      | (focus ((first | ((with_reducible refine' wpList_store_kn K rfl 53 (.tmp 3) _ rfl 0 _ _ _ _ _ rfl rfl Try.szPt _ _ _); rotate_left 2; (focus exact rfl)) | ((with_reducible refine' wpList_store_kn K rfl 55 (.tmp 5) _ rfl 0 _ _ _ _ _ rfl rfl Try.szRp _ _ _); rotate_left 2; (focus exact rfl))); (focus (with_reducible assumption)); intro wz Kz; clear K; have K := Kz; clear Kz; simp only [List.set_cons_zero, List.set_cons_succ] at K; try (simp only [Act.put, List.setIfInBounds_toArray, List.set_cons_zero, List.set_cons_succ])))
      | ((with_reducible refine wpList_new_kn K 53 _ _ _ _ #[.int .u64 0, .int .u64 0, .int .u64 0, .int .u64 0, .int .u64 0, .int .u64 0, .int .u64 0, .int .u64 0] 8 rfl Try.alPt rfl ?_); intro gz wz Kz; clear K; have K := Kz; clear Kz; try (simp only [Act.put, List.setIfInBounds_toArray, List.set_cons_zero, List.set_cons_succ]))
      | ((with_reducible refine wpList_new_kn K 55 _ _ _ _ #[.int .i64 0, .int .i64 0, .int .i64 0, .int .i64 0, .int .i64 0, .int .i64 0, .int .i64 0, .int .i64 0, .int .i64 0, .int .i64 0, .int .i64 0, .int .i64 0, .int .i64 0, .int .i64 0, .int .i64 0, .int .i64 0, .int .i64 0, .int .i64 0, .int .i64 0, .int .i64 0, .int .i64 0, .int .i64 0, .int .i64 0, .int .i64 0, .int .i64 0, .int .i64 0, .int .i64 0, .int .i64 0, .int .i64 0, .int .i64 0, .int .i64 0, .int .i64 0, .int .i64 0, .int .i64 0, .int .i64 0, .int .i64 0, .int .i64 0, .int .i64 0, .int .i64 0, .int .i64 0, .int .i64 0, .int .i64 0, .int .i64 0, .int .i64 0, .int .i64 0, .int .i64 0, .int .i64 0, .int .i64 0] 48 rfl Try.alRp rfl ?_); intro gz5 wz Kz; clear K; have K := Kz; clear Kz; try (simp only [Act.put, List.setIfInBounds_toArray, List.set_cons_zero, List.set_cons_succ]))
      | (go_at_call 53; (with_reducible refine Calls.kn K (DE _) ?_); intro wz Kz; clear K; have K := Kz; clear Kz)
      | (go_at_call 54; (with_reducible refine Calls.kn K (RD _) ?_); intro wz Kz; clear K; have K := Kz; clear Kz)
      | (go_at_call 40; (with_reducible refine Calls.kn K (BS _) ?_); intro wz Kz; clear K; have K := Kz; clear Kz)
      | (go_at_call 51; (with_reducible refine Calls.kn K (SA _) ?_); intro wz Kz; clear K; have K := Kz; clear Kz))
  go_ret
  exact ⟨rfl, K.fr⟩
set_option maxRecDepth 100000 in
set_option maxHeartbeats 3200000 in
theorem edec_good (SC : ByteArray) (A B C : Array Value) (w : World)
    (DE : Ans Try.prog 53 #[.agg C] (.tuple #[.agg A, .int .i64 0]))
    (RD : Ans Try.prog 54 #[.string SC] (.tuple #[.agg B, .int .i64 0]))
    (BS : Ans Try.prog 40 #[] (.bool true))
    (SM : Ans Try.prog 42 #[.agg A, .agg B] (.bool true))
    (EN : Ans Try.prog 55 #[.agg A] (.agg C))
    (V1 : ∀ (W : World) (g : Nat), W.heap[g]? = some (.cells C 36 (0, 0)) → (convert 40 9 (.slice (some ⟨g, 0, none⟩) 32 32)).run Try.prog W = .ok (.string SC) W)
    (E1 : ∀ W : World, (binOp .eql 36 (.agg C) (.agg C)).run Try.prog W = .ok (.bool true) W)
    (sA : Sz 8 A) (sB : Sz 48 B) (sC : Sz 32 C) :
    Calls Try.prog 10 #[.agg C] w fun e w' => e = .returned (.bool true) ∧ Fr (fun _ => False) w w' := by
  have HV1 := Lib.hid V1
  clear V1
  have EG := Try.guardBa
  have K := ((Kn.start w).new (w.heap.size) 32 C 36 rfl sC.1)
  go_enter Try.func10, Try.ntmps10
  go_wp2_with (first
      | (focus ((with_reducible refine' wpList_store_kn K rfl 53 (.tmp 3) _ rfl 0 _ _ _ _ _ rfl rfl Try.szPt _ _ _); rotate_left 2; (focus exact rfl); (focus (with_reducible assumption)); intro wz Kz; clear K; have K := Kz; clear Kz; simp only [List.set_cons_zero, List.set_cons_succ] at K; have cv := HV1.out wz _ (K.heap 1 rfl); try (simp only [Act.put, List.setIfInBounds_toArray, List.set_cons_zero, List.set_cons_succ])))
      | (focus (first | ((with_reducible refine' wpList_load_kn K rfl 36 (.tmp 1) rfl 0 _ _ _ _ rfl _ Try.underlying36 rfl Try.szBa _ _); rotate_left 2; (focus exact rfl))))
      | (focus ((first | ((with_reducible refine' wpList_store_kn K rfl 53 (.tmp 3) _ rfl 0 _ _ _ _ _ rfl rfl Try.szPt _ _ _); rotate_left 2; (focus exact rfl)) | ((with_reducible refine' wpList_store_kn K rfl 55 (.tmp 5) _ rfl 0 _ _ _ _ _ rfl rfl Try.szRp _ _ _); rotate_left 2; (focus exact rfl))); (focus (with_reducible assumption)); intro wz Kz; clear K; have K := Kz; clear Kz; simp only [List.set_cons_zero, List.set_cons_succ] at K; try (simp only [Act.put, List.setIfInBounds_toArray, List.set_cons_zero, List.set_cons_succ])))
      | ((with_reducible refine wpList_new_kn K 53 _ _ _ _ #[.int .u64 0, .int .u64 0, .int .u64 0, .int .u64 0, .int .u64 0, .int .u64 0, .int .u64 0, .int .u64 0] 8 rfl Try.alPt rfl ?_); intro gz wz Kz; clear K; have K := Kz; clear Kz; try (simp only [Act.put, List.setIfInBounds_toArray, List.set_cons_zero, List.set_cons_succ]))
      | ((with_reducible refine wpList_new_kn K 55 _ _ _ _ #[.int .i64 0, .int .i64 0, .int .i64 0, .int .i64 0, .int .i64 0, .int .i64 0, .int .i64 0, .int .i64 0, .int .i64 0, .int .i64 0, .int .i64 0, .int .i64 0, .int .i64 0, .int .i64 0, .int .i64 0, .int .i64 0, .int .i64 0, .int .i64 0, .int .i64 0, .int .i64 0, .int .i64 0, .int .i64 0, .int .i64 0, .int .i64 0, .int .i64 0, .int .i64 0, .int .i64 0, .int .i64 0, .int .i64 0, .int .i64 0, .int .i64 0, .int .i64 0, .int .i64 0, .int .i64 0, .int .i64 0, .int .i64 0, .int .i64 0, .int .i64 0, .int .i64 0, .int .i64 0, .int .i64 0, .int .i64 0, .int .i64 0, .int .i64 0, .int .i64 0, .int .i64 0, .int .i64 0, .int .i64 0] 48 rfl Try.alRp rfl ?_); intro gz5 wz Kz; clear K; have K := Kz; clear Kz; try (simp only [Act.put, List.setIfInBounds_toArray, List.set_cons_zero, List.set_cons_succ]))
      | (go_at_call 53; (with_reducible refine Calls.kn K (DE _) ?_); intro wz Kz; clear K; have K := Kz; clear Kz)
      | (go_at_call 54; (with_reducible refine Calls.kn K (RD _) ?_); intro wz Kz; clear K; have K := Kz; clear Kz)
      | (go_at_call 40; (with_reducible refine Calls.kn K (BS _) ?_); intro wz Kz; clear K; have K := Kz; clear Kz))
  refine wp_region_keep (by kernel_rfl) (by kernel_rfl) ?_
  repeat (any_goals (first | (focus (go_big_quiet_want; (first | ((with_reducible refine' quiet_load_kn K 53 (.tmp 3) rfl 1 _ _ _ _ rfl _ Try.underlying53 rfl Try.szPt _ _); rotate_left 2; (focus exact rfl)) | ((with_reducible refine' quiet_load_kn K 55 (.tmp 5) rfl 0 _ _ _ _ rfl _ Try.underlying55 rfl Try.szRp _ _); rotate_left 2; (focus exact rfl)) | ((with_reducible refine' quiet_load_kn K 36 (.tmp 1) rfl 2 _ _ _ _ rfl _ Try.underlying36 rfl Try.szBa _ _); rotate_left 2; (focus exact rfl))); simp only [Act.put, List.setIfInBounds_toArray, List.set_cons_zero, List.set_cons_succ]; go_big_quiet_on)) | go_big_quiet_step ((first | (go_at_call 42; with_reducible exact Calls.keep (SM _)) | (go_at_call 55; with_reducible exact Calls.keep (EN _)))) | quiet_step ((first | (go_at_call 42; with_reducible exact Calls.keep (SM _)) | (go_at_call 55; with_reducible exact Calls.keep (EN _))))))
  refine wpQuiet_nil ?_
  intro _ hwz
  obtain ⟨y, rfl⟩ := hwz
  have Kz := K.call y.h
  clear K cv
  have K := Kz
  clear Kz
  generalize y.w = wz at K ⊢
  clear y
  go_wp2_with fail
  go_ret
  exact ⟨rfl, K.fr⟩
end Go.Proofs.Ytnobobdgoccmcaa

/-
  The laws EdwardsTimes and EdwardsAdds, over what their callees answer; the document's numbers.
-/
import Derived.Test.YtahnlnflcgehaaaJw
namespace Go.Proofs.Ytahnlnflcgehaaa
open Go.RowKit Pri
set_option linter.unusedVariables false
set_option linter.unusedSimpArgs false

set_option maxRecDepth 100000 in
set_option maxHeartbeats 3200000 in
theorem right_op (xz : Nat) (R X Y Q U D a b c e f g h : Array Value) (w : World)
    (BB : Ans Try.prog 95 #[] (.agg R))
    (M1 : Ans Try.prog 23 #[.agg Y, .agg Y] (.agg Q))
    (M2 : Ans Try.prog 23 #[.agg X, .agg X] (.agg U))
    (DD : Ans Try.prog 96 #[] (.agg D))
    (M3 : Ans Try.prog 23 #[.agg D, .agg #[.int .i64 56130, .int .i64 1, .int .i64 0, .int .i64 0, .int .i64 0, .int .i64 0, .int .i64 0, .int .i64 0, .int .i64 0, .int .i64 0, .int .i64 0, .int .i64 0, .int .i64 0, .int .i64 0, .int .i64 0, .int .i64 0]] (.agg a))
    (NE : Ans Try.prog 25 #[.agg #[.int .i64 56129, .int .i64 1, .int .i64 0, .int .i64 0, .int .i64 0, .int .i64 0, .int .i64 0, .int .i64 0, .int .i64 0, .int .i64 0, .int .i64 0, .int .i64 0, .int .i64 0, .int .i64 0, .int .i64 0, .int .i64 0]] (.agg b))
    (M4 : Ans Try.prog 23 #[.agg Y, .agg #[.int .i64 5, .int .i64 0, .int .i64 0, .int .i64 0, .int .i64 0, .int .i64 0, .int .i64 0, .int .i64 0, .int .i64 0, .int .i64 0, .int .i64 0, .int .i64 0, .int .i64 0, .int .i64 0, .int .i64 0, .int .i64 0]] (.agg c))
    (SU : Ans Try.prog 21 #[.agg Q, .agg U] (.agg e))
    (M5 : Ans Try.prog 23 #[.agg U, .agg Q] (.agg f))
    (M6 : Ans Try.prog 23 #[.agg D, .agg f] (.agg g))
    (AD : Ans Try.prog 19 #[.agg #[.int .i64 1, .int .i64 0, .int .i64 0, .int .i64 0, .int .i64 0, .int .i64 0, .int .i64 0, .int .i64 0, .int .i64 0, .int .i64 0, .int .i64 0, .int .i64 0, .int .i64 0, .int .i64 0, .int .i64 0, .int .i64 0], .agg g] (.agg h))
    (pX : Part R 0 X) (pY : Part R 16 Y) (r0 : R[0]? = some (.int .i64 (xz : Int))) (hp : (xz : Int).tmod 2 = 0)
    (E1 : ∀ W : World, (binOp .eql 26 (.agg a) (.agg b)).run Try.prog W = .ok (.bool true) W) (E2 : ∀ W : World, (binOp .eql 26 (.agg c) (.agg #[.int .i64 4, .int .i64 0, .int .i64 0, .int .i64 0, .int .i64 0, .int .i64 0, .int .i64 0, .int .i64 0, .int .i64 0, .int .i64 0, .int .i64 0, .int .i64 0, .int .i64 0, .int .i64 0, .int .i64 0, .int .i64 0])).run Try.prog W = .ok (.bool true) W) (E3 : ∀ W : World, (binOp .eql 26 (.agg e) (.agg h)).run Try.prog W = .ok (.bool true) W)
    (sR : Sz 48 R) (sX : Sz 16 X) (sY : Sz 16 Y) (sQ : Sz 16 Q) (sU : Sz 16 U) :
    Calls Try.prog 58 #[] w fun e w' => e = .returned (.bool true) ∧ Fr (fun _ => False) w w' := by
  have EG := Try.guardNum5
  have K := (Kn.start w)
  go_enter Try.func58, Try.ntmps58
  go_wp2_with (first
      | (focus ((first | ((with_reducible refine' wpList_store_kn K rfl 74 (.tmp 1) _ rfl 0 _ _ _ _ _ rfl rfl Try.szRp _ _ _); rotate_left 2; (focus exact rfl))); (focus assumption); intro wz Kz; clear K; have K := Kz; clear Kz; simp only [List.set_cons_zero, List.set_cons_succ] at K; try (simp only [Act.put, List.setIfInBounds_toArray, List.set_cons_zero, List.set_cons_succ])))
      | ((with_reducible refine wpList_new_kn K 74 _ _ _ _ #[.int .i64 0, .int .i64 0, .int .i64 0, .int .i64 0, .int .i64 0, .int .i64 0, .int .i64 0, .int .i64 0, .int .i64 0, .int .i64 0, .int .i64 0, .int .i64 0, .int .i64 0, .int .i64 0, .int .i64 0, .int .i64 0, .int .i64 0, .int .i64 0, .int .i64 0, .int .i64 0, .int .i64 0, .int .i64 0, .int .i64 0, .int .i64 0, .int .i64 0, .int .i64 0, .int .i64 0, .int .i64 0, .int .i64 0, .int .i64 0, .int .i64 0, .int .i64 0, .int .i64 0, .int .i64 0, .int .i64 0, .int .i64 0, .int .i64 0, .int .i64 0, .int .i64 0, .int .i64 0, .int .i64 0, .int .i64 0, .int .i64 0, .int .i64 0, .int .i64 0, .int .i64 0, .int .i64 0, .int .i64 0] 48 rfl Try.alRp rfl ?_); intro gz wz Kz; clear K; have K := Kz; clear Kz; try (simp only [Act.put, List.setIfInBounds_toArray, List.set_cons_zero, List.set_cons_succ]))
      | (go_at_call 95; (with_reducible refine Calls.kn K (BB _) ?_); intro wz Kz; clear K; have K := Kz; clear Kz))
  refine wp_region_kn_tail K 10 [(2, 16, #[.int .i64 0, .int .i64 0, .int .i64 0, .int .i64 0, .int .i64 0, .int .i64 0, .int .i64 0, .int .i64 0, .int .i64 0, .int .i64 0, .int .i64 0, .int .i64 0, .int .i64 0, .int .i64 0, .int .i64 0, .int .i64 0], 26), (3, 16, #[.int .i64 0, .int .i64 0, .int .i64 0, .int .i64 0, .int .i64 0, .int .i64 0, .int .i64 0, .int .i64 0, .int .i64 0, .int .i64 0, .int .i64 0, .int .i64 0, .int .i64 0, .int .i64 0, .int .i64 0, .int .i64 0], 26)] (by kernel_rfl) (by kernel_rfl) (mk_two ⟨_, rfl, makes_alloc _ _ _ _ _ _ Try.alN5⟩ ⟨_, rfl, makes_alloc _ _ _ _ _ _ Try.alN5⟩) (sz_two rfl rfl) ?_
  apply Exists.intro
  refine ⟨?wk2, ?fin2⟩
  case wk2 =>
    intro γ
  
    simp only [List.take_succ_cons, List.take_zero]
    repeat (any_goals (first | (focus (go_big_quiet_want; (first | ((with_reducible refine' quiet_load_ptg K 26 (.tmp 5) rfl 0 _ _ 16 16 _ _ _ rfl _ Try.underlying26 rfl Try.szN5 _ pY (Sz.n sY) _); rotate_left 2; (focus exact rfl)) | ((with_reducible refine' quiet_load_ptg K 26 (.tmp 7) rfl 0 _ _ 16 16 _ _ _ rfl _ Try.underlying26 rfl Try.szN5 _ pY (Sz.n sY) _); rotate_left 2; (focus exact rfl)) | ((with_reducible refine' quiet_load_ptg K 26 (.tmp 10) rfl 0 _ _ 0 16 _ _ _ rfl _ Try.underlying26 rfl Try.szN5 _ pX (Sz.n sX) _); rotate_left 2; (focus exact rfl)) | ((with_reducible refine' quiet_load_ptg K 26 (.tmp 12) rfl 0 _ _ 0 16 _ _ _ rfl _ Try.underlying26 rfl Try.szN5 _ pX (Sz.n sX) _); rotate_left 2; (focus exact rfl))); simp only [Act.put, List.setIfInBounds_toArray, List.set_cons_zero, List.set_cons_succ]; go_big_quiet_on)) | go_big_quiet_step ((first | (go_at_call 23; with_reducible exact Calls.keepg (M1 _)) | (go_at_call 23; with_reducible exact Calls.keepg (M2 _)) | (go_at_call 23; with_reducible exact Calls.keepg (M3 _)) | (go_at_call 23; with_reducible exact Calls.keepg (M4 _)) | (go_at_call 23; with_reducible exact Calls.keepg (M5 _)) | (go_at_call 23; with_reducible exact Calls.keepg (M6 _)))) | quiet_step ((first | (go_at_call 23; with_reducible exact Calls.keepg (M1 _)) | (go_at_call 23; with_reducible exact Calls.keepg (M2 _)) | (go_at_call 23; with_reducible exact Calls.keepg (M3 _)) | (go_at_call 23; with_reducible exact Calls.keepg (M4 _)) | (go_at_call 23; with_reducible exact Calls.keepg (M5 _)) | (go_at_call 23; with_reducible exact Calls.keepg (M6 _))))))
    exact wpQuiet_nil rfl
  case fin2 =>
    intro gs wz Kz
    clear K
    have K := Kz
    clear Kz
    try simp only [mkAll, asObj, List.map_cons, List.map_nil, putAll, List.drop_succ_cons, List.drop_zero, List.length_cons, List.length_nil, Nat.zero_add, Nat.add_zero] at K ⊢
    try simp only [Act.put, List.setIfInBounds_toArray, List.set_cons_zero, List.set_cons_succ]
    generalize gs 0 = gz0 at *
    generalize gs 1 = gz1 at *
    go_wp2_with (first
      | (focus ((first | ((with_reducible refine' wpList_store_kn K rfl 26 (.tmp 2) _ rfl 1 _ _ _ _ _ rfl rfl Try.szN5 _ _ _); rotate_left 2; (focus exact rfl)) | ((with_reducible refine' wpList_store_kn K rfl 26 (.tmp 3) _ rfl 0 _ _ _ _ _ rfl rfl Try.szN5 _ _ _); rotate_left 2; (focus exact rfl))); (focus assumption); intro wz Kz; clear K; have K := Kz; clear Kz; simp only [List.set_cons_zero, List.set_cons_succ] at K; try (simp only [Act.put, List.setIfInBounds_toArray, List.set_cons_zero, List.set_cons_succ]))))
    have cx : ∀ y : Wd wz, y.w.cell? _ = some (.int .i64 (xz : Int)) := fun y => K.celld y 2 rfl 0 r0
    refine wp_region_keep (by kernel_rfl) (by kernel_rfl) ?_

    repeat (any_goals (first | (focus (go_big_quiet_want; (first | ((with_reducible refine' quiet_load_pt K 26 (.tmp 22) rfl 2 _ _ 16 16 _ _ _ rfl _ Try.underlying26 rfl Try.szN5 _ pY (Sz.n sY) _); rotate_left 2; (focus exact rfl)) | ((with_reducible refine' quiet_load_kn K 26 (.tmp 2) rfl 1 _ _ _ _ rfl _ Try.underlying26 rfl Try.szN5 _ _); rotate_left 2; (focus exact rfl)) | ((with_reducible refine' quiet_load_kn K 26 (.tmp 3) rfl 0 _ _ _ _ rfl _ Try.underlying26 rfl Try.szN5 _ _); rotate_left 2; (focus exact rfl))); simp only [Act.put, List.setIfInBounds_toArray, List.set_cons_zero, List.set_cons_succ]; go_big_quiet_on)) | go_big_quiet_step ((first | (go_at_call 23; with_reducible exact Calls.keep (M1 _)) | (go_at_call 23; with_reducible exact Calls.keep (M2 _)) | (go_at_call 96; with_reducible exact Calls.keep (DD _)) | (go_at_call 23; with_reducible exact Calls.keep (M3 _)) | (go_at_call 25; with_reducible exact Calls.keep (NE _)) | (go_at_call 23; with_reducible exact Calls.keep (M4 _)) | (go_at_call 21; with_reducible exact Calls.keep (SU _)) | (go_at_call 23; with_reducible exact Calls.keep (M5 _)) | (go_at_call 23; with_reducible exact Calls.keep (M6 _)) | (go_at_call 19; with_reducible exact Calls.keep (AD _)))) | quiet_step ((first | (go_at_call 23; with_reducible exact Calls.keep (M1 _)) | (go_at_call 23; with_reducible exact Calls.keep (M2 _)) | (go_at_call 96; with_reducible exact Calls.keep (DD _)) | (go_at_call 23; with_reducible exact Calls.keep (M3 _)) | (go_at_call 25; with_reducible exact Calls.keep (NE _)) | (go_at_call 23; with_reducible exact Calls.keep (M4 _)) | (go_at_call 21; with_reducible exact Calls.keep (SU _)) | (go_at_call 23; with_reducible exact Calls.keep (M5 _)) | (go_at_call 23; with_reducible exact Calls.keep (M6 _)) | (go_at_call 19; with_reducible exact Calls.keep (AD _))))))
    refine wpQuiet_nil ?_
    intro _ hwz
    obtain ⟨y, rfl⟩ := hwz
    have Kz := K.call y.h
    clear K cx
    have K := Kz
    clear Kz
    generalize y.w = wz at K ⊢
    clear y
    go_wp2_with fail
    go_ret
    exact ⟨rfl, K.fr⟩
set_option maxRecDepth 100000 in
set_option maxHeartbeats 3200000 in
theorem etimes_op (s : Nat) (SM : ByteArray) (N M P Q R S : Array Value) (w : World)
    (PA : Ans Try.prog 56 #[.agg N, .int .u8 (s : Int)] (.tuple #[.agg P, .agg Q]))
    (BS : Ans Try.prog 57 #[] (.bool true))
    (RI : Ans Try.prog 58 #[] (.bool true))
    (S1 : Ans Try.prog 59 #[.agg P, .agg Q] (.bool true))
    (TM : Ans Try.prog 60 #[.agg P, .agg M] (.agg R))
    (RT : Ans Try.prog 61 #[.agg Q, .string SM] (.agg S))
    (S2 : Ans Try.prog 59 #[.agg R, .agg S] (.bool true))
    (V1 : ∀ (W : World) (g : Nat), W.heap[g]? = some (.cells M 36 (0, 0)) → (convert 40 9 (.slice (some ⟨g, 0, none⟩) 32 32)).run Try.prog W = .ok (.string SM) W)
    (sN : Sz 32 N) (sM : Sz 32 M) (sP : Sz 8 P) (sQ : Sz 48 Q) :
    Calls Try.prog 10 #[.agg N, .agg M, .int .u8 (s : Int)] w fun e w' => e = .returned (.bool true) ∧ Fr (fun _ => False) w w' := by
  have HV1 := Lib.hid V1
  clear V1
  have K := (((Kn.start w).new (w.heap.size) 32 N 36 rfl sN.1).new (w.heap.size + 1) 32 M 36 (by simp) sM.1)
  go_enter Try.func10, Try.ntmps10
  go_wp2_with (first
      | (focus (first | ((with_reducible refine' wpList_load_kn K rfl 36 (.tmp 3) rfl 1 _ _ _ _ rfl _ Try.underlying36 rfl Try.szBa _ _); rotate_left 2; (focus exact rfl))))
      | (focus ((first | ((with_reducible refine' wpList_store_kn K rfl 72 (.tmp 7) _ rfl 1 _ _ _ _ _ rfl rfl Try.szPt _ _ _); rotate_left 2; (focus exact rfl)) | ((with_reducible refine' wpList_store_kn K rfl 74 (.tmp 8) _ rfl 0 _ _ _ _ _ rfl rfl Try.szRp _ _ _); rotate_left 2; (focus exact rfl))); (focus assumption); intro wz Kz; clear K; have K := Kz; clear Kz; simp only [List.set_cons_zero, List.set_cons_succ] at K; try (simp only [Act.put, List.setIfInBounds_toArray, List.set_cons_zero, List.set_cons_succ])))
      | ((with_reducible refine wpList_new_kn K 72 _ _ _ _ #[.int .u64 0, .int .u64 0, .int .u64 0, .int .u64 0, .int .u64 0, .int .u64 0, .int .u64 0, .int .u64 0] 8 rfl Try.alPt rfl ?_); intro gz wz Kz; clear K; have K := Kz; clear Kz; try (simp only [Act.put, List.setIfInBounds_toArray, List.set_cons_zero, List.set_cons_succ]))
      | ((with_reducible refine wpList_new_kn K 74 _ _ _ _ #[.int .i64 0, .int .i64 0, .int .i64 0, .int .i64 0, .int .i64 0, .int .i64 0, .int .i64 0, .int .i64 0, .int .i64 0, .int .i64 0, .int .i64 0, .int .i64 0, .int .i64 0, .int .i64 0, .int .i64 0, .int .i64 0, .int .i64 0, .int .i64 0, .int .i64 0, .int .i64 0, .int .i64 0, .int .i64 0, .int .i64 0, .int .i64 0, .int .i64 0, .int .i64 0, .int .i64 0, .int .i64 0, .int .i64 0, .int .i64 0, .int .i64 0, .int .i64 0, .int .i64 0, .int .i64 0, .int .i64 0, .int .i64 0, .int .i64 0, .int .i64 0, .int .i64 0, .int .i64 0, .int .i64 0, .int .i64 0, .int .i64 0, .int .i64 0, .int .i64 0, .int .i64 0, .int .i64 0, .int .i64 0] 48 rfl Try.alRp rfl ?_); intro gz8 wz Kz; clear K; have K := Kz; clear Kz; try (simp only [Act.put, List.setIfInBounds_toArray, List.set_cons_zero, List.set_cons_succ]))
      | (go_at_call 56; (with_reducible refine Calls.kn K (PA _) ?_); intro wz Kz; clear K; have K := Kz; clear Kz))
  have cv1 : ∀ y : Wd wz, (convert 40 9 (.slice (some ⟨w.heap.size + 1, 0, none⟩) 32 32)).run Try.prog y.w = .ok (.string SM) y.w := fun y => HV1.out y.w _ (y.blk (K.heap 2 rfl))
  refine wp_region_keep (by kernel_rfl) (by kernel_rfl) ?_

  repeat (any_goals (first | (focus (go_big_quiet_want; (first | ((with_reducible refine' quiet_load_kn K 72 (.tmp 7) rfl 1 _ _ _ _ rfl _ Try.underlying72 rfl Try.szPt _ _); rotate_left 2; (focus exact rfl)) | ((with_reducible refine' quiet_load_kn K 74 (.tmp 8) rfl 0 _ _ _ _ rfl _ Try.underlying74 rfl Try.szRp _ _); rotate_left 2; (focus exact rfl)) | ((with_reducible refine' quiet_load_kn K 36 (.tmp 4) rfl 2 _ _ _ _ rfl _ Try.underlying36 rfl Try.szBa _ _); rotate_left 2; (focus exact rfl))); simp only [Act.put, List.setIfInBounds_toArray, List.set_cons_zero, List.set_cons_succ]; go_big_quiet_on)) | go_big_quiet_step ((first | (go_at_call 57; with_reducible exact Calls.keep (BS _)) | (go_at_call 58; with_reducible exact Calls.keep (RI _)) | (go_at_call 59; with_reducible exact Calls.keep (S1 _)) | (go_at_call 60; with_reducible exact Calls.keep (TM _)) | (go_at_call 61; with_reducible exact Calls.keep (RT _)) | (go_at_call 59; with_reducible exact Calls.keep (S2 _)))) | quiet_step ((first | (go_at_call 57; with_reducible exact Calls.keep (BS _)) | (go_at_call 58; with_reducible exact Calls.keep (RI _)) | (go_at_call 59; with_reducible exact Calls.keep (S1 _)) | (go_at_call 60; with_reducible exact Calls.keep (TM _)) | (go_at_call 61; with_reducible exact Calls.keep (RT _)) | (go_at_call 59; with_reducible exact Calls.keep (S2 _))))))
  refine wpQuiet_nil ?_
  intro _ hwz
  obtain ⟨y, rfl⟩ := hwz
  have Kz := K.call y.h
  clear K cv1
  have K := Kz
  clear Kz
  generalize y.w = wz at K ⊢
  clear y
  go_wp2_with fail
  go_ret
  exact ⟨rfl, K.fr⟩
set_option maxRecDepth 100000 in
set_option maxHeartbeats 3200000 in
theorem eadds_true (s s2 : Nat) (N M P Q R S A1_ B1_ A2_ B2_ A3_ B3_ A4_ B4_ : Array Value) (w : World)
    (PA : Ans Try.prog 56 #[.agg N, .int .u8 (s : Int)] (.tuple #[.agg P, .agg Q]))
    (PB : Ans Try.prog 56 #[.agg M, .int .u8 (s2 : Int)] (.tuple #[.agg R, .agg S]))
    (BS : Ans Try.prog 57 #[] (.bool true))
    (A1 : Ans Try.prog 62 #[.agg P, .agg R] (.agg A1_))
    (A2 : Ans Try.prog 63 #[.agg Q, .agg S] (.agg B1_))
    (S1 : Ans Try.prog 59 #[.agg A1_, .agg B1_] (.bool true))
    (N1 : Ans Try.prog 64 #[.agg P] (.agg A2_))
    (N2 : Ans Try.prog 65 #[.agg Q] (.agg B2_))
    (S2 : Ans Try.prog 59 #[.agg A2_, .agg B2_] (.bool true))
    (E1 : Ans Try.prog 66 #[.agg P] (.agg A3_))
    (E2 : Ans Try.prog 67 #[.agg Q] (.agg B3_))
    (S3 : Ans Try.prog 59 #[.agg A3_, .agg B3_] (.bool true))
    (D1 : Ans Try.prog 62 #[.agg P, .agg P] (.agg A4_))
    (D2 : Ans Try.prog 63 #[.agg Q, .agg Q] (.agg B4_))
    (S4 : Ans Try.prog 59 #[.agg A4_, .agg B4_] (.bool true))
    (X1 : Ans Try.prog 68 #[.agg P, .agg R] (.bool true))
    (X2 : Ans Try.prog 69 #[.agg Q, .agg S] (.bool true))
    (Z1 : Ans Try.prog 62 #[.agg P, .agg #[.int .u64 0, .int .u64 0, .int .u64 0, .int .u64 0, .int .u64 0, .int .u64 0, .int .u64 0, .int .u64 0]] (.agg P))
    (X3 : Ans Try.prog 68 #[.agg P, .agg P] (.bool true))
    (Z2 : Ans Try.prog 62 #[.agg P, .agg A2_] (.agg #[.int .u64 0, .int .u64 0, .int .u64 0, .int .u64 0, .int .u64 0, .int .u64 0, .int .u64 0, .int .u64 0]))
    (X4 : Ans Try.prog 68 #[.agg #[.int .u64 0, .int .u64 0, .int .u64 0, .int .u64 0, .int .u64 0, .int .u64 0, .int .u64 0, .int .u64 0], .agg #[.int .u64 0, .int .u64 0, .int .u64 0, .int .u64 0, .int .u64 0, .int .u64 0, .int .u64 0, .int .u64 0]] (.bool true))
    (Z3 : Ans Try.prog 66 #[.agg #[.int .u64 0, .int .u64 0, .int .u64 0, .int .u64 0, .int .u64 0, .int .u64 0, .int .u64 0, .int .u64 0]] (.agg #[.int .u64 0, .int .u64 0, .int .u64 0, .int .u64 0, .int .u64 0, .int .u64 0, .int .u64 0, .int .u64 0]))
    (Z4 : Ans Try.prog 60 #[.agg #[.int .u64 0, .int .u64 0, .int .u64 0, .int .u64 0, .int .u64 0, .int .u64 0, .int .u64 0, .int .u64 0], .agg M] (.agg #[.int .u64 0, .int .u64 0, .int .u64 0, .int .u64 0, .int .u64 0, .int .u64 0, .int .u64 0, .int .u64 0]))
    (hq : (s : Int).tdiv 2 = (s2 : Int)) (hq2 : s / 2 = s2) (hq3 : (s : Int) / 2 = (s2 : Int)) (hs2 : s2 < 256)
    (sN : Sz 32 N) (sM : Sz 32 M) (sP : Sz 8 P) (sQ : Sz 48 Q) (sR : Sz 8 R) (sS : Sz 48 S) :
    Calls Try.prog 11 #[.agg N, .agg M, .int .u8 (s : Int)] w fun e w' => e = .returned (.bool true) ∧ Fr (fun _ => False) w w' := by
  have hs3 : (s2 : Int) % 256 = (s2 : Int) := by omega
  have K := (((Kn.start w).new (w.heap.size) 32 N 36 rfl sN.1).new (w.heap.size + 1) 32 M 36 (by simp) sM.1)
  go_enter Try.func11, Try.ntmps11
  go_wp2_with (first
      | (focus (first | ((with_reducible refine' wpList_load_kn K rfl 36 (.tmp 3) rfl 1 _ _ _ _ rfl _ Try.underlying36 rfl Try.szBa _ _); rotate_left 2; (focus exact rfl)) | ((with_reducible refine' wpList_load_kn K rfl 36 (.tmp 4) rfl 2 _ _ _ _ rfl _ Try.underlying36 rfl Try.szBa _ _); rotate_left 2; (focus exact rfl))))
      | (focus ((first | ((with_reducible refine' wpList_store_kn K rfl 72 (.tmp 7) _ rfl 1 _ _ _ _ _ rfl rfl Try.szPt _ _ _); rotate_left 2; (focus exact rfl)) | ((with_reducible refine' wpList_store_kn K rfl 74 (.tmp 8) _ rfl 0 _ _ _ _ _ rfl rfl Try.szRp _ _ _); rotate_left 2; (focus exact rfl)) | ((with_reducible refine' wpList_store_kn K rfl 72 (.tmp 9) _ rfl 1 _ _ _ _ _ rfl rfl Try.szPt _ _ _); rotate_left 2; (focus exact rfl)) | ((with_reducible refine' wpList_store_kn K rfl 74 (.tmp 10) _ rfl 0 _ _ _ _ _ rfl rfl Try.szRp _ _ _); rotate_left 2; (focus exact rfl))); (focus (with_reducible assumption)); intro wz Kz; clear K; have K := Kz; clear Kz; simp only [List.set_cons_zero, List.set_cons_succ] at K; try (simp only [Act.put, List.setIfInBounds_toArray, List.set_cons_zero, List.set_cons_succ])))
      | ((with_reducible refine wpList_new_kn K 72 _ _ _ _ #[.int .u64 0, .int .u64 0, .int .u64 0, .int .u64 0, .int .u64 0, .int .u64 0, .int .u64 0, .int .u64 0] 8 rfl Try.alPt rfl ?_); intro gz wz Kz; clear K; have K := Kz; clear Kz; try (simp only [Act.put, List.setIfInBounds_toArray, List.set_cons_zero, List.set_cons_succ]))
      | ((with_reducible refine wpList_new_kn K 74 _ _ _ _ #[.int .i64 0, .int .i64 0, .int .i64 0, .int .i64 0, .int .i64 0, .int .i64 0, .int .i64 0, .int .i64 0, .int .i64 0, .int .i64 0, .int .i64 0, .int .i64 0, .int .i64 0, .int .i64 0, .int .i64 0, .int .i64 0, .int .i64 0, .int .i64 0, .int .i64 0, .int .i64 0, .int .i64 0, .int .i64 0, .int .i64 0, .int .i64 0, .int .i64 0, .int .i64 0, .int .i64 0, .int .i64 0, .int .i64 0, .int .i64 0, .int .i64 0, .int .i64 0, .int .i64 0, .int .i64 0, .int .i64 0, .int .i64 0, .int .i64 0, .int .i64 0, .int .i64 0, .int .i64 0, .int .i64 0, .int .i64 0, .int .i64 0, .int .i64 0, .int .i64 0, .int .i64 0, .int .i64 0, .int .i64 0] 48 rfl Try.alRp rfl ?_); intro gz8 wz Kz; clear K; have K := Kz; clear Kz; try (simp only [Act.put, List.setIfInBounds_toArray, List.set_cons_zero, List.set_cons_succ]))
      | ((with_reducible refine wpList_new_kn K 72 _ _ _ _ #[.int .u64 0, .int .u64 0, .int .u64 0, .int .u64 0, .int .u64 0, .int .u64 0, .int .u64 0, .int .u64 0] 8 rfl Try.alPt rfl ?_); intro gz9 wz Kz; clear K; have K := Kz; clear Kz; try (simp only [Act.put, List.setIfInBounds_toArray, List.set_cons_zero, List.set_cons_succ]))
      | ((with_reducible refine wpList_new_kn K 74 _ _ _ _ #[.int .i64 0, .int .i64 0, .int .i64 0, .int .i64 0, .int .i64 0, .int .i64 0, .int .i64 0, .int .i64 0, .int .i64 0, .int .i64 0, .int .i64 0, .int .i64 0, .int .i64 0, .int .i64 0, .int .i64 0, .int .i64 0, .int .i64 0, .int .i64 0, .int .i64 0, .int .i64 0, .int .i64 0, .int .i64 0, .int .i64 0, .int .i64 0, .int .i64 0, .int .i64 0, .int .i64 0, .int .i64 0, .int .i64 0, .int .i64 0, .int .i64 0, .int .i64 0, .int .i64 0, .int .i64 0, .int .i64 0, .int .i64 0, .int .i64 0, .int .i64 0, .int .i64 0, .int .i64 0, .int .i64 0, .int .i64 0, .int .i64 0, .int .i64 0, .int .i64 0, .int .i64 0, .int .i64 0, .int .i64 0] 48 rfl Try.alRp rfl ?_); intro gz10 wz Kz; clear K; have K := Kz; clear Kz; try (simp only [Act.put, List.setIfInBounds_toArray, List.set_cons_zero, List.set_cons_succ]))
      | ((with_reducible refine wpList_new_kn K 72 _ _ _ _ #[.int .u64 0, .int .u64 0, .int .u64 0, .int .u64 0, .int .u64 0, .int .u64 0, .int .u64 0, .int .u64 0] 8 rfl Try.alPt rfl ?_); intro gz11 wz Kz; clear K; have K := Kz; clear Kz; try (simp only [Act.put, List.setIfInBounds_toArray, List.set_cons_zero, List.set_cons_succ]))
      | (go_at_call 56; (with_reducible refine Calls.kn K (PA _) ?_); intro wz Kz; clear K; have K := Kz; clear Kz)
      | (go_at_call 56; (with_reducible refine Calls.kn K (PB _) ?_); intro wz Kz; clear K; have K := Kz; clear Kz))
  refine wp_region_keep (by kernel_rfl) (by kernel_rfl) ?_
  simp only [List.append_eq, List.cons_append, List.nil_append]
  repeat (any_goals (first | (focus (go_big_quiet_want; (first | ((with_reducible refine' quiet_load_kn K 72 (.tmp 7) rfl 4 _ _ _ _ rfl _ Try.underlying72 rfl Try.szPt _ _); rotate_left 2; (focus exact rfl)) | ((with_reducible refine' quiet_load_kn K 72 (.tmp 9) rfl 2 _ _ _ _ rfl _ Try.underlying72 rfl Try.szPt _ _); rotate_left 2; (focus exact rfl)) | ((with_reducible refine' quiet_load_kn K 74 (.tmp 8) rfl 3 _ _ _ _ rfl _ Try.underlying74 rfl Try.szRp _ _); rotate_left 2; (focus exact rfl)) | ((with_reducible refine' quiet_load_kn K 74 (.tmp 10) rfl 1 _ _ _ _ rfl _ Try.underlying74 rfl Try.szRp _ _); rotate_left 2; (focus exact rfl)) | ((with_reducible refine' quiet_load_kn K 72 (.tmp 11) rfl 0 _ _ _ _ rfl _ Try.underlying72 rfl Try.szPt _ _); rotate_left 2; (focus exact rfl)) | ((with_reducible refine' quiet_load_kn K 36 (.tmp 4) rfl 5 _ _ _ _ rfl _ Try.underlying36 rfl Try.szBa _ _); rotate_left 2; (focus exact rfl))); simp only [Act.put, List.setIfInBounds_toArray, List.set_cons_zero, List.set_cons_succ]; go_big_quiet_on)) | go_big_quiet_step ((first | (go_at_call 57; with_reducible exact Calls.keep (BS _)) | (go_at_call 62; with_reducible exact Calls.keep (A1 _)) | (go_at_call 63; with_reducible exact Calls.keep (A2 _)) | (go_at_call 59; with_reducible exact Calls.keep (S1 _)) | (go_at_call 64; with_reducible exact Calls.keep (N1 _)) | (go_at_call 65; with_reducible exact Calls.keep (N2 _)) | (go_at_call 59; with_reducible exact Calls.keep (S2 _)) | (go_at_call 66; with_reducible exact Calls.keep (E1 _)) | (go_at_call 67; with_reducible exact Calls.keep (E2 _)) | (go_at_call 59; with_reducible exact Calls.keep (S3 _)) | (go_at_call 62; with_reducible exact Calls.keep (D1 _)) | (go_at_call 63; with_reducible exact Calls.keep (D2 _)) | (go_at_call 59; with_reducible exact Calls.keep (S4 _)) | (go_at_call 68; with_reducible exact Calls.keep (X1 _)) | (go_at_call 69; with_reducible exact Calls.keep (X2 _)) | (go_at_call 62; with_reducible exact Calls.keep (Z1 _)) | (go_at_call 68; with_reducible exact Calls.keep (X3 _)) | (go_at_call 62; with_reducible exact Calls.keep (Z2 _)) | (go_at_call 68; with_reducible exact Calls.keep (X4 _)) | (go_at_call 66; with_reducible exact Calls.keep (Z3 _)) | (go_at_call 60; with_reducible exact Calls.keep (Z4 _)))) | quiet_step ((first | (go_at_call 57; with_reducible exact Calls.keep (BS _)) | (go_at_call 62; with_reducible exact Calls.keep (A1 _)) | (go_at_call 63; with_reducible exact Calls.keep (A2 _)) | (go_at_call 59; with_reducible exact Calls.keep (S1 _)) | (go_at_call 64; with_reducible exact Calls.keep (N1 _)) | (go_at_call 65; with_reducible exact Calls.keep (N2 _)) | (go_at_call 59; with_reducible exact Calls.keep (S2 _)) | (go_at_call 66; with_reducible exact Calls.keep (E1 _)) | (go_at_call 67; with_reducible exact Calls.keep (E2 _)) | (go_at_call 59; with_reducible exact Calls.keep (S3 _)) | (go_at_call 62; with_reducible exact Calls.keep (D1 _)) | (go_at_call 63; with_reducible exact Calls.keep (D2 _)) | (go_at_call 59; with_reducible exact Calls.keep (S4 _)) | (go_at_call 68; with_reducible exact Calls.keep (X1 _)) | (go_at_call 69; with_reducible exact Calls.keep (X2 _)) | (go_at_call 62; with_reducible exact Calls.keep (Z1 _)) | (go_at_call 68; with_reducible exact Calls.keep (X3 _)) | (go_at_call 62; with_reducible exact Calls.keep (Z2 _)) | (go_at_call 68; with_reducible exact Calls.keep (X4 _)) | (go_at_call 66; with_reducible exact Calls.keep (Z3 _)) | (go_at_call 60; with_reducible exact Calls.keep (Z4 _))))))
  refine wpQuiet_nil ?_
  intro _ hwz
  obtain ⟨y, rfl⟩ := hwz
  have Kz := K.call y.h
  clear K 
  have K := Kz
  clear Kz
  generalize y.w = wz at K ⊢
  clear y
  go_wp2_with fail
  go_ret
  exact ⟨rfl, K.fr⟩
set_option maxRecDepth 100000 in
set_option maxHeartbeats 3200000 in
theorem eadds_false (s s2 : Nat) (N M P Q R S A1_ B1_ A2_ B2_ A3_ B3_ A4_ B4_ : Array Value) (w : World)
    (PA : Ans Try.prog 56 #[.agg N, .int .u8 (s : Int)] (.tuple #[.agg P, .agg Q]))
    (PB : Ans Try.prog 56 #[.agg M, .int .u8 (s2 : Int)] (.tuple #[.agg R, .agg S]))
    (BS : Ans Try.prog 57 #[] (.bool true))
    (A1 : Ans Try.prog 62 #[.agg P, .agg R] (.agg A1_))
    (A2 : Ans Try.prog 63 #[.agg Q, .agg S] (.agg B1_))
    (S1 : Ans Try.prog 59 #[.agg A1_, .agg B1_] (.bool true))
    (N1 : Ans Try.prog 64 #[.agg P] (.agg A2_))
    (N2 : Ans Try.prog 65 #[.agg Q] (.agg B2_))
    (S2 : Ans Try.prog 59 #[.agg A2_, .agg B2_] (.bool true))
    (E1 : Ans Try.prog 66 #[.agg P] (.agg A3_))
    (E2 : Ans Try.prog 67 #[.agg Q] (.agg B3_))
    (S3 : Ans Try.prog 59 #[.agg A3_, .agg B3_] (.bool true))
    (D1 : Ans Try.prog 62 #[.agg P, .agg P] (.agg A4_))
    (D2 : Ans Try.prog 63 #[.agg Q, .agg Q] (.agg B4_))
    (S4 : Ans Try.prog 59 #[.agg A4_, .agg B4_] (.bool true))
    (X1 : Ans Try.prog 68 #[.agg P, .agg R] (.bool false))
    (X2 : Ans Try.prog 69 #[.agg Q, .agg S] (.bool false))
    (Z1 : Ans Try.prog 62 #[.agg P, .agg #[.int .u64 0, .int .u64 0, .int .u64 0, .int .u64 0, .int .u64 0, .int .u64 0, .int .u64 0, .int .u64 0]] (.agg P))
    (X3 : Ans Try.prog 68 #[.agg P, .agg P] (.bool true))
    (Z2 : Ans Try.prog 62 #[.agg P, .agg A2_] (.agg #[.int .u64 0, .int .u64 0, .int .u64 0, .int .u64 0, .int .u64 0, .int .u64 0, .int .u64 0, .int .u64 0]))
    (X4 : Ans Try.prog 68 #[.agg #[.int .u64 0, .int .u64 0, .int .u64 0, .int .u64 0, .int .u64 0, .int .u64 0, .int .u64 0, .int .u64 0], .agg #[.int .u64 0, .int .u64 0, .int .u64 0, .int .u64 0, .int .u64 0, .int .u64 0, .int .u64 0, .int .u64 0]] (.bool true))
    (Z3 : Ans Try.prog 66 #[.agg #[.int .u64 0, .int .u64 0, .int .u64 0, .int .u64 0, .int .u64 0, .int .u64 0, .int .u64 0, .int .u64 0]] (.agg #[.int .u64 0, .int .u64 0, .int .u64 0, .int .u64 0, .int .u64 0, .int .u64 0, .int .u64 0, .int .u64 0]))
    (Z4 : Ans Try.prog 60 #[.agg #[.int .u64 0, .int .u64 0, .int .u64 0, .int .u64 0, .int .u64 0, .int .u64 0, .int .u64 0, .int .u64 0], .agg M] (.agg #[.int .u64 0, .int .u64 0, .int .u64 0, .int .u64 0, .int .u64 0, .int .u64 0, .int .u64 0, .int .u64 0]))
    (hq : (s : Int).tdiv 2 = (s2 : Int)) (hq2 : s / 2 = s2) (hq3 : (s : Int) / 2 = (s2 : Int)) (hs2 : s2 < 256)
    (sN : Sz 32 N) (sM : Sz 32 M) (sP : Sz 8 P) (sQ : Sz 48 Q) (sR : Sz 8 R) (sS : Sz 48 S) :
    Calls Try.prog 11 #[.agg N, .agg M, .int .u8 (s : Int)] w fun e w' => e = .returned (.bool true) ∧ Fr (fun _ => False) w w' := by
  have hs3 : (s2 : Int) % 256 = (s2 : Int) := by omega
  have K := (((Kn.start w).new (w.heap.size) 32 N 36 rfl sN.1).new (w.heap.size + 1) 32 M 36 (by simp) sM.1)
  go_enter Try.func11, Try.ntmps11
  go_wp2_with (first
      | (focus (first | ((with_reducible refine' wpList_load_kn K rfl 36 (.tmp 3) rfl 1 _ _ _ _ rfl _ Try.underlying36 rfl Try.szBa _ _); rotate_left 2; (focus exact rfl)) | ((with_reducible refine' wpList_load_kn K rfl 36 (.tmp 4) rfl 2 _ _ _ _ rfl _ Try.underlying36 rfl Try.szBa _ _); rotate_left 2; (focus exact rfl))))
      | (focus ((first | ((with_reducible refine' wpList_store_kn K rfl 72 (.tmp 7) _ rfl 1 _ _ _ _ _ rfl rfl Try.szPt _ _ _); rotate_left 2; (focus exact rfl)) | ((with_reducible refine' wpList_store_kn K rfl 74 (.tmp 8) _ rfl 0 _ _ _ _ _ rfl rfl Try.szRp _ _ _); rotate_left 2; (focus exact rfl)) | ((with_reducible refine' wpList_store_kn K rfl 72 (.tmp 9) _ rfl 1 _ _ _ _ _ rfl rfl Try.szPt _ _ _); rotate_left 2; (focus exact rfl)) | ((with_reducible refine' wpList_store_kn K rfl 74 (.tmp 10) _ rfl 0 _ _ _ _ _ rfl rfl Try.szRp _ _ _); rotate_left 2; (focus exact rfl))); (focus (with_reducible assumption)); intro wz Kz; clear K; have K := Kz; clear Kz; simp only [List.set_cons_zero, List.set_cons_succ] at K; try (simp only [Act.put, List.setIfInBounds_toArray, List.set_cons_zero, List.set_cons_succ])))
      | ((with_reducible refine wpList_new_kn K 72 _ _ _ _ #[.int .u64 0, .int .u64 0, .int .u64 0, .int .u64 0, .int .u64 0, .int .u64 0, .int .u64 0, .int .u64 0] 8 rfl Try.alPt rfl ?_); intro gz wz Kz; clear K; have K := Kz; clear Kz; try (simp only [Act.put, List.setIfInBounds_toArray, List.set_cons_zero, List.set_cons_succ]))
      | ((with_reducible refine wpList_new_kn K 74 _ _ _ _ #[.int .i64 0, .int .i64 0, .int .i64 0, .int .i64 0, .int .i64 0, .int .i64 0, .int .i64 0, .int .i64 0, .int .i64 0, .int .i64 0, .int .i64 0, .int .i64 0, .int .i64 0, .int .i64 0, .int .i64 0, .int .i64 0, .int .i64 0, .int .i64 0, .int .i64 0, .int .i64 0, .int .i64 0, .int .i64 0, .int .i64 0, .int .i64 0, .int .i64 0, .int .i64 0, .int .i64 0, .int .i64 0, .int .i64 0, .int .i64 0, .int .i64 0, .int .i64 0, .int .i64 0, .int .i64 0, .int .i64 0, .int .i64 0, .int .i64 0, .int .i64 0, .int .i64 0, .int .i64 0, .int .i64 0, .int .i64 0, .int .i64 0, .int .i64 0, .int .i64 0, .int .i64 0, .int .i64 0, .int .i64 0] 48 rfl Try.alRp rfl ?_); intro gz8 wz Kz; clear K; have K := Kz; clear Kz; try (simp only [Act.put, List.setIfInBounds_toArray, List.set_cons_zero, List.set_cons_succ]))
      | ((with_reducible refine wpList_new_kn K 72 _ _ _ _ #[.int .u64 0, .int .u64 0, .int .u64 0, .int .u64 0, .int .u64 0, .int .u64 0, .int .u64 0, .int .u64 0] 8 rfl Try.alPt rfl ?_); intro gz9 wz Kz; clear K; have K := Kz; clear Kz; try (simp only [Act.put, List.setIfInBounds_toArray, List.set_cons_zero, List.set_cons_succ]))
      | ((with_reducible refine wpList_new_kn K 74 _ _ _ _ #[.int .i64 0, .int .i64 0, .int .i64 0, .int .i64 0, .int .i64 0, .int .i64 0, .int .i64 0, .int .i64 0, .int .i64 0, .int .i64 0, .int .i64 0, .int .i64 0, .int .i64 0, .int .i64 0, .int .i64 0, .int .i64 0, .int .i64 0, .int .i64 0, .int .i64 0, .int .i64 0, .int .i64 0, .int .i64 0, .int .i64 0, .int .i64 0, .int .i64 0, .int .i64 0, .int .i64 0, .int .i64 0, .int .i64 0, .int .i64 0, .int .i64 0, .int .i64 0, .int .i64 0, .int .i64 0, .int .i64 0, .int .i64 0, .int .i64 0, .int .i64 0, .int .i64 0, .int .i64 0, .int .i64 0, .int .i64 0, .int .i64 0, .int .i64 0, .int .i64 0, .int .i64 0, .int .i64 0, .int .i64 0] 48 rfl Try.alRp rfl ?_); intro gz10 wz Kz; clear K; have K := Kz; clear Kz; try (simp only [Act.put, List.setIfInBounds_toArray, List.set_cons_zero, List.set_cons_succ]))
      | ((with_reducible refine wpList_new_kn K 72 _ _ _ _ #[.int .u64 0, .int .u64 0, .int .u64 0, .int .u64 0, .int .u64 0, .int .u64 0, .int .u64 0, .int .u64 0] 8 rfl Try.alPt rfl ?_); intro gz11 wz Kz; clear K; have K := Kz; clear Kz; try (simp only [Act.put, List.setIfInBounds_toArray, List.set_cons_zero, List.set_cons_succ]))
      | (go_at_call 56; (with_reducible refine Calls.kn K (PA _) ?_); intro wz Kz; clear K; have K := Kz; clear Kz)
      | (go_at_call 56; (with_reducible refine Calls.kn K (PB _) ?_); intro wz Kz; clear K; have K := Kz; clear Kz))
  refine wp_region_keep (by kernel_rfl) (by kernel_rfl) ?_
  simp only [List.append_eq, List.cons_append, List.nil_append]
  repeat (any_goals (first | (focus (go_big_quiet_want; (first | ((with_reducible refine' quiet_load_kn K 72 (.tmp 7) rfl 4 _ _ _ _ rfl _ Try.underlying72 rfl Try.szPt _ _); rotate_left 2; (focus exact rfl)) | ((with_reducible refine' quiet_load_kn K 72 (.tmp 9) rfl 2 _ _ _ _ rfl _ Try.underlying72 rfl Try.szPt _ _); rotate_left 2; (focus exact rfl)) | ((with_reducible refine' quiet_load_kn K 74 (.tmp 8) rfl 3 _ _ _ _ rfl _ Try.underlying74 rfl Try.szRp _ _); rotate_left 2; (focus exact rfl)) | ((with_reducible refine' quiet_load_kn K 74 (.tmp 10) rfl 1 _ _ _ _ rfl _ Try.underlying74 rfl Try.szRp _ _); rotate_left 2; (focus exact rfl)) | ((with_reducible refine' quiet_load_kn K 72 (.tmp 11) rfl 0 _ _ _ _ rfl _ Try.underlying72 rfl Try.szPt _ _); rotate_left 2; (focus exact rfl)) | ((with_reducible refine' quiet_load_kn K 36 (.tmp 4) rfl 5 _ _ _ _ rfl _ Try.underlying36 rfl Try.szBa _ _); rotate_left 2; (focus exact rfl))); simp only [Act.put, List.setIfInBounds_toArray, List.set_cons_zero, List.set_cons_succ]; go_big_quiet_on)) | go_big_quiet_step ((first | (go_at_call 57; with_reducible exact Calls.keep (BS _)) | (go_at_call 62; with_reducible exact Calls.keep (A1 _)) | (go_at_call 63; with_reducible exact Calls.keep (A2 _)) | (go_at_call 59; with_reducible exact Calls.keep (S1 _)) | (go_at_call 64; with_reducible exact Calls.keep (N1 _)) | (go_at_call 65; with_reducible exact Calls.keep (N2 _)) | (go_at_call 59; with_reducible exact Calls.keep (S2 _)) | (go_at_call 66; with_reducible exact Calls.keep (E1 _)) | (go_at_call 67; with_reducible exact Calls.keep (E2 _)) | (go_at_call 59; with_reducible exact Calls.keep (S3 _)) | (go_at_call 62; with_reducible exact Calls.keep (D1 _)) | (go_at_call 63; with_reducible exact Calls.keep (D2 _)) | (go_at_call 59; with_reducible exact Calls.keep (S4 _)) | (go_at_call 68; with_reducible exact Calls.keep (X1 _)) | (go_at_call 69; with_reducible exact Calls.keep (X2 _)) | (go_at_call 62; with_reducible exact Calls.keep (Z1 _)) | (go_at_call 68; with_reducible exact Calls.keep (X3 _)) | (go_at_call 62; with_reducible exact Calls.keep (Z2 _)) | (go_at_call 68; with_reducible exact Calls.keep (X4 _)) | (go_at_call 66; with_reducible exact Calls.keep (Z3 _)) | (go_at_call 60; with_reducible exact Calls.keep (Z4 _)))) | quiet_step ((first | (go_at_call 57; with_reducible exact Calls.keep (BS _)) | (go_at_call 62; with_reducible exact Calls.keep (A1 _)) | (go_at_call 63; with_reducible exact Calls.keep (A2 _)) | (go_at_call 59; with_reducible exact Calls.keep (S1 _)) | (go_at_call 64; with_reducible exact Calls.keep (N1 _)) | (go_at_call 65; with_reducible exact Calls.keep (N2 _)) | (go_at_call 59; with_reducible exact Calls.keep (S2 _)) | (go_at_call 66; with_reducible exact Calls.keep (E1 _)) | (go_at_call 67; with_reducible exact Calls.keep (E2 _)) | (go_at_call 59; with_reducible exact Calls.keep (S3 _)) | (go_at_call 62; with_reducible exact Calls.keep (D1 _)) | (go_at_call 63; with_reducible exact Calls.keep (D2 _)) | (go_at_call 59; with_reducible exact Calls.keep (S4 _)) | (go_at_call 68; with_reducible exact Calls.keep (X1 _)) | (go_at_call 69; with_reducible exact Calls.keep (X2 _)) | (go_at_call 62; with_reducible exact Calls.keep (Z1 _)) | (go_at_call 68; with_reducible exact Calls.keep (X3 _)) | (go_at_call 62; with_reducible exact Calls.keep (Z2 _)) | (go_at_call 68; with_reducible exact Calls.keep (X4 _)) | (go_at_call 66; with_reducible exact Calls.keep (Z3 _)) | (go_at_call 60; with_reducible exact Calls.keep (Z4 _))))))
  refine wpQuiet_nil ?_
  intro _ hwz
  obtain ⟨y, rfl⟩ := hwz
  have Kz := K.call y.h
  clear K 
  have K := Kz
  clear Kz
  generalize y.w = wz at K ⊢
  clear y
  go_wp2_with fail
  go_ret
  exact ⟨rfl, K.fr⟩
end Go.Proofs.Ytahnlnflcgehaaa

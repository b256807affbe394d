/-
  The contract of Encode of package custumalref07, over what its callees answer.
-/
import Derived.Test.YtahnlnflcgehaaaJl
import Derived.Test.YtahnlnflcgehaaaHd
namespace Go.Proofs.Ytahnlnflcgehaaa
open Go.RowKit Pri
set_option linter.unusedVariables false
set_option linter.unusedSimpArgs false

theorem bw_free (W : World) (s : ByteArray) (j : Nat) (hj : j < s.size) : (Lib.bytesWorld W 5 s).frozen? ⟨W.heap.size, j, none⟩ = false := by
  have hge := grownCap_ge W s.size 0 5
  have h : j < (Lib.bytesCells W 5 s).size := by
    have hsz : s.data.size = s.size := rfl
    simp only [Lib.bytesCells, Array.size_append, Array.size_map, Array.size_replicate, hsz]; omega
  simp only [World.frozen?, Lib.bytesWorld_at_new]
  simp
  omega
theorem bl_size (Y : Nat) : (⟨(bl 32 Y).toArray⟩ : ByteArray).size = 32 := by show (bl 32 Y).toArray.size = 32; simp [bl_length]
theorem bl_conv (Y : Nat) (W : World) : (convert 9 40 (.string ⟨(bl 32 Y).toArray⟩)).run Try.prog W = .ok (.slice (some ⟨W.heap.size, 0, none⟩) 32 (grownCap W (⟨(bl 32 Y).toArray⟩ : ByteArray).size 0 5)) (Lib.bytesWorld W 5 ⟨(bl 32 Y).toArray⟩) := by
  have := Lib.run_convert_string_bytes (P := Try.prog) W 9 40 5 ⟨(bl 32 Y).toArray⟩ Try.underlying9 Try.underlying40 Try.underlying5
  rw [this]
  congr 2
theorem bw_cell (Y : Nat) (W : World) (j : Nat) (hj : j < 32) : (Lib.bytesWorld W 5 ⟨(bl 32 Y).toArray⟩).cell? ⟨W.heap.size, j, none⟩ = some (.int .u8 ((Y / 256 ^ j % 256 : Nat) : Int)) := by
  rw [Lib.bytesWorld_cell W 5 _ j (by rw [bl_size]; exact hj)]
  congr 2
  rw [← tn]
  show ((((bl 32 Y).toArray.toList).getD j 0).toNat : Int) = _
  rw [List.toList_toArray, List.getD_eq_getElem?_getD]
  simp [bl, hj]
set_option maxRecDepth 100000 in
set_option maxHeartbeats 3200000 in
theorem renc_odd (xz z v : Nat) (SC SD : ByteArray) (A XA YA ZA I X2 Y2 : Array Value) (w : World)
    (IV : Ans Try.prog 36 #[.agg ZA] (.agg I))
    (M1 : Ans Try.prog 23 #[.agg XA, .agg I] (.agg X2))
    (M2 : Ans Try.prog 23 #[.agg YA, .agg I] (.agg Y2))
    (BY : Ans Try.prog 31 #[.agg Y2] (.string SC))
    (pXA : Part A 0 XA) (pYA : Part A 16 YA) (pZA : Part A 32 ZA)
    (x0 : X2[0]? = some (.int .i64 (xz : Int))) (hp : (xz : Int).tmod 2 = 1) (zS : SC.size = 32) (CV : ∀ W : World, (convert 9 40 (.string SC)).run Try.prog W = .ok (.slice (some ⟨W.heap.size, 0, none⟩) 32 (grownCap W SC.size 0 5)) (Lib.bytesWorld W 5 SC))
    (C31 : ∀ W : World, (Lib.bytesWorld W 5 SC).cell? ⟨W.heap.size, 31, none⟩ = some (.int .u8 (z : Int))) (F31 : ∀ W : World, (Lib.bytesWorld W 5 SC).frozen? ⟨W.heap.size, 31, none⟩ = false) (hv : bits .or .u8 (z : Int) 128 = (v : Int)) (CS : ∀ (W : World) (c : Nat), (convert 40 9 (.slice (some ⟨W.heap.size, 0, none⟩) 32 c)).run Try.prog ((Lib.bytesWorld W 5 SC).setCell ⟨W.heap.size, 31, none⟩ (.int .u8 (v : Int))) = .ok (.string SD) ((Lib.bytesWorld W 5 SC).setCell ⟨W.heap.size, 31, none⟩ (.int .u8 (v : Int))))
    (sA : Sz 48 A) (sXA : Sz 16 XA) (sYA : Sz 16 YA) (sZA : Sz 16 ZA) (sI : Sz 16 I) (sX2 : Sz 16 X2) (sY2 : Sz 16 Y2) :
    Calls Try.prog 97 #[.agg A] w fun e w' => e = .returned (.string SD) ∧ Fr (fun _ => False) w w' := by
  have HCV := Lib.hid CV
  have HCS := Lib.hid CS
  have HX := Lib.hid x0
  have HC := Lib.hid C31
  have HF := Lib.hid F31
  clear CV CS x0 C31 F31
  have K := ((Kn.start w).new (w.heap.size) 48 A 74 rfl sA.1)
  go_enter Try.func97, Try.ntmps97
  go_wp2_with (first
      | (focus (first | ((with_reducible refine' wpList_load_pt K rfl 26 (.tmp 7) rfl 0 _ _ 32 16 _ _ _ rfl _ Try.underlying26 rfl Try.szN5 _ pZA (Sz.n sZA) _); rotate_left 2; (focus exact rfl))))
      | (focus ((first | ((with_reducible refine' wpList_store_kn K rfl 26 (.tmp 3) _ rfl 0 _ _ _ _ _ rfl rfl Try.szN5 _ _ _); rotate_left 2; (focus exact rfl))); (focus assumption); intro wz Kz; clear K; have K := Kz; clear Kz; simp only [List.set_cons_zero, List.set_cons_succ] at K; try (simp only [Act.put, List.setIfInBounds_toArray, List.set_cons_zero, List.set_cons_succ])))
      | ((with_reducible refine wpList_new_kn K 26 _ _ _ _ #[.int .i64 0, .int .i64 0, .int .i64 0, .int .i64 0, .int .i64 0, .int .i64 0, .int .i64 0, .int .i64 0, .int .i64 0, .int .i64 0, .int .i64 0, .int .i64 0, .int .i64 0, .int .i64 0, .int .i64 0, .int .i64 0] 16 rfl Try.alN5 rfl ?_); intro gz wz Kz; clear K; have K := Kz; clear Kz; try (simp only [Act.put, List.setIfInBounds_toArray, List.set_cons_zero, List.set_cons_succ]))
      | (go_at_call 36; (with_reducible refine Calls.kn K (IV _) ?_); intro wz Kz; clear K; have K := Kz; clear Kz))
  refine wp_region_kn_tail K 8 [(4, 16, #[.int .i64 0, .int .i64 0, .int .i64 0, .int .i64 0, .int .i64 0, .int .i64 0, .int .i64 0, .int .i64 0, .int .i64 0, .int .i64 0, .int .i64 0, .int .i64 0, .int .i64 0, .int .i64 0, .int .i64 0, .int .i64 0], 26), (5, 16, #[.int .i64 0, .int .i64 0, .int .i64 0, .int .i64 0, .int .i64 0, .int .i64 0, .int .i64 0, .int .i64 0, .int .i64 0, .int .i64 0, .int .i64 0, .int .i64 0, .int .i64 0, .int .i64 0, .int .i64 0, .int .i64 0], 26)] (by kernel_rfl) (by kernel_rfl) (mk_two ⟨_, rfl, makes_alloc _ _ _ _ _ _ Try.alN5⟩ ⟨_, rfl, makes_alloc _ _ _ _ _ _ Try.alN5⟩) (sz_two rfl rfl) ?_
  apply Exists.intro
  refine ⟨?wk2, ?fin2⟩
  case wk2 =>
    intro γ
  
    simp only [List.take_succ_cons, List.take_zero]
    repeat (any_goals (first | (focus (go_big_quiet_want; (first | ((with_reducible refine' quiet_load_ptg K 26 (.tmp 10) rfl 1 _ _ 0 16 _ _ _ rfl _ Try.underlying26 rfl Try.szN5 _ pXA (Sz.n sXA) _); rotate_left 2; (focus exact rfl)) | ((with_reducible refine' quiet_load_kng K 26 (.tmp 3) rfl 0 _ _ _ _ rfl _ Try.underlying26 rfl Try.szN5 _ _); rotate_left 2; (focus exact rfl)) | ((with_reducible refine' quiet_load_ptg K 26 (.tmp 14) rfl 1 _ _ 16 16 _ _ _ rfl _ Try.underlying26 rfl Try.szN5 _ pYA (Sz.n sYA) _); rotate_left 2; (focus exact rfl))); simp only [Act.put, List.setIfInBounds_toArray, List.set_cons_zero, List.set_cons_succ]; go_big_quiet_on)) | go_big_quiet_step ((first | (go_at_call 23; with_reducible exact Calls.keepg (M1 _)) | (go_at_call 23; with_reducible exact Calls.keepg (M2 _)))) | quiet_step ((first | (go_at_call 23; with_reducible exact Calls.keepg (M1 _)) | (go_at_call 23; with_reducible exact Calls.keepg (M2 _))))))
    exact wpQuiet_nil rfl
  case fin2 =>
    intro gs wz Kz
    clear K
    have K := Kz
    clear Kz
    try simp only [mkAll, asObj, List.map_cons, List.map_nil, putAll, List.drop_succ_cons, List.drop_zero, List.length_cons, List.length_nil, Nat.zero_add, Nat.add_zero] at K ⊢
    try simp only [Act.put, List.setIfInBounds_toArray, List.set_cons_zero, List.set_cons_succ]
    generalize gs 0 = gz0 at *
    generalize gs 1 = gz1 at *
    go_wp2_with (first
      | (go_at_call 31; (with_reducible refine Calls.kn K (BY _) ?_); intro wz Kz; clear K; have K := Kz; clear Kz; have kc := HCV.out wz; have c4 := (K.call (own_str_fr wz SC)).cell 1 rfl 0 HX.out; have ks := HCS.out wz (grownCap wz SC.size 0 5); generalize hcap : grownCap wz SC.size 0 5 = cap at *; clear hcap; have c31 := HC.out wz; have f31 := HF.out wz)
      | (focus (first | ((with_reducible refine' wpList_load_kn K rfl 26 (.tmp 5) rfl 0 _ _ _ _ rfl _ Try.underlying26 rfl Try.szN5 _ _); rotate_left 2; (focus exact rfl))))
      | (focus ((first | ((with_reducible refine' wpList_store_kn K rfl 26 (.tmp 4) _ rfl 1 _ _ _ _ _ rfl rfl Try.szN5 _ _ _); rotate_left 2; (focus exact rfl)) | ((with_reducible refine' wpList_store_kn K rfl 26 (.tmp 5) _ rfl 0 _ _ _ _ _ rfl rfl Try.szN5 _ _ _); rotate_left 2; (focus exact rfl))); (focus assumption); intro wz Kz; clear K; have K := Kz; clear Kz; simp only [List.set_cons_zero, List.set_cons_succ] at K; try (simp only [Act.put, List.setIfInBounds_toArray, List.set_cons_zero, List.set_cons_succ])))
      | (go_at_call 31; (with_reducible refine Calls.kn K (BY _) ?_); intro wz Kz; clear K; have K := Kz; clear Kz))
    go_ret
    exact ⟨rfl, ((K.fr.trans (own_str_fr wz SC) (fun _ h => h.elim)).setCell (p := ⟨wz.heap.size, 31, none⟩) (Or.inr K.fr.size) _)⟩
set_option maxRecDepth 100000 in
set_option maxHeartbeats 3200000 in
theorem renc_even (xz z v : Nat) (SC SD : ByteArray) (A XA YA ZA I X2 Y2 : Array Value) (w : World)
    (IV : Ans Try.prog 36 #[.agg ZA] (.agg I))
    (M1 : Ans Try.prog 23 #[.agg XA, .agg I] (.agg X2))
    (M2 : Ans Try.prog 23 #[.agg YA, .agg I] (.agg Y2))
    (BY : Ans Try.prog 31 #[.agg Y2] (.string SC))
    (pXA : Part A 0 XA) (pYA : Part A 16 YA) (pZA : Part A 32 ZA)
    (x0 : X2[0]? = some (.int .i64 (xz : Int))) (hp : (xz : Int).tmod 2 = 0) (zS : SC.size = 32) (CV : ∀ W : World, (convert 9 40 (.string SC)).run Try.prog W = .ok (.slice (some ⟨W.heap.size, 0, none⟩) 32 (grownCap W SC.size 0 5)) (Lib.bytesWorld W 5 SC))
    (CS : ∀ (W : World) (c : Nat), (convert 40 9 (.slice (some ⟨W.heap.size, 0, none⟩) 32 c)).run Try.prog (Lib.bytesWorld W 5 SC) = .ok (.string SC) (Lib.bytesWorld W 5 SC))
    (sA : Sz 48 A) (sXA : Sz 16 XA) (sYA : Sz 16 YA) (sZA : Sz 16 ZA) (sI : Sz 16 I) (sX2 : Sz 16 X2) (sY2 : Sz 16 Y2) :
    Calls Try.prog 97 #[.agg A] w fun e w' => e = .returned (.string SC) ∧ Fr (fun _ => False) w w' := by
  have HCV := Lib.hid CV
  have HCS := Lib.hid CS
  have HX := Lib.hid x0
  clear CV CS x0
  have K := ((Kn.start w).new (w.heap.size) 48 A 74 rfl sA.1)
  go_enter Try.func97, Try.ntmps97
  go_wp2_with (first
      | (focus (first | ((with_reducible refine' wpList_load_pt K rfl 26 (.tmp 7) rfl 0 _ _ 32 16 _ _ _ rfl _ Try.underlying26 rfl Try.szN5 _ pZA (Sz.n sZA) _); rotate_left 2; (focus exact rfl))))
      | (focus ((first | ((with_reducible refine' wpList_store_kn K rfl 26 (.tmp 3) _ rfl 0 _ _ _ _ _ rfl rfl Try.szN5 _ _ _); rotate_left 2; (focus exact rfl))); (focus assumption); intro wz Kz; clear K; have K := Kz; clear Kz; simp only [List.set_cons_zero, List.set_cons_succ] at K; try (simp only [Act.put, List.setIfInBounds_toArray, List.set_cons_zero, List.set_cons_succ])))
      | ((with_reducible refine wpList_new_kn K 26 _ _ _ _ #[.int .i64 0, .int .i64 0, .int .i64 0, .int .i64 0, .int .i64 0, .int .i64 0, .int .i64 0, .int .i64 0, .int .i64 0, .int .i64 0, .int .i64 0, .int .i64 0, .int .i64 0, .int .i64 0, .int .i64 0, .int .i64 0] 16 rfl Try.alN5 rfl ?_); intro gz wz Kz; clear K; have K := Kz; clear Kz; try (simp only [Act.put, List.setIfInBounds_toArray, List.set_cons_zero, List.set_cons_succ]))
      | (go_at_call 36; (with_reducible refine Calls.kn K (IV _) ?_); intro wz Kz; clear K; have K := Kz; clear Kz))
  refine wp_region_kn_tail K 8 [(4, 16, #[.int .i64 0, .int .i64 0, .int .i64 0, .int .i64 0, .int .i64 0, .int .i64 0, .int .i64 0, .int .i64 0, .int .i64 0, .int .i64 0, .int .i64 0, .int .i64 0, .int .i64 0, .int .i64 0, .int .i64 0, .int .i64 0], 26), (5, 16, #[.int .i64 0, .int .i64 0, .int .i64 0, .int .i64 0, .int .i64 0, .int .i64 0, .int .i64 0, .int .i64 0, .int .i64 0, .int .i64 0, .int .i64 0, .int .i64 0, .int .i64 0, .int .i64 0, .int .i64 0, .int .i64 0], 26)] (by kernel_rfl) (by kernel_rfl) (mk_two ⟨_, rfl, makes_alloc _ _ _ _ _ _ Try.alN5⟩ ⟨_, rfl, makes_alloc _ _ _ _ _ _ Try.alN5⟩) (sz_two rfl rfl) ?_
  apply Exists.intro
  refine ⟨?wk2, ?fin2⟩
  case wk2 =>
    intro γ
  
    simp only [List.take_succ_cons, List.take_zero]
    repeat (any_goals (first | (focus (go_big_quiet_want; (first | ((with_reducible refine' quiet_load_ptg K 26 (.tmp 10) rfl 1 _ _ 0 16 _ _ _ rfl _ Try.underlying26 rfl Try.szN5 _ pXA (Sz.n sXA) _); rotate_left 2; (focus exact rfl)) | ((with_reducible refine' quiet_load_kng K 26 (.tmp 3) rfl 0 _ _ _ _ rfl _ Try.underlying26 rfl Try.szN5 _ _); rotate_left 2; (focus exact rfl)) | ((with_reducible refine' quiet_load_ptg K 26 (.tmp 14) rfl 1 _ _ 16 16 _ _ _ rfl _ Try.underlying26 rfl Try.szN5 _ pYA (Sz.n sYA) _); rotate_left 2; (focus exact rfl))); simp only [Act.put, List.setIfInBounds_toArray, List.set_cons_zero, List.set_cons_succ]; go_big_quiet_on)) | go_big_quiet_step ((first | (go_at_call 23; with_reducible exact Calls.keepg (M1 _)) | (go_at_call 23; with_reducible exact Calls.keepg (M2 _)))) | quiet_step ((first | (go_at_call 23; with_reducible exact Calls.keepg (M1 _)) | (go_at_call 23; with_reducible exact Calls.keepg (M2 _))))))
    exact wpQuiet_nil rfl
  case fin2 =>
    intro gs wz Kz
    clear K
    have K := Kz
    clear Kz
    try simp only [mkAll, asObj, List.map_cons, List.map_nil, putAll, List.drop_succ_cons, List.drop_zero, List.length_cons, List.length_nil, Nat.zero_add, Nat.add_zero] at K ⊢
    try simp only [Act.put, List.setIfInBounds_toArray, List.set_cons_zero, List.set_cons_succ]
    generalize gs 0 = gz0 at *
    generalize gs 1 = gz1 at *
    go_wp2_with (first
      | (go_at_call 31; (with_reducible refine Calls.kn K (BY _) ?_); intro wz Kz; clear K; have K := Kz; clear Kz; have kc := HCV.out wz; have c4 := (K.call (own_str_fr wz SC)).cell 1 rfl 0 HX.out; have ks := HCS.out wz (grownCap wz SC.size 0 5); generalize hcap : grownCap wz SC.size 0 5 = cap at *; clear hcap)
      | (focus (first | ((with_reducible refine' wpList_load_kn K rfl 26 (.tmp 5) rfl 0 _ _ _ _ rfl _ Try.underlying26 rfl Try.szN5 _ _); rotate_left 2; (focus exact rfl))))
      | (focus ((first | ((with_reducible refine' wpList_store_kn K rfl 26 (.tmp 4) _ rfl 1 _ _ _ _ _ rfl rfl Try.szN5 _ _ _); rotate_left 2; (focus exact rfl)) | ((with_reducible refine' wpList_store_kn K rfl 26 (.tmp 5) _ rfl 0 _ _ _ _ _ rfl rfl Try.szN5 _ _ _); rotate_left 2; (focus exact rfl))); (focus assumption); intro wz Kz; clear K; have K := Kz; clear Kz; simp only [List.set_cons_zero, List.set_cons_succ] at K; try (simp only [Act.put, List.setIfInBounds_toArray, List.set_cons_zero, List.set_cons_succ])))
      | (go_at_call 31; (with_reducible refine Calls.kn K (BY _) ?_); intro wz Kz; clear K; have K := Kz; clear Kz))
    go_ret
    exact ⟨rfl, (K.fr.trans (own_str_fr wz SC) (fun _ h => h.elim))⟩
end Go.Proofs.Ytahnlnflcgehaaa

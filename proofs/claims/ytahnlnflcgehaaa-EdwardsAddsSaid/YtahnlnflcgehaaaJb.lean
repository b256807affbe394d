/-
  The contracts of the sums of wide points of package edwards, over what their callees answer.
-/
import Derived.Test.YtahnlnflcgehaaaKo
import Derived.Test.YtahnlnflcgehaaaQe
namespace Go.Proofs.Ytahnlnflcgehaaa
open Go.RowKit Pri
set_option linter.unusedVariables false
set_option linter.unusedSimpArgs false

theorem Try.szWd : (Try.prog.info? 121).map (·.size) = some 16 := by kernel_rfl
theorem Try.alWd : ∀ w, (Instr.alloc 121 true (.tuple #[])).run Try.prog w = .ok (.pointer (some ⟨w.heap.size, 0, none⟩)) (w.alloc (.cells #[.int .u64 0, .int .u64 0, .int .u64 0, .int .u64 0, .int .u64 0, .int .u64 0, .int .u64 0, .int .u64 0, .int .u64 0, .int .u64 0, .int .u64 0, .int .u64 0, .int .u64 0, .int .u64 0, .int .u64 0, .int .u64 0] 121)) := fun w => by kernel_rfl
theorem Try.szPt : (Try.prog.info? 72).map (·.size) = some 8 := by kernel_rfl
theorem Try.alPt : ∀ w, (Instr.alloc 72 true (.tuple #[])).run Try.prog w = .ok (.pointer (some ⟨w.heap.size, 0, none⟩)) (w.alloc (.cells #[.int .u64 0, .int .u64 0, .int .u64 0, .int .u64 0, .int .u64 0, .int .u64 0, .int .u64 0, .int .u64 0] 72)) := fun w => by kernel_rfl
def dD2 : Nat := 16295367250680780974490674513165176452449235426866156013048779062215315747161
theorem nc_dD : nc dD = #[.int .u64 8496970652267935907, .int .u64 31536524315187371, .int .u64 10144147576115030168, .int .u64 5909686906226998899] := by
  have := nc_of 8496970652267935907 31536524315187371 10144147576115030168 5909686906226998899 (by decide) (by decide) (by decide) (by decide)
  rw [show nv 8496970652267935907 31536524315187371 10144147576115030168 5909686906226998899 = dD from by decide +kernel] at this
  exact this.symm
theorem nc_dD2 : nc dD2 = #[.int .u64 16993941304535871833, .int .u64 63073048630374742, .int .u64 1841551078520508720, .int .u64 2596001775599221991] := by
  have := nc_of 16993941304535871833 63073048630374742 1841551078520508720 2596001775599221991 (by decide) (by decide) (by decide) (by decide)
  rw [show nv 16993941304535871833 63073048630374742 1841551078520508720 2596001775599221991 = dD2 from by decide +kernel] at this
  exact this.symm
set_option maxRecDepth 100000 in
theorem bend_any (w : World) : Calls Try.prog 116 #[] w fun e w' => e = .returned (.agg (nc dD)) ∧ Fr (fun _ => False) w w' := by
  rw [nc_dD]
  go_enter Try.func116, Try.ntmps116
  go_wp2
  refine bodyPost_ret (results_cell_row rfl _ _ w.heap.size 24 _ (0, 0) _ rfl (heap_alloc_new w _) Try.underlying24 rfl Try.szEl) rfl ?_
  exact ⟨rfl, (Fr.refl _ w).alloc _⟩
set_option maxRecDepth 100000 in
theorem bend2_any (w : World) : Calls Try.prog 115 #[] w fun e w' => e = .returned (.agg (nc dD2)) ∧ Fr (fun _ => False) w w' := by
  rw [nc_dD2]
  go_enter Try.func115, Try.ntmps115
  go_wp2
  refine bodyPost_ret (results_cell_row rfl _ _ w.heap.size 24 _ (0, 0) _ rfl (heap_alloc_new w _) Try.underlying24 rfl Try.szEl) rfl ?_
  exact ⟨rfl, (Fr.refl _ w).alloc _⟩
set_option maxRecDepth 100000 in
theorem built_wide {X Y Z T : Array Value} (hX : Sz 4 X) (hY : Sz 4 Y) (hZ : Sz 4 Z) (hT : Sz 4 T) : Try.prog.built 121 [(0, .agg X), (1, .agg Y), (2, .agg Z), (3, .agg T)] = some (cat4 X Y Z T) := by
  obtain ⟨a0, a1, a2, a3, rfl⟩ := arr4 hX.1
  obtain ⟨b0, b1, b2, b3, rfl⟩ := arr4 hY.1
  obtain ⟨c0, c1, c2, c3, rfl⟩ := arr4 hZ.1
  obtain ⟨d0, d1, d2, d3, rfl⟩ := arr4 hT.1
  kernel_rfl
set_option maxRecDepth 100000 in
theorem built_point {X Y : Array Value} (hX : Sz 4 X) (hY : Sz 4 Y) : Try.prog.built 72 [(0, .agg X), (1, .agg Y)] = some (cat2 X Y) := by
  obtain ⟨a0, a1, a2, a3, rfl⟩ := arr4 hX.1
  obtain ⟨b0, b1, b2, b3, rfl⟩ := arr4 hY.1
  kernel_rfl
set_option maxRecDepth 100000 in
set_option maxHeartbeats 3200000 in
theorem wadd_op (A B XA YA ZA TA XB YB ZB TB U1 U2 V1 V2 W1 D2 Z2 a b c d e f g h X3 Y3 Z3 T3 : Array Value) (w : World)
    (S1 : Ans Try.prog 20 #[.agg YA, .agg XA] (.agg U1))
    (S2 : Ans Try.prog 20 #[.agg YB, .agg XB] (.agg U2))
    (M1 : Ans Try.prog 22 #[.agg U1, .agg U2] (.agg a))
    (A1 : Ans Try.prog 18 #[.agg YA, .agg XA] (.agg V1))
    (A2 : Ans Try.prog 18 #[.agg YB, .agg XB] (.agg V2))
    (M2 : Ans Try.prog 22 #[.agg V1, .agg V2] (.agg b))
    (M3 : Ans Try.prog 22 #[.agg TA, .agg TB] (.agg W1))
    (TB_ : Ans Try.prog 115 #[] (.agg D2))
    (M4 : Ans Try.prog 22 #[.agg W1, .agg D2] (.agg c))
    (A3 : Ans Try.prog 18 #[.agg ZB, .agg ZB] (.agg Z2))
    (M5 : Ans Try.prog 22 #[.agg ZA, .agg Z2] (.agg d))
    (S3 : Ans Try.prog 20 #[.agg b, .agg a] (.agg e))
    (S4 : Ans Try.prog 20 #[.agg d, .agg c] (.agg f))
    (A4 : Ans Try.prog 18 #[.agg d, .agg c] (.agg g))
    (A5 : Ans Try.prog 18 #[.agg b, .agg a] (.agg h))
    (M6 : Ans Try.prog 22 #[.agg e, .agg f] (.agg X3))
    (M7 : Ans Try.prog 22 #[.agg g, .agg h] (.agg Y3))
    (M8 : Ans Try.prog 22 #[.agg f, .agg g] (.agg Z3))
    (M9 : Ans Try.prog 22 #[.agg e, .agg h] (.agg T3))
    (pXA : Part A 0 XA) (pYA : Part A 4 YA) (pZA : Part A 8 ZA) (pTA : Part A 12 TA) (pXB : Part B 0 XB) (pYB : Part B 4 YB) (pZB : Part B 8 ZB) (pTB : Part B 12 TB)
    (sA : Sz 16 A) (sB : Sz 16 B) (sXA : Sz 4 XA) (sYA : Sz 4 YA) (sZA : Sz 4 ZA) (sTA : Sz 4 TA) (sXB : Sz 4 XB) (sYB : Sz 4 YB) (sZB : Sz 4 ZB) (sTB : Sz 4 TB) (sa : Sz 4 a) (sb : Sz 4 b) (sc : Sz 4 c) (sd : Sz 4 d) (se : Sz 4 e) (sf : Sz 4 f) (sg : Sz 4 g) (sh : Sz 4 h) (sX3 : Sz 4 X3) (sY3 : Sz 4 Y3) (sZ3 : Sz 4 Z3) (sT3 : Sz 4 T3) :
    Calls Try.prog 102 #[.agg A, .agg B] w fun e w' => e = .returned (.agg (cat4 X3 Y3 Z3 T3)) ∧ Fr (fun _ => False) w w' := by
  have hbw := built_wide sX3 sY3 sZ3 sT3
  have sR : Sz 16 (cat4 X3 Y3 Z3 T3) := sz4 sX3 sY3 sZ3 sT3
  have K := ((((Kn.start w).new (w.heap.size) 16 A 121 rfl sA.1).new (w.heap.size + 1) 16 B 121 (by simp) sB.1).new (w.heap.size + 1 + 1) 16 #[.int .u64 0, .int .u64 0, .int .u64 0, .int .u64 0, .int .u64 0, .int .u64 0, .int .u64 0, .int .u64 0, .int .u64 0, .int .u64 0, .int .u64 0, .int .u64 0, .int .u64 0, .int .u64 0, .int .u64 0, .int .u64 0] 121 (by simp) rfl)
  go_enter Try.func102, Try.ntmps102
  go_wp2_with fail
  refine wp_region_kn_tail K 11 [(5, 4, #[.int .u64 0, .int .u64 0, .int .u64 0, .int .u64 0], 24)] (by kernel_rfl) (by kernel_rfl) (mk_one ⟨_, rfl, makes_alloc _ _ _ _ _ _ Try.alEl⟩) (sz_one rfl) ?_
  apply Exists.intro
  refine ⟨?wk1, ?fin1⟩
  case wk1 =>
    intro γ
  
    simp only [List.take_succ_cons, List.take_zero]
    repeat (any_goals (first | (focus (go_big_quiet_want; (first | ((with_reducible refine' quiet_load_ptg K 24 (.tmp 13) rfl 2 _ _ 4 4 _ _ _ rfl _ Try.underlying24 rfl Try.szEl _ pYA (Sz.n sYA) _); rotate_left 2; (focus exact rfl)) | ((with_reducible refine' quiet_load_ptg K 24 (.tmp 15) rfl 2 _ _ 0 4 _ _ _ rfl _ Try.underlying24 rfl Try.szEl _ pXA (Sz.n sXA) _); rotate_left 2; (focus exact rfl)) | ((with_reducible refine' quiet_load_ptg K 24 (.tmp 18) rfl 1 _ _ 4 4 _ _ _ rfl _ Try.underlying24 rfl Try.szEl _ pYB (Sz.n sYB) _); rotate_left 2; (focus exact rfl)) | ((with_reducible refine' quiet_load_ptg K 24 (.tmp 20) rfl 1 _ _ 0 4 _ _ _ rfl _ Try.underlying24 rfl Try.szEl _ pXB (Sz.n sXB) _); rotate_left 2; (focus exact rfl))); simp only [Act.put, List.setIfInBounds_toArray, List.set_cons_zero, List.set_cons_succ]; go_big_quiet_on)) | go_big_quiet_step ((first | (go_at_call 20; with_reducible exact Calls.keepg (S1 _)) | (go_at_call 20; with_reducible exact Calls.keepg (S2 _)) | (go_at_call 22; with_reducible exact Calls.keepg (M1 _)) | (go_at_call 22; with_reducible exact Calls.keepg (M2 _)) | (go_at_call 22; with_reducible exact Calls.keepg (M3 _)) | (go_at_call 22; with_reducible exact Calls.keepg (M4 _)) | (go_at_call 22; with_reducible exact Calls.keepg (M5 _)) | (go_at_call 20; with_reducible exact Calls.keepg (S3 _)) | (go_at_call 20; with_reducible exact Calls.keepg (S4 _)) | (go_at_call 22; with_reducible exact Calls.keepg (M6 _)) | (go_at_call 22; with_reducible exact Calls.keepg (M7 _)) | (go_at_call 22; with_reducible exact Calls.keepg (M8 _)) | (go_at_call 22; with_reducible exact Calls.keepg (M9 _)))) | quiet_step ((first | (go_at_call 20; with_reducible exact Calls.keepg (S1 _)) | (go_at_call 20; with_reducible exact Calls.keepg (S2 _)) | (go_at_call 22; with_reducible exact Calls.keepg (M1 _)) | (go_at_call 22; with_reducible exact Calls.keepg (M2 _)) | (go_at_call 22; with_reducible exact Calls.keepg (M3 _)) | (go_at_call 22; with_reducible exact Calls.keepg (M4 _)) | (go_at_call 22; with_reducible exact Calls.keepg (M5 _)) | (go_at_call 20; with_reducible exact Calls.keepg (S3 _)) | (go_at_call 20; with_reducible exact Calls.keepg (S4 _)) | (go_at_call 22; with_reducible exact Calls.keepg (M6 _)) | (go_at_call 22; with_reducible exact Calls.keepg (M7 _)) | (go_at_call 22; with_reducible exact Calls.keepg (M8 _)) | (go_at_call 22; with_reducible exact Calls.keepg (M9 _))))))
    exact wpQuiet_nil rfl
  case fin1 =>
    intro gs wz Kz
    clear K
    have K := Kz
    clear Kz
    try simp only [mkAll, asObj, List.map_cons, List.map_nil, putAll, List.drop_succ_cons, List.drop_zero, List.length_cons, List.length_nil, Nat.zero_add, Nat.add_zero] at K ⊢
    try simp only [Act.put, List.setIfInBounds_toArray, List.set_cons_zero, List.set_cons_succ]
    generalize gs 0 = gz0 at *
    go_wp2_with (first
      | (focus ((first | ((with_reducible refine' wpList_store_kn K rfl 24 (.tmp 5) _ rfl 0 _ _ _ _ _ rfl rfl Try.szEl _ _ _); rotate_left 2; (focus exact rfl))); (focus assumption); intro wz Kz; clear K; have K := Kz; clear Kz; simp only [List.set_cons_zero, List.set_cons_succ] at K; try (simp only [Act.put, List.setIfInBounds_toArray, List.set_cons_zero, List.set_cons_succ]))))
    refine wp_region_kn_tail K 11 [(6, 4, #[.int .u64 0, .int .u64 0, .int .u64 0, .int .u64 0], 24)] (by kernel_rfl) (by kernel_rfl) (mk_one ⟨_, rfl, makes_alloc _ _ _ _ _ _ Try.alEl⟩) (sz_one rfl) ?_
    apply Exists.intro
    refine ⟨?wk2, ?fin2⟩
    case wk2 =>
      intro γ
  
      simp only [List.take_succ_cons, List.take_zero]
      repeat (any_goals (first | (focus (go_big_quiet_want; (first | ((with_reducible refine' quiet_load_ptg K 24 (.tmp 24) rfl 3 _ _ 4 4 _ _ _ rfl _ Try.underlying24 rfl Try.szEl _ pYA (Sz.n sYA) _); rotate_left 2; (focus exact rfl)) | ((with_reducible refine' quiet_load_ptg K 24 (.tmp 26) rfl 3 _ _ 0 4 _ _ _ rfl _ Try.underlying24 rfl Try.szEl _ pXA (Sz.n sXA) _); rotate_left 2; (focus exact rfl)) | ((with_reducible refine' quiet_load_ptg K 24 (.tmp 29) rfl 2 _ _ 4 4 _ _ _ rfl _ Try.underlying24 rfl Try.szEl _ pYB (Sz.n sYB) _); rotate_left 2; (focus exact rfl)) | ((with_reducible refine' quiet_load_ptg K 24 (.tmp 31) rfl 2 _ _ 0 4 _ _ _ rfl _ Try.underlying24 rfl Try.szEl _ pXB (Sz.n sXB) _); rotate_left 2; (focus exact rfl))); simp only [Act.put, List.setIfInBounds_toArray, List.set_cons_zero, List.set_cons_succ]; go_big_quiet_on)) | go_big_quiet_step ((first | (go_at_call 22; with_reducible exact Calls.keepg (M1 _)) | (go_at_call 18; with_reducible exact Calls.keepg (A1 _)) | (go_at_call 18; with_reducible exact Calls.keepg (A2 _)) | (go_at_call 22; with_reducible exact Calls.keepg (M2 _)) | (go_at_call 22; with_reducible exact Calls.keepg (M3 _)) | (go_at_call 22; with_reducible exact Calls.keepg (M4 _)) | (go_at_call 18; with_reducible exact Calls.keepg (A3 _)) | (go_at_call 22; with_reducible exact Calls.keepg (M5 _)) | (go_at_call 18; with_reducible exact Calls.keepg (A4 _)) | (go_at_call 18; with_reducible exact Calls.keepg (A5 _)) | (go_at_call 22; with_reducible exact Calls.keepg (M6 _)) | (go_at_call 22; with_reducible exact Calls.keepg (M7 _)) | (go_at_call 22; with_reducible exact Calls.keepg (M8 _)) | (go_at_call 22; with_reducible exact Calls.keepg (M9 _)))) | quiet_step ((first | (go_at_call 22; with_reducible exact Calls.keepg (M1 _)) | (go_at_call 18; with_reducible exact Calls.keepg (A1 _)) | (go_at_call 18; with_reducible exact Calls.keepg (A2 _)) | (go_at_call 22; with_reducible exact Calls.keepg (M2 _)) | (go_at_call 22; with_reducible exact Calls.keepg (M3 _)) | (go_at_call 22; with_reducible exact Calls.keepg (M4 _)) | (go_at_call 18; with_reducible exact Calls.keepg (A3 _)) | (go_at_call 22; with_reducible exact Calls.keepg (M5 _)) | (go_at_call 18; with_reducible exact Calls.keepg (A4 _)) | (go_at_call 18; with_reducible exact Calls.keepg (A5 _)) | (go_at_call 22; with_reducible exact Calls.keepg (M6 _)) | (go_at_call 22; with_reducible exact Calls.keepg (M7 _)) | (go_at_call 22; with_reducible exact Calls.keepg (M8 _)) | (go_at_call 22; with_reducible exact Calls.keepg (M9 _))))))
      exact wpQuiet_nil rfl
    case fin2 =>
      intro gs wz Kz
      clear K
      have K := Kz
      clear Kz
      try simp only [mkAll, asObj, List.map_cons, List.map_nil, putAll, List.drop_succ_cons, List.drop_zero, List.length_cons, List.length_nil, Nat.zero_add, Nat.add_zero] at K ⊢
      try simp only [Act.put, List.setIfInBounds_toArray, List.set_cons_zero, List.set_cons_succ]
      generalize gs 0 = gz0 at *
      go_wp2_with (first
        | (focus (first | ((with_reducible refine' wpList_load_pt K rfl 24 (.tmp 35) rfl 4 _ _ 12 4 _ _ _ rfl _ Try.underlying24 rfl Try.szEl _ pTA (Sz.n sTA) _); rotate_left 2; (focus exact rfl)) | ((with_reducible refine' wpList_load_pt K rfl 24 (.tmp 37) rfl 3 _ _ 12 4 _ _ _ rfl _ Try.underlying24 rfl Try.szEl _ pTB (Sz.n sTB) _); rotate_left 2; (focus exact rfl))))
        | (focus ((first | ((with_reducible refine' wpList_store_kn K rfl 24 (.tmp 6) _ rfl 0 _ _ _ _ _ rfl rfl Try.szEl _ _ _); rotate_left 2; (focus exact rfl)) | ((with_reducible refine' wpList_store_kn K rfl 24 (.tmp 7) _ rfl 0 _ _ _ _ _ rfl rfl Try.szEl _ _ _); rotate_left 2; (focus exact rfl))); (focus assumption); intro wz Kz; clear K; have K := Kz; clear Kz; simp only [List.set_cons_zero, List.set_cons_succ] at K; try (simp only [Act.put, List.setIfInBounds_toArray, List.set_cons_zero, List.set_cons_succ])))
        | ((with_reducible refine wpList_new_kn K 24 _ _ _ _ #[.int .u64 0, .int .u64 0, .int .u64 0, .int .u64 0] 4 rfl Try.alEl rfl ?_); intro gz wz Kz; clear K; have K := Kz; clear Kz; try (simp only [Act.put, List.setIfInBounds_toArray, List.set_cons_zero, List.set_cons_succ]))
        | (go_at_call 22; (with_reducible refine Calls.kn K (M1 _) ?_); intro wz Kz; clear K; have K := Kz; clear Kz)
        | (go_at_call 22; (with_reducible refine Calls.kn K (M2 _) ?_); intro wz Kz; clear K; have K := Kz; clear Kz)
        | (go_at_call 22; (with_reducible refine Calls.kn K (M3 _) ?_); intro wz Kz; clear K; have K := Kz; clear Kz)
        | (go_at_call 22; (with_reducible refine Calls.kn K (M4 _) ?_); intro wz Kz; clear K; have K := Kz; clear Kz)
        | (go_at_call 22; (with_reducible refine Calls.kn K (M5 _) ?_); intro wz Kz; clear K; have K := Kz; clear Kz)
        | (go_at_call 22; (with_reducible refine Calls.kn K (M6 _) ?_); intro wz Kz; clear K; have K := Kz; clear Kz)
        | (go_at_call 22; (with_reducible refine Calls.kn K (M7 _) ?_); intro wz Kz; clear K; have K := Kz; clear Kz)
        | (go_at_call 22; (with_reducible refine Calls.kn K (M8 _) ?_); intro wz Kz; clear K; have K := Kz; clear Kz)
        | (go_at_call 22; (with_reducible refine Calls.kn K (M9 _) ?_); intro wz Kz; clear K; have K := Kz; clear Kz)
        | (go_at_call 115; (with_reducible refine Calls.kn K (TB_ _) ?_); intro wz Kz; clear K; have K := Kz; clear Kz))
      refine wp_region_kn_tail K 8 [(8, 4, #[.int .u64 0, .int .u64 0, .int .u64 0, .int .u64 0], 24)] (by kernel_rfl) (by kernel_rfl) (mk_one ⟨_, rfl, makes_alloc _ _ _ _ _ _ Try.alEl⟩) (sz_one rfl) ?_
      apply Exists.intro
      refine ⟨?wk4, ?fin4⟩
      case wk4 =>
        intro γ
  
        simp only [List.take_succ_cons, List.take_zero]
        repeat (any_goals (first | (focus (go_big_quiet_want; (first | ((with_reducible refine' quiet_load_ptg K 24 (.tmp 42) rfl 5 _ _ 8 4 _ _ _ rfl _ Try.underlying24 rfl Try.szEl _ pZA (Sz.n sZA) _); rotate_left 2; (focus exact rfl)) | ((with_reducible refine' quiet_load_ptg K 24 (.tmp 44) rfl 4 _ _ 8 4 _ _ _ rfl _ Try.underlying24 rfl Try.szEl _ pZB (Sz.n sZB) _); rotate_left 2; (focus exact rfl)) | ((with_reducible refine' quiet_load_ptg K 24 (.tmp 46) rfl 4 _ _ 8 4 _ _ _ rfl _ Try.underlying24 rfl Try.szEl _ pZB (Sz.n sZB) _); rotate_left 2; (focus exact rfl))); simp only [Act.put, List.setIfInBounds_toArray, List.set_cons_zero, List.set_cons_succ]; go_big_quiet_on)) | go_big_quiet_step ((first | (go_at_call 22; with_reducible exact Calls.keepg (M1 _)) | (go_at_call 18; with_reducible exact Calls.keepg (A1 _)) | (go_at_call 18; with_reducible exact Calls.keepg (A2 _)) | (go_at_call 22; with_reducible exact Calls.keepg (M2 _)) | (go_at_call 22; with_reducible exact Calls.keepg (M3 _)) | (go_at_call 22; with_reducible exact Calls.keepg (M4 _)) | (go_at_call 18; with_reducible exact Calls.keepg (A3 _)) | (go_at_call 22; with_reducible exact Calls.keepg (M5 _)) | (go_at_call 18; with_reducible exact Calls.keepg (A4 _)) | (go_at_call 18; with_reducible exact Calls.keepg (A5 _)) | (go_at_call 22; with_reducible exact Calls.keepg (M6 _)) | (go_at_call 22; with_reducible exact Calls.keepg (M7 _)) | (go_at_call 22; with_reducible exact Calls.keepg (M8 _)) | (go_at_call 22; with_reducible exact Calls.keepg (M9 _)))) | quiet_step ((first | (go_at_call 22; with_reducible exact Calls.keepg (M1 _)) | (go_at_call 18; with_reducible exact Calls.keepg (A1 _)) | (go_at_call 18; with_reducible exact Calls.keepg (A2 _)) | (go_at_call 22; with_reducible exact Calls.keepg (M2 _)) | (go_at_call 22; with_reducible exact Calls.keepg (M3 _)) | (go_at_call 22; with_reducible exact Calls.keepg (M4 _)) | (go_at_call 18; with_reducible exact Calls.keepg (A3 _)) | (go_at_call 22; with_reducible exact Calls.keepg (M5 _)) | (go_at_call 18; with_reducible exact Calls.keepg (A4 _)) | (go_at_call 18; with_reducible exact Calls.keepg (A5 _)) | (go_at_call 22; with_reducible exact Calls.keepg (M6 _)) | (go_at_call 22; with_reducible exact Calls.keepg (M7 _)) | (go_at_call 22; with_reducible exact Calls.keepg (M8 _)) | (go_at_call 22; with_reducible exact Calls.keepg (M9 _))))))
        exact wpQuiet_nil rfl
      case fin4 =>
        intro gs wz Kz
        clear K
        have K := Kz
        clear Kz
        try simp only [mkAll, asObj, List.map_cons, List.map_nil, putAll, List.drop_succ_cons, List.drop_zero, List.length_cons, List.length_nil, Nat.zero_add, Nat.add_zero] at K ⊢
        try simp only [Act.put, List.setIfInBounds_toArray, List.set_cons_zero, List.set_cons_succ]
        generalize gs 0 = gz0 at *
        go_wp2_with (first
          | (focus ((first | ((with_reducible refine' wpList_store_kn K rfl 24 (.tmp 8) _ rfl 0 _ _ _ _ _ rfl rfl Try.szEl _ _ _); rotate_left 2; (focus exact rfl))); (focus assumption); intro wz Kz; clear K; have K := Kz; clear Kz; simp only [List.set_cons_zero, List.set_cons_succ] at K; try (simp only [Act.put, List.setIfInBounds_toArray, List.set_cons_zero, List.set_cons_succ]))))
        refine wp_region_kn_tail K 12 [(9, 4, #[.int .u64 0, .int .u64 0, .int .u64 0, .int .u64 0], 24), (10, 4, #[.int .u64 0, .int .u64 0, .int .u64 0, .int .u64 0], 24), (11, 4, #[.int .u64 0, .int .u64 0, .int .u64 0, .int .u64 0], 24), (12, 4, #[.int .u64 0, .int .u64 0, .int .u64 0, .int .u64 0], 24)] (by kernel_rfl) (by kernel_rfl) (mk_four ⟨_, rfl, makes_alloc _ _ _ _ _ _ Try.alEl⟩ ⟨_, rfl, makes_alloc _ _ _ _ _ _ Try.alEl⟩ ⟨_, rfl, makes_alloc _ _ _ _ _ _ Try.alEl⟩ ⟨_, rfl, makes_alloc _ _ _ _ _ _ Try.alEl⟩) (sz_four rfl rfl rfl rfl) ?_
        apply Exists.intro
        refine ⟨?wk5, ?fin5⟩
        case wk5 =>
          intro γ
  
          simp only [List.take_succ_cons, List.take_zero]
          repeat (any_goals (first | (focus (go_big_quiet_want; (first | ((with_reducible refine' quiet_load_kng K 24 (.tmp 6) rfl 2 _ _ _ _ rfl _ Try.underlying24 rfl Try.szEl _ _); rotate_left 2; (focus exact rfl)) | ((with_reducible refine' quiet_load_kng K 24 (.tmp 5) rfl 3 _ _ _ _ rfl _ Try.underlying24 rfl Try.szEl _ _); rotate_left 2; (focus exact rfl)) | ((with_reducible refine' quiet_load_kng K 24 (.tmp 8) rfl 0 _ _ _ _ rfl _ Try.underlying24 rfl Try.szEl _ _); rotate_left 2; (focus exact rfl)) | ((with_reducible refine' quiet_load_kng K 24 (.tmp 7) rfl 1 _ _ _ _ rfl _ Try.underlying24 rfl Try.szEl _ _); rotate_left 2; (focus exact rfl))); simp only [Act.put, List.setIfInBounds_toArray, List.set_cons_zero, List.set_cons_succ]; go_big_quiet_on)) | go_big_quiet_step ((first | (go_at_call 20; with_reducible exact Calls.keepg (S1 _)) | (go_at_call 20; with_reducible exact Calls.keepg (S2 _)) | (go_at_call 18; with_reducible exact Calls.keepg (A1 _)) | (go_at_call 18; with_reducible exact Calls.keepg (A2 _)) | (go_at_call 18; with_reducible exact Calls.keepg (A3 _)) | (go_at_call 20; with_reducible exact Calls.keepg (S3 _)) | (go_at_call 20; with_reducible exact Calls.keepg (S4 _)) | (go_at_call 18; with_reducible exact Calls.keepg (A4 _)) | (go_at_call 18; with_reducible exact Calls.keepg (A5 _)))) | quiet_step ((first | (go_at_call 20; with_reducible exact Calls.keepg (S1 _)) | (go_at_call 20; with_reducible exact Calls.keepg (S2 _)) | (go_at_call 18; with_reducible exact Calls.keepg (A1 _)) | (go_at_call 18; with_reducible exact Calls.keepg (A2 _)) | (go_at_call 18; with_reducible exact Calls.keepg (A3 _)) | (go_at_call 20; with_reducible exact Calls.keepg (S3 _)) | (go_at_call 20; with_reducible exact Calls.keepg (S4 _)) | (go_at_call 18; with_reducible exact Calls.keepg (A4 _)) | (go_at_call 18; with_reducible exact Calls.keepg (A5 _))))))
          exact wpQuiet_nil rfl
        case fin5 =>
          intro gs wz Kz
          clear K
          have K := Kz
          clear Kz
          try simp only [mkAll, asObj, List.map_cons, List.map_nil, putAll, List.drop_succ_cons, List.drop_zero, List.length_cons, List.length_nil, Nat.zero_add, Nat.add_zero] at K ⊢
          try simp only [Act.put, List.setIfInBounds_toArray, List.set_cons_zero, List.set_cons_succ]
          generalize gs 0 = gz0 at *
          generalize gs 1 = gz1 at *
          generalize gs 2 = gz2 at *
          generalize gs 3 = gz3 at *
          go_wp2_with (first
            | (focus ((first | ((with_reducible refine' wpList_store_kn K rfl 24 (.tmp 9) _ rfl 3 _ _ _ _ _ rfl rfl Try.szEl _ _ _); rotate_left 2; (focus exact rfl)) | ((with_reducible refine' wpList_store_kn K rfl 24 (.tmp 10) _ rfl 2 _ _ _ _ _ rfl rfl Try.szEl _ _ _); rotate_left 2; (focus exact rfl)) | ((with_reducible refine' wpList_store_kn K rfl 24 (.tmp 11) _ rfl 1 _ _ _ _ _ rfl rfl Try.szEl _ _ _); rotate_left 2; (focus exact rfl)) | ((with_reducible refine' wpList_store_kn K rfl 24 (.tmp 12) _ rfl 0 _ _ _ _ _ rfl rfl Try.szEl _ _ _); rotate_left 2; (focus exact rfl))); (focus assumption); intro wz Kz; clear K; have K := Kz; clear Kz; simp only [List.set_cons_zero, List.set_cons_succ] at K; try (simp only [Act.put, List.setIfInBounds_toArray, List.set_cons_zero, List.set_cons_succ]))))
          refine wp_region_kn_tail K 13 [] (by kernel_rfl) (by kernel_rfl) mk_nil sz_nil ?_
          apply Exists.intro
          refine ⟨?wk6, ?fin6⟩
          case wk6 =>
            intro γ
  
            simp only [List.take_succ_cons, List.take_zero]
            repeat (any_goals (first | (focus (go_big_quiet_want; (first | ((with_reducible refine' quiet_load_kng K 24 (.tmp 9) rfl 3 _ _ _ _ rfl _ Try.underlying24 rfl Try.szEl _ _); rotate_left 2; (focus exact rfl)) | ((with_reducible refine' quiet_load_kng K 24 (.tmp 10) rfl 2 _ _ _ _ rfl _ Try.underlying24 rfl Try.szEl _ _); rotate_left 2; (focus exact rfl)) | ((with_reducible refine' quiet_load_kng K 24 (.tmp 11) rfl 1 _ _ _ _ rfl _ Try.underlying24 rfl Try.szEl _ _); rotate_left 2; (focus exact rfl)) | ((with_reducible refine' quiet_load_kng K 24 (.tmp 12) rfl 0 _ _ _ _ rfl _ Try.underlying24 rfl Try.szEl _ _); rotate_left 2; (focus exact rfl)) | (with_reducible refine' quiet_build4 121 _ _ _ _ _ _ _ _ _ _ _ _ rfl _ hbw rfl rfl rfl rfl _)); simp only [Act.put, List.setIfInBounds_toArray, List.set_cons_zero, List.set_cons_succ]; go_big_quiet_on)) | go_big_quiet_step ((first | (go_at_call 22; with_reducible exact Calls.keepg (M1 _)) | (go_at_call 22; with_reducible exact Calls.keepg (M2 _)) | (go_at_call 22; with_reducible exact Calls.keepg (M3 _)) | (go_at_call 22; with_reducible exact Calls.keepg (M4 _)) | (go_at_call 22; with_reducible exact Calls.keepg (M5 _)) | (go_at_call 22; with_reducible exact Calls.keepg (M6 _)) | (go_at_call 22; with_reducible exact Calls.keepg (M7 _)) | (go_at_call 22; with_reducible exact Calls.keepg (M8 _)) | (go_at_call 22; with_reducible exact Calls.keepg (M9 _)))) | quiet_step ((first | (go_at_call 22; with_reducible exact Calls.keepg (M1 _)) | (go_at_call 22; with_reducible exact Calls.keepg (M2 _)) | (go_at_call 22; with_reducible exact Calls.keepg (M3 _)) | (go_at_call 22; with_reducible exact Calls.keepg (M4 _)) | (go_at_call 22; with_reducible exact Calls.keepg (M5 _)) | (go_at_call 22; with_reducible exact Calls.keepg (M6 _)) | (go_at_call 22; with_reducible exact Calls.keepg (M7 _)) | (go_at_call 22; with_reducible exact Calls.keepg (M8 _)) | (go_at_call 22; with_reducible exact Calls.keepg (M9 _))))))
            exact wpQuiet_nil rfl
          case fin6 =>
            intro gs wz Kz
            clear K
            have K := Kz
            clear Kz
            try simp only [mkAll, asObj, List.map_cons, List.map_nil, putAll, List.drop_succ_cons, List.drop_zero, List.length_cons, List.length_nil, Nat.zero_add, Nat.add_zero] at K ⊢
            try simp only [Act.put, List.setIfInBounds_toArray, List.set_cons_zero, List.set_cons_succ]

            go_wp2_with (first
              | (focus ((first | ((with_reducible refine' wpList_store_kn K rfl 121 (.tmp 4) _ rfl 8 _ _ _ _ _ rfl rfl Try.szWd _ _ _); rotate_left 2; (focus exact rfl))); (focus assumption); intro wz Kz; clear K; have K := Kz; clear Kz; simp only [List.set_cons_zero, List.set_cons_succ] at K; try (simp only [Act.put, List.setIfInBounds_toArray, List.set_cons_zero, List.set_cons_succ]))))
            refine bodyPost_ret (results_kn K rfl _ 8 _ _ _ _ rfl _ Try.underlying121 rfl Try.szWd rfl) rfl ?_
            exact ⟨rfl, K.fr⟩
end Go.Proofs.Ytahnlnflcgehaaa

/-
  The laws' of and same; the walk of the law FieldSums, over what its callees answer.
-/
import Derived.Test.YtnobobdgoccmcaaVh
import Derived.Test.YtnobobdgoccmcaaVd
import Derived.Test.YtnobobdgoccmcaaVf
import Derived.Test.YtnobobdgoccmcaaFk
import Derived.Deep.DeepCutAuto
namespace Go.Proofs.Ytnobobdgoccmcaa
open Go.RowKit Pri
set_option linter.unusedVariables false

theorem Try.alloc5 : ∀ w, (Instr.alloc 26 true (.tuple #[])).run Try.prog w = .ok (.pointer (some ⟨w.heap.size, 0, none⟩)) (w.alloc (.cells #[.int .i64 0, .int .i64 0, .int .i64 0, .int .i64 0, .int .i64 0, .int .i64 0, .int .i64 0, .int .i64 0, .int .i64 0, .int .i64 0, .int .i64 0, .int .i64 0, .int .i64 0, .int .i64 0, .int .i64 0, .int .i64 0] 26)) := fun w => by kernel_rfl
theorem Try.guardFour : Try.prog.eqGuardType Try.prog.depth 23 = false := by kernel_rfl
theorem Try.guardNum5 : Try.prog.eqGuardType Try.prog.depth 26 = false := by kernel_rfl
theorem eql_four (X : Nat) (hX : X < 115792089237316195423570985008687907853269984665640564039457584007913129639936) (w : World) : (binOp .eql 23 (.agg (nc X)) (.agg (nc X))).run Try.prog w = .ok (.bool true) w := by
  obtain ⟨a, b, c, d, _, _, _, _, hx, ex⟩ := nc_open X hX
  rw [ex]
  refine (eql_ints w 23 22 4 .u64 Try.underlying23 Try.underlying22 Try.sizeW [a, b, c, d] [a, b, c, d] rfl rfl).trans ?_
  rw [beq_self_eq_true]
theorem nd_list5 (A : Nat) : nd A = (((List.range 16).map fun j => (dig 65536 A j : Int)).map (Value.int .i64)).toArray := by
  unfold nd iq; rw [List.map_map]; rfl
theorem Try.sizeI5 : ∀ w, (sizeOf 3).run Try.prog w = .ok 1 w := by
  intro w
  have h : (Try.prog.info? 3).map (·.size) = some 1 := by kernel_rfl
  obtain ⟨i0, hi, hz⟩ := Option.map_eq_some_iff.1 h
  simp [sizeOf, typeInfo, hi, hz]
theorem eql_nd5 (X Y : Nat) (hX : X < 115792089237316195423570985008687907853269984665640564039457584007913129639936) (hY : Y < 115792089237316195423570985008687907853269984665640564039457584007913129639936) (w : World) : (binOp .eql 26 (.agg (nd X)) (.agg (nd Y))).run Try.prog w = .ok (.bool (decide (X = Y))) w := by
  rw [nd_list5, nd_list5, eql_ints w 26 3 16 .i64 Try.underlying26 Try.underlying3 Try.sizeI5 _ _ (by simp) (by simp)]
  congr 2
  rw [Bool.eq_iff_iff, beq_iff_eq, decide_eq_true_iff]
  constructor
  · intro h
    have e : val 65536 (dig 65536 X) 16 = val 65536 (dig 65536 Y) 16 := val_congr 65536 16 (fun j hj => by
      have := List.map_inj_left.1 h j (List.mem_range.2 hj)
      omega)
    rwa [val_dig, val_dig, b16, Nat.mod_eq_of_lt hX, Nat.mod_eq_of_lt hY] at e
  · rintro rfl; rfl
set_option maxRecDepth 100000 in
theorem lof5_any (X : Nat) (hX : X < 115792089237316195423570985008687907853269984665640564039457584007913129639936) (w : World) :
    Calls Try.prog 14 #[.agg (nc X)] w fun e w' => e = .returned (.agg (nd (X % p25519))) ∧ Fr (fun _ => False) w w' := by
  have OF := fun W => of5_any X hX W
  have sA : (Try.prog.info? 24).map (·.size) = some (nc X).size := by show _ = some 4; kernel_rfl
  have sR : (Try.prog.info? 26).map (·.size) = some (nd (X % p25519)).size := by rw [nd_size]; kernel_rfl
  have zR : (#[.int .i64 0, .int .i64 0, .int .i64 0, .int .i64 0, .int .i64 0, .int .i64 0, .int .i64 0, .int .i64 0, .int .i64 0, .int .i64 0, .int .i64 0, .int .i64 0, .int .i64 0, .int .i64 0, .int .i64 0, .int .i64 0] : Array Value).size = (nd (X % p25519)).size := by rw [nd_size]; rfl
  have oR : (nd (X % p25519)).all (·.oneCell') = true := iq_one 16 _
  generalize hRR : nd (X % p25519) = R at *
  generalize nc X = A at *
  have A0 := heap_alloc2_old w (.cells A 24) (.cells #[.int .i64 0, .int .i64 0, .int .i64 0, .int .i64 0, .int .i64 0, .int .i64 0, .int .i64 0, .int .i64 0, .int .i64 0, .int .i64 0, .int .i64 0, .int .i64 0, .int .i64 0, .int .i64 0, .int .i64 0, .int .i64 0] 26)
  have R0 := heap_alloc2_new w (.cells A 24) (.cells #[.int .i64 0, .int .i64 0, .int .i64 0, .int .i64 0, .int .i64 0, .int .i64 0, .int .i64 0, .int .i64 0, .int .i64 0, .int .i64 0, .int .i64 0, .int .i64 0, .int .i64 0, .int .i64 0, .int .i64 0, .int .i64 0] 26)
  have F0 := (((Fr.refl (fun _ => False) w).alloc (.cells A 24)).alloc (.cells #[.int .i64 0, .int .i64 0, .int .i64 0, .int .i64 0, .int .i64 0, .int .i64 0, .int .i64 0, .int .i64 0, .int .i64 0, .int .i64 0, .int .i64 0, .int .i64 0, .int .i64 0, .int .i64 0, .int .i64 0, .int .i64 0] 26))
  clear hRR hX
  go_enter Try.func14, Try.ntmps14
  go_wp2_with (with_reducible refine wpList_load_row rfl 24 (.tmp 1) rfl w.heap.size rfl 24 A (0, 0) _ A0 Try.underlying24 rfl sA ?_)
  refine (OF _).mono ?_
  rintro e w1 ⟨rfl, F1⟩
  have R3 := F1.keep R0
  have G3 := F0.trans F1 (fun _ h => h.elim)
  clear A0 R0 F0 F1
  go_wp2_with (with_reducible refine wpList_store_row rfl 26 (.tmp 2) (.tmp 4) rfl (w.heap.size + 1) R rfl rfl 26 #[.int .i64 0, .int .i64 0, .int .i64 0, .int .i64 0, .int .i64 0, .int .i64 0, .int .i64 0, .int .i64 0, .int .i64 0, .int .i64 0, .int .i64 0, .int .i64 0, .int .i64 0, .int .i64 0, .int .i64 0, .int .i64 0] R3 sR zR oR ?_)
  refine bodyPost_ret (results_cell_row rfl _ _ (w.heap.size + 1) 26 R (0, 0) _ rfl (setRow_heap _ _ _ _ _ _ R3) Try.underlying26 rfl sR) rfl ?_
  exact ⟨rfl, G3.trans (Fr.setRow (S := fun k => k = w.heap.size + 1) (Fr.refl _ _) rfl _) (fun i hi => Or.inr (by have : i = w.heap.size + 1 := hi; omega))⟩
set_option maxRecDepth 100000 in
set_option maxHeartbeats 1600000 in
theorem same5_op (A B : Array Value) (w : World)
    (PA : ∀ W : World, Calls Try.prog 75 #[.agg B] W fun e w' => e = .returned (.agg A) ∧ Fr (fun _ => False) W w')
    (EQ : ∀ W : World, (binOp .eql 23 (.agg A) (.agg A)).run Try.prog W = .ok (.bool true) W) (zA : A.size = 4) (zB : B.size = 16) :
    Calls Try.prog 16 #[.agg A, .agg B] w fun e w' => e = .returned (.bool true) ∧ Fr (fun _ => False) w w' := by
  have sA : (Try.prog.info? 24).map (·.size) = some A.size := by rw [zA]; kernel_rfl
  have sB : (Try.prog.info? 26).map (·.size) = some B.size := by rw [zB]; kernel_rfl
  have HA := Lib.hid (heap_alloc2_old w (.cells A 24) (.cells B 26))
  have HB := Lib.hid (heap_alloc2_new w (.cells A 24) (.cells B 26))
  have HF := Lib.hid (((Fr.refl (fun _ => False) w).alloc (.cells A 24)).alloc (.cells B 26))
  have EG := Try.guardFour
  clear zA zB
  go_enter Try.func16, Try.ntmps16
  go_wp2_with fail
  refine wp_region_keep (by kernel_rfl) (by kernel_rfl) ?_
  repeat (any_goals (first | (go_big_quiet_want; (with_reducible refine quiet_load_row 24 (.tmp 2) rfl w.heap.size rfl 24 A (0, 0) _ HA.out Try.underlying24 rfl sA ?_); simp only [Act.put, List.setIfInBounds_toArray, List.set_cons_zero, List.set_cons_succ]; go_big_quiet_on) | (go_big_quiet_want; (with_reducible refine quiet_load_row 26 (.tmp 3) rfl (w.heap.size + 1) rfl 26 B (0, 0) _ HB.out Try.underlying26 rfl sB ?_); simp only [Act.put, List.setIfInBounds_toArray, List.set_cons_zero, List.set_cons_succ]; go_big_quiet_on) | go_big_quiet_step (((first | (go_at_call 75; with_reducible exact Calls.keep (PA _))))) | quiet_step (((first | (go_at_call 75; with_reducible exact Calls.keep (PA _)))))))
  refine wpQuiet_nil ?_
  intro _ hw'
  obtain ⟨y, rfl⟩ := hw'
  go_wp2
  go_ret
  exact ⟨rfl, HF.out.trans y.h (fun _ h => h.elim)⟩
theorem same5_any (X : Nat) (hX : X < 115792089237316195423570985008687907853269984665640564039457584007913129639936) (w : World) :
    Calls Try.prog 16 #[.agg (nc X), .agg (nd X)] w fun e w' => e = .returned (.bool true) ∧ Fr (fun _ => False) w w' :=
  same5_op (nc X) (nd X) w (fun W => parts5_any X hX W) (fun W => eql_four X hX W) (nc_size _) (nd_size _)
set_option maxRecDepth 100000 in
set_option maxHeartbeats 100000000 in
theorem fsumsl (A B C D R E S E2 T E3 M E4 N E5 : Array Value) (d : Bool) (x0 b : Nat) (w : World)
    (OFA : ∀ W : World, Calls Try.prog 14 #[.agg A] W fun e w' => e = .returned (.agg C) ∧ Fr (fun _ => False) W w')
    (OFB : ∀ W : World, Calls Try.prog 14 #[.agg B] W fun e w' => e = .returned (.agg D) ∧ Fr (fun _ => False) W w')
    (HV : ∀ W : World, Calls Try.prog 15 #[] W fun e w' => e = .returned (.bool true) ∧ Fr (fun _ => False) W w')
    (RE : ∀ W : World, Calls Try.prog 17 #[.agg A] W fun e w' => e = .returned (.agg R) ∧ Fr (fun _ => False) W w')
    (S1 : ∀ W : World, Calls Try.prog 16 #[.agg R, .agg C] W fun e w' => e = .returned (.bool true) ∧ Fr (fun _ => False) W w')
    (AD : ∀ W : World, Calls Try.prog 18 #[.agg A, .agg B] W fun e w' => e = .returned (.agg S) ∧ Fr (fun _ => False) W w')
    (AE : ∀ W : World, Calls Try.prog 19 #[.agg C, .agg D] W fun e w' => e = .returned (.agg E2) ∧ Fr (fun _ => False) W w')
    (S2 : ∀ W : World, Calls Try.prog 16 #[.agg S, .agg E2] W fun e w' => e = .returned (.bool true) ∧ Fr (fun _ => False) W w')
    (SU : ∀ W : World, Calls Try.prog 20 #[.agg A, .agg B] W fun e w' => e = .returned (.agg T) ∧ Fr (fun _ => False) W w')
    (SE : ∀ W : World, Calls Try.prog 21 #[.agg C, .agg D] W fun e w' => e = .returned (.agg E3) ∧ Fr (fun _ => False) W w')
    (S3 : ∀ W : World, Calls Try.prog 16 #[.agg T, .agg E3] W fun e w' => e = .returned (.bool true) ∧ Fr (fun _ => False) W w')
    (MU : ∀ W : World, Calls Try.prog 22 #[.agg A, .agg B] W fun e w' => e = .returned (.agg M) ∧ Fr (fun _ => False) W w')
    (MF : ∀ W : World, Calls Try.prog 23 #[.agg C, .agg D] W fun e w' => e = .returned (.agg E4) ∧ Fr (fun _ => False) W w')
    (S4 : ∀ W : World, Calls Try.prog 16 #[.agg M, .agg E4] W fun e w' => e = .returned (.bool true) ∧ Fr (fun _ => False) W w')
    (NE : ∀ W : World, Calls Try.prog 24 #[.agg A] W fun e w' => e = .returned (.agg N) ∧ Fr (fun _ => False) W w')
    (NG : ∀ W : World, Calls Try.prog 25 #[.agg C] W fun e w' => e = .returned (.agg E5) ∧ Fr (fun _ => False) W w')
    (S5 : ∀ W : World, Calls Try.prog 16 #[.agg N, .agg E5] W fun e w' => e = .returned (.bool true) ∧ Fr (fun _ => False) W w')
    (SA : ∀ W : World, Calls Try.prog 26 #[.agg A, .agg B] W fun e w' => e = .returned (.bool d) ∧ Fr (fun _ => False) W w')
    (OD : ∀ W : World, Calls Try.prog 27 #[.agg A] W fun e w' => e = .returned (.bool ((b : Int) == 1)) ∧ Fr (fun _ => False) W w')
    (EQ : ∀ W : World, (binOp .eql 26 (.agg C) (.agg D)).run Try.prog W = .ok (.bool d) W) (c0 : C[0]? = some (.int .i64 (x0 : Int))) (hb : (x0 : Int).tmod 2 = (b : Int))
    (zA : A.size = 4) (zB : B.size = 4) (zC : C.size = 16) (zD : D.size = 16) (oneC : C.all (·.oneCell') = true) (oneD : D.all (·.oneCell') = true) :
    Calls Try.prog 3 #[.agg A, .agg B] w fun e w' => e = .returned (.bool true) ∧ Fr (fun _ => False) w w' := by
  have sA : (Try.prog.info? 24).map (·.size) = some A.size := by rw [zA]; kernel_rfl
  have sB : (Try.prog.info? 24).map (·.size) = some B.size := by rw [zB]; kernel_rfl
  have sC : (Try.prog.info? 26).map (·.size) = some C.size := by rw [zC]; kernel_rfl
  have sD : (Try.prog.info? 26).map (·.size) = some D.size := by rw [zD]; kernel_rfl
  have zC' : (#[.int .i64 0, .int .i64 0, .int .i64 0, .int .i64 0, .int .i64 0, .int .i64 0, .int .i64 0, .int .i64 0, .int .i64 0, .int .i64 0, .int .i64 0, .int .i64 0, .int .i64 0, .int .i64 0, .int .i64 0, .int .i64 0] : Array Value).size = C.size := by rw [zC]; rfl
  have zD' : (#[.int .i64 0, .int .i64 0, .int .i64 0, .int .i64 0, .int .i64 0, .int .i64 0, .int .i64 0, .int .i64 0, .int .i64 0, .int .i64 0, .int .i64 0, .int .i64 0, .int .i64 0, .int .i64 0, .int .i64 0, .int .i64 0] : Array Value).size = D.size := by rw [zD]; rfl
  have HA := Lib.hid (heap_alloc2_old w (.cells A 24) (.cells B 24))
  have HB := Lib.hid (heap_alloc2_new w (.cells A 24) (.cells B 24))
  have HF := Lib.hid ((((Fr.refl (fun _ => False) w).alloc (.cells A 24)).alloc (.cells B 24)))
  have EG := Try.guardNum5
  have q16 : ¬ (C.size < 1) := by omega
  clear zA zB zD
  go_enter Try.func3, Try.ntmps3
  go_upto_region 1 with fail
  go_cut [5, 6] (fun s5 s6 wx => ∃ g5 g6 : Nat, s5 = .pointer (some ⟨g5, 0, none⟩) ∧ s6 = .pointer (some ⟨g6, 0, none⟩) ∧ wx.heap[g5]? = some (.cells C 26 (0, 0)) ∧ wx.heap[g6]? = some (.cells D 26 (0, 0)) ∧ wx.heap[w.heap.size]? = some (.cells A 24 (0, 0)) ∧ wx.heap[w.heap.size + 1]? = some (.cells B 24 (0, 0)) ∧ Fr (fun _ => False) w wx)
  case first =>
    refine wp_region_tail 4 [(5, .cells #[.int .i64 0, .int .i64 0, .int .i64 0, .int .i64 0, .int .i64 0, .int .i64 0, .int .i64 0, .int .i64 0, .int .i64 0, .int .i64 0, .int .i64 0, .int .i64 0, .int .i64 0, .int .i64 0, .int .i64 0, .int .i64 0] 26), (6, .cells #[.int .i64 0, .int .i64 0, .int .i64 0, .int .i64 0, .int .i64 0, .int .i64 0, .int .i64 0, .int .i64 0, .int .i64 0, .int .i64 0, .int .i64 0, .int .i64 0, .int .i64 0, .int .i64 0, .int .i64 0, .int .i64 0] 26)] (by kernel_rfl) (by kernel_rfl) (mk_two ⟨_, rfl, makes_alloc _ _ _ _ _ _ Try.alloc5⟩ ⟨_, rfl, makes_alloc _ _ _ _ _ _ Try.alloc5⟩) ?_
    apply Exists.intro
    refine ⟨?wk, ?fin⟩
    case wk =>
      intro γ
      simp only [List.take_succ_cons, List.take_zero]
      repeat (any_goals (first | (go_big_quiet_want; (with_reducible refine quiet_load_rowg 24 (.tmp 2) rfl w.heap.size rfl 24 A (0, 0) _ HA.out Try.underlying24 rfl sA ?_); simp only [Act.put, List.setIfInBounds_toArray, List.set_cons_zero, List.set_cons_succ]; go_big_quiet_on) | (go_big_quiet_want; (with_reducible refine quiet_load_rowg 24 (.tmp 3) rfl (w.heap.size + 1) rfl 24 B (0, 0) _ HB.out Try.underlying24 rfl sB ?_); simp only [Act.put, List.setIfInBounds_toArray, List.set_cons_zero, List.set_cons_succ]; go_big_quiet_on) | go_big_quiet_step (((first | (go_at_call 14; with_reducible exact Calls.keepg (OFA _)) | (go_at_call 14; with_reducible exact Calls.keepg (OFB _))))) | quiet_step (((first | (go_at_call 14; with_reducible exact Calls.keepg (OFA _)) | (go_at_call 14; with_reducible exact Calls.keepg (OFB _)))))))
      exact wpQuiet_nil rfl
    case fin =>
      intro gs wx hF hg hne
      obtain ⟨l5, h5⟩ := hg 0 _ rfl
      obtain ⟨l6, h6⟩ := hg 1 _ rfl
      have hn : gs 0 ≠ gs 1 := hne 0 1 (by decide) (by decide) (by decide)
      simp only [putAll, List.drop_succ_cons, List.drop_zero, List.length_cons, List.length_nil, Nat.zero_add]
      simp only [Act.put, List.setIfInBounds_toArray, List.set_cons_zero, List.set_cons_succ]
      generalize gs 1 = g6 at *
      generalize gs 0 = g5 at *
      have F1 : Fr (fun _ => False) ((w.alloc (.cells A 24)).alloc (.cells B 24)) (wx.setRow g5 C) := hF.trans (Fr.setRow (S := fun k => k = g5) (Fr.refl _ wx) rfl C) (fun i hi => Or.inr (by have : i = g5 := hi; omega))
      have F2 : Fr (fun _ => False) ((w.alloc (.cells A 24)).alloc (.cells B 24)) ((wx.setRow g5 C).setRow g6 D) := F1.trans (Fr.setRow (S := fun k => k = g6) (Fr.refl _ _) rfl D) (fun i hi => Or.inr (by have : i = g6 := hi; omega))
      have k6 := (setRow_other wx g5 g6 C (fun e => hn e.symm)).trans h6
      have k5 := setRow_heap _ _ _ C _ _ h5
      have m5 := (setRow_other (wx.setRow g5 C) g6 g5 D hn).trans k5
      have m6 := setRow_heap _ _ _ D _ _ k6
      have M5 := Lib.hid m5
      have M6 := Lib.hid m6
      have HF2 := Lib.hid F2
      clear hF l5 l6 hne hg F1 F2 k5 m5 m6
      go_wp2_with (first
        | (with_reducible refine wpList_store_row rfl 26 (.tmp 5) (.tmp 8) rfl g5 C rfl rfl 26 #[.int .i64 0, .int .i64 0, .int .i64 0, .int .i64 0, .int .i64 0, .int .i64 0, .int .i64 0, .int .i64 0, .int .i64 0, .int .i64 0, .int .i64 0, .int .i64 0, .int .i64 0, .int .i64 0, .int .i64 0, .int .i64 0] h5 sC zC' oneC ?_)
        | (with_reducible refine wpList_store_row rfl 26 (.tmp 6) (.tmp 10) rfl g6 D rfl rfl 26 #[.int .i64 0, .int .i64 0, .int .i64 0, .int .i64 0, .int .i64 0, .int .i64 0, .int .i64 0, .int .i64 0, .int .i64 0, .int .i64 0, .int .i64 0, .int .i64 0, .int .i64 0, .int .i64 0, .int .i64 0, .int .i64 0] k6 sD zD' oneD ?_))
      go_meet
      exact ⟨g5, g6, rfl, rfl, M5.out, M6.out, HF2.out.keep HA.out, HF2.out.keep HB.out, HF.out.trans HF2.out (fun _ h => h.elim)⟩
  case rest =>
    obtain ⟨g5, g6, rfl, rfl, G5, G6, A1, B1, F1⟩ := hcut
    clear HA HB HF zC
    have HC1 := Lib.hid G5
    have HD1 := Lib.hid G6
    have HA1 := Lib.hid A1
    have HB1 := Lib.hid B1
    have HG := Lib.hid F1
    have fz : ∀ y : Wd wc, y.w.cell? ⟨g5, 0, none⟩ = some (.int .i64 (x0 : Int)) := fun y => y.cell HC1.out 0 c0
    clear G5 G6 A1 B1 F1
    go_wp2_with fail
    refine wp_region_keep (by kernel_rfl) (by kernel_rfl) ?_
    repeat (any_goals (first | (go_big_quiet_want; (with_reducible refine quiet_load_row 24 (.tmp 2) rfl w.heap.size rfl 24 A (0, 0) _ HA1.out Try.underlying24 rfl sA ?_); simp only [Act.put, List.setIfInBounds_toArray, List.set_cons_zero, List.set_cons_succ]; go_big_quiet_on) | (go_big_quiet_want; (with_reducible refine quiet_load_row 24 (.tmp 3) rfl (w.heap.size + 1) rfl 24 B (0, 0) _ HB1.out Try.underlying24 rfl sB ?_); simp only [Act.put, List.setIfInBounds_toArray, List.set_cons_zero, List.set_cons_succ]; go_big_quiet_on) | (go_big_quiet_want; (with_reducible refine quiet_load_row 26 (.tmp 5) rfl g5 rfl 26 C (0, 0) _ HC1.out Try.underlying26 rfl sC ?_); simp only [Act.put, List.setIfInBounds_toArray, List.set_cons_zero, List.set_cons_succ]; go_big_quiet_on) | (go_big_quiet_want; (with_reducible refine quiet_load_row 26 (.tmp 6) rfl g6 rfl 26 D (0, 0) _ HD1.out Try.underlying26 rfl sD ?_); simp only [Act.put, List.setIfInBounds_toArray, List.set_cons_zero, List.set_cons_succ]; go_big_quiet_on) | go_big_quiet_step (((first | (go_at_call 15; with_reducible exact Calls.keep (HV _)) | (go_at_call 17; with_reducible exact Calls.keep (RE _)) | (go_at_call 16; with_reducible exact Calls.keep (S1 _)) | (go_at_call 18; with_reducible exact Calls.keep (AD _)) | (go_at_call 19; with_reducible exact Calls.keep (AE _)) | (go_at_call 16; with_reducible exact Calls.keep (S2 _)) | (go_at_call 20; with_reducible exact Calls.keep (SU _)) | (go_at_call 21; with_reducible exact Calls.keep (SE _)) | (go_at_call 16; with_reducible exact Calls.keep (S3 _)) | (go_at_call 22; with_reducible exact Calls.keep (MU _)) | (go_at_call 23; with_reducible exact Calls.keep (MF _)) | (go_at_call 16; with_reducible exact Calls.keep (S4 _)) | (go_at_call 24; with_reducible exact Calls.keep (NE _)) | (go_at_call 25; with_reducible exact Calls.keep (NG _)) | (go_at_call 16; with_reducible exact Calls.keep (S5 _)) | (go_at_call 26; with_reducible exact Calls.keep (SA _)) | (go_at_call 27; with_reducible exact Calls.keep (OD _))))) | quiet_step (((first | (go_at_call 15; with_reducible exact Calls.keep (HV _)) | (go_at_call 17; with_reducible exact Calls.keep (RE _)) | (go_at_call 16; with_reducible exact Calls.keep (S1 _)) | (go_at_call 18; with_reducible exact Calls.keep (AD _)) | (go_at_call 19; with_reducible exact Calls.keep (AE _)) | (go_at_call 16; with_reducible exact Calls.keep (S2 _)) | (go_at_call 20; with_reducible exact Calls.keep (SU _)) | (go_at_call 21; with_reducible exact Calls.keep (SE _)) | (go_at_call 16; with_reducible exact Calls.keep (S3 _)) | (go_at_call 22; with_reducible exact Calls.keep (MU _)) | (go_at_call 23; with_reducible exact Calls.keep (MF _)) | (go_at_call 16; with_reducible exact Calls.keep (S4 _)) | (go_at_call 24; with_reducible exact Calls.keep (NE _)) | (go_at_call 25; with_reducible exact Calls.keep (NG _)) | (go_at_call 16; with_reducible exact Calls.keep (S5 _)) | (go_at_call 26; with_reducible exact Calls.keep (SA _)) | (go_at_call 27; with_reducible exact Calls.keep (OD _)))))))
    refine wpQuiet_nil ?_
    intro _ hw'
    obtain ⟨y, rfl⟩ := hw'
    go_wp2
    go_ret
    exact ⟨rfl, HG.out.trans y.h (fun _ h => h.elim)⟩
end Go.Proofs.Ytnobobdgoccmcaa


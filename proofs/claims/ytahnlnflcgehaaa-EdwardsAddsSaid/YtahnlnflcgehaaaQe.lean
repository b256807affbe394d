/-
  The laws' of and same; the walk of the law FieldSums, over what its callees answer.
  The contract of Pow of package custumalref05.
  The contract of Inv of package custumalref05.
  The walk of the law FieldPowers, over what its callees answer.
  The law FieldPowers at all its contracts.
  The numbers of which the roots of the field are made; a square has a root. Plain.
  The contract of Root of package field, over what its callees answer.
  The contracts of Root of package field and of package custumalref05.
  The contracts of Bytes of package custumalref05 and of package field.
  The contract of Of of package field.
  The contract of FromBytes of package custumalref05.
-/
import Derived.Test.YtahnlnflcgehaaaQd
import Derived.Deep.DeepCutAuto
import Derived.Test.YtahnlnflcgehaaaQa
import Derived.Test.YtahnlnflcgehaaaProg
import Derived.Test.YtahnlnflcgehaaaQb
import Derived.Test.YtahnlnflcgehaaaQc
namespace Go.Proofs.Ytahnlnflcgehaaa
open Go.RowKit Pri
set_option linter.unusedVariables false

theorem Try.alloc5 : ∀ w, (Instr.alloc 26 true (.tuple #[])).run Try.prog w = .ok (.pointer (some ⟨w.heap.size, 0, none⟩)) (w.alloc (.cells #[.int .i64 0, .int .i64 0, .int .i64 0, .int .i64 0, .int .i64 0, .int .i64 0, .int .i64 0, .int .i64 0, .int .i64 0, .int .i64 0, .int .i64 0, .int .i64 0, .int .i64 0, .int .i64 0, .int .i64 0, .int .i64 0] 26)) := fun w => by kernel_rfl
theorem Try.guardFour : Try.prog.eqGuardType Try.prog.depth 23 = false := by kernel_rfl
theorem Try.guardNum5 : Try.prog.eqGuardType Try.prog.depth 26 = false := by kernel_rfl
theorem eql_four (X : Nat) (hX : X < 115792089237316195423570985008687907853269984665640564039457584007913129639936) (w : World) : (binOp .eql 23 (.agg (nc X)) (.agg (nc X))).run Try.prog w = .ok (.bool true) w := by
  obtain ⟨a, b, c, d, _, _, _, _, hx, ex⟩ := nc_open X hX
  rw [ex]
  refine (eql_ints w 23 22 4 .u64 Try.underlying23 Try.underlying22 Try.sizeW [a, b, c, d] [a, b, c, d] rfl rfl).trans ?_
  rw [beq_self_eq_true]
theorem nd_list5 (A : Nat) : nd A = (((List.range 16).map fun j => (dig 65536 A j : Int)).map (Value.int .i64)).toArray := by
  unfold nd iq; rw [List.map_map]; rfl
theorem Try.sizeI5 : ∀ w, (sizeOf 3).run Try.prog w = .ok 1 w := by
  intro w
  have h : (Try.prog.info? 3).map (·.size) = some 1 := by kernel_rfl
  obtain ⟨i0, hi, hz⟩ := Option.map_eq_some_iff.1 h
  simp [sizeOf, typeInfo, hi, hz]
theorem eql_nd5 (X Y : Nat) (hX : X < 115792089237316195423570985008687907853269984665640564039457584007913129639936) (hY : Y < 115792089237316195423570985008687907853269984665640564039457584007913129639936) (w : World) : (binOp .eql 26 (.agg (nd X)) (.agg (nd Y))).run Try.prog w = .ok (.bool (decide (X = Y))) w := by
  rw [nd_list5, nd_list5, eql_ints w 26 3 16 .i64 Try.underlying26 Try.underlying3 Try.sizeI5 _ _ (by simp) (by simp)]
  congr 2
  rw [Bool.eq_iff_iff, beq_iff_eq, decide_eq_true_iff]
  constructor
  · intro h
    have e : val 65536 (dig 65536 X) 16 = val 65536 (dig 65536 Y) 16 := val_congr 65536 16 (fun j hj => by
      have := List.map_inj_left.1 h j (List.mem_range.2 hj)
      omega)
    rwa [val_dig, val_dig, b16, Nat.mod_eq_of_lt hX, Nat.mod_eq_of_lt hY] at e
  · rintro rfl; rfl
set_option maxRecDepth 100000 in
theorem lof5_any (X : Nat) (hX : X < 115792089237316195423570985008687907853269984665640564039457584007913129639936) (w : World) :
    Calls Try.prog 14 #[.agg (nc X)] w fun e w' => e = .returned (.agg (nd (X % p25519))) ∧ Fr (fun _ => False) w w' := by
  have OF := fun W => of5_any X hX W
  have sA : (Try.prog.info? 24).map (·.size) = some (nc X).size := by show _ = some 4; kernel_rfl
  have sR : (Try.prog.info? 26).map (·.size) = some (nd (X % p25519)).size := by rw [nd_size]; kernel_rfl
  have zR : (#[.int .i64 0, .int .i64 0, .int .i64 0, .int .i64 0, .int .i64 0, .int .i64 0, .int .i64 0, .int .i64 0, .int .i64 0, .int .i64 0, .int .i64 0, .int .i64 0, .int .i64 0, .int .i64 0, .int .i64 0, .int .i64 0] : Array Value).size = (nd (X % p25519)).size := by rw [nd_size]; rfl
  have oR : (nd (X % p25519)).all (·.oneCell') = true := iq_one 16 _
  generalize hRR : nd (X % p25519) = R at *
  generalize nc X = A at *
  have A0 := heap_alloc2_old w (.cells A 24) (.cells #[.int .i64 0, .int .i64 0, .int .i64 0, .int .i64 0, .int .i64 0, .int .i64 0, .int .i64 0, .int .i64 0, .int .i64 0, .int .i64 0, .int .i64 0, .int .i64 0, .int .i64 0, .int .i64 0, .int .i64 0, .int .i64 0] 26)
  have R0 := heap_alloc2_new w (.cells A 24) (.cells #[.int .i64 0, .int .i64 0, .int .i64 0, .int .i64 0, .int .i64 0, .int .i64 0, .int .i64 0, .int .i64 0, .int .i64 0, .int .i64 0, .int .i64 0, .int .i64 0, .int .i64 0, .int .i64 0, .int .i64 0, .int .i64 0] 26)
  have F0 := (((Fr.refl (fun _ => False) w).alloc (.cells A 24)).alloc (.cells #[.int .i64 0, .int .i64 0, .int .i64 0, .int .i64 0, .int .i64 0, .int .i64 0, .int .i64 0, .int .i64 0, .int .i64 0, .int .i64 0, .int .i64 0, .int .i64 0, .int .i64 0, .int .i64 0, .int .i64 0, .int .i64 0] 26))
  clear hRR hX
  go_enter Try.func14, Try.ntmps14
  go_wp2_with (with_reducible refine wpList_load_row rfl 24 (.tmp 1) rfl w.heap.size rfl 24 A (0, 0) _ A0 Try.underlying24 rfl sA ?_)
  refine (OF _).mono ?_
  rintro e w1 ⟨rfl, F1⟩
  have R3 := F1.keep R0
  have G3 := F0.trans F1 (fun _ h => h.elim)
  clear A0 R0 F0 F1
  go_wp2_with (with_reducible refine wpList_store_row rfl 26 (.tmp 2) (.tmp 4) rfl (w.heap.size + 1) R rfl rfl 26 #[.int .i64 0, .int .i64 0, .int .i64 0, .int .i64 0, .int .i64 0, .int .i64 0, .int .i64 0, .int .i64 0, .int .i64 0, .int .i64 0, .int .i64 0, .int .i64 0, .int .i64 0, .int .i64 0, .int .i64 0, .int .i64 0] R3 sR zR oR ?_)
  refine bodyPost_ret (results_cell_row rfl _ _ (w.heap.size + 1) 26 R (0, 0) _ rfl (setRow_heap _ _ _ _ _ _ R3) Try.underlying26 rfl sR) rfl ?_
  exact ⟨rfl, G3.trans (Fr.setRow (S := fun k => k = w.heap.size + 1) (Fr.refl _ _) rfl _) (fun i hi => Or.inr (by have : i = w.heap.size + 1 := hi; omega))⟩
set_option maxRecDepth 100000 in
set_option maxHeartbeats 1600000 in
theorem same5_op (A B : Array Value) (w : World)
    (PA : ∀ W : World, Calls Try.prog 75 #[.agg B] W fun e w' => e = .returned (.agg A) ∧ Fr (fun _ => False) W w')
    (EQ : ∀ W : World, (binOp .eql 23 (.agg A) (.agg A)).run Try.prog W = .ok (.bool true) W) (zA : A.size = 4) (zB : B.size = 16) :
    Calls Try.prog 16 #[.agg A, .agg B] w fun e w' => e = .returned (.bool true) ∧ Fr (fun _ => False) w w' := by
  have sA : (Try.prog.info? 24).map (·.size) = some A.size := by rw [zA]; kernel_rfl
  have sB : (Try.prog.info? 26).map (·.size) = some B.size := by rw [zB]; kernel_rfl
  have HA := Lib.hid (heap_alloc2_old w (.cells A 24) (.cells B 26))
  have HB := Lib.hid (heap_alloc2_new w (.cells A 24) (.cells B 26))
  have HF := Lib.hid (((Fr.refl (fun _ => False) w).alloc (.cells A 24)).alloc (.cells B 26))
  have EG := Try.guardFour
  clear zA zB
  go_enter Try.func16, Try.ntmps16
  go_wp2_with fail
  refine wp_region_keep (by kernel_rfl) (by kernel_rfl) ?_
  repeat (any_goals (first | (go_big_quiet_want; (with_reducible refine quiet_load_row 24 (.tmp 2) rfl w.heap.size rfl 24 A (0, 0) _ HA.out Try.underlying24 rfl sA ?_); simp only [Act.put, List.setIfInBounds_toArray, List.set_cons_zero, List.set_cons_succ]; go_big_quiet_on) | (go_big_quiet_want; (with_reducible refine quiet_load_row 26 (.tmp 3) rfl (w.heap.size + 1) rfl 26 B (0, 0) _ HB.out Try.underlying26 rfl sB ?_); simp only [Act.put, List.setIfInBounds_toArray, List.set_cons_zero, List.set_cons_succ]; go_big_quiet_on) | go_big_quiet_step (((first | (go_at_call 75; with_reducible exact Calls.keep (PA _))))) | quiet_step (((first | (go_at_call 75; with_reducible exact Calls.keep (PA _)))))))
  refine wpQuiet_nil ?_
  intro _ hw'
  obtain ⟨y, rfl⟩ := hw'
  go_wp2
  go_ret
  exact ⟨rfl, HF.out.trans y.h (fun _ h => h.elim)⟩
theorem same5_any (X : Nat) (hX : X < 115792089237316195423570985008687907853269984665640564039457584007913129639936) (w : World) :
    Calls Try.prog 16 #[.agg (nc X), .agg (nd X)] w fun e w' => e = .returned (.bool true) ∧ Fr (fun _ => False) w w' :=
  same5_op (nc X) (nd X) w (fun W => parts5_any X hX W) (fun W => eql_four X hX W) (nc_size _) (nd_size _)
set_option maxRecDepth 100000 in
set_option maxHeartbeats 100000000 in
theorem fsumsl (A B C D R E S E2 T E3 M E4 N E5 : Array Value) (d : Bool) (x0 b : Nat) (w : World)
    (OFA : ∀ W : World, Calls Try.prog 14 #[.agg A] W fun e w' => e = .returned (.agg C) ∧ Fr (fun _ => False) W w')
    (OFB : ∀ W : World, Calls Try.prog 14 #[.agg B] W fun e w' => e = .returned (.agg D) ∧ Fr (fun _ => False) W w')
    (HV : ∀ W : World, Calls Try.prog 15 #[] W fun e w' => e = .returned (.bool true) ∧ Fr (fun _ => False) W w')
    (RE : ∀ W : World, Calls Try.prog 17 #[.agg A] W fun e w' => e = .returned (.agg R) ∧ Fr (fun _ => False) W w')
    (S1 : ∀ W : World, Calls Try.prog 16 #[.agg R, .agg C] W fun e w' => e = .returned (.bool true) ∧ Fr (fun _ => False) W w')
    (AD : ∀ W : World, Calls Try.prog 18 #[.agg A, .agg B] W fun e w' => e = .returned (.agg S) ∧ Fr (fun _ => False) W w')
    (AE : ∀ W : World, Calls Try.prog 19 #[.agg C, .agg D] W fun e w' => e = .returned (.agg E2) ∧ Fr (fun _ => False) W w')
    (S2 : ∀ W : World, Calls Try.prog 16 #[.agg S, .agg E2] W fun e w' => e = .returned (.bool true) ∧ Fr (fun _ => False) W w')
    (SU : ∀ W : World, Calls Try.prog 20 #[.agg A, .agg B] W fun e w' => e = .returned (.agg T) ∧ Fr (fun _ => False) W w')
    (SE : ∀ W : World, Calls Try.prog 21 #[.agg C, .agg D] W fun e w' => e = .returned (.agg E3) ∧ Fr (fun _ => False) W w')
    (S3 : ∀ W : World, Calls Try.prog 16 #[.agg T, .agg E3] W fun e w' => e = .returned (.bool true) ∧ Fr (fun _ => False) W w')
    (MU : ∀ W : World, Calls Try.prog 22 #[.agg A, .agg B] W fun e w' => e = .returned (.agg M) ∧ Fr (fun _ => False) W w')
    (MF : ∀ W : World, Calls Try.prog 23 #[.agg C, .agg D] W fun e w' => e = .returned (.agg E4) ∧ Fr (fun _ => False) W w')
    (S4 : ∀ W : World, Calls Try.prog 16 #[.agg M, .agg E4] W fun e w' => e = .returned (.bool true) ∧ Fr (fun _ => False) W w')
    (NE : ∀ W : World, Calls Try.prog 24 #[.agg A] W fun e w' => e = .returned (.agg N) ∧ Fr (fun _ => False) W w')
    (NG : ∀ W : World, Calls Try.prog 25 #[.agg C] W fun e w' => e = .returned (.agg E5) ∧ Fr (fun _ => False) W w')
    (S5 : ∀ W : World, Calls Try.prog 16 #[.agg N, .agg E5] W fun e w' => e = .returned (.bool true) ∧ Fr (fun _ => False) W w')
    (SA : ∀ W : World, Calls Try.prog 26 #[.agg A, .agg B] W fun e w' => e = .returned (.bool d) ∧ Fr (fun _ => False) W w')
    (OD : ∀ W : World, Calls Try.prog 27 #[.agg A] W fun e w' => e = .returned (.bool ((b : Int) == 1)) ∧ Fr (fun _ => False) W w')
    (EQ : ∀ W : World, (binOp .eql 26 (.agg C) (.agg D)).run Try.prog W = .ok (.bool d) W) (c0 : C[0]? = some (.int .i64 (x0 : Int))) (hb : (x0 : Int).tmod 2 = (b : Int))
    (zA : A.size = 4) (zB : B.size = 4) (zC : C.size = 16) (zD : D.size = 16) (oneC : C.all (·.oneCell') = true) (oneD : D.all (·.oneCell') = true) :
    Calls Try.prog 3 #[.agg A, .agg B] w fun e w' => e = .returned (.bool true) ∧ Fr (fun _ => False) w w' := by
  have sA : (Try.prog.info? 24).map (·.size) = some A.size := by rw [zA]; kernel_rfl
  have sB : (Try.prog.info? 24).map (·.size) = some B.size := by rw [zB]; kernel_rfl
  have sC : (Try.prog.info? 26).map (·.size) = some C.size := by rw [zC]; kernel_rfl
  have sD : (Try.prog.info? 26).map (·.size) = some D.size := by rw [zD]; kernel_rfl
  have zC' : (#[.int .i64 0, .int .i64 0, .int .i64 0, .int .i64 0, .int .i64 0, .int .i64 0, .int .i64 0, .int .i64 0, .int .i64 0, .int .i64 0, .int .i64 0, .int .i64 0, .int .i64 0, .int .i64 0, .int .i64 0, .int .i64 0] : Array Value).size = C.size := by rw [zC]; rfl
  have zD' : (#[.int .i64 0, .int .i64 0, .int .i64 0, .int .i64 0, .int .i64 0, .int .i64 0, .int .i64 0, .int .i64 0, .int .i64 0, .int .i64 0, .int .i64 0, .int .i64 0, .int .i64 0, .int .i64 0, .int .i64 0, .int .i64 0] : Array Value).size = D.size := by rw [zD]; rfl
  have HA := Lib.hid (heap_alloc2_old w (.cells A 24) (.cells B 24))
  have HB := Lib.hid (heap_alloc2_new w (.cells A 24) (.cells B 24))
  have HF := Lib.hid ((((Fr.refl (fun _ => False) w).alloc (.cells A 24)).alloc (.cells B 24)))
  have EG := Try.guardNum5
  have q16 : ¬ (C.size < 1) := by omega
  clear zA zB zD
  go_enter Try.func3, Try.ntmps3
  go_upto_region 1 with fail
  go_cut [5, 6] (fun s5 s6 wx => ∃ g5 g6 : Nat, s5 = .pointer (some ⟨g5, 0, none⟩) ∧ s6 = .pointer (some ⟨g6, 0, none⟩) ∧ wx.heap[g5]? = some (.cells C 26 (0, 0)) ∧ wx.heap[g6]? = some (.cells D 26 (0, 0)) ∧ wx.heap[w.heap.size]? = some (.cells A 24 (0, 0)) ∧ wx.heap[w.heap.size + 1]? = some (.cells B 24 (0, 0)) ∧ Fr (fun _ => False) w wx)
  case first =>
    refine wp_region_tail 4 [(5, .cells #[.int .i64 0, .int .i64 0, .int .i64 0, .int .i64 0, .int .i64 0, .int .i64 0, .int .i64 0, .int .i64 0, .int .i64 0, .int .i64 0, .int .i64 0, .int .i64 0, .int .i64 0, .int .i64 0, .int .i64 0, .int .i64 0] 26), (6, .cells #[.int .i64 0, .int .i64 0, .int .i64 0, .int .i64 0, .int .i64 0, .int .i64 0, .int .i64 0, .int .i64 0, .int .i64 0, .int .i64 0, .int .i64 0, .int .i64 0, .int .i64 0, .int .i64 0, .int .i64 0, .int .i64 0] 26)] (by kernel_rfl) (by kernel_rfl) (mk_two ⟨_, rfl, makes_alloc _ _ _ _ _ _ Try.alloc5⟩ ⟨_, rfl, makes_alloc _ _ _ _ _ _ Try.alloc5⟩) ?_
    apply Exists.intro
    refine ⟨?wk, ?fin⟩
    case wk =>
      intro γ
      simp only [List.take_succ_cons, List.take_zero]
      repeat (any_goals (first | (go_big_quiet_want; (with_reducible refine quiet_load_rowg 24 (.tmp 2) rfl w.heap.size rfl 24 A (0, 0) _ HA.out Try.underlying24 rfl sA ?_); simp only [Act.put, List.setIfInBounds_toArray, List.set_cons_zero, List.set_cons_succ]; go_big_quiet_on) | (go_big_quiet_want; (with_reducible refine quiet_load_rowg 24 (.tmp 3) rfl (w.heap.size + 1) rfl 24 B (0, 0) _ HB.out Try.underlying24 rfl sB ?_); simp only [Act.put, List.setIfInBounds_toArray, List.set_cons_zero, List.set_cons_succ]; go_big_quiet_on) | go_big_quiet_step (((first | (go_at_call 14; with_reducible exact Calls.keepg (OFA _)) | (go_at_call 14; with_reducible exact Calls.keepg (OFB _))))) | quiet_step (((first | (go_at_call 14; with_reducible exact Calls.keepg (OFA _)) | (go_at_call 14; with_reducible exact Calls.keepg (OFB _)))))))
      exact wpQuiet_nil rfl
    case fin =>
      intro gs wx hF hg hne
      obtain ⟨l5, h5⟩ := hg 0 _ rfl
      obtain ⟨l6, h6⟩ := hg 1 _ rfl
      have hn : gs 0 ≠ gs 1 := hne 0 1 (by decide) (by decide) (by decide)
      simp only [putAll, List.drop_succ_cons, List.drop_zero, List.length_cons, List.length_nil, Nat.zero_add]
      simp only [Act.put, List.setIfInBounds_toArray, List.set_cons_zero, List.set_cons_succ]
      generalize gs 1 = g6 at *
      generalize gs 0 = g5 at *
      have F1 : Fr (fun _ => False) ((w.alloc (.cells A 24)).alloc (.cells B 24)) (wx.setRow g5 C) := hF.trans (Fr.setRow (S := fun k => k = g5) (Fr.refl _ wx) rfl C) (fun i hi => Or.inr (by have : i = g5 := hi; omega))
      have F2 : Fr (fun _ => False) ((w.alloc (.cells A 24)).alloc (.cells B 24)) ((wx.setRow g5 C).setRow g6 D) := F1.trans (Fr.setRow (S := fun k => k = g6) (Fr.refl _ _) rfl D) (fun i hi => Or.inr (by have : i = g6 := hi; omega))
      have k6 := (setRow_other wx g5 g6 C (fun e => hn e.symm)).trans h6
      have k5 := setRow_heap _ _ _ C _ _ h5
      have m5 := (setRow_other (wx.setRow g5 C) g6 g5 D hn).trans k5
      have m6 := setRow_heap _ _ _ D _ _ k6
      have M5 := Lib.hid m5
      have M6 := Lib.hid m6
      have HF2 := Lib.hid F2
      clear hF l5 l6 hne hg F1 F2 k5 m5 m6
      go_wp2_with (first
        | (with_reducible refine wpList_store_row rfl 26 (.tmp 5) (.tmp 8) rfl g5 C rfl rfl 26 #[.int .i64 0, .int .i64 0, .int .i64 0, .int .i64 0, .int .i64 0, .int .i64 0, .int .i64 0, .int .i64 0, .int .i64 0, .int .i64 0, .int .i64 0, .int .i64 0, .int .i64 0, .int .i64 0, .int .i64 0, .int .i64 0] h5 sC zC' oneC ?_)
        | (with_reducible refine wpList_store_row rfl 26 (.tmp 6) (.tmp 10) rfl g6 D rfl rfl 26 #[.int .i64 0, .int .i64 0, .int .i64 0, .int .i64 0, .int .i64 0, .int .i64 0, .int .i64 0, .int .i64 0, .int .i64 0, .int .i64 0, .int .i64 0, .int .i64 0, .int .i64 0, .int .i64 0, .int .i64 0, .int .i64 0] k6 sD zD' oneD ?_))
      go_meet
      exact ⟨g5, g6, rfl, rfl, M5.out, M6.out, HF2.out.keep HA.out, HF2.out.keep HB.out, HF.out.trans HF2.out (fun _ h => h.elim)⟩
  case rest =>
    obtain ⟨g5, g6, rfl, rfl, G5, G6, A1, B1, F1⟩ := hcut
    clear HA HB HF zC
    have HC1 := Lib.hid G5
    have HD1 := Lib.hid G6
    have HA1 := Lib.hid A1
    have HB1 := Lib.hid B1
    have HG := Lib.hid F1
    have fz : ∀ y : Wd wc, y.w.cell? ⟨g5, 0, none⟩ = some (.int .i64 (x0 : Int)) := fun y => y.cell HC1.out 0 c0
    clear G5 G6 A1 B1 F1
    go_wp2_with fail
    refine wp_region_keep (by kernel_rfl) (by kernel_rfl) ?_
    repeat (any_goals (first | (go_big_quiet_want; (with_reducible refine quiet_load_row 24 (.tmp 2) rfl w.heap.size rfl 24 A (0, 0) _ HA1.out Try.underlying24 rfl sA ?_); simp only [Act.put, List.setIfInBounds_toArray, List.set_cons_zero, List.set_cons_succ]; go_big_quiet_on) | (go_big_quiet_want; (with_reducible refine quiet_load_row 24 (.tmp 3) rfl (w.heap.size + 1) rfl 24 B (0, 0) _ HB1.out Try.underlying24 rfl sB ?_); simp only [Act.put, List.setIfInBounds_toArray, List.set_cons_zero, List.set_cons_succ]; go_big_quiet_on) | (go_big_quiet_want; (with_reducible refine quiet_load_row 26 (.tmp 5) rfl g5 rfl 26 C (0, 0) _ HC1.out Try.underlying26 rfl sC ?_); simp only [Act.put, List.setIfInBounds_toArray, List.set_cons_zero, List.set_cons_succ]; go_big_quiet_on) | (go_big_quiet_want; (with_reducible refine quiet_load_row 26 (.tmp 6) rfl g6 rfl 26 D (0, 0) _ HD1.out Try.underlying26 rfl sD ?_); simp only [Act.put, List.setIfInBounds_toArray, List.set_cons_zero, List.set_cons_succ]; go_big_quiet_on) | go_big_quiet_step (((first | (go_at_call 15; with_reducible exact Calls.keep (HV _)) | (go_at_call 17; with_reducible exact Calls.keep (RE _)) | (go_at_call 16; with_reducible exact Calls.keep (S1 _)) | (go_at_call 18; with_reducible exact Calls.keep (AD _)) | (go_at_call 19; with_reducible exact Calls.keep (AE _)) | (go_at_call 16; with_reducible exact Calls.keep (S2 _)) | (go_at_call 20; with_reducible exact Calls.keep (SU _)) | (go_at_call 21; with_reducible exact Calls.keep (SE _)) | (go_at_call 16; with_reducible exact Calls.keep (S3 _)) | (go_at_call 22; with_reducible exact Calls.keep (MU _)) | (go_at_call 23; with_reducible exact Calls.keep (MF _)) | (go_at_call 16; with_reducible exact Calls.keep (S4 _)) | (go_at_call 24; with_reducible exact Calls.keep (NE _)) | (go_at_call 25; with_reducible exact Calls.keep (NG _)) | (go_at_call 16; with_reducible exact Calls.keep (S5 _)) | (go_at_call 26; with_reducible exact Calls.keep (SA _)) | (go_at_call 27; with_reducible exact Calls.keep (OD _))))) | quiet_step (((first | (go_at_call 15; with_reducible exact Calls.keep (HV _)) | (go_at_call 17; with_reducible exact Calls.keep (RE _)) | (go_at_call 16; with_reducible exact Calls.keep (S1 _)) | (go_at_call 18; with_reducible exact Calls.keep (AD _)) | (go_at_call 19; with_reducible exact Calls.keep (AE _)) | (go_at_call 16; with_reducible exact Calls.keep (S2 _)) | (go_at_call 20; with_reducible exact Calls.keep (SU _)) | (go_at_call 21; with_reducible exact Calls.keep (SE _)) | (go_at_call 16; with_reducible exact Calls.keep (S3 _)) | (go_at_call 22; with_reducible exact Calls.keep (MU _)) | (go_at_call 23; with_reducible exact Calls.keep (MF _)) | (go_at_call 16; with_reducible exact Calls.keep (S4 _)) | (go_at_call 24; with_reducible exact Calls.keep (NE _)) | (go_at_call 25; with_reducible exact Calls.keep (NG _)) | (go_at_call 16; with_reducible exact Calls.keep (S5 _)) | (go_at_call 26; with_reducible exact Calls.keep (SA _)) | (go_at_call 27; with_reducible exact Calls.keep (OD _)))))))
    refine wpQuiet_nil ?_
    intro _ hw'
    obtain ⟨y, rfl⟩ := hw'
    go_wp2
    go_ret
    exact ⟨rfl, HG.out.trans y.h (fun _ h => h.elim)⟩
end Go.Proofs.Ytahnlnflcgehaaa
namespace Go.Proofs.Ytahnlnflcgehaaa
open Go.RowKit Pri
set_option linter.unusedVariables false

theorem nd_lit1 : (#[.int .i64 1, .int .i64 0, .int .i64 0, .int .i64 0, .int .i64 0, .int .i64 0, .int .i64 0, .int .i64 0, .int .i64 0, .int .i64 0, .int .i64 0, .int .i64 0, .int .i64 0, .int .i64 0, .int .i64 0, .int .i64 0] : Array Value) = nd 1 := by kernel_rfl
theorem Try.sizeD (X : Nat) : (Try.prog.info? 26).map (·.size) = some (nd X).size := by rw [nd_size]; kernel_rfl
theorem pwr_even (X M m : Nat) (h : M / 2 ^ m % 2 = 0) : pwr X (M / 2 ^ (m + 1)) * pwr X (M / 2 ^ (m + 1)) % p25519 = pwr X (M / 2 ^ m) := by
  rw [pwr_add, Nat.pow_succ, ← Nat.div_div_eq_div_mul]; congr 1; omega
theorem pwr_odd (X M m : Nat) (h : M / 2 ^ m % 2 = 1) : pwr X (M / 2 ^ (m + 1) + M / 2 ^ (m + 1)) * X % p25519 = pwr X (M / 2 ^ m) := by
  rw [pwr_succ, Nat.pow_succ, ← Nat.div_div_eq_div_mul]; congr 1; omega
theorem div_top2 (M : Nat) (hM : M < 115792089237316195423570985008687907853269984665640564039457584007913129639936) : M / 2 ^ 256 = 0 := Nat.div_eq_of_lt (Nat.lt_of_lt_of_le hM (by decide +kernel))
theorem tmod2b (z : Nat) : (z : Int).tmod 2 = ((z % 2 : Nat) : Int) := by rw [Int.tmod_eq_emod_of_nonneg (by omega)]; omega
set_option maxRecDepth 100000 in
set_option maxHeartbeats 3200000 in
theorem pow5_any (X M : Nat) (hX : X < 115792089237316195423570985008687907853269984665640564039457584007913129639936) (hM : M < 115792089237316195423570985008687907853269984665640564039457584007913129639936) (w : World) :
    Calls Try.prog 35 #[.agg (nd X), .agg (nc M)] w fun e w' => e = .returned (.agg (nd (pwr X M))) ∧ Fr (fun _ => False) w w' := by
  have MU := Lib.hid (fun a W => mul5_any (pwr X a) (pwr X a) (pwr_lt X a) (pwr_lt X a) W)
  have MX := Lib.hid (fun a W => mul5_any (pwr X a) X (pwr_lt X a) hX W)
  have D0 := div_top2 M hM
  have HX := Lib.hid ((Below.heap_alloc ((w.alloc (.cells (nd X) 26)).alloc (.cells (nc M) 23)) (.cells #[.int .i64 0, .int .i64 0, .int .i64 0, .int .i64 0, .int .i64 0, .int .i64 0, .int .i64 0, .int .i64 0, .int .i64 0, .int .i64 0, .int .i64 0, .int .i64 0, .int .i64 0, .int .i64 0, .int .i64 0, .int .i64 0] 26) _ (by simp; omega)).trans (heap_alloc2_old w _ _))
  have HM := Lib.hid ((Below.heap_alloc ((w.alloc (.cells (nd X) 26)).alloc (.cells (nc M) 23)) (.cells #[.int .i64 0, .int .i64 0, .int .i64 0, .int .i64 0, .int .i64 0, .int .i64 0, .int .i64 0, .int .i64 0, .int .i64 0, .int .i64 0, .int .i64 0, .int .i64 0, .int .i64 0, .int .i64 0, .int .i64 0, .int .i64 0] 26) _ (by simp)).trans (heap_alloc2_new w _ _))
  have HR := Lib.hid (heap_at ((w.alloc (.cells (nd X) 26)).alloc (.cells (nc M) 23)) #[.int .i64 0, .int .i64 0, .int .i64 0, .int .i64 0, .int .i64 0, .int .i64 0, .int .i64 0, .int .i64 0, .int .i64 0, .int .i64 0, .int .i64 0, .int .i64 0, .int .i64 0, .int .i64 0, .int .i64 0, .int .i64 0] 26 (w.heap.size + 1 + 1) (by simp))
  have HF := Lib.hid (((((Fr.refl (fun _ => False) w).alloc (.cells (nd X) 26)).alloc (.cells (nc M) 23)).alloc (.cells #[.int .i64 0, .int .i64 0, .int .i64 0, .int .i64 0, .int .i64 0, .int .i64 0, .int .i64 0, .int .i64 0, .int .i64 0, .int .i64 0, .int .i64 0, .int .i64 0, .int .i64 0, .int .i64 0, .int .i64 0, .int .i64 0] 26)))
  have sz3 : (((w.alloc (.cells (nd X) 26)).alloc (.cells (nc M) 23)).alloc (.cells #[.int .i64 0, .int .i64 0, .int .i64 0, .int .i64 0, .int .i64 0, .int .i64 0, .int .i64 0, .int .i64 0, .int .i64 0, .int .i64 0, .int .i64 0, .int .i64 0, .int .i64 0, .int .i64 0, .int .i64 0, .int .i64 0] 26)).heap.size = w.heap.size + 1 + 1 + 1 := by simp
  clear hX hM
  go_enter Try.func35, Try.ntmps35
  go_upto_region 1 with fail
  generalize (((w.alloc (.cells (nd X) 26)).alloc (.cells (nc M) 23)).alloc (.cells #[.int .i64 0, .int .i64 0, .int .i64 0, .int .i64 0, .int .i64 0, .int .i64 0, .int .i64 0, .int .i64 0, .int .i64 0, .int .i64 0, .int .i64 0, .int .i64 0, .int .i64 0, .int .i64 0, .int .i64 0, .int .i64 0] 26)) = w1 at *
  have zl := lt_of_block HR.out
  have F4 := (Fr.refl (fun _ => False) w1).alloc (.cells #[.int .i64 1, .int .i64 0, .int .i64 0, .int .i64 0, .int .i64 0, .int .i64 0, .int .i64 0, .int .i64 0, .int .i64 0, .int .i64 0, .int .i64 0, .int .i64 0, .int .i64 0, .int .i64 0, .int .i64 0, .int .i64 0] 26)
  have X4 := F4.keep HX.out
  have M4 := F4.keep HM.out
  have R4 := F4.keep HR.out
  have Q4 := heap_alloc_new w1 (.cells #[.int .i64 1, .int .i64 0, .int .i64 0, .int .i64 0, .int .i64 0, .int .i64 0, .int .i64 0, .int .i64 0, .int .i64 0, .int .i64 0, .int .i64 0, .int .i64 0, .int .i64 0, .int .i64 0, .int .i64 0, .int .i64 0] 26)
  have G4 := HF.out.trans F4 (fun _ h => h.elim)
  have HH := Lib.hid (And.intro Q4 (And.intro X4 (And.intro M4 (And.intro R4 G4))))
  clear HX HM HR HF F4 X4 M4 R4 Q4 G4
  go_wp2_with fail
  obtain ⟨Q4, X4, M4, R4, G4⟩ := HH.out
  clear HH
  rw [sz3] at Q4 zl
  clear sz3
  generalize hg3 : w.heap.size + 1 + 1 + 1 = g at *
  generalize w1.alloc (.cells #[.int .i64 1, .int .i64 0, .int .i64 0, .int .i64 0, .int .i64 0, .int .i64 0, .int .i64 0, .int .i64 0, .int .i64 0, .int .i64 0, .int .i64 0, .int .i64 0, .int .i64 0, .int .i64 0, .int .i64 0, .int .i64 0] 26) = w4 at *
  have Q4' : w4.heap[g]? = some (.cells (nd (pwr X (M / 2 ^ 256))) 26 (0, 0)) := Q4.trans (congrArg (fun a => some (Obj.cells a 26 (0, 0))) (by rw [D0, pwr_zero]; exact nd_lit1))
  clear D0 hg3 Q4
  go_loopw [6] (fun i wr => ∃ n : Nat, n ≤ 256 ∧ i = .int .i64 ((n : Int) - 1) ∧ wr.heap[g]? = some (.cells (nd (pwr X (M / 2 ^ n))) 26 (0, 0)) ∧ wr.heap[w.heap.size]? = some (.cells (nd X) 26 (0, 0)) ∧ wr.heap[w.heap.size + 1]? = some (.cells (nc M) 23 (0, 0)) ∧ wr.heap[w.heap.size + 1 + 1]? = some (.cells #[.int .i64 0, .int .i64 0, .int .i64 0, .int .i64 0, .int .i64 0, .int .i64 0, .int .i64 0, .int .i64 0, .int .i64 0, .int .i64 0, .int .i64 0, .int .i64 0, .int .i64 0, .int .i64 0, .int .i64 0, .int .i64 0] 26 (0, 0)) ∧ Fr (fun _ => False) w wr) (fun i _ => (intOf i + 1).toNat)
  case atStart => exact ⟨256, by omega, by simp, Q4', X4, M4, R4, G4⟩
  case round =>
    clear Q4' X4 M4 R4 G4
    obtain ⟨n, hn, rfl, hQ, hX, hM, hR, hF⟩ := hrel
    by_cases h0 : n = 0
    · subst h0
      rw [Nat.pow_zero, Nat.div_one] at hQ
      have sR := Try.sizeD (pwr X M)
      have zR' : (#[.int .i64 0, .int .i64 0, .int .i64 0, .int .i64 0, .int .i64 0, .int .i64 0, .int .i64 0, .int .i64 0, .int .i64 0, .int .i64 0, .int .i64 0, .int .i64 0, .int .i64 0, .int .i64 0, .int .i64 0, .int .i64 0] : Array Value).size = (nd (pwr X M)).size := by rw [nd_size]; rfl
      have oR : (nd (pwr X M)).all (·.oneCell') = true := iq_one 16 _
      clear hX hM MU MX
      rw [show ((0 : Nat) : Int) - 1 = -1 from rfl]
      go_wp2_with (first
        | (with_reducible refine wpList_load_row rfl 26 (.tmp 5) rfl g rfl 26 (nd (pwr X M)) (0, 0) _ hQ Try.underlying26 rfl sR ?_)
        | (with_reducible refine wpList_store_row rfl 26 (.tmp 4) (.tmp 27) rfl (w.heap.size + 1 + 1) (nd (pwr X M)) rfl rfl 26 #[.int .i64 0, .int .i64 0, .int .i64 0, .int .i64 0, .int .i64 0, .int .i64 0, .int .i64 0, .int .i64 0, .int .i64 0, .int .i64 0, .int .i64 0, .int .i64 0, .int .i64 0, .int .i64 0, .int .i64 0, .int .i64 0] hR sR zR' oR ?_))
      refine bodyPost_ret (results_cell_row rfl _ _ (w.heap.size + 1 + 1) 26 (nd (pwr X M)) (0, 0) _ rfl (setRow_heap _ _ _ _ _ _ hR) Try.underlying26 rfl sR) rfl ?_
      exact ⟨rfl, hF.trans (Fr.setRow (S := fun k => k = w.heap.size + 1 + 1) (Fr.refl _ _) rfl _) (fun i hi => Or.inr (by have : i = w.heap.size + 1 + 1 := hi; omega))⟩
    · obtain ⟨m, rfl⟩ : ∃ m, n = m + 1 := ⟨n - 1, by omega⟩
      rw [show ((m + 1 : Nat) : Int) - 1 = (m : Int) by omega]
      have ma : (0 : Int) ≤ (m : Int) := by omega
      have hm256 : m < 256 := by omega
      have he := pwr_even X M m
      have ho := pwr_odd X M m
      obtain ⟨N, hN⟩ : ∃ N, N = M / 2 ^ (m + 1) := ⟨_, rfl⟩
      rw [← hN] at hQ he ho
      have MV := fun W => MU.out N W
      rw [pwr_add] at MV he
      have MW := fun W => MX.out (N + N) W
      have hbit := bit_dig M m
      have hz := dig_lt 18446744073709551616 M (m / 64) (by decide)
      have cB : (nc M)[m / 64]? = some (.int .u64 (dig 18446744073709551616 M (m / 64) : Int)) := by rw [nc_uq]; exact uq_get 4 _ _ (by omega)
      have hd4 : m / 64 < 4 := by omega
      have hr64 : m % 64 < 64 := by omega
      have hq : ((m : Int)).tdiv 64 = ((m / 64 : Nat) : Int) := by rw [Int.tdiv_eq_ediv_of_nonneg (by omega)]; omega
      have hr : ((m : Int)).tmod 64 = ((m % 64 : Nat) : Int) := by rw [Int.tmod_eq_emod_of_nonneg (by omega)]; omega
      generalize dig 18446744073709551616 M (m / 64) = z at cB hbit hz
      generalize m / 64 = d at hq hd4 cB
      generalize m % 64 = r at hr hr64 hbit
      have da : (0 : Int) ≤ (d : Int) := by omega
      have db : (d : Int) < 4 := by omega
      have ra : (0 : Int) ≤ (r : Int) := by omega
      have rb : (r : Int) < 64 := by omega
      have hsh : (z : Int) / 2 ^ r = ((z / 2 ^ r : Nat) : Int) := by simp
      have hba := tmod2b (z / 2 ^ r)
      rw [hbit] at hba
      generalize z / 2 ^ r = y at hsh hba
      obtain ⟨V, hV⟩ : ∃ V, V = M / 2 ^ m := ⟨_, rfl⟩
      rw [← hV] at he ho hba
      have HV := Lib.hid hV
      have sQ := Try.sizeD (pwr X N)
      have sQ2 := Try.sizeD (pwr X (N + N))
      have sV := Try.sizeD (pwr X V)
      have sX := Try.sizeD X
      have zQ : (nd (pwr X N)).size = (nd (pwr X (N + N))).size := by rw [nd_size, nd_size]
      have oQ : (nd (pwr X (N + N))).all (·.oneCell') = true := iq_one 16 _
      have zV : (nd (pwr X (N + N))).size = (nd (pwr X V)).size := by rw [nd_size, nd_size]
      have oV : (nd (pwr X V)).all (·.oneCell') = true := iq_one 16 _
      have HX := Lib.hid hX
      have HM := Lib.hid hM
      have HR := Lib.hid hR
      have HF := Lib.hid hF
      have HQ := Lib.hid hQ
      have HE := Lib.hid he
      have HO := Lib.hid ho
      clear hX hM hR hF hQ MU MX hN hbit hz hV he ho h0 hn
      go_wp2_with (with_reducible refine wpList_load_row rfl 26 (.tmp 5) rfl g rfl 26 (nd (pwr X N)) (0, 0) _ HQ.out Try.underlying26 rfl sQ ?_)
      refine (MV _).mono ?_
      rintro e w5 ⟨rfl, F5⟩
      have Q5 := F5.keep HQ.out
      have X5 := F5.keep HX.out
      have M5 := F5.keep HM.out
      have R5 := F5.keep HR.out
      have G5 := HF.out.trans F5 (fun _ h => h.elim)
      clear HQ HX HM HR HF F5 MV
      have F6 : Fr (fun k => k = g) w5 (w5.setRow g (nd (pwr X (N + N)))) := Fr.setRow (S := fun k => k = g) (Fr.refl _ _) rfl _
      have Q6 := setRow_heap _ _ _ (nd (pwr X (N + N))) _ _ Q5
      have X6 := (F6.block _ (lt_of_block X5) (by show w.heap.size ≠ g; omega)).trans X5
      have M6 := (F6.block _ (lt_of_block M5) (by show w.heap.size + 1 ≠ g; omega)).trans M5
      have R6 := (F6.block _ (lt_of_block R5) (by show w.heap.size + 1 + 1 ≠ g; omega)).trans R5
      have G6 := G5.trans F6 (fun i hi => Or.inr (by have : i = g := hi; omega))
      have cM := (cell_of_block M6 d).trans cB
      have HQ6 := Lib.hid Q6
      have HX6 := Lib.hid X6
      have HM6 := Lib.hid M6
      have HR6 := Lib.hid R6
      have HG6 := Lib.hid G6
      clear Q6 X6 M6 R6 G6 F6 X5 M5 R5 G5 cB
      rcases Nat.mod_two_eq_zero_or_one V with hb | hb
      · rw [hb] at hba
        have Hb := Lib.hid hb
        clear hb sX sV zV oV MW
        go_wp2_with (with_reducible refine wpList_store_row rfl 26 (.tmp 5) (.tmp 14) rfl g (nd (pwr X (N + N))) rfl rfl 26 (nd (pwr X N)) Q5 sQ2 zQ oQ ?_)
        go_roundw
        case rel => exact ⟨m, by omega, rfl, HQ6.out.trans (by rw [HE.out Hb.out, HV.out]), HX6.out, HM6.out, HR6.out, HG6.out⟩
        case measure => simp [intOf]
      · rw [hb] at hba
        rw [HO.out hb] at MW
        clear hb
        go_wp2_with (first
          | (with_reducible refine wpList_store_row rfl 26 (.tmp 5) (.tmp 14) rfl g (nd (pwr X (N + N))) rfl rfl 26 (nd (pwr X N)) Q5 sQ2 zQ oQ ?_)
          | (with_reducible refine wpList_load_row rfl 26 (.tmp 5) rfl g rfl 26 (nd (pwr X (N + N))) (0, 0) _ HQ6.out Try.underlying26 rfl sQ2 ?_)
          | (with_reducible refine wpList_load_row rfl 26 (.tmp 2) rfl w.heap.size rfl 26 (nd X) (0, 0) _ HX6.out Try.underlying26 rfl sX ?_))
        refine (MW _).mono ?_
        rintro e w7 ⟨rfl, F7⟩
        have Q7 := F7.keep HQ6.out
        have X7 := F7.keep HX6.out
        have M7 := F7.keep HM6.out
        have R7 := F7.keep HR6.out
        have G7 := HG6.out.trans F7 (fun _ h => h.elim)
        clear HQ6 HX6 HM6 HR6 HG6 F7 cM Q5 MW
        go_wp2_with (with_reducible refine wpList_store_row rfl 26 (.tmp 5) (.tmp 26) rfl g (nd (pwr X V)) rfl rfl 26 (nd (pwr X (N + N))) Q7 sV zV oV ?_)
        have F8 : Fr (fun k => k = g) w7 (w7.setRow g (nd (pwr X V))) := Fr.setRow (S := fun k => k = g) (Fr.refl _ _) rfl _
        go_roundw
        case rel => exact ⟨m, by omega, rfl, (setRow_heap _ _ _ _ _ _ Q7).trans (by rw [HV.out]), (F8.block _ (lt_of_block X7) (by show w.heap.size ≠ g; omega)).trans X7, (F8.block _ (lt_of_block M7) (by show w.heap.size + 1 ≠ g; omega)).trans M7, (F8.block _ (lt_of_block R7) (by show w.heap.size + 1 + 1 ≠ g; omega)).trans R7, G7.trans F8 (fun i hi => Or.inr (by have : i = g := hi; omega))⟩
        case measure => simp [intOf]
end Go.Proofs.Ytahnlnflcgehaaa
namespace Go.Proofs.Ytahnlnflcgehaaa
open Go.RowKit Pri
set_option linter.unusedVariables false

set_option maxRecDepth 100000 in
set_option maxHeartbeats 3200000 in
theorem inv5_op (A R : Array Value) (w : World)
    (PO : ∀ W : World, Calls Try.prog 35 #[.agg A, .agg #[.int .u64 18446744073709551595, .int .u64 18446744073709551615, .int .u64 18446744073709551615, .int .u64 9223372036854775807]] W fun e w' => e = .returned (.agg R) ∧ Fr (fun _ => False) W w')
    (zA : A.size = 16) (zR : R.size = 16) (oR : R.all (·.oneCell') = true) :
    Calls Try.prog 36 #[.agg A] w fun e w' => e = .returned (.agg R) ∧ Fr (fun _ => False) w w' := by
  have sA : (Try.prog.info? 26).map (·.size) = some A.size := by rw [zA]; kernel_rfl
  have sR : (Try.prog.info? 26).map (·.size) = some R.size := by rw [zR]; kernel_rfl
  have zR' : (#[.int .i64 0, .int .i64 0, .int .i64 0, .int .i64 0, .int .i64 0, .int .i64 0, .int .i64 0, .int .i64 0, .int .i64 0, .int .i64 0, .int .i64 0, .int .i64 0, .int .i64 0, .int .i64 0, .int .i64 0, .int .i64 0] : Array Value).size = R.size := by rw [zR]; rfl
  have A0 := heap_alloc2_old w (.cells A 26) (.cells #[.int .i64 0, .int .i64 0, .int .i64 0, .int .i64 0, .int .i64 0, .int .i64 0, .int .i64 0, .int .i64 0, .int .i64 0, .int .i64 0, .int .i64 0, .int .i64 0, .int .i64 0, .int .i64 0, .int .i64 0, .int .i64 0] 26)
  have R0 := heap_alloc2_new w (.cells A 26) (.cells #[.int .i64 0, .int .i64 0, .int .i64 0, .int .i64 0, .int .i64 0, .int .i64 0, .int .i64 0, .int .i64 0, .int .i64 0, .int .i64 0, .int .i64 0, .int .i64 0, .int .i64 0, .int .i64 0, .int .i64 0, .int .i64 0] 26)
  have F0 := (((Fr.refl (fun _ => False) w).alloc (.cells A 26)).alloc (.cells #[.int .i64 0, .int .i64 0, .int .i64 0, .int .i64 0, .int .i64 0, .int .i64 0, .int .i64 0, .int .i64 0, .int .i64 0, .int .i64 0, .int .i64 0, .int .i64 0, .int .i64 0, .int .i64 0, .int .i64 0, .int .i64 0] 26))
  clear zA zR
  go_enter Try.func36, Try.ntmps36
  go_wp2_with (with_reducible refine wpList_load_row rfl 26 (.tmp 1) rfl w.heap.size rfl 26 A (0, 0) _ A0 Try.underlying26 rfl sA ?_)
  refine (PO _).mono ?_
  rintro e w1 ⟨rfl, F1⟩
  have R3 := F1.keep R0
  have G3 := F0.trans F1 (fun _ h => h.elim)
  clear A0 R0 F0 F1
  go_wp2_with (with_reducible refine wpList_store_row rfl 26 (.tmp 2) (.tmp 12) rfl (w.heap.size + 1) R rfl rfl 26 #[.int .i64 0, .int .i64 0, .int .i64 0, .int .i64 0, .int .i64 0, .int .i64 0, .int .i64 0, .int .i64 0, .int .i64 0, .int .i64 0, .int .i64 0, .int .i64 0, .int .i64 0, .int .i64 0, .int .i64 0, .int .i64 0] R3 sR zR' oR ?_)
  refine bodyPost_ret (results_cell_row rfl _ _ (w.heap.size + 1) 26 R (0, 0) _ rfl (setRow_heap _ _ _ _ _ _ R3) Try.underlying26 rfl sR) rfl ?_
  exact ⟨rfl, G3.trans (Fr.setRow (S := fun k => k = w.heap.size + 1) (Fr.refl _ _) rfl _) (fun i hi => Or.inr (by have : i = w.heap.size + 1 := hi; omega))⟩
theorem inv5_any (X : Nat) (hX : X < 115792089237316195423570985008687907853269984665640564039457584007913129639936) (w : World) :
    Calls Try.prog 36 #[.agg (nd X)] w fun e w' => e = .returned (.agg (nd (pwr X (p25519 - 2)))) ∧ Fr (fun _ => False) w w' :=
  inv5_op (nd X) (nd (pwr X (p25519 - 2))) w (by rw [← nc_p2]; exact fun W => pow5_any X (p25519 - 2) hX p2_lt W) (nd_size _) (nd_size _) (iq_one 16 _)
end Go.Proofs.Ytahnlnflcgehaaa
namespace Go.Proofs.Ytahnlnflcgehaaa
open Go.RowKit Pri
set_option linter.unusedVariables false

set_option maxRecDepth 100000 in
set_option maxHeartbeats 100000000 in
theorem fpowsl (A B C V Q E T E2 M : Array Value) (z : Bool) (w : World)
    (OFA : ∀ W : World, Calls Try.prog 14 #[.agg A] W fun e w' => e = .returned (.agg C) ∧ Fr (fun _ => False) W w')
    (IN : ∀ W : World, Calls Try.prog 33 #[.agg A] W fun e w' => e = .returned (.agg V) ∧ Fr (fun _ => False) W w')
    (HV : ∀ W : World, Calls Try.prog 15 #[] W fun e w' => e = .returned (.bool true) ∧ Fr (fun _ => False) W w')
    (PO : ∀ W : World, Calls Try.prog 34 #[.agg A, .agg B] W fun e w' => e = .returned (.agg Q) ∧ Fr (fun _ => False) W w')
    (PE : ∀ W : World, Calls Try.prog 35 #[.agg C, .agg B] W fun e w' => e = .returned (.agg E) ∧ Fr (fun _ => False) W w')
    (S1 : ∀ W : World, Calls Try.prog 16 #[.agg Q, .agg E] W fun e w' => e = .returned (.bool true) ∧ Fr (fun _ => False) W w')
    (IE : ∀ W : World, Calls Try.prog 36 #[.agg C] W fun e w' => e = .returned (.agg E2) ∧ Fr (fun _ => False) W w')
    (S2 : ∀ W : World, Calls Try.prog 16 #[.agg V, .agg E2] W fun e w' => e = .returned (.bool true) ∧ Fr (fun _ => False) W w')
    (MU : ∀ W : World, Calls Try.prog 22 #[.agg A, .agg V] W fun e w' => e = .returned (.agg M) ∧ Fr (fun _ => False) W w')
    (EQ : ∀ W : World, (binOp .eql 26 (.agg C) (.agg #[.int .i64 0, .int .i64 0, .int .i64 0, .int .i64 0, .int .i64 0, .int .i64 0, .int .i64 0, .int .i64 0, .int .i64 0, .int .i64 0, .int .i64 0, .int .i64 0, .int .i64 0, .int .i64 0, .int .i64 0, .int .i64 0])).run Try.prog W = .ok (.bool z) W)
    (EM : ∀ W : World, (binOp .eql 24 (.agg M) (.agg (if z = true then #[.int .u64 0, .int .u64 0, .int .u64 0, .int .u64 0] else #[.int .u64 1, .int .u64 0, .int .u64 0, .int .u64 0]))).run Try.prog W = .ok (.bool true) W)
    (zA : A.size = 4) (zB : B.size = 4) (zC : C.size = 16) (zV : V.size = 4) (oneC : C.all (·.oneCell') = true) (oneV : V.all (·.oneCell') = true) :
    Calls Try.prog 5 #[.agg A, .agg B] w fun e w' => e = .returned (.bool true) ∧ Fr (fun _ => False) w w' := by
  have sA : (Try.prog.info? 24).map (·.size) = some A.size := by rw [zA]; kernel_rfl
  have sB : (Try.prog.info? 23).map (·.size) = some B.size := by rw [zB]; kernel_rfl
  have sC : (Try.prog.info? 26).map (·.size) = some C.size := by rw [zC]; kernel_rfl
  have sV : (Try.prog.info? 24).map (·.size) = some V.size := by rw [zV]; kernel_rfl
  have zC' : (#[.int .i64 0, .int .i64 0, .int .i64 0, .int .i64 0, .int .i64 0, .int .i64 0, .int .i64 0, .int .i64 0, .int .i64 0, .int .i64 0, .int .i64 0, .int .i64 0, .int .i64 0, .int .i64 0, .int .i64 0, .int .i64 0] : Array Value).size = C.size := by rw [zC]; rfl
  have zV' : (#[.int .u64 0, .int .u64 0, .int .u64 0, .int .u64 0] : Array Value).size = V.size := by rw [zV]; rfl
  have A0 := heap_alloc2_old w (.cells A 24) (.cells B 23)
  have B0 := heap_alloc2_new w (.cells A 24) (.cells B 23)
  have F0 := (((Fr.refl (fun _ => False) w).alloc (.cells A 24)).alloc (.cells B 23))
  have EG := Try.guardNum5
  have EG2 := Try.guardElem
  clear zA zB zC
  go_enter Try.func5, Try.ntmps5
  go_wp2_with (with_reducible refine wpList_load_row rfl 24 (.tmp 2) rfl w.heap.size rfl 24 A (0, 0) _ A0 Try.underlying24 rfl sA ?_)
  refine (OFA _).mono ?_
  rintro e w1 ⟨rfl, F1⟩
  have A1 := F1.keep A0
  have B1 := F1.keep B0
  have G1 := F0.trans F1 (fun _ h => h.elim)
  have K0 := heap_alloc_new w1 (.cells #[.int .i64 0, .int .i64 0, .int .i64 0, .int .i64 0, .int .i64 0, .int .i64 0, .int .i64 0, .int .i64 0, .int .i64 0, .int .i64 0, .int .i64 0, .int .i64 0, .int .i64 0, .int .i64 0, .int .i64 0, .int .i64 0] 26)
  have F4 : Fr (fun _ => False) w1 ((w1.alloc (.cells #[.int .i64 0, .int .i64 0, .int .i64 0, .int .i64 0, .int .i64 0, .int .i64 0, .int .i64 0, .int .i64 0, .int .i64 0, .int .i64 0, .int .i64 0, .int .i64 0, .int .i64 0, .int .i64 0, .int .i64 0, .int .i64 0] 26)).setRow w1.heap.size C) := ((Fr.refl _ w1).alloc _).trans (Fr.setRow (S := fun k => k = w1.heap.size) (Fr.refl _ _) rfl _) (fun i hi => Or.inr (by have : i = w1.heap.size := hi; omega))
  have A4 := F4.keep A1
  have B4 := F4.keep B1
  have C4 := setRow_heap _ _ _ C _ _ K0
  have G4 := G1.trans F4 (fun _ h => h.elim)
  have HB4 := Lib.hid B4
  have HC4 := Lib.hid C4
  have HG4 := Lib.hid G4
  clear A0 B0 F0 F1 A1 B1 G1 F4 B4 C4 G4 OFA
  go_wp2_with (first
    | (with_reducible refine wpList_store_row rfl 26 (.tmp 5) (.tmp 9) rfl w1.heap.size C rfl rfl 26 _ K0 sC zC' oneC ?_)
    | (with_reducible refine wpList_load_row rfl 24 (.tmp 2) rfl w.heap.size rfl 24 A (0, 0) _ A4 Try.underlying24 rfl sA ?_))
  have B4 := HB4.out
  have C4 := HC4.out
  have G4 := HG4.out
  clear HB4 HC4 HG4 K0
  generalize w1.heap.size = g5 at *
  generalize (w1.alloc (.cells #[.int .i64 0, .int .i64 0, .int .i64 0, .int .i64 0, .int .i64 0, .int .i64 0, .int .i64 0, .int .i64 0, .int .i64 0, .int .i64 0, .int .i64 0, .int .i64 0, .int .i64 0, .int .i64 0, .int .i64 0, .int .i64 0] 26)).setRow g5 C = w2 at *
  refine (IN _).mono ?_
  rintro e w3 ⟨rfl, F3⟩
  have A5 := F3.keep A4
  have B5 := F3.keep B4
  have C5 := F3.keep C4
  have G5 := G4.trans F3 (fun _ h => h.elim)
  have K0 := heap_alloc_new w3 (.cells #[.int .u64 0, .int .u64 0, .int .u64 0, .int .u64 0] 24)
  have lA := lt_of_block A5
  have lB := lt_of_block B5
  have lC := lt_of_block C5
  have sz3 : ((w3.alloc (.cells #[.int .u64 0, .int .u64 0, .int .u64 0, .int .u64 0] 24)).setRow w3.heap.size V).heap.size = w3.heap.size + 1 := by simp
  have F6 : Fr (fun _ => False) w3 ((w3.alloc (.cells #[.int .u64 0, .int .u64 0, .int .u64 0, .int .u64 0] 24)).setRow w3.heap.size V) := ((Fr.refl _ w3).alloc _).trans (Fr.setRow (S := fun k => k = w3.heap.size) (Fr.refl _ _) rfl _) (fun i hi => Or.inr (by have : i = w3.heap.size := hi; omega))
  have F7 := F6.alloc (.cells #[.int .u64 1, .int .u64 0, .int .u64 0, .int .u64 0] 24)
  have E7 := (Fr.refl (fun _ => False) ((w3.alloc (.cells #[.int .u64 0, .int .u64 0, .int .u64 0, .int .u64 0] 24)).setRow w3.heap.size V)).alloc (.cells #[.int .u64 1, .int .u64 0, .int .u64 0, .int .u64 0] 24)
  have O7 := heap_alloc_new ((w3.alloc (.cells #[.int .u64 0, .int .u64 0, .int .u64 0, .int .u64 0] 24)).setRow w3.heap.size V) (.cells #[.int .u64 1, .int .u64 0, .int .u64 0, .int .u64 0] 24)
  rw [sz3] at O7
  have V7 := E7.keep (setRow_heap _ _ _ V _ _ K0)
  have HA7 := Lib.hid (F7.keep A5)
  have HB7 := Lib.hid (F7.keep B5)
  have C7 := F7.keep C5
  have HV7 := Lib.hid V7
  have HG7 := Lib.hid (G5.trans F7 (fun _ h => h.elim))
  have HO7 := Lib.hid O7
  clear A4 B4 C4 G4 F3 A5 B5 C5 G5 F6 F7 E7 O7 V7 IN sz3
  cases z with
  | true =>
    have s74 : (Try.prog.info? 24).map (·.size) = some (#[.int .u64 0, .int .u64 0, .int .u64 0, .int .u64 0] : Array Value).size := by kernel_rfl
    have z74 : (#[.int .u64 1, .int .u64 0, .int .u64 0, .int .u64 0] : Array Value).size = (#[.int .u64 0, .int .u64 0, .int .u64 0, .int .u64 0] : Array Value).size := rfl
    have o74 : (#[.int .u64 0, .int .u64 0, .int .u64 0, .int .u64 0] : Array Value).all (·.oneCell') = true := by simp [Value.oneCell']
    have F8 : Fr (fun k => k = w3.heap.size + 1) (((w3.alloc (.cells #[.int .u64 0, .int .u64 0, .int .u64 0, .int .u64 0] 24)).setRow w3.heap.size V).alloc (.cells #[.int .u64 1, .int .u64 0, .int .u64 0, .int .u64 0] 24)) ((((w3.alloc (.cells #[.int .u64 0, .int .u64 0, .int .u64 0, .int .u64 0] 24)).setRow w3.heap.size V).alloc (.cells #[.int .u64 1, .int .u64 0, .int .u64 0, .int .u64 0] 24)).setRow (w3.heap.size + 1) #[.int .u64 0, .int .u64 0, .int .u64 0, .int .u64 0]) := Fr.setRow (S := fun k => k = w3.heap.size + 1) (Fr.refl _ _) rfl _
    have bA := lt_of_block HA7.out
    have HA := Lib.hid ((F8.block _ (lt_of_block HA7.out) (by show w.heap.size ≠ w3.heap.size + 1; omega)).trans HA7.out)
    have HB := Lib.hid ((F8.block _ (lt_of_block HB7.out) (by show w.heap.size + 1 ≠ w3.heap.size + 1; omega)).trans HB7.out)
    have HC := Lib.hid ((F8.block _ (lt_of_block C7) (by show g5 ≠ w3.heap.size + 1; omega)).trans C7)
    have HI := Lib.hid ((F8.block _ (lt_of_block HV7.out) (by show w3.heap.size ≠ w3.heap.size + 1; omega)).trans HV7.out)
    have HO := Lib.hid (setRow_heap _ _ _ #[.int .u64 0, .int .u64 0, .int .u64 0, .int .u64 0] _ _ HO7.out)
    have HG := Lib.hid (HG7.out.trans F8 (fun i hi => Or.inr (by have : i = w3.heap.size + 1 := hi; omega)))
    clear F8
    have EM := fun W => EM W
    rw [if_pos rfl] at EM
    go_wp2_with (first
      | (with_reducible refine wpList_store_row rfl 24 (.tmp 6) (.tmp 11) rfl w3.heap.size V rfl rfl 24 _ K0 sV zV' oneV ?_)
      | (with_reducible refine wpList_load_row rfl 26 (.tmp 5) rfl g5 rfl 26 C (0, 0) _ C7 Try.underlying26 rfl sC ?_)
      | (with_reducible refine wpList_store_row rfl 24 (.tmp 7) (.tmp 16) rfl (w3.heap.size + 1) #[.int .u64 0, .int .u64 0, .int .u64 0, .int .u64 0] rfl rfl 24 #[.int .u64 1, .int .u64 0, .int .u64 0, .int .u64 0] HO7.out s74 z74 o74 ?_))
    have sO : (Try.prog.info? 24).map (·.size) = some (#[.int .u64 0, .int .u64 0, .int .u64 0, .int .u64 0] : Array Value).size := by kernel_rfl
    clear HA7 HB7 HV7 HG7 HO7 C7 K0
    generalize w3.heap.size = g6 at *
    generalize (((w3.alloc (.cells #[.int .u64 0, .int .u64 0, .int .u64 0, .int .u64 0] 24)).setRow g6 V).alloc (.cells #[.int .u64 1, .int .u64 0, .int .u64 0, .int .u64 0] 24)).setRow (g6 + 1) #[.int .u64 0, .int .u64 0, .int .u64 0, .int .u64 0] = W0 at *
    refine wp_region_keep (by kernel_rfl) (by kernel_rfl) ?_
    repeat (any_goals (first | (go_big_quiet_want; (with_reducible refine quiet_load_row 24 (.tmp 2) rfl w.heap.size rfl 24 A (0, 0) _ HA.out Try.underlying24 rfl sA ?_); simp only [Act.put, List.setIfInBounds_toArray, List.set_cons_zero, List.set_cons_succ]; go_big_quiet_on) | (go_big_quiet_want; (with_reducible refine quiet_load_row 23 (.tmp 3) rfl (w.heap.size + 1) rfl 23 B (0, 0) _ HB.out Try.underlying23 rfl sB ?_); simp only [Act.put, List.setIfInBounds_toArray, List.set_cons_zero, List.set_cons_succ]; go_big_quiet_on) | (go_big_quiet_want; (with_reducible refine quiet_load_row 26 (.tmp 5) rfl g5 rfl 26 C (0, 0) _ HC.out Try.underlying26 rfl sC ?_); simp only [Act.put, List.setIfInBounds_toArray, List.set_cons_zero, List.set_cons_succ]; go_big_quiet_on) | (go_big_quiet_want; (with_reducible refine quiet_load_row 24 (.tmp 6) rfl g6 rfl 24 V (0, 0) _ HI.out Try.underlying24 rfl sV ?_); simp only [Act.put, List.setIfInBounds_toArray, List.set_cons_zero, List.set_cons_succ]; go_big_quiet_on) | (go_big_quiet_want; (with_reducible refine quiet_load_row 24 (.tmp 7) rfl (g6 + 1) rfl 24 #[.int .u64 0, .int .u64 0, .int .u64 0, .int .u64 0] (0, 0) _ HO.out Try.underlying24 rfl sO ?_); simp only [Act.put, List.setIfInBounds_toArray, List.set_cons_zero, List.set_cons_succ]; go_big_quiet_on) | go_big_quiet_step (((first | (go_at_call 15; with_reducible exact Calls.keep (HV _)) | (go_at_call 34; with_reducible exact Calls.keep (PO _)) | (go_at_call 35; with_reducible exact Calls.keep (PE _)) | (go_at_call 16; with_reducible exact Calls.keep (S1 _)) | (go_at_call 36; with_reducible exact Calls.keep (IE _)) | (go_at_call 16; with_reducible exact Calls.keep (S2 _)) | (go_at_call 22; with_reducible exact Calls.keep (MU _))))) | quiet_step (((first | (go_at_call 15; with_reducible exact Calls.keep (HV _)) | (go_at_call 34; with_reducible exact Calls.keep (PO _)) | (go_at_call 35; with_reducible exact Calls.keep (PE _)) | (go_at_call 16; with_reducible exact Calls.keep (S1 _)) | (go_at_call 36; with_reducible exact Calls.keep (IE _)) | (go_at_call 16; with_reducible exact Calls.keep (S2 _)) | (go_at_call 22; with_reducible exact Calls.keep (MU _)))))))
    refine wpQuiet_nil ?_
    intro _ hw'
    obtain ⟨y, rfl⟩ := hw'
    go_wp2
    go_ret
    exact ⟨rfl, HG.out.trans y.h (fun _ h => h.elim)⟩
  | false =>
    have HA := HA7
    have HB := HB7
    have HC := Lib.hid C7
    have HI := HV7
    have HO := HO7
    have HG := HG7
    have EM := fun W => EM W
    rw [if_neg (by decide)] at EM
    go_wp2_with (first
      | (with_reducible refine wpList_store_row rfl 24 (.tmp 6) (.tmp 11) rfl w3.heap.size V rfl rfl 24 _ K0 sV zV' oneV ?_)
      | (with_reducible refine wpList_load_row rfl 26 (.tmp 5) rfl g5 rfl 26 C (0, 0) _ C7 Try.underlying26 rfl sC ?_))
    have sO : (Try.prog.info? 24).map (·.size) = some (#[.int .u64 1, .int .u64 0, .int .u64 0, .int .u64 0] : Array Value).size := by kernel_rfl
    clear HA7 HB7 HV7 HG7 HO7 C7 K0
    generalize w3.heap.size = g6 at *
    generalize (((w3.alloc (.cells #[.int .u64 0, .int .u64 0, .int .u64 0, .int .u64 0] 24)).setRow g6 V).alloc (.cells #[.int .u64 1, .int .u64 0, .int .u64 0, .int .u64 0] 24)) = W0 at *
    refine wp_region_keep (by kernel_rfl) (by kernel_rfl) ?_
    repeat (any_goals (first | (go_big_quiet_want; (with_reducible refine quiet_load_row 24 (.tmp 2) rfl w.heap.size rfl 24 A (0, 0) _ HA.out Try.underlying24 rfl sA ?_); simp only [Act.put, List.setIfInBounds_toArray, List.set_cons_zero, List.set_cons_succ]; go_big_quiet_on) | (go_big_quiet_want; (with_reducible refine quiet_load_row 23 (.tmp 3) rfl (w.heap.size + 1) rfl 23 B (0, 0) _ HB.out Try.underlying23 rfl sB ?_); simp only [Act.put, List.setIfInBounds_toArray, List.set_cons_zero, List.set_cons_succ]; go_big_quiet_on) | (go_big_quiet_want; (with_reducible refine quiet_load_row 26 (.tmp 5) rfl g5 rfl 26 C (0, 0) _ HC.out Try.underlying26 rfl sC ?_); simp only [Act.put, List.setIfInBounds_toArray, List.set_cons_zero, List.set_cons_succ]; go_big_quiet_on) | (go_big_quiet_want; (with_reducible refine quiet_load_row 24 (.tmp 6) rfl g6 rfl 24 V (0, 0) _ HI.out Try.underlying24 rfl sV ?_); simp only [Act.put, List.setIfInBounds_toArray, List.set_cons_zero, List.set_cons_succ]; go_big_quiet_on) | (go_big_quiet_want; (with_reducible refine quiet_load_row 24 (.tmp 7) rfl (g6 + 1) rfl 24 #[.int .u64 1, .int .u64 0, .int .u64 0, .int .u64 0] (0, 0) _ HO.out Try.underlying24 rfl sO ?_); simp only [Act.put, List.setIfInBounds_toArray, List.set_cons_zero, List.set_cons_succ]; go_big_quiet_on) | go_big_quiet_step (((first | (go_at_call 15; with_reducible exact Calls.keep (HV _)) | (go_at_call 34; with_reducible exact Calls.keep (PO _)) | (go_at_call 35; with_reducible exact Calls.keep (PE _)) | (go_at_call 16; with_reducible exact Calls.keep (S1 _)) | (go_at_call 36; with_reducible exact Calls.keep (IE _)) | (go_at_call 16; with_reducible exact Calls.keep (S2 _)) | (go_at_call 22; with_reducible exact Calls.keep (MU _))))) | quiet_step (((first | (go_at_call 15; with_reducible exact Calls.keep (HV _)) | (go_at_call 34; with_reducible exact Calls.keep (PO _)) | (go_at_call 35; with_reducible exact Calls.keep (PE _)) | (go_at_call 16; with_reducible exact Calls.keep (S1 _)) | (go_at_call 36; with_reducible exact Calls.keep (IE _)) | (go_at_call 16; with_reducible exact Calls.keep (S2 _)) | (go_at_call 22; with_reducible exact Calls.keep (MU _)))))))
    refine wpQuiet_nil ?_
    intro _ hw'
    obtain ⟨y, rfl⟩ := hw'
    go_wp2
    go_ret
    exact ⟨rfl, HG.out.trans y.h (fun _ h => h.elim)⟩
end Go.Proofs.Ytahnlnflcgehaaa
namespace Go.Proofs.Ytahnlnflcgehaaa
open Go.RowKit Pri
set_option linter.unusedVariables false

theorem pwr_rest (X n : Nat) : pwr (X % p25519) n = pwr X n := by unfold pwr; rw [← Nat.pow_mod]
theorem one_of_rest (X k : Nat) (h : (X % p25519) ^ k % p25519 = 1) : X ^ k % p25519 = 1 := by rw [Nat.pow_mod]; exact h
theorem inv_gen (X n m : Nat) (hn : n + 1 = m) (h : X ^ m % p25519 = 1) : X * pwr X n % p25519 = 1 := by
  subst hn
  unfold pwr
  rw [Nat.mul_mod_mod, ← Nat.pow_succ']; exact h
theorem inv_one (X : Nat) (h : X % p25519 ≠ 0) : X * pwr X (p25519 - 2) % p25519 = 1 :=
  inv_gen X (p25519 - 2) (p25519 - 1) (by decide +kernel) (one_of_rest X (p25519 - 1) (p_fermat (X % p25519) (Nat.pos_of_ne_zero h) (Nat.mod_lt _ p_pos)))
theorem inv_nought (X n : Nat) (h : X % p25519 = 0) : X * n % p25519 = 0 := by rw [Nat.mul_mod, h, Nat.zero_mul, Nat.zero_mod]
theorem nd_lit0 : (#[.int .i64 0, .int .i64 0, .int .i64 0, .int .i64 0, .int .i64 0, .int .i64 0, .int .i64 0, .int .i64 0, .int .i64 0, .int .i64 0, .int .i64 0, .int .i64 0, .int .i64 0, .int .i64 0, .int .i64 0, .int .i64 0] : Array Value) = nd 0 := by kernel_rfl
theorem nc_lit0 : (#[.int .u64 0, .int .u64 0, .int .u64 0, .int .u64 0] : Array Value) = nc 0 := by kernel_rfl
theorem nc_lit1 : (#[.int .u64 1, .int .u64 0, .int .u64 0, .int .u64 0] : Array Value) = nc 1 := by kernel_rfl
theorem em_any (X n : Nat) (h0 : X % p25519 = 0 → n = 0) (h1 : X % p25519 ≠ 0 → n = 1) (W : World) : (binOp .eql 24 (.agg (nc n)) (.agg (if decide (X % p25519 = 0) = true then #[.int .u64 0, .int .u64 0, .int .u64 0, .int .u64 0] else #[.int .u64 1, .int .u64 0, .int .u64 0, .int .u64 0]))).run Try.prog W = .ok (.bool true) W := by
  by_cases h : X % p25519 = 0
  · rw [if_pos (decide_eq_true h), h0 h, nc_lit0]
    have := eql_elem 0 0 (by decide) (by decide) W
    rwa [decide_eq_true rfl] at this
  · rw [if_neg (by rw [decide_eq_true_iff]; exact h), h1 h, nc_lit1]
    have := eql_elem 1 1 (by decide) (by decide) W
    rwa [decide_eq_true rfl] at this
set_option maxRecDepth 100000 in
theorem fpows_any (X M : Nat) (hX : X < 115792089237316195423570985008687907853269984665640564039457584007913129639936) (hM : M < 115792089237316195423570985008687907853269984665640564039457584007913129639936) (w : World) :
    Calls Try.prog 5 #[.agg (nc X), .agg (nc M)] w fun e w' => e = .returned (.bool true) ∧ Fr (fun _ => False) w w' := by
  have hXp := mod_p_lt X
  refine fpowsl (nc X) (nc M) (nd (X % p25519)) (nc (pwr X (p25519 - 2))) (nc (pwr X M)) (nd (pwr X M)) #[] (nd (pwr X (p25519 - 2))) (nc (X * pwr X (p25519 - 2) % p25519)) (decide (X % p25519 = 0)) w ?OFA ?IN ?HV ?PO ?PE ?S1 ?IE ?S2 ?MU ?EQ ?EM (nc_size _) (nc_size _) (nd_size _) (nc_size _) (iq_one 16 _) (nc_one _)
  case OFA => intro W; exact lof5_any X hX W
  case IN => intro W; exact finv_any X hX W
  case HV => intro W; exact halves_any W
  case PO => intro W; exact fpow_any X M hX hM W
  case PE => intro W; have := pow5_any (X % p25519) M hXp hM W; rwa [pwr_rest] at this
  case S1 => intro W; exact same5_any _ (pwr_lt X M) W
  case IE => intro W; have := inv5_any (X % p25519) hXp W; rwa [pwr_rest] at this
  case S2 => intro W; exact same5_any _ (pwr_lt X _) W
  case MU => intro W; exact fmul_any X (pwr X (p25519 - 2)) hX (pwr_lt X _) W
  case EQ => intro W; have := eql_nd5 (X % p25519) 0 hXp (by decide) W; rwa [← nd_lit0] at this
  case EM => intro W; exact em_any X _ (fun h => inv_nought X _ h) (fun h => inv_one X h) W
end Go.Proofs.Ytahnlnflcgehaaa
namespace Go.Proofs.Ytahnlnflcgehaaa
open Go.RowKit Pri
set_option linter.unusedVariables false

/-- The third and the seventh power, the candidate, what it makes, the numbers of the exponents. -/
def r3 (V : Nat) : Nat := V * (V * V % p25519) % p25519
def r7 (V : Nat) : Nat := V * (r3 V * r3 V % p25519) % p25519
def rE : Nat := 7237005577332262213973186563042994240829374041602535252466099000494570602493
def rI : Nat := 14474011154664524427946373126085988481658748083205070504932198000989141204987
def rx (U V : Nat) : Nat := (U * r3 V % p25519) * pwr (U * r7 V % p25519) rE % p25519
def rm (U V : Nat) : Nat := V * (rx U V * rx U V % p25519) % p25519
def rc1 (U V : Nat) : Bool := decide (rm U V % p25519 = U % p25519)
def rc2 (U V : Nat) : Bool := decide (rm U V % p25519 = (p25519 - U % p25519) % p25519 % p25519)
/-- The root, and whether there is one. -/
def rootN (U V : Nat) : Nat := if rc1 U V then rx U V else if rc2 U V then rx U V * iI % p25519 else 0
def rootB (U V : Nat) : Bool := rc1 U V || rc2 U V

theorem modp {a b : Nat} (h : fv a = fv b) : a % p25519 = b % p25519 := fv_eq.1 h
theorem r3_mod (V : Nat) : r3 (V % p25519) = r3 V := by unfold r3; exact modp (by simp only [fv_mul, fv_mod])
theorem r7_mod (V : Nat) : r7 (V % p25519) = r7 V := by unfold r7; rw [r3_mod]; exact modp (by simp only [fv_mul, fv_mod])
theorem rx_mod (U V : Nat) : rx (U % p25519) (V % p25519) = rx U V := by
  have a : U % p25519 * r3 V % p25519 = U * r3 V % p25519 := modp (by simp only [fv_mul, fv_mod])
  have b : U % p25519 * r7 V % p25519 = U * r7 V % p25519 := modp (by simp only [fv_mul, fv_mod])
  unfold rx
  rw [r3_mod, r7_mod, a, b]
theorem rm_mod (U V : Nat) : rm (U % p25519) (V % p25519) = rm U V := by
  unfold rm; rw [rx_mod]; exact modp (by simp only [fv_mul, fv_mod])
theorem rc1_mod (U V : Nat) : rc1 (U % p25519) (V % p25519) = rc1 U V := by unfold rc1; rw [rm_mod, Nat.mod_mod]
theorem rc2_mod (U V : Nat) : rc2 (U % p25519) (V % p25519) = rc2 U V := by unfold rc2; rw [rm_mod, show U % p25519 % p25519 = U % p25519 from Nat.mod_mod _ _]
theorem rootN_mod (U V : Nat) : rootN (U % p25519) (V % p25519) = rootN U V := by unfold rootN; rw [rc1_mod, rc2_mod, rx_mod]
theorem rootB_mod (U V : Nat) : rootB (U % p25519) (V % p25519) = rootB U V := by unfold rootB; rw [rc1_mod, rc2_mod]
theorem rx_lt (U V : Nat) : rx U V < p25519 := Nat.mod_lt _ p_pos
theorem rm_lt (U V : Nat) : rm U V < p25519 := Nat.mod_lt _ p_pos
theorem iI_lt : iI < p25519 := by decide +kernel
theorem rootN_lt (U V : Nat) : rootN U V < p25519 := by
  unfold rootN
  split
  · exact rx_lt U V
  · split
    · exact Nat.mod_lt _ p_pos
    · exact p_pos
theorem iI_sq : fv iI * fv iI = -1 := by
  have h : iI * iI % p25519 = (p25519 - 1) % p25519 := by decide +kernel
  rw [← fv_mul, fv_eq.2 h, fv_neg 1 (by decide +kernel), fv_one]
theorem pwr_gen (a n m : Nat) (hn : n < 2 ^ 256) (h : pwm p25519 256 a n 1 % p25519 = m) : pwr a n = m := by
  have h2 := pwm_eq p25519 256 a n 1 hn
  rw [Nat.one_mul] at h2
  unfold pwr
  rw [← h2]; exact h
theorem iI_pow : pwr 2 rI = iI := pwr_gen 2 rI iI (by decide +kernel) (by decide +kernel)
theorem fv_negm (a : Nat) : fv ((p25519 - a % p25519) % p25519) = - fv a := by rw [fv_mod, fv_neg _ (Nat.le_of_lt (Nat.mod_lt _ p_pos)), fv_mod]
theorem rc1_fv (U V : Nat) (h : rc1 U V = true) : fv V * (fv (rx U V) * fv (rx U V)) = fv U := by
  have := fv_eq.2 (of_decide_eq_true h)
  unfold rm at this
  simpa only [fv_mul, fv_mod] using this
theorem rc2_fv (U V : Nat) (h : rc2 U V = true) : fv V * (fv (rx U V) * fv (rx U V)) = - fv U := by
  have h' : rm U V % p25519 = ((p25519 - U % p25519) % p25519) % p25519 := of_decide_eq_true h
  have := fv_eq.2 h'
  rw [fv_negm] at this
  unfold rm at this
  simpa only [fv_mul, fv_mod] using this
/-- What is found is a root. -/
theorem root_sq (U V : Nat) (h : rootB U V = true) : V * (rootN U V * rootN U V % p25519) % p25519 % p25519 = U % p25519 := by
  rw [Nat.mod_mod]
  refine modp ?_
  simp only [fv_mul, fv_mod]
  unfold rootN
  by_cases c : rc1 U V = true
  · rw [if_pos c]; exact rc1_fv U V c
  · rw [if_neg c]
    have c2 : rc2 U V = true := by
      unfold rootB at h
      rw [Bool.eq_false_iff.2 c, Bool.false_or] at h
      exact h
    rw [if_pos c2]
    have e := rc2_fv U V c2
    have i := iI_sq
    simp only [fv_mul, fv_mod]
    generalize fv (rx U V) = x at *
    generalize fv V = v at *
    generalize fv U = u at *
    generalize fv iI = t at *
    grind
theorem rE_twice : 4 * rE + 4 = (p25519 - 1) / 2 + 2 := by decide +kernel
theorem fv_pwr_add (X m n : Nat) : fv (pwr X (m + n)) = fv (pwr X m) * fv (pwr X n) := by rw [← pwr_add, fv_mod, fv_mul]
theorem fv_pwr_one (X : Nat) : fv (pwr X 1) = fv X := by unfold pwr; rw [Nat.pow_one, fv_mod]
theorem pow_sq (X n : Nat) : pwr (X * X) n = pwr X (2 * n) := by unfold pwr; rw [← Nat.pow_two, ← Nat.pow_mul]
theorem half_one (X H : Nat) (hH : 2 * H = p25519 - 1) (h : X % p25519 ≠ 0) : fv (pwr X H) = 1 ∨ fv (pwr X H) = -1 := by
  refine sq_two _ _ ?_
  rw [← fv_pwr_add, ← Nat.two_mul, hH]
  have := one_of_rest X (p25519 - 1) (p_fermat (X % p25519) (Nat.pos_of_ne_zero h) (Nat.mod_lt _ p_pos))
  have e : pwr X (p25519 - 1) = 1 := this
  rw [e, fv_one]; grind
theorem rx_sq (X E H : Nat) (hE : 4 * E + 4 = H + 2) (x : Nat) (hx : x = (X * X % p25519 * 1 % p25519) * pwr (X * X % p25519 * 1 % p25519) E % p25519) : fv x * fv x = fv X * fv X * fv (pwr X H) := by
  subst hx
  rw [Nat.mul_one, Nat.mod_mod, pwr_rest, pow_sq, fv_mod, fv_mul, fv_mod, fv_mul]
  have e1 := fv_pwr_add X (2 * E) (2 * E)
  have e2 : 2 * E + 2 * E + (1 + 1 + (1 + 1)) = H + (1 + 1) := by omega
  have e3 := fv_pwr_add X (2 * E + 2 * E) (1 + 1 + (1 + 1))
  rw [e2] at e3
  have e4 := fv_pwr_add X H (1 + 1)
  have e5 := fv_pwr_add X (1 + 1) (1 + 1)
  have e6 := fv_pwr_add X 1 1
  rw [fv_pwr_one] at e6
  rw [e3, e1, e5, e6] at e4
  generalize fv (pwr X H) = h at *
  generalize fv (pwr X (2 * E)) = q at *
  generalize fv X = a at *
  grind
theorem one_r3 : r3 1 = 1 := by decide +kernel
theorem one_r7 : r7 1 = 1 := by decide +kernel
/-- A square has a root, that is it or its opposite. -/
theorem root_of_sq (X : Nat) : rootB (X * X % p25519) 1 = true ∧ (fv (rootN (X * X % p25519) 1) = fv X ∨ fv (rootN (X * X % p25519) 1) = - fv X) := by
  have hx : rx (X * X % p25519) 1 = (X * X % p25519 * 1 % p25519) * pwr (X * X % p25519 * 1 % p25519) rE % p25519 := by unfold rx; rw [one_r3, one_r7]
  have hH : 2 * ((p25519 - 1) / 2) = p25519 - 1 := half_p
  have hq := rx_sq X rE ((p25519 - 1) / 2) rE_twice _ hx
  have hm : fv (rm (X * X % p25519) 1) = fv (rx (X * X % p25519) 1) * fv (rx (X * X % p25519) 1) := by
    unfold rm; rw [Nat.one_mul, Nat.mod_mod, fv_mod, fv_mul]
  generalize (p25519 - 1) / 2 = H at *
  have key : (fv (rx (X * X % p25519) 1) * fv (rx (X * X % p25519) 1) = fv X * fv X) ∨ (fv (rx (X * X % p25519) 1) * fv (rx (X * X % p25519) 1) = - (fv X * fv X)) := by
    by_cases h0 : X % p25519 = 0
    · have : fv X = 0 := by rw [← fv_mod, h0, fv_zero]
      left
      rw [hq, this]
      grind
    · rcases half_one X H hH h0 with h | h
      · left; rw [hq, h]; grind
      · right; rw [hq, h]; grind
  have sq : fv (X * X % p25519) = fv X * fv X := by rw [fv_mod, fv_mul]
  by_cases c : rc1 (X * X % p25519) 1 = true
  · refine ⟨by unfold rootB; rw [c, Bool.true_or], ?_⟩
    have e := rc1_fv _ _ c
    unfold rootN
    rw [if_pos c]
    rw [fv_one, sq] at e
    exact sq_two _ _ (by grind)
  · have k2 : fv (rx (X * X % p25519) 1) * fv (rx (X * X % p25519) 1) = - (fv X * fv X) := by
      rcases key with k | k
      · exact absurd (decide_eq_true (modp (by rw [hm, k, sq]))) c
      · exact k
    have c2 : rc2 (X * X % p25519) 1 = true := by
      unfold rc2
      refine decide_eq_true ?_
      rw [Nat.mod_mod]
      have : rm (X * X % p25519) 1 % p25519 = ((p25519 - X * X % p25519 % p25519) % p25519) % p25519 := modp (by rw [hm, k2, fv_negm, sq])
      rwa [Nat.mod_mod] at this
    refine ⟨by unfold rootB; rw [c2, Bool.or_true], ?_⟩
    unfold rootN
    rw [if_neg c, if_pos c2]
    refine sq_two _ _ ?_
    have i := iI_sq
    rw [fv_mod, fv_mul]
    generalize fv (rx (X * X % p25519) 1) = x at *
    generalize fv X = a at *
    generalize fv iI = t at *
    grind
end Go.Proofs.Ytahnlnflcgehaaa
namespace Go.Proofs.Ytahnlnflcgehaaa
open Go.RowKit
set_option linter.unusedVariables false
set_option linter.unusedSimpArgs false

theorem Try.szEl : (Try.prog.info? 24).map (·.size) = some 4 := by kernel_rfl
theorem Try.alEl : ∀ w, (Instr.alloc 24 true (.tuple #[])).run Try.prog w = .ok (.pointer (some ⟨w.heap.size, 0, none⟩)) (w.alloc (.cells #[.int .u64 0, .int .u64 0, .int .u64 0, .int .u64 0] 24)) := fun w => by kernel_rfl
set_option maxRecDepth 100000 in
set_option maxHeartbeats 3200000 in
theorem froot_a {c : Bool} (U V VV T3 T33 T7 UT US E PW X XX M NU TT Z : Array Value) (w : World)
    (M1 : ∀ W : World, Calls Try.prog 22 #[.agg V, .agg V] W fun e w' => e = .returned (.agg VV) ∧ Fr (fun _ => False) W w')
    (M2 : ∀ W : World, Calls Try.prog 22 #[.agg V, .agg VV] W fun e w' => e = .returned (.agg T3) ∧ Fr (fun _ => False) W w')
    (M3 : ∀ W : World, Calls Try.prog 22 #[.agg T3, .agg T3] W fun e w' => e = .returned (.agg T33) ∧ Fr (fun _ => False) W w')
    (M4 : ∀ W : World, Calls Try.prog 22 #[.agg V, .agg T33] W fun e w' => e = .returned (.agg T7) ∧ Fr (fun _ => False) W w')
    (M5 : ∀ W : World, Calls Try.prog 22 #[.agg U, .agg T3] W fun e w' => e = .returned (.agg UT) ∧ Fr (fun _ => False) W w')
    (M6 : ∀ W : World, Calls Try.prog 22 #[.agg U, .agg T7] W fun e w' => e = .returned (.agg US) ∧ Fr (fun _ => False) W w')
    (RP : ∀ W : World, Calls Try.prog 86 #[] W fun e w' => e = .returned (.agg E) ∧ Fr (fun _ => False) W w')
    (PO : ∀ W : World, Calls Try.prog 34 #[.agg US, .agg E] W fun e w' => e = .returned (.agg PW) ∧ Fr (fun _ => False) W w')
    (M7 : ∀ W : World, Calls Try.prog 22 #[.agg UT, .agg PW] W fun e w' => e = .returned (.agg X) ∧ Fr (fun _ => False) W w')
    (M8 : ∀ W : World, Calls Try.prog 22 #[.agg X, .agg X] W fun e w' => e = .returned (.agg XX) ∧ Fr (fun _ => False) W w')
    (M9 : ∀ W : World, Calls Try.prog 22 #[.agg V, .agg XX] W fun e w' => e = .returned (.agg M) ∧ Fr (fun _ => False) W w')
    (S1 : ∀ W : World, Calls Try.prog 26 #[.agg M, .agg U] W fun e w' => e = .returned (.bool true) ∧ Fr (fun _ => False) W w')
    (NE : ∀ W : World, Calls Try.prog 24 #[.agg U] W fun e w' => e = .returned (.agg NU) ∧ Fr (fun _ => False) W w')
    (S2 : ∀ W : World, Calls Try.prog 26 #[.agg M, .agg NU] W fun e w' => e = .returned (.bool c) ∧ Fr (fun _ => False) W w')
    (TU : ∀ W : World, Calls Try.prog 87 #[] W fun e w' => e = .returned (.agg TT) ∧ Fr (fun _ => False) W w')
    (MX : ∀ W : World, Calls Try.prog 22 #[.agg X, .agg TT] W fun e w' => e = .returned (.agg Z) ∧ Fr (fun _ => False) W w')
    (sU : Sz 4 U) (sV : Sz 4 V) (sT3 : Sz 4 T3) (sT7 : Sz 4 T7) (sX : Sz 4 X) (sM : Sz 4 M) (sZ : Sz 4 Z) :
    Calls Try.prog 37 #[.agg U, .agg V] w fun e w' => e = .returned (.tuple #[.agg X, .bool true]) ∧ Fr (fun _ => False) w w' := by
  have sz0 : Sz 4 #[.int .u64 0, .int .u64 0, .int .u64 0, .int .u64 0] := ⟨rfl, by simp [Value.oneCell']⟩
  have K := ((((Kn.start w).new (w.heap.size) 4 U 24 rfl sU.1).new (w.heap.size + 1) 4 V 24 (by simp) sV.1).new (w.heap.size + 1 + 1) 4 #[.int .u64 0, .int .u64 0, .int .u64 0, .int .u64 0] 24 (by simp) rfl)
  go_enter Try.func37, Try.ntmps37
  go_wp2_with fail
  refine wp_region_kn_tail K 5 [(6, 4, #[.int .u64 0, .int .u64 0, .int .u64 0, .int .u64 0], 24)] (by kernel_rfl) (by kernel_rfl) (mk_one ⟨_, rfl, makes_alloc _ _ _ _ _ _ Try.alEl⟩) (sz_one rfl) ?_
  apply Exists.intro
  refine ⟨?wk1, ?fin1⟩
  case wk1 =>
    intro γ
  
    simp only [List.take_succ_cons, List.take_zero]
    repeat (any_goals (first | (focus (go_big_quiet_want; (first | ((with_reducible refine' quiet_load_kng K 24 (.tmp 3) rfl 1 _ _ _ _ rfl _ Try.underlying24 rfl Try.szEl _ _); rotate_left 2; (focus exact rfl))); simp only [Act.put, List.setIfInBounds_toArray, List.set_cons_zero, List.set_cons_succ]; go_big_quiet_on)) | go_big_quiet_step ((first | (go_at_call 22; with_reducible exact Calls.keepg (M1 _)) | (go_at_call 22; with_reducible exact Calls.keepg (M2 _)) | (go_at_call 22; with_reducible exact Calls.keepg (M3 _)) | (go_at_call 22; with_reducible exact Calls.keepg (M4 _)) | (go_at_call 22; with_reducible exact Calls.keepg (M5 _)) | (go_at_call 22; with_reducible exact Calls.keepg (M6 _)) | (go_at_call 22; with_reducible exact Calls.keepg (M7 _)) | (go_at_call 22; with_reducible exact Calls.keepg (M8 _)) | (go_at_call 22; with_reducible exact Calls.keepg (M9 _)) | (go_at_call 22; with_reducible exact Calls.keepg (MX _)))) | quiet_step ((first | (go_at_call 22; with_reducible exact Calls.keepg (M1 _)) | (go_at_call 22; with_reducible exact Calls.keepg (M2 _)) | (go_at_call 22; with_reducible exact Calls.keepg (M3 _)) | (go_at_call 22; with_reducible exact Calls.keepg (M4 _)) | (go_at_call 22; with_reducible exact Calls.keepg (M5 _)) | (go_at_call 22; with_reducible exact Calls.keepg (M6 _)) | (go_at_call 22; with_reducible exact Calls.keepg (M7 _)) | (go_at_call 22; with_reducible exact Calls.keepg (M8 _)) | (go_at_call 22; with_reducible exact Calls.keepg (M9 _)) | (go_at_call 22; with_reducible exact Calls.keepg (MX _))))))
    exact wpQuiet_nil rfl
  case fin1 =>
    intro gs wz Kz
    clear K
    have K := Kz
    clear Kz
    try simp only [mkAll, asObj, List.map_cons, List.map_nil, putAll, List.drop_succ_cons, List.drop_zero, List.length_cons, List.length_nil, Nat.zero_add, Nat.add_zero] at K ⊢
    try simp only [Act.put, List.setIfInBounds_toArray, List.set_cons_zero, List.set_cons_succ]
    generalize gs 0 = gz0 at *
    go_wp2_with (first
      | (focus ((first | ((with_reducible refine' wpList_store_kn K rfl 24 (.tmp 6) _ rfl 0 _ _ _ _ _ rfl rfl Try.szEl _ _ _); rotate_left 2; (focus exact rfl))); (focus assumption); intro wz Kz; clear K; have K := Kz; clear Kz; simp only [List.set_cons_zero, List.set_cons_succ] at K; try (simp only [Act.put, List.setIfInBounds_toArray, List.set_cons_zero, List.set_cons_succ]))))
    refine wp_region_kn_tail K 5 [(7, 4, #[.int .u64 0, .int .u64 0, .int .u64 0, .int .u64 0], 24)] (by kernel_rfl) (by kernel_rfl) (mk_one ⟨_, rfl, makes_alloc _ _ _ _ _ _ Try.alEl⟩) (sz_one rfl) ?_
    apply Exists.intro
    refine ⟨?wk2, ?fin2⟩
    case wk2 =>
      intro γ
  
      simp only [List.take_succ_cons, List.take_zero]
      repeat (any_goals (first | (focus (go_big_quiet_want; (first | ((with_reducible refine' quiet_load_kng K 24 (.tmp 3) rfl 2 _ _ _ _ rfl _ Try.underlying24 rfl Try.szEl _ _); rotate_left 2; (focus exact rfl)) | ((with_reducible refine' quiet_load_kng K 24 (.tmp 6) rfl 0 _ _ _ _ rfl _ Try.underlying24 rfl Try.szEl _ _); rotate_left 2; (focus exact rfl))); simp only [Act.put, List.setIfInBounds_toArray, List.set_cons_zero, List.set_cons_succ]; go_big_quiet_on)) | go_big_quiet_step ((first | (go_at_call 22; with_reducible exact Calls.keepg (M1 _)) | (go_at_call 22; with_reducible exact Calls.keepg (M2 _)) | (go_at_call 22; with_reducible exact Calls.keepg (M3 _)) | (go_at_call 22; with_reducible exact Calls.keepg (M4 _)) | (go_at_call 22; with_reducible exact Calls.keepg (M5 _)) | (go_at_call 22; with_reducible exact Calls.keepg (M6 _)) | (go_at_call 22; with_reducible exact Calls.keepg (M7 _)) | (go_at_call 22; with_reducible exact Calls.keepg (M8 _)) | (go_at_call 22; with_reducible exact Calls.keepg (M9 _)) | (go_at_call 22; with_reducible exact Calls.keepg (MX _)))) | quiet_step ((first | (go_at_call 22; with_reducible exact Calls.keepg (M1 _)) | (go_at_call 22; with_reducible exact Calls.keepg (M2 _)) | (go_at_call 22; with_reducible exact Calls.keepg (M3 _)) | (go_at_call 22; with_reducible exact Calls.keepg (M4 _)) | (go_at_call 22; with_reducible exact Calls.keepg (M5 _)) | (go_at_call 22; with_reducible exact Calls.keepg (M6 _)) | (go_at_call 22; with_reducible exact Calls.keepg (M7 _)) | (go_at_call 22; with_reducible exact Calls.keepg (M8 _)) | (go_at_call 22; with_reducible exact Calls.keepg (M9 _)) | (go_at_call 22; with_reducible exact Calls.keepg (MX _))))))
      exact wpQuiet_nil rfl
    case fin2 =>
      intro gs wz Kz
      clear K
      have K := Kz
      clear Kz
      try simp only [mkAll, asObj, List.map_cons, List.map_nil, putAll, List.drop_succ_cons, List.drop_zero, List.length_cons, List.length_nil, Nat.zero_add, Nat.add_zero] at K ⊢
      try simp only [Act.put, List.setIfInBounds_toArray, List.set_cons_zero, List.set_cons_succ]
      generalize gs 0 = gz0 at *
      go_wp2_with (first
        | (focus ((first | ((with_reducible refine' wpList_store_kn K rfl 24 (.tmp 7) _ rfl 0 _ _ _ _ _ rfl rfl Try.szEl _ _ _); rotate_left 2; (focus exact rfl))); (focus assumption); intro wz Kz; clear K; have K := Kz; clear Kz; simp only [List.set_cons_zero, List.set_cons_succ] at K; try (simp only [Act.put, List.setIfInBounds_toArray, List.set_cons_zero, List.set_cons_succ]))))
      refine wp_region_kn_tail K 9 [(8, 4, #[.int .u64 0, .int .u64 0, .int .u64 0, .int .u64 0], 24)] (by kernel_rfl) (by kernel_rfl) (mk_one ⟨_, rfl, makes_alloc _ _ _ _ _ _ Try.alEl⟩) (sz_one rfl) ?_
      apply Exists.intro
      refine ⟨?wk3, ?fin3⟩
      case wk3 =>
        intro γ
  
        simp only [List.take_succ_cons, List.take_zero]
        repeat (any_goals (first | (focus (go_big_quiet_want; (first | ((with_reducible refine' quiet_load_kng K 24 (.tmp 2) rfl 4 _ _ _ _ rfl _ Try.underlying24 rfl Try.szEl _ _); rotate_left 2; (focus exact rfl)) | ((with_reducible refine' quiet_load_kng K 24 (.tmp 6) rfl 1 _ _ _ _ rfl _ Try.underlying24 rfl Try.szEl _ _); rotate_left 2; (focus exact rfl)) | ((with_reducible refine' quiet_load_kng K 24 (.tmp 7) rfl 0 _ _ _ _ rfl _ Try.underlying24 rfl Try.szEl _ _); rotate_left 2; (focus exact rfl))); simp only [Act.put, List.setIfInBounds_toArray, List.set_cons_zero, List.set_cons_succ]; go_big_quiet_on)) | go_big_quiet_step ((first | (go_at_call 22; with_reducible exact Calls.keepg (M1 _)) | (go_at_call 22; with_reducible exact Calls.keepg (M2 _)) | (go_at_call 22; with_reducible exact Calls.keepg (M3 _)) | (go_at_call 22; with_reducible exact Calls.keepg (M4 _)) | (go_at_call 22; with_reducible exact Calls.keepg (M5 _)) | (go_at_call 22; with_reducible exact Calls.keepg (M6 _)) | (go_at_call 86; with_reducible exact Calls.keepg (RP _)) | (go_at_call 34; with_reducible exact Calls.keepg (PO _)) | (go_at_call 22; with_reducible exact Calls.keepg (M7 _)) | (go_at_call 22; with_reducible exact Calls.keepg (M8 _)) | (go_at_call 22; with_reducible exact Calls.keepg (M9 _)) | (go_at_call 22; with_reducible exact Calls.keepg (MX _)))) | quiet_step ((first | (go_at_call 22; with_reducible exact Calls.keepg (M1 _)) | (go_at_call 22; with_reducible exact Calls.keepg (M2 _)) | (go_at_call 22; with_reducible exact Calls.keepg (M3 _)) | (go_at_call 22; with_reducible exact Calls.keepg (M4 _)) | (go_at_call 22; with_reducible exact Calls.keepg (M5 _)) | (go_at_call 22; with_reducible exact Calls.keepg (M6 _)) | (go_at_call 86; with_reducible exact Calls.keepg (RP _)) | (go_at_call 34; with_reducible exact Calls.keepg (PO _)) | (go_at_call 22; with_reducible exact Calls.keepg (M7 _)) | (go_at_call 22; with_reducible exact Calls.keepg (M8 _)) | (go_at_call 22; with_reducible exact Calls.keepg (M9 _)) | (go_at_call 22; with_reducible exact Calls.keepg (MX _))))))
        exact wpQuiet_nil rfl
      case fin3 =>
        intro gs wz Kz
        clear K
        have K := Kz
        clear Kz
        try simp only [mkAll, asObj, List.map_cons, List.map_nil, putAll, List.drop_succ_cons, List.drop_zero, List.length_cons, List.length_nil, Nat.zero_add, Nat.add_zero] at K ⊢
        try simp only [Act.put, List.setIfInBounds_toArray, List.set_cons_zero, List.set_cons_succ]
        generalize gs 0 = gz0 at *
        go_wp2_with (first
          | (focus ((first | ((with_reducible refine' wpList_store_kn K rfl 24 (.tmp 8) _ rfl 0 _ _ _ _ _ rfl rfl Try.szEl _ _ _); rotate_left 2; (focus exact rfl))); (focus assumption); intro wz Kz; clear K; have K := Kz; clear Kz; simp only [List.set_cons_zero, List.set_cons_succ] at K; try (simp only [Act.put, List.setIfInBounds_toArray, List.set_cons_zero, List.set_cons_succ]))))
        refine wp_region_kn_tail K 5 [(9, 4, #[.int .u64 0, .int .u64 0, .int .u64 0, .int .u64 0], 24)] (by kernel_rfl) (by kernel_rfl) (mk_one ⟨_, rfl, makes_alloc _ _ _ _ _ _ Try.alEl⟩) (sz_one rfl) ?_
        apply Exists.intro
        refine ⟨?wk4, ?fin4⟩
        case wk4 =>
          intro γ
  
          simp only [List.take_succ_cons, List.take_zero]
          repeat (any_goals (first | (focus (go_big_quiet_want; (first | ((with_reducible refine' quiet_load_kng K 24 (.tmp 3) rfl 4 _ _ _ _ rfl _ Try.underlying24 rfl Try.szEl _ _); rotate_left 2; (focus exact rfl)) | ((with_reducible refine' quiet_load_kng K 24 (.tmp 8) rfl 0 _ _ _ _ rfl _ Try.underlying24 rfl Try.szEl _ _); rotate_left 2; (focus exact rfl))); simp only [Act.put, List.setIfInBounds_toArray, List.set_cons_zero, List.set_cons_succ]; go_big_quiet_on)) | go_big_quiet_step ((first | (go_at_call 22; with_reducible exact Calls.keepg (M1 _)) | (go_at_call 22; with_reducible exact Calls.keepg (M2 _)) | (go_at_call 22; with_reducible exact Calls.keepg (M3 _)) | (go_at_call 22; with_reducible exact Calls.keepg (M4 _)) | (go_at_call 22; with_reducible exact Calls.keepg (M5 _)) | (go_at_call 22; with_reducible exact Calls.keepg (M6 _)) | (go_at_call 22; with_reducible exact Calls.keepg (M7 _)) | (go_at_call 22; with_reducible exact Calls.keepg (M8 _)) | (go_at_call 22; with_reducible exact Calls.keepg (M9 _)) | (go_at_call 22; with_reducible exact Calls.keepg (MX _)))) | quiet_step ((first | (go_at_call 22; with_reducible exact Calls.keepg (M1 _)) | (go_at_call 22; with_reducible exact Calls.keepg (M2 _)) | (go_at_call 22; with_reducible exact Calls.keepg (M3 _)) | (go_at_call 22; with_reducible exact Calls.keepg (M4 _)) | (go_at_call 22; with_reducible exact Calls.keepg (M5 _)) | (go_at_call 22; with_reducible exact Calls.keepg (M6 _)) | (go_at_call 22; with_reducible exact Calls.keepg (M7 _)) | (go_at_call 22; with_reducible exact Calls.keepg (M8 _)) | (go_at_call 22; with_reducible exact Calls.keepg (M9 _)) | (go_at_call 22; with_reducible exact Calls.keepg (MX _))))))
          exact wpQuiet_nil rfl
        case fin4 =>
          intro gs wz Kz
          clear K
          have K := Kz
          clear Kz
          try simp only [mkAll, asObj, List.map_cons, List.map_nil, putAll, List.drop_succ_cons, List.drop_zero, List.length_cons, List.length_nil, Nat.zero_add, Nat.add_zero] at K ⊢
          try simp only [Act.put, List.setIfInBounds_toArray, List.set_cons_zero, List.set_cons_succ]
          generalize gs 0 = gz0 at *
          go_wp2_with (first
            | (focus (first | ((with_reducible refine' wpList_load_kn K rfl 24 (.tmp 9) rfl 0 _ _ _ _ rfl _ Try.underlying24 rfl Try.szEl _ _); rotate_left 2; (focus exact rfl)) | ((with_reducible refine' wpList_load_kn K rfl 24 (.tmp 2) rfl 6 _ _ _ _ rfl _ Try.underlying24 rfl Try.szEl _ _); rotate_left 2; (focus exact rfl)) | ((with_reducible refine' wpList_load_kn K rfl 24 (.tmp 8) rfl 1 _ _ _ _ rfl _ Try.underlying24 rfl Try.szEl _ _); rotate_left 2; (focus exact rfl))))
            | (focus ((first | ((with_reducible refine' wpList_store_kn K rfl 24 (.tmp 9) _ rfl 0 _ _ _ _ _ rfl rfl Try.szEl _ _ _); rotate_left 2; (focus exact rfl)) | ((with_reducible refine' wpList_store_kn K rfl 24 (.tmp 4) _ rfl 4 _ _ _ _ _ rfl rfl Try.szEl _ _ _); rotate_left 2; (focus exact rfl))); (focus assumption); intro wz Kz; clear K; have K := Kz; clear Kz; simp only [List.set_cons_zero, List.set_cons_succ] at K; try (simp only [Act.put, List.setIfInBounds_toArray, List.set_cons_zero, List.set_cons_succ])))
            | (go_at_call 26; (with_reducible refine Calls.kn K (S1 _) ?_); intro wz Kz; clear K; have K := Kz; clear Kz)
            | (go_at_call 26; (with_reducible refine Calls.kn K (S2 _) ?_); intro wz Kz; clear K; have K := Kz; clear Kz))
          refine bodyPost_ret (results_kn_tmp K rfl _ 4 _ _ _ _ rfl _ Try.underlying24 rfl Try.szEl rfl) rfl ?_
          exact ⟨rfl, K.fr⟩
set_option maxRecDepth 100000 in
set_option maxHeartbeats 3200000 in
theorem froot_b (U V VV T3 T33 T7 UT US E PW X XX M NU TT Z : Array Value) (w : World)
    (M1 : ∀ W : World, Calls Try.prog 22 #[.agg V, .agg V] W fun e w' => e = .returned (.agg VV) ∧ Fr (fun _ => False) W w')
    (M2 : ∀ W : World, Calls Try.prog 22 #[.agg V, .agg VV] W fun e w' => e = .returned (.agg T3) ∧ Fr (fun _ => False) W w')
    (M3 : ∀ W : World, Calls Try.prog 22 #[.agg T3, .agg T3] W fun e w' => e = .returned (.agg T33) ∧ Fr (fun _ => False) W w')
    (M4 : ∀ W : World, Calls Try.prog 22 #[.agg V, .agg T33] W fun e w' => e = .returned (.agg T7) ∧ Fr (fun _ => False) W w')
    (M5 : ∀ W : World, Calls Try.prog 22 #[.agg U, .agg T3] W fun e w' => e = .returned (.agg UT) ∧ Fr (fun _ => False) W w')
    (M6 : ∀ W : World, Calls Try.prog 22 #[.agg U, .agg T7] W fun e w' => e = .returned (.agg US) ∧ Fr (fun _ => False) W w')
    (RP : ∀ W : World, Calls Try.prog 86 #[] W fun e w' => e = .returned (.agg E) ∧ Fr (fun _ => False) W w')
    (PO : ∀ W : World, Calls Try.prog 34 #[.agg US, .agg E] W fun e w' => e = .returned (.agg PW) ∧ Fr (fun _ => False) W w')
    (M7 : ∀ W : World, Calls Try.prog 22 #[.agg UT, .agg PW] W fun e w' => e = .returned (.agg X) ∧ Fr (fun _ => False) W w')
    (M8 : ∀ W : World, Calls Try.prog 22 #[.agg X, .agg X] W fun e w' => e = .returned (.agg XX) ∧ Fr (fun _ => False) W w')
    (M9 : ∀ W : World, Calls Try.prog 22 #[.agg V, .agg XX] W fun e w' => e = .returned (.agg M) ∧ Fr (fun _ => False) W w')
    (S1 : ∀ W : World, Calls Try.prog 26 #[.agg M, .agg U] W fun e w' => e = .returned (.bool false) ∧ Fr (fun _ => False) W w')
    (NE : ∀ W : World, Calls Try.prog 24 #[.agg U] W fun e w' => e = .returned (.agg NU) ∧ Fr (fun _ => False) W w')
    (S2 : ∀ W : World, Calls Try.prog 26 #[.agg M, .agg NU] W fun e w' => e = .returned (.bool true) ∧ Fr (fun _ => False) W w')
    (TU : ∀ W : World, Calls Try.prog 87 #[] W fun e w' => e = .returned (.agg TT) ∧ Fr (fun _ => False) W w')
    (MX : ∀ W : World, Calls Try.prog 22 #[.agg X, .agg TT] W fun e w' => e = .returned (.agg Z) ∧ Fr (fun _ => False) W w')
    (sU : Sz 4 U) (sV : Sz 4 V) (sT3 : Sz 4 T3) (sT7 : Sz 4 T7) (sX : Sz 4 X) (sM : Sz 4 M) (sZ : Sz 4 Z) :
    Calls Try.prog 37 #[.agg U, .agg V] w fun e w' => e = .returned (.tuple #[.agg Z, .bool true]) ∧ Fr (fun _ => False) w w' := by
  have sz0 : Sz 4 #[.int .u64 0, .int .u64 0, .int .u64 0, .int .u64 0] := ⟨rfl, by simp [Value.oneCell']⟩
  have K := ((((Kn.start w).new (w.heap.size) 4 U 24 rfl sU.1).new (w.heap.size + 1) 4 V 24 (by simp) sV.1).new (w.heap.size + 1 + 1) 4 #[.int .u64 0, .int .u64 0, .int .u64 0, .int .u64 0] 24 (by simp) rfl)
  go_enter Try.func37, Try.ntmps37
  go_wp2_with fail
  refine wp_region_kn_tail K 5 [(6, 4, #[.int .u64 0, .int .u64 0, .int .u64 0, .int .u64 0], 24)] (by kernel_rfl) (by kernel_rfl) (mk_one ⟨_, rfl, makes_alloc _ _ _ _ _ _ Try.alEl⟩) (sz_one rfl) ?_
  apply Exists.intro
  refine ⟨?wk1, ?fin1⟩
  case wk1 =>
    intro γ
  
    simp only [List.take_succ_cons, List.take_zero]
    repeat (any_goals (first | (focus (go_big_quiet_want; (first | ((with_reducible refine' quiet_load_kng K 24 (.tmp 3) rfl 1 _ _ _ _ rfl _ Try.underlying24 rfl Try.szEl _ _); rotate_left 2; (focus exact rfl))); simp only [Act.put, List.setIfInBounds_toArray, List.set_cons_zero, List.set_cons_succ]; go_big_quiet_on)) | go_big_quiet_step ((first | (go_at_call 22; with_reducible exact Calls.keepg (M1 _)) | (go_at_call 22; with_reducible exact Calls.keepg (M2 _)) | (go_at_call 22; with_reducible exact Calls.keepg (M3 _)) | (go_at_call 22; with_reducible exact Calls.keepg (M4 _)) | (go_at_call 22; with_reducible exact Calls.keepg (M5 _)) | (go_at_call 22; with_reducible exact Calls.keepg (M6 _)) | (go_at_call 22; with_reducible exact Calls.keepg (M7 _)) | (go_at_call 22; with_reducible exact Calls.keepg (M8 _)) | (go_at_call 22; with_reducible exact Calls.keepg (M9 _)) | (go_at_call 22; with_reducible exact Calls.keepg (MX _)))) | quiet_step ((first | (go_at_call 22; with_reducible exact Calls.keepg (M1 _)) | (go_at_call 22; with_reducible exact Calls.keepg (M2 _)) | (go_at_call 22; with_reducible exact Calls.keepg (M3 _)) | (go_at_call 22; with_reducible exact Calls.keepg (M4 _)) | (go_at_call 22; with_reducible exact Calls.keepg (M5 _)) | (go_at_call 22; with_reducible exact Calls.keepg (M6 _)) | (go_at_call 22; with_reducible exact Calls.keepg (M7 _)) | (go_at_call 22; with_reducible exact Calls.keepg (M8 _)) | (go_at_call 22; with_reducible exact Calls.keepg (M9 _)) | (go_at_call 22; with_reducible exact Calls.keepg (MX _))))))
    exact wpQuiet_nil rfl
  case fin1 =>
    intro gs wz Kz
    clear K
    have K := Kz
    clear Kz
    try simp only [mkAll, asObj, List.map_cons, List.map_nil, putAll, List.drop_succ_cons, List.drop_zero, List.length_cons, List.length_nil, Nat.zero_add, Nat.add_zero] at K ⊢
    try simp only [Act.put, List.setIfInBounds_toArray, List.set_cons_zero, List.set_cons_succ]
    generalize gs 0 = gz0 at *
    go_wp2_with (first
      | (focus ((first | ((with_reducible refine' wpList_store_kn K rfl 24 (.tmp 6) _ rfl 0 _ _ _ _ _ rfl rfl Try.szEl _ _ _); rotate_left 2; (focus exact rfl))); (focus assumption); intro wz Kz; clear K; have K := Kz; clear Kz; simp only [List.set_cons_zero, List.set_cons_succ] at K; try (simp only [Act.put, List.setIfInBounds_toArray, List.set_cons_zero, List.set_cons_succ]))))
    refine wp_region_kn_tail K 5 [(7, 4, #[.int .u64 0, .int .u64 0, .int .u64 0, .int .u64 0], 24)] (by kernel_rfl) (by kernel_rfl) (mk_one ⟨_, rfl, makes_alloc _ _ _ _ _ _ Try.alEl⟩) (sz_one rfl) ?_
    apply Exists.intro
    refine ⟨?wk2, ?fin2⟩
    case wk2 =>
      intro γ
  
      simp only [List.take_succ_cons, List.take_zero]
      repeat (any_goals (first | (focus (go_big_quiet_want; (first | ((with_reducible refine' quiet_load_kng K 24 (.tmp 3) rfl 2 _ _ _ _ rfl _ Try.underlying24 rfl Try.szEl _ _); rotate_left 2; (focus exact rfl)) | ((with_reducible refine' quiet_load_kng K 24 (.tmp 6) rfl 0 _ _ _ _ rfl _ Try.underlying24 rfl Try.szEl _ _); rotate_left 2; (focus exact rfl))); simp only [Act.put, List.setIfInBounds_toArray, List.set_cons_zero, List.set_cons_succ]; go_big_quiet_on)) | go_big_quiet_step ((first | (go_at_call 22; with_reducible exact Calls.keepg (M1 _)) | (go_at_call 22; with_reducible exact Calls.keepg (M2 _)) | (go_at_call 22; with_reducible exact Calls.keepg (M3 _)) | (go_at_call 22; with_reducible exact Calls.keepg (M4 _)) | (go_at_call 22; with_reducible exact Calls.keepg (M5 _)) | (go_at_call 22; with_reducible exact Calls.keepg (M6 _)) | (go_at_call 22; with_reducible exact Calls.keepg (M7 _)) | (go_at_call 22; with_reducible exact Calls.keepg (M8 _)) | (go_at_call 22; with_reducible exact Calls.keepg (M9 _)) | (go_at_call 22; with_reducible exact Calls.keepg (MX _)))) | quiet_step ((first | (go_at_call 22; with_reducible exact Calls.keepg (M1 _)) | (go_at_call 22; with_reducible exact Calls.keepg (M2 _)) | (go_at_call 22; with_reducible exact Calls.keepg (M3 _)) | (go_at_call 22; with_reducible exact Calls.keepg (M4 _)) | (go_at_call 22; with_reducible exact Calls.keepg (M5 _)) | (go_at_call 22; with_reducible exact Calls.keepg (M6 _)) | (go_at_call 22; with_reducible exact Calls.keepg (M7 _)) | (go_at_call 22; with_reducible exact Calls.keepg (M8 _)) | (go_at_call 22; with_reducible exact Calls.keepg (M9 _)) | (go_at_call 22; with_reducible exact Calls.keepg (MX _))))))
      exact wpQuiet_nil rfl
    case fin2 =>
      intro gs wz Kz
      clear K
      have K := Kz
      clear Kz
      try simp only [mkAll, asObj, List.map_cons, List.map_nil, putAll, List.drop_succ_cons, List.drop_zero, List.length_cons, List.length_nil, Nat.zero_add, Nat.add_zero] at K ⊢
      try simp only [Act.put, List.setIfInBounds_toArray, List.set_cons_zero, List.set_cons_succ]
      generalize gs 0 = gz0 at *
      go_wp2_with (first
        | (focus ((first | ((with_reducible refine' wpList_store_kn K rfl 24 (.tmp 7) _ rfl 0 _ _ _ _ _ rfl rfl Try.szEl _ _ _); rotate_left 2; (focus exact rfl))); (focus assumption); intro wz Kz; clear K; have K := Kz; clear Kz; simp only [List.set_cons_zero, List.set_cons_succ] at K; try (simp only [Act.put, List.setIfInBounds_toArray, List.set_cons_zero, List.set_cons_succ]))))
      refine wp_region_kn_tail K 9 [(8, 4, #[.int .u64 0, .int .u64 0, .int .u64 0, .int .u64 0], 24)] (by kernel_rfl) (by kernel_rfl) (mk_one ⟨_, rfl, makes_alloc _ _ _ _ _ _ Try.alEl⟩) (sz_one rfl) ?_
      apply Exists.intro
      refine ⟨?wk3, ?fin3⟩
      case wk3 =>
        intro γ
  
        simp only [List.take_succ_cons, List.take_zero]
        repeat (any_goals (first | (focus (go_big_quiet_want; (first | ((with_reducible refine' quiet_load_kng K 24 (.tmp 2) rfl 4 _ _ _ _ rfl _ Try.underlying24 rfl Try.szEl _ _); rotate_left 2; (focus exact rfl)) | ((with_reducible refine' quiet_load_kng K 24 (.tmp 6) rfl 1 _ _ _ _ rfl _ Try.underlying24 rfl Try.szEl _ _); rotate_left 2; (focus exact rfl)) | ((with_reducible refine' quiet_load_kng K 24 (.tmp 7) rfl 0 _ _ _ _ rfl _ Try.underlying24 rfl Try.szEl _ _); rotate_left 2; (focus exact rfl))); simp only [Act.put, List.setIfInBounds_toArray, List.set_cons_zero, List.set_cons_succ]; go_big_quiet_on)) | go_big_quiet_step ((first | (go_at_call 22; with_reducible exact Calls.keepg (M1 _)) | (go_at_call 22; with_reducible exact Calls.keepg (M2 _)) | (go_at_call 22; with_reducible exact Calls.keepg (M3 _)) | (go_at_call 22; with_reducible exact Calls.keepg (M4 _)) | (go_at_call 22; with_reducible exact Calls.keepg (M5 _)) | (go_at_call 22; with_reducible exact Calls.keepg (M6 _)) | (go_at_call 86; with_reducible exact Calls.keepg (RP _)) | (go_at_call 34; with_reducible exact Calls.keepg (PO _)) | (go_at_call 22; with_reducible exact Calls.keepg (M7 _)) | (go_at_call 22; with_reducible exact Calls.keepg (M8 _)) | (go_at_call 22; with_reducible exact Calls.keepg (M9 _)) | (go_at_call 22; with_reducible exact Calls.keepg (MX _)))) | quiet_step ((first | (go_at_call 22; with_reducible exact Calls.keepg (M1 _)) | (go_at_call 22; with_reducible exact Calls.keepg (M2 _)) | (go_at_call 22; with_reducible exact Calls.keepg (M3 _)) | (go_at_call 22; with_reducible exact Calls.keepg (M4 _)) | (go_at_call 22; with_reducible exact Calls.keepg (M5 _)) | (go_at_call 22; with_reducible exact Calls.keepg (M6 _)) | (go_at_call 86; with_reducible exact Calls.keepg (RP _)) | (go_at_call 34; with_reducible exact Calls.keepg (PO _)) | (go_at_call 22; with_reducible exact Calls.keepg (M7 _)) | (go_at_call 22; with_reducible exact Calls.keepg (M8 _)) | (go_at_call 22; with_reducible exact Calls.keepg (M9 _)) | (go_at_call 22; with_reducible exact Calls.keepg (MX _))))))
        exact wpQuiet_nil rfl
      case fin3 =>
        intro gs wz Kz
        clear K
        have K := Kz
        clear Kz
        try simp only [mkAll, asObj, List.map_cons, List.map_nil, putAll, List.drop_succ_cons, List.drop_zero, List.length_cons, List.length_nil, Nat.zero_add, Nat.add_zero] at K ⊢
        try simp only [Act.put, List.setIfInBounds_toArray, List.set_cons_zero, List.set_cons_succ]
        generalize gs 0 = gz0 at *
        go_wp2_with (first
          | (focus ((first | ((with_reducible refine' wpList_store_kn K rfl 24 (.tmp 8) _ rfl 0 _ _ _ _ _ rfl rfl Try.szEl _ _ _); rotate_left 2; (focus exact rfl))); (focus assumption); intro wz Kz; clear K; have K := Kz; clear Kz; simp only [List.set_cons_zero, List.set_cons_succ] at K; try (simp only [Act.put, List.setIfInBounds_toArray, List.set_cons_zero, List.set_cons_succ]))))
        refine wp_region_kn_tail K 5 [(9, 4, #[.int .u64 0, .int .u64 0, .int .u64 0, .int .u64 0], 24)] (by kernel_rfl) (by kernel_rfl) (mk_one ⟨_, rfl, makes_alloc _ _ _ _ _ _ Try.alEl⟩) (sz_one rfl) ?_
        apply Exists.intro
        refine ⟨?wk4, ?fin4⟩
        case wk4 =>
          intro γ
  
          simp only [List.take_succ_cons, List.take_zero]
          repeat (any_goals (first | (focus (go_big_quiet_want; (first | ((with_reducible refine' quiet_load_kng K 24 (.tmp 3) rfl 4 _ _ _ _ rfl _ Try.underlying24 rfl Try.szEl _ _); rotate_left 2; (focus exact rfl)) | ((with_reducible refine' quiet_load_kng K 24 (.tmp 8) rfl 0 _ _ _ _ rfl _ Try.underlying24 rfl Try.szEl _ _); rotate_left 2; (focus exact rfl))); simp only [Act.put, List.setIfInBounds_toArray, List.set_cons_zero, List.set_cons_succ]; go_big_quiet_on)) | go_big_quiet_step ((first | (go_at_call 22; with_reducible exact Calls.keepg (M1 _)) | (go_at_call 22; with_reducible exact Calls.keepg (M2 _)) | (go_at_call 22; with_reducible exact Calls.keepg (M3 _)) | (go_at_call 22; with_reducible exact Calls.keepg (M4 _)) | (go_at_call 22; with_reducible exact Calls.keepg (M5 _)) | (go_at_call 22; with_reducible exact Calls.keepg (M6 _)) | (go_at_call 22; with_reducible exact Calls.keepg (M7 _)) | (go_at_call 22; with_reducible exact Calls.keepg (M8 _)) | (go_at_call 22; with_reducible exact Calls.keepg (M9 _)) | (go_at_call 22; with_reducible exact Calls.keepg (MX _)))) | quiet_step ((first | (go_at_call 22; with_reducible exact Calls.keepg (M1 _)) | (go_at_call 22; with_reducible exact Calls.keepg (M2 _)) | (go_at_call 22; with_reducible exact Calls.keepg (M3 _)) | (go_at_call 22; with_reducible exact Calls.keepg (M4 _)) | (go_at_call 22; with_reducible exact Calls.keepg (M5 _)) | (go_at_call 22; with_reducible exact Calls.keepg (M6 _)) | (go_at_call 22; with_reducible exact Calls.keepg (M7 _)) | (go_at_call 22; with_reducible exact Calls.keepg (M8 _)) | (go_at_call 22; with_reducible exact Calls.keepg (M9 _)) | (go_at_call 22; with_reducible exact Calls.keepg (MX _))))))
          exact wpQuiet_nil rfl
        case fin4 =>
          intro gs wz Kz
          clear K
          have K := Kz
          clear Kz
          try simp only [mkAll, asObj, List.map_cons, List.map_nil, putAll, List.drop_succ_cons, List.drop_zero, List.length_cons, List.length_nil, Nat.zero_add, Nat.add_zero] at K ⊢
          try simp only [Act.put, List.setIfInBounds_toArray, List.set_cons_zero, List.set_cons_succ]
          generalize gs 0 = gz0 at *
          go_wp2_with (first
            | (focus (first | ((with_reducible refine' wpList_load_kn K rfl 24 (.tmp 9) rfl 0 _ _ _ _ rfl _ Try.underlying24 rfl Try.szEl _ _); rotate_left 2; (focus exact rfl)) | ((with_reducible refine' wpList_load_kn K rfl 24 (.tmp 2) rfl 6 _ _ _ _ rfl _ Try.underlying24 rfl Try.szEl _ _); rotate_left 2; (focus exact rfl))))
            | (focus ((first | ((with_reducible refine' wpList_store_kn K rfl 24 (.tmp 9) _ rfl 0 _ _ _ _ _ rfl rfl Try.szEl _ _ _); rotate_left 2; (focus exact rfl))); (focus assumption); intro wz Kz; clear K; have K := Kz; clear Kz; simp only [List.set_cons_zero, List.set_cons_succ] at K; try (simp only [Act.put, List.setIfInBounds_toArray, List.set_cons_zero, List.set_cons_succ])))
            | (go_at_call 26; (with_reducible refine Calls.kn K (S1 _) ?_); intro wz Kz; clear K; have K := Kz; clear Kz)
            | (go_at_call 26; (with_reducible refine Calls.kn K (S2 _) ?_); intro wz Kz; clear K; have K := Kz; clear Kz))
          refine wp_region_keep (by kernel_rfl) (by kernel_rfl) ?_
          repeat (any_goals (first | (focus (go_big_quiet_want; (first | ((with_reducible refine' quiet_load_kn K 24 (.tmp 9) rfl 0 _ _ _ _ rfl _ Try.underlying24 rfl Try.szEl _ _); rotate_left 2; (focus exact rfl)) | ((with_reducible refine' quiet_load_kn K 24 (.tmp 2) rfl 6 _ _ _ _ rfl _ Try.underlying24 rfl Try.szEl _ _); rotate_left 2; (focus exact rfl))); simp only [Act.put, List.setIfInBounds_toArray, List.set_cons_zero, List.set_cons_succ]; go_big_quiet_on)) | go_big_quiet_step ((first | (go_at_call 26; with_reducible exact Calls.keep (S1 _)) | (go_at_call 24; with_reducible exact Calls.keep (NE _)) | (go_at_call 26; with_reducible exact Calls.keep (S2 _)))) | quiet_step ((first | (go_at_call 26; with_reducible exact Calls.keep (S1 _)) | (go_at_call 24; with_reducible exact Calls.keep (NE _)) | (go_at_call 26; with_reducible exact Calls.keep (S2 _))))))
          refine wpQuiet_nil ?_
          intro _ hwz
          obtain ⟨y, rfl⟩ := hwz
          have Kz := K.call y.h
          clear K 
          have K := Kz
          clear Kz
          generalize y.w = wz at K ⊢
          clear y
          go_wp2_with fail
          refine wp_region_kn_tail K 3 [] (by kernel_rfl) (by kernel_rfl) mk_nil sz_nil ?_
          apply Exists.intro
          refine ⟨?wk8, ?fin8⟩
          case wk8 =>
            intro γ
  
            simp only [List.take_succ_cons, List.take_zero]
            repeat (any_goals (first | (focus (go_big_quiet_want; (first | ((with_reducible refine' quiet_load_kng K 24 (.tmp 8) rfl 1 _ _ _ _ rfl _ Try.underlying24 rfl Try.szEl _ _); rotate_left 2; (focus exact rfl))); simp only [Act.put, List.setIfInBounds_toArray, List.set_cons_zero, List.set_cons_succ]; go_big_quiet_on)) | go_big_quiet_step ((first | (go_at_call 22; with_reducible exact Calls.keepg (M1 _)) | (go_at_call 22; with_reducible exact Calls.keepg (M2 _)) | (go_at_call 22; with_reducible exact Calls.keepg (M3 _)) | (go_at_call 22; with_reducible exact Calls.keepg (M4 _)) | (go_at_call 22; with_reducible exact Calls.keepg (M5 _)) | (go_at_call 22; with_reducible exact Calls.keepg (M6 _)) | (go_at_call 22; with_reducible exact Calls.keepg (M7 _)) | (go_at_call 22; with_reducible exact Calls.keepg (M8 _)) | (go_at_call 22; with_reducible exact Calls.keepg (M9 _)) | (go_at_call 87; with_reducible exact Calls.keepg (TU _)) | (go_at_call 22; with_reducible exact Calls.keepg (MX _)))) | quiet_step ((first | (go_at_call 22; with_reducible exact Calls.keepg (M1 _)) | (go_at_call 22; with_reducible exact Calls.keepg (M2 _)) | (go_at_call 22; with_reducible exact Calls.keepg (M3 _)) | (go_at_call 22; with_reducible exact Calls.keepg (M4 _)) | (go_at_call 22; with_reducible exact Calls.keepg (M5 _)) | (go_at_call 22; with_reducible exact Calls.keepg (M6 _)) | (go_at_call 22; with_reducible exact Calls.keepg (M7 _)) | (go_at_call 22; with_reducible exact Calls.keepg (M8 _)) | (go_at_call 22; with_reducible exact Calls.keepg (M9 _)) | (go_at_call 87; with_reducible exact Calls.keepg (TU _)) | (go_at_call 22; with_reducible exact Calls.keepg (MX _))))))
            exact wpQuiet_nil rfl
          case fin8 =>
            intro gs wz Kz
            clear K
            have K := Kz
            clear Kz
            try simp only [mkAll, asObj, List.map_cons, List.map_nil, putAll, List.drop_succ_cons, List.drop_zero, List.length_cons, List.length_nil, Nat.zero_add, Nat.add_zero] at K ⊢
            try simp only [Act.put, List.setIfInBounds_toArray, List.set_cons_zero, List.set_cons_succ]

            go_wp2_with (first
              | (focus ((first | ((with_reducible refine' wpList_store_kn K rfl 24 (.tmp 4) _ rfl 4 _ _ _ _ _ rfl rfl Try.szEl _ _ _); rotate_left 2; (focus exact rfl))); (focus assumption); intro wz Kz; clear K; have K := Kz; clear Kz; simp only [List.set_cons_zero, List.set_cons_succ] at K; try (simp only [Act.put, List.setIfInBounds_toArray, List.set_cons_zero, List.set_cons_succ]))))
            refine bodyPost_ret (results_kn_tmp K rfl _ 4 _ _ _ _ rfl _ Try.underlying24 rfl Try.szEl rfl) rfl ?_
            exact ⟨rfl, K.fr⟩
set_option maxRecDepth 100000 in
set_option maxHeartbeats 3200000 in
theorem froot_c (U V VV T3 T33 T7 UT US E PW X XX M NU TT Z : Array Value) (w : World)
    (M1 : ∀ W : World, Calls Try.prog 22 #[.agg V, .agg V] W fun e w' => e = .returned (.agg VV) ∧ Fr (fun _ => False) W w')
    (M2 : ∀ W : World, Calls Try.prog 22 #[.agg V, .agg VV] W fun e w' => e = .returned (.agg T3) ∧ Fr (fun _ => False) W w')
    (M3 : ∀ W : World, Calls Try.prog 22 #[.agg T3, .agg T3] W fun e w' => e = .returned (.agg T33) ∧ Fr (fun _ => False) W w')
    (M4 : ∀ W : World, Calls Try.prog 22 #[.agg V, .agg T33] W fun e w' => e = .returned (.agg T7) ∧ Fr (fun _ => False) W w')
    (M5 : ∀ W : World, Calls Try.prog 22 #[.agg U, .agg T3] W fun e w' => e = .returned (.agg UT) ∧ Fr (fun _ => False) W w')
    (M6 : ∀ W : World, Calls Try.prog 22 #[.agg U, .agg T7] W fun e w' => e = .returned (.agg US) ∧ Fr (fun _ => False) W w')
    (RP : ∀ W : World, Calls Try.prog 86 #[] W fun e w' => e = .returned (.agg E) ∧ Fr (fun _ => False) W w')
    (PO : ∀ W : World, Calls Try.prog 34 #[.agg US, .agg E] W fun e w' => e = .returned (.agg PW) ∧ Fr (fun _ => False) W w')
    (M7 : ∀ W : World, Calls Try.prog 22 #[.agg UT, .agg PW] W fun e w' => e = .returned (.agg X) ∧ Fr (fun _ => False) W w')
    (M8 : ∀ W : World, Calls Try.prog 22 #[.agg X, .agg X] W fun e w' => e = .returned (.agg XX) ∧ Fr (fun _ => False) W w')
    (M9 : ∀ W : World, Calls Try.prog 22 #[.agg V, .agg XX] W fun e w' => e = .returned (.agg M) ∧ Fr (fun _ => False) W w')
    (S1 : ∀ W : World, Calls Try.prog 26 #[.agg M, .agg U] W fun e w' => e = .returned (.bool false) ∧ Fr (fun _ => False) W w')
    (NE : ∀ W : World, Calls Try.prog 24 #[.agg U] W fun e w' => e = .returned (.agg NU) ∧ Fr (fun _ => False) W w')
    (S2 : ∀ W : World, Calls Try.prog 26 #[.agg M, .agg NU] W fun e w' => e = .returned (.bool false) ∧ Fr (fun _ => False) W w')
    (TU : ∀ W : World, Calls Try.prog 87 #[] W fun e w' => e = .returned (.agg TT) ∧ Fr (fun _ => False) W w')
    (MX : ∀ W : World, Calls Try.prog 22 #[.agg X, .agg TT] W fun e w' => e = .returned (.agg Z) ∧ Fr (fun _ => False) W w')
    (sU : Sz 4 U) (sV : Sz 4 V) (sT3 : Sz 4 T3) (sT7 : Sz 4 T7) (sX : Sz 4 X) (sM : Sz 4 M) (sZ : Sz 4 Z) :
    Calls Try.prog 37 #[.agg U, .agg V] w fun e w' => e = .returned (.tuple #[.agg #[.int .u64 0, .int .u64 0, .int .u64 0, .int .u64 0], .bool false]) ∧ Fr (fun _ => False) w w' := by
  have sz0 : Sz 4 #[.int .u64 0, .int .u64 0, .int .u64 0, .int .u64 0] := ⟨rfl, by simp [Value.oneCell']⟩
  have K := ((((Kn.start w).new (w.heap.size) 4 U 24 rfl sU.1).new (w.heap.size + 1) 4 V 24 (by simp) sV.1).new (w.heap.size + 1 + 1) 4 #[.int .u64 0, .int .u64 0, .int .u64 0, .int .u64 0] 24 (by simp) rfl)
  go_enter Try.func37, Try.ntmps37
  go_wp2_with fail
  refine wp_region_kn_tail K 5 [(6, 4, #[.int .u64 0, .int .u64 0, .int .u64 0, .int .u64 0], 24)] (by kernel_rfl) (by kernel_rfl) (mk_one ⟨_, rfl, makes_alloc _ _ _ _ _ _ Try.alEl⟩) (sz_one rfl) ?_
  apply Exists.intro
  refine ⟨?wk1, ?fin1⟩
  case wk1 =>
    intro γ
  
    simp only [List.take_succ_cons, List.take_zero]
    repeat (any_goals (first | (focus (go_big_quiet_want; (first | ((with_reducible refine' quiet_load_kng K 24 (.tmp 3) rfl 1 _ _ _ _ rfl _ Try.underlying24 rfl Try.szEl _ _); rotate_left 2; (focus exact rfl))); simp only [Act.put, List.setIfInBounds_toArray, List.set_cons_zero, List.set_cons_succ]; go_big_quiet_on)) | go_big_quiet_step ((first | (go_at_call 22; with_reducible exact Calls.keepg (M1 _)) | (go_at_call 22; with_reducible exact Calls.keepg (M2 _)) | (go_at_call 22; with_reducible exact Calls.keepg (M3 _)) | (go_at_call 22; with_reducible exact Calls.keepg (M4 _)) | (go_at_call 22; with_reducible exact Calls.keepg (M5 _)) | (go_at_call 22; with_reducible exact Calls.keepg (M6 _)) | (go_at_call 22; with_reducible exact Calls.keepg (M7 _)) | (go_at_call 22; with_reducible exact Calls.keepg (M8 _)) | (go_at_call 22; with_reducible exact Calls.keepg (M9 _)) | (go_at_call 22; with_reducible exact Calls.keepg (MX _)))) | quiet_step ((first | (go_at_call 22; with_reducible exact Calls.keepg (M1 _)) | (go_at_call 22; with_reducible exact Calls.keepg (M2 _)) | (go_at_call 22; with_reducible exact Calls.keepg (M3 _)) | (go_at_call 22; with_reducible exact Calls.keepg (M4 _)) | (go_at_call 22; with_reducible exact Calls.keepg (M5 _)) | (go_at_call 22; with_reducible exact Calls.keepg (M6 _)) | (go_at_call 22; with_reducible exact Calls.keepg (M7 _)) | (go_at_call 22; with_reducible exact Calls.keepg (M8 _)) | (go_at_call 22; with_reducible exact Calls.keepg (M9 _)) | (go_at_call 22; with_reducible exact Calls.keepg (MX _))))))
    exact wpQuiet_nil rfl
  case fin1 =>
    intro gs wz Kz
    clear K
    have K := Kz
    clear Kz
    try simp only [mkAll, asObj, List.map_cons, List.map_nil, putAll, List.drop_succ_cons, List.drop_zero, List.length_cons, List.length_nil, Nat.zero_add, Nat.add_zero] at K ⊢
    try simp only [Act.put, List.setIfInBounds_toArray, List.set_cons_zero, List.set_cons_succ]
    generalize gs 0 = gz0 at *
    go_wp2_with (first
      | (focus ((first | ((with_reducible refine' wpList_store_kn K rfl 24 (.tmp 6) _ rfl 0 _ _ _ _ _ rfl rfl Try.szEl _ _ _); rotate_left 2; (focus exact rfl))); (focus assumption); intro wz Kz; clear K; have K := Kz; clear Kz; simp only [List.set_cons_zero, List.set_cons_succ] at K; try (simp only [Act.put, List.setIfInBounds_toArray, List.set_cons_zero, List.set_cons_succ]))))
    refine wp_region_kn_tail K 5 [(7, 4, #[.int .u64 0, .int .u64 0, .int .u64 0, .int .u64 0], 24)] (by kernel_rfl) (by kernel_rfl) (mk_one ⟨_, rfl, makes_alloc _ _ _ _ _ _ Try.alEl⟩) (sz_one rfl) ?_
    apply Exists.intro
    refine ⟨?wk2, ?fin2⟩
    case wk2 =>
      intro γ
  
      simp only [List.take_succ_cons, List.take_zero]
      repeat (any_goals (first | (focus (go_big_quiet_want; (first | ((with_reducible refine' quiet_load_kng K 24 (.tmp 3) rfl 2 _ _ _ _ rfl _ Try.underlying24 rfl Try.szEl _ _); rotate_left 2; (focus exact rfl)) | ((with_reducible refine' quiet_load_kng K 24 (.tmp 6) rfl 0 _ _ _ _ rfl _ Try.underlying24 rfl Try.szEl _ _); rotate_left 2; (focus exact rfl))); simp only [Act.put, List.setIfInBounds_toArray, List.set_cons_zero, List.set_cons_succ]; go_big_quiet_on)) | go_big_quiet_step ((first | (go_at_call 22; with_reducible exact Calls.keepg (M1 _)) | (go_at_call 22; with_reducible exact Calls.keepg (M2 _)) | (go_at_call 22; with_reducible exact Calls.keepg (M3 _)) | (go_at_call 22; with_reducible exact Calls.keepg (M4 _)) | (go_at_call 22; with_reducible exact Calls.keepg (M5 _)) | (go_at_call 22; with_reducible exact Calls.keepg (M6 _)) | (go_at_call 22; with_reducible exact Calls.keepg (M7 _)) | (go_at_call 22; with_reducible exact Calls.keepg (M8 _)) | (go_at_call 22; with_reducible exact Calls.keepg (M9 _)) | (go_at_call 22; with_reducible exact Calls.keepg (MX _)))) | quiet_step ((first | (go_at_call 22; with_reducible exact Calls.keepg (M1 _)) | (go_at_call 22; with_reducible exact Calls.keepg (M2 _)) | (go_at_call 22; with_reducible exact Calls.keepg (M3 _)) | (go_at_call 22; with_reducible exact Calls.keepg (M4 _)) | (go_at_call 22; with_reducible exact Calls.keepg (M5 _)) | (go_at_call 22; with_reducible exact Calls.keepg (M6 _)) | (go_at_call 22; with_reducible exact Calls.keepg (M7 _)) | (go_at_call 22; with_reducible exact Calls.keepg (M8 _)) | (go_at_call 22; with_reducible exact Calls.keepg (M9 _)) | (go_at_call 22; with_reducible exact Calls.keepg (MX _))))))
      exact wpQuiet_nil rfl
    case fin2 =>
      intro gs wz Kz
      clear K
      have K := Kz
      clear Kz
      try simp only [mkAll, asObj, List.map_cons, List.map_nil, putAll, List.drop_succ_cons, List.drop_zero, List.length_cons, List.length_nil, Nat.zero_add, Nat.add_zero] at K ⊢
      try simp only [Act.put, List.setIfInBounds_toArray, List.set_cons_zero, List.set_cons_succ]
      generalize gs 0 = gz0 at *
      go_wp2_with (first
        | (focus ((first | ((with_reducible refine' wpList_store_kn K rfl 24 (.tmp 7) _ rfl 0 _ _ _ _ _ rfl rfl Try.szEl _ _ _); rotate_left 2; (focus exact rfl))); (focus assumption); intro wz Kz; clear K; have K := Kz; clear Kz; simp only [List.set_cons_zero, List.set_cons_succ] at K; try (simp only [Act.put, List.setIfInBounds_toArray, List.set_cons_zero, List.set_cons_succ]))))
      refine wp_region_kn_tail K 9 [(8, 4, #[.int .u64 0, .int .u64 0, .int .u64 0, .int .u64 0], 24)] (by kernel_rfl) (by kernel_rfl) (mk_one ⟨_, rfl, makes_alloc _ _ _ _ _ _ Try.alEl⟩) (sz_one rfl) ?_
      apply Exists.intro
      refine ⟨?wk3, ?fin3⟩
      case wk3 =>
        intro γ
  
        simp only [List.take_succ_cons, List.take_zero]
        repeat (any_goals (first | (focus (go_big_quiet_want; (first | ((with_reducible refine' quiet_load_kng K 24 (.tmp 2) rfl 4 _ _ _ _ rfl _ Try.underlying24 rfl Try.szEl _ _); rotate_left 2; (focus exact rfl)) | ((with_reducible refine' quiet_load_kng K 24 (.tmp 6) rfl 1 _ _ _ _ rfl _ Try.underlying24 rfl Try.szEl _ _); rotate_left 2; (focus exact rfl)) | ((with_reducible refine' quiet_load_kng K 24 (.tmp 7) rfl 0 _ _ _ _ rfl _ Try.underlying24 rfl Try.szEl _ _); rotate_left 2; (focus exact rfl))); simp only [Act.put, List.setIfInBounds_toArray, List.set_cons_zero, List.set_cons_succ]; go_big_quiet_on)) | go_big_quiet_step ((first | (go_at_call 22; with_reducible exact Calls.keepg (M1 _)) | (go_at_call 22; with_reducible exact Calls.keepg (M2 _)) | (go_at_call 22; with_reducible exact Calls.keepg (M3 _)) | (go_at_call 22; with_reducible exact Calls.keepg (M4 _)) | (go_at_call 22; with_reducible exact Calls.keepg (M5 _)) | (go_at_call 22; with_reducible exact Calls.keepg (M6 _)) | (go_at_call 86; with_reducible exact Calls.keepg (RP _)) | (go_at_call 34; with_reducible exact Calls.keepg (PO _)) | (go_at_call 22; with_reducible exact Calls.keepg (M7 _)) | (go_at_call 22; with_reducible exact Calls.keepg (M8 _)) | (go_at_call 22; with_reducible exact Calls.keepg (M9 _)) | (go_at_call 22; with_reducible exact Calls.keepg (MX _)))) | quiet_step ((first | (go_at_call 22; with_reducible exact Calls.keepg (M1 _)) | (go_at_call 22; with_reducible exact Calls.keepg (M2 _)) | (go_at_call 22; with_reducible exact Calls.keepg (M3 _)) | (go_at_call 22; with_reducible exact Calls.keepg (M4 _)) | (go_at_call 22; with_reducible exact Calls.keepg (M5 _)) | (go_at_call 22; with_reducible exact Calls.keepg (M6 _)) | (go_at_call 86; with_reducible exact Calls.keepg (RP _)) | (go_at_call 34; with_reducible exact Calls.keepg (PO _)) | (go_at_call 22; with_reducible exact Calls.keepg (M7 _)) | (go_at_call 22; with_reducible exact Calls.keepg (M8 _)) | (go_at_call 22; with_reducible exact Calls.keepg (M9 _)) | (go_at_call 22; with_reducible exact Calls.keepg (MX _))))))
        exact wpQuiet_nil rfl
      case fin3 =>
        intro gs wz Kz
        clear K
        have K := Kz
        clear Kz
        try simp only [mkAll, asObj, List.map_cons, List.map_nil, putAll, List.drop_succ_cons, List.drop_zero, List.length_cons, List.length_nil, Nat.zero_add, Nat.add_zero] at K ⊢
        try simp only [Act.put, List.setIfInBounds_toArray, List.set_cons_zero, List.set_cons_succ]
        generalize gs 0 = gz0 at *
        go_wp2_with (first
          | (focus ((first | ((with_reducible refine' wpList_store_kn K rfl 24 (.tmp 8) _ rfl 0 _ _ _ _ _ rfl rfl Try.szEl _ _ _); rotate_left 2; (focus exact rfl))); (focus assumption); intro wz Kz; clear K; have K := Kz; clear Kz; simp only [List.set_cons_zero, List.set_cons_succ] at K; try (simp only [Act.put, List.setIfInBounds_toArray, List.set_cons_zero, List.set_cons_succ]))))
        refine wp_region_kn_tail K 5 [(9, 4, #[.int .u64 0, .int .u64 0, .int .u64 0, .int .u64 0], 24)] (by kernel_rfl) (by kernel_rfl) (mk_one ⟨_, rfl, makes_alloc _ _ _ _ _ _ Try.alEl⟩) (sz_one rfl) ?_
        apply Exists.intro
        refine ⟨?wk4, ?fin4⟩
        case wk4 =>
          intro γ
  
          simp only [List.take_succ_cons, List.take_zero]
          repeat (any_goals (first | (focus (go_big_quiet_want; (first | ((with_reducible refine' quiet_load_kng K 24 (.tmp 3) rfl 4 _ _ _ _ rfl _ Try.underlying24 rfl Try.szEl _ _); rotate_left 2; (focus exact rfl)) | ((with_reducible refine' quiet_load_kng K 24 (.tmp 8) rfl 0 _ _ _ _ rfl _ Try.underlying24 rfl Try.szEl _ _); rotate_left 2; (focus exact rfl))); simp only [Act.put, List.setIfInBounds_toArray, List.set_cons_zero, List.set_cons_succ]; go_big_quiet_on)) | go_big_quiet_step ((first | (go_at_call 22; with_reducible exact Calls.keepg (M1 _)) | (go_at_call 22; with_reducible exact Calls.keepg (M2 _)) | (go_at_call 22; with_reducible exact Calls.keepg (M3 _)) | (go_at_call 22; with_reducible exact Calls.keepg (M4 _)) | (go_at_call 22; with_reducible exact Calls.keepg (M5 _)) | (go_at_call 22; with_reducible exact Calls.keepg (M6 _)) | (go_at_call 22; with_reducible exact Calls.keepg (M7 _)) | (go_at_call 22; with_reducible exact Calls.keepg (M8 _)) | (go_at_call 22; with_reducible exact Calls.keepg (M9 _)) | (go_at_call 22; with_reducible exact Calls.keepg (MX _)))) | quiet_step ((first | (go_at_call 22; with_reducible exact Calls.keepg (M1 _)) | (go_at_call 22; with_reducible exact Calls.keepg (M2 _)) | (go_at_call 22; with_reducible exact Calls.keepg (M3 _)) | (go_at_call 22; with_reducible exact Calls.keepg (M4 _)) | (go_at_call 22; with_reducible exact Calls.keepg (M5 _)) | (go_at_call 22; with_reducible exact Calls.keepg (M6 _)) | (go_at_call 22; with_reducible exact Calls.keepg (M7 _)) | (go_at_call 22; with_reducible exact Calls.keepg (M8 _)) | (go_at_call 22; with_reducible exact Calls.keepg (M9 _)) | (go_at_call 22; with_reducible exact Calls.keepg (MX _))))))
          exact wpQuiet_nil rfl
        case fin4 =>
          intro gs wz Kz
          clear K
          have K := Kz
          clear Kz
          try simp only [mkAll, asObj, List.map_cons, List.map_nil, putAll, List.drop_succ_cons, List.drop_zero, List.length_cons, List.length_nil, Nat.zero_add, Nat.add_zero] at K ⊢
          try simp only [Act.put, List.setIfInBounds_toArray, List.set_cons_zero, List.set_cons_succ]
          generalize gs 0 = gz0 at *
          go_wp2_with (first
            | (focus (first | ((with_reducible refine' wpList_load_kn K rfl 24 (.tmp 9) rfl 0 _ _ _ _ rfl _ Try.underlying24 rfl Try.szEl _ _); rotate_left 2; (focus exact rfl)) | ((with_reducible refine' wpList_load_kn K rfl 24 (.tmp 2) rfl 6 _ _ _ _ rfl _ Try.underlying24 rfl Try.szEl _ _); rotate_left 2; (focus exact rfl))))
            | (focus ((first | ((with_reducible refine' wpList_store_kn K rfl 24 (.tmp 9) _ rfl 0 _ _ _ _ _ rfl rfl Try.szEl _ _ _); rotate_left 2; (focus exact rfl))); (focus assumption); intro wz Kz; clear K; have K := Kz; clear Kz; simp only [List.set_cons_zero, List.set_cons_succ] at K; try (simp only [Act.put, List.setIfInBounds_toArray, List.set_cons_zero, List.set_cons_succ])))
            | (go_at_call 26; (with_reducible refine Calls.kn K (S1 _) ?_); intro wz Kz; clear K; have K := Kz; clear Kz)
            | (go_at_call 26; (with_reducible refine Calls.kn K (S2 _) ?_); intro wz Kz; clear K; have K := Kz; clear Kz))
          refine wp_region_keep (by kernel_rfl) (by kernel_rfl) ?_
          repeat (any_goals (first | (focus (go_big_quiet_want; (first | ((with_reducible refine' quiet_load_kn K 24 (.tmp 9) rfl 0 _ _ _ _ rfl _ Try.underlying24 rfl Try.szEl _ _); rotate_left 2; (focus exact rfl)) | ((with_reducible refine' quiet_load_kn K 24 (.tmp 2) rfl 6 _ _ _ _ rfl _ Try.underlying24 rfl Try.szEl _ _); rotate_left 2; (focus exact rfl))); simp only [Act.put, List.setIfInBounds_toArray, List.set_cons_zero, List.set_cons_succ]; go_big_quiet_on)) | go_big_quiet_step ((first | (go_at_call 26; with_reducible exact Calls.keep (S1 _)) | (go_at_call 24; with_reducible exact Calls.keep (NE _)) | (go_at_call 26; with_reducible exact Calls.keep (S2 _)))) | quiet_step ((first | (go_at_call 26; with_reducible exact Calls.keep (S1 _)) | (go_at_call 24; with_reducible exact Calls.keep (NE _)) | (go_at_call 26; with_reducible exact Calls.keep (S2 _))))))
          refine wpQuiet_nil ?_
          intro _ hwz
          obtain ⟨y, rfl⟩ := hwz
          have Kz := K.call y.h
          clear K 
          have K := Kz
          clear Kz
          generalize y.w = wz at K ⊢
          clear y
          go_wp2_with (first
              | (focus ((first | ((with_reducible refine' wpList_store_kn K rfl 24 (.tmp 4) _ rfl 4 _ _ _ _ _ rfl rfl Try.szEl _ _ _); rotate_left 2; (focus exact rfl))); (focus assumption); intro wz Kz; clear K; have K := Kz; clear Kz; simp only [List.set_cons_zero, List.set_cons_succ] at K; try (simp only [Act.put, List.setIfInBounds_toArray, List.set_cons_zero, List.set_cons_succ]))))
          refine bodyPost_ret (results_kn_tmp K rfl _ 4 _ _ _ _ rfl _ Try.underlying24 rfl Try.szEl rfl) rfl ?_
          exact ⟨rfl, K.fr⟩
end Go.Proofs.Ytahnlnflcgehaaa
namespace Go.Proofs.Ytahnlnflcgehaaa
open Go.RowKit Pri
set_option linter.unusedVariables false
set_option linter.unusedSimpArgs false

theorem Try.szN5 : (Try.prog.info? 26).map (·.size) = some 16 := by kernel_rfl
theorem Try.alN5 : ∀ w, (Instr.alloc 26 true (.tuple #[])).run Try.prog w = .ok (.pointer (some ⟨w.heap.size, 0, none⟩)) (w.alloc (.cells #[.int .i64 0, .int .i64 0, .int .i64 0, .int .i64 0, .int .i64 0, .int .i64 0, .int .i64 0, .int .i64 0, .int .i64 0, .int .i64 0, .int .i64 0, .int .i64 0, .int .i64 0, .int .i64 0, .int .i64 0, .int .i64 0] 26)) := fun w => by kernel_rfl
theorem Try.szFo : (Try.prog.info? 23).map (·.size) = some 4 := by kernel_rfl
theorem Try.alFo : ∀ w, (Instr.alloc 23 true (.tuple #[])).run Try.prog w = .ok (.pointer (some ⟨w.heap.size, 0, none⟩)) (w.alloc (.cells #[.int .u64 0, .int .u64 0, .int .u64 0, .int .u64 0] 23)) := fun w => by kernel_rfl
theorem nc_rE : nc rE = #[.int .u64 18446744073709551613, .int .u64 18446744073709551615, .int .u64 18446744073709551615, .int .u64 1152921504606846975] := by
  have := nc_of 18446744073709551613 18446744073709551615 18446744073709551615 1152921504606846975 (by decide) (by decide) (by decide) (by decide)
  rw [show nv 18446744073709551613 18446744073709551615 18446744073709551615 1152921504606846975 = rE from by decide +kernel] at this
  exact this.symm
theorem nc_iI : nc iI = #[.int .u64 14190309331451158704, .int .u64 3405592160176694392, .int .u64 3120150775007532967, .int .u64 3135389899092516619] := by
  have := nc_of 14190309331451158704 3405592160176694392 3120150775007532967 3135389899092516619 (by decide) (by decide) (by decide) (by decide)
  rw [show nv 14190309331451158704 3405592160176694392 3120150775007532967 3135389899092516619 = iI from by decide +kernel] at this
  exact this.symm
theorem nc_rI : nc rI = #[.int .u64 18446744073709551611, .int .u64 18446744073709551615, .int .u64 18446744073709551615, .int .u64 2305843009213693951] := by
  have := nc_of 18446744073709551611 18446744073709551615 18446744073709551615 2305843009213693951 (by decide) (by decide) (by decide) (by decide)
  rw [show nv 18446744073709551611 18446744073709551615 18446744073709551615 2305843009213693951 = rI from by decide +kernel] at this
  exact this.symm
set_option maxRecDepth 100000 in
theorem frootPower_any (w : World) : Calls Try.prog 86 #[] w fun e w' => e = .returned (.agg (nc rE)) ∧ Fr (fun _ => False) w w' := by
  rw [nc_rE]
  go_enter Try.func86, Try.ntmps86
  go_wp2
  refine bodyPost_ret (results_cell_row rfl _ _ w.heap.size 23 _ (0, 0) _ rfl (heap_alloc_new w _) Try.underlying23 rfl Try.szFo) rfl ?_
  exact ⟨rfl, (Fr.refl _ w).alloc _⟩
set_option maxRecDepth 100000 in
theorem fturn_any (w : World) : Calls Try.prog 87 #[] w fun e w' => e = .returned (.agg (nc iI)) ∧ Fr (fun _ => False) w w' := by
  rw [nc_iI]
  go_enter Try.func87, Try.ntmps87
  go_wp2
  refine bodyPost_ret (results_cell_row rfl _ _ w.heap.size 24 _ (0, 0) _ rfl (heap_alloc_new w _) Try.underlying24 rfl Try.szEl) rfl ?_
  exact ⟨rfl, (Fr.refl _ w).alloc _⟩
theorem sz_nc (X : Nat) : Sz 4 (nc X) := ⟨nc_size X, nc_one X⟩
theorem sz_nd (X : Nat) : Sz 16 (nd X) := ⟨nd_size X, iq_one 16 _⟩
theorem rE_lt : rE < 115792089237316195423570985008687907853269984665640564039457584007913129639936 := by decide +kernel
theorem rI_lt : rI < 115792089237316195423570985008687907853269984665640564039457584007913129639936 := by decide +kernel
theorem iI_ltP : iI < 115792089237316195423570985008687907853269984665640564039457584007913129639936 := by decide +kernel
theorem mod_id (a : Nat) : a % p25519 % p25519 = a % p25519 := Nat.mod_mod _ _
theorem rootN_cases (U V : Nat) : (rc1 U V = true ∧ rootN U V = rx U V ∧ rootB U V = true) ∨ (rc1 U V = false ∧ rc2 U V = true ∧ rootN U V = rx U V * iI % p25519 ∧ rootB U V = true) ∨ (rc1 U V = false ∧ rc2 U V = false ∧ rootN U V = 0 ∧ rootB U V = false) := by
  unfold rootN rootB
  cases rc1 U V <;> cases rc2 U V <;> simp
theorem nc_lit0_ : nc 0 = #[.int .u64 0, .int .u64 0, .int .u64 0, .int .u64 0] := by kernel_rfl
theorem froot_any (U V : Nat) (hU : U < 115792089237316195423570985008687907853269984665640564039457584007913129639936) (hV : V < 115792089237316195423570985008687907853269984665640564039457584007913129639936) (w : World) :
    Calls Try.prog 37 #[.agg (nc U), .agg (nc V)] w fun e w' => e = .returned (.tuple #[.agg (nc (rootN U V)), .bool (rootB U V)]) ∧ Fr (fun _ => False) w w' := by
  have h3 : r3 V < 115792089237316195423570985008687907853269984665640564039457584007913129639936 := mod_p_lt _
  have h7 : r7 V < 115792089237316195423570985008687907853269984665640564039457584007913129639936 := mod_p_lt _
  have hx : rx U V < 115792089237316195423570985008687907853269984665640564039457584007913129639936 := mod_p_lt _
  have hm : rm U V < 115792089237316195423570985008687907853269984665640564039457584007913129639936 := mod_p_lt _
  have S1 : ∀ W : World, Calls Try.prog 26 #[.agg (nc (rm U V)), .agg (nc U)] W fun e w' => e = .returned (.bool (rc1 U V)) ∧ Fr (fun _ => False) W w' := fun W => fsame_any _ U hm hU W
  have S2 : ∀ W : World, Calls Try.prog 26 #[.agg (nc (rm U V)), .agg (nc ((p25519 - U % p25519) % p25519))] W fun e w' => e = .returned (.bool (rc2 U V)) ∧ Fr (fun _ => False) W w' := fun W => fsame_any _ _ hm (mod_p_lt _) W
  rcases rootN_cases U V with ⟨c1, e1, e2⟩ | ⟨c1, c2, e1, e2⟩ | ⟨c1, c2, e1, e2⟩
  · rw [c1] at S1
    rw [e1, e2]
    exact froot_a (nc U) (nc V) (nc (V * V % p25519)) (nc (r3 V)) (nc (r3 V * r3 V % p25519)) (nc (r7 V)) (nc (U * r3 V % p25519)) (nc (U * r7 V % p25519)) (nc rE) (nc (pwr (U * r7 V % p25519) rE)) (nc (rx U V)) (nc (rx U V * rx U V % p25519)) (nc (rm U V)) (nc ((p25519 - U % p25519) % p25519)) (nc iI) (nc (rx U V * iI % p25519)) w (fmul_any V V hV hV) (fmul_any V _ hV (mod_p_lt _)) (fmul_any _ _ h3 h3) (fmul_any V _ hV (mod_p_lt _)) (fmul_any U _ hU h3) (fmul_any U _ hU h7) frootPower_any (fpow_any _ rE (mod_p_lt _) rE_lt) (fmul_any _ _ (mod_p_lt _) (pwr_lt _ _)) (fmul_any _ _ hx hx) (fmul_any V _ hV (mod_p_lt _)) S1 (fneg_any U hU) S2 fturn_any (fmul_any _ _ hx iI_ltP) (sz_nc _) (sz_nc _) (sz_nc _) (sz_nc _) (sz_nc _) (sz_nc _) (sz_nc _)
  · rw [c1] at S1
    rw [c2] at S2
    rw [e1, e2]
    exact froot_b (nc U) (nc V) (nc (V * V % p25519)) (nc (r3 V)) (nc (r3 V * r3 V % p25519)) (nc (r7 V)) (nc (U * r3 V % p25519)) (nc (U * r7 V % p25519)) (nc rE) (nc (pwr (U * r7 V % p25519) rE)) (nc (rx U V)) (nc (rx U V * rx U V % p25519)) (nc (rm U V)) (nc ((p25519 - U % p25519) % p25519)) (nc iI) (nc (rx U V * iI % p25519)) w (fmul_any V V hV hV) (fmul_any V _ hV (mod_p_lt _)) (fmul_any _ _ h3 h3) (fmul_any V _ hV (mod_p_lt _)) (fmul_any U _ hU h3) (fmul_any U _ hU h7) frootPower_any (fpow_any _ rE (mod_p_lt _) rE_lt) (fmul_any _ _ (mod_p_lt _) (pwr_lt _ _)) (fmul_any _ _ hx hx) (fmul_any V _ hV (mod_p_lt _)) S1 (fneg_any U hU) S2 fturn_any (fmul_any _ _ hx iI_ltP) (sz_nc _) (sz_nc _) (sz_nc _) (sz_nc _) (sz_nc _) (sz_nc _) (sz_nc _)
  · rw [c1] at S1
    rw [c2] at S2
    rw [e1, e2, nc_lit0_]
    exact froot_c (nc U) (nc V) (nc (V * V % p25519)) (nc (r3 V)) (nc (r3 V * r3 V % p25519)) (nc (r7 V)) (nc (U * r3 V % p25519)) (nc (U * r7 V % p25519)) (nc rE) (nc (pwr (U * r7 V % p25519) rE)) (nc (rx U V)) (nc (rx U V * rx U V % p25519)) (nc (rm U V)) (nc ((p25519 - U % p25519) % p25519)) (nc iI) (nc (rx U V * iI % p25519)) w (fmul_any V V hV hV) (fmul_any V _ hV (mod_p_lt _)) (fmul_any _ _ h3 h3) (fmul_any V _ hV (mod_p_lt _)) (fmul_any U _ hU h3) (fmul_any U _ hU h7) frootPower_any (fpow_any _ rE (mod_p_lt _) rE_lt) (fmul_any _ _ (mod_p_lt _) (pwr_lt _ _)) (fmul_any _ _ hx hx) (fmul_any V _ hV (mod_p_lt _)) S1 (fneg_any U hU) S2 fturn_any (fmul_any _ _ hx iI_ltP) (sz_nc _) (sz_nc _) (sz_nc _) (sz_nc _) (sz_nc _) (sz_nc _) (sz_nc _)
set_option maxRecDepth 100000 in
set_option maxHeartbeats 3200000 in
theorem root5_a {c : Bool} (U V VV T3 T33 T7 UT US PW X XX M NU TT Z : Array Value) (w : World)
    (M1 : ∀ W : World, Calls Try.prog 23 #[.agg V, .agg V] W fun e w' => e = .returned (.agg VV) ∧ Fr (fun _ => False) W w')
    (M2 : ∀ W : World, Calls Try.prog 23 #[.agg VV, .agg V] W fun e w' => e = .returned (.agg T3) ∧ Fr (fun _ => False) W w')
    (M3 : ∀ W : World, Calls Try.prog 23 #[.agg T3, .agg T3] W fun e w' => e = .returned (.agg T33) ∧ Fr (fun _ => False) W w')
    (M4 : ∀ W : World, Calls Try.prog 23 #[.agg T33, .agg V] W fun e w' => e = .returned (.agg T7) ∧ Fr (fun _ => False) W w')
    (M5 : ∀ W : World, Calls Try.prog 23 #[.agg U, .agg T3] W fun e w' => e = .returned (.agg UT) ∧ Fr (fun _ => False) W w')
    (M6 : ∀ W : World, Calls Try.prog 23 #[.agg U, .agg T7] W fun e w' => e = .returned (.agg US) ∧ Fr (fun _ => False) W w')
    (PO : ∀ W : World, Calls Try.prog 35 #[.agg US, .agg #[.int .u64 18446744073709551613, .int .u64 18446744073709551615, .int .u64 18446744073709551615, .int .u64 1152921504606846975]] W fun e w' => e = .returned (.agg PW) ∧ Fr (fun _ => False) W w')
    (M7 : ∀ W : World, Calls Try.prog 23 #[.agg UT, .agg PW] W fun e w' => e = .returned (.agg X) ∧ Fr (fun _ => False) W w')
    (M8 : ∀ W : World, Calls Try.prog 23 #[.agg X, .agg X] W fun e w' => e = .returned (.agg XX) ∧ Fr (fun _ => False) W w')
    (M9 : ∀ W : World, Calls Try.prog 23 #[.agg V, .agg XX] W fun e w' => e = .returned (.agg M) ∧ Fr (fun _ => False) W w')
    (NE : ∀ W : World, Calls Try.prog 25 #[.agg U] W fun e w' => e = .returned (.agg NU) ∧ Fr (fun _ => False) W w')
    (IC : ∀ W : World, Calls Try.prog 88 #[] W fun e w' => e = .returned (.agg TT) ∧ Fr (fun _ => False) W w')
    (MX : ∀ W : World, Calls Try.prog 23 #[.agg X, .agg TT] W fun e w' => e = .returned (.agg Z) ∧ Fr (fun _ => False) W w')
    (E1 : ∀ W : World, (binOp .eql 26 (.agg M) (.agg U)).run Try.prog W = .ok (.bool true) W) (E2 : ∀ W : World, (binOp .eql 26 (.agg M) (.agg NU)).run Try.prog W = .ok (.bool c) W)
    (sU : Sz 16 U) (sV : Sz 16 V) (sT3 : Sz 16 T3) (sT7 : Sz 16 T7) (sX : Sz 16 X) (sM : Sz 16 M) (sZ : Sz 16 Z) :
    Calls Try.prog 38 #[.agg U, .agg V] w fun e w' => e = .returned (.tuple #[.agg X, .bool true]) ∧ Fr (fun _ => False) w w' := by
  have sz0 : Sz 16 #[.int .i64 0, .int .i64 0, .int .i64 0, .int .i64 0, .int .i64 0, .int .i64 0, .int .i64 0, .int .i64 0, .int .i64 0, .int .i64 0, .int .i64 0, .int .i64 0, .int .i64 0, .int .i64 0, .int .i64 0, .int .i64 0] := ⟨rfl, by simp [Value.oneCell']⟩
  have K := ((((Kn.start w).new (w.heap.size) 16 U 26 rfl sU.1).new (w.heap.size + 1) 16 V 26 (by simp) sV.1).new (w.heap.size + 1 + 1) 16 #[.int .i64 0, .int .i64 0, .int .i64 0, .int .i64 0, .int .i64 0, .int .i64 0, .int .i64 0, .int .i64 0, .int .i64 0, .int .i64 0, .int .i64 0, .int .i64 0, .int .i64 0, .int .i64 0, .int .i64 0, .int .i64 0] 26 (by simp) rfl)
  have EG := Try.guardNum5
  go_enter Try.func38, Try.ntmps38
  go_wp2_with fail
  refine wp_region_kn_tail K 5 [(7, 16, #[.int .i64 0, .int .i64 0, .int .i64 0, .int .i64 0, .int .i64 0, .int .i64 0, .int .i64 0, .int .i64 0, .int .i64 0, .int .i64 0, .int .i64 0, .int .i64 0, .int .i64 0, .int .i64 0, .int .i64 0, .int .i64 0], 26)] (by kernel_rfl) (by kernel_rfl) (mk_one ⟨_, rfl, makes_alloc _ _ _ _ _ _ Try.alN5⟩) (sz_one rfl) ?_
  apply Exists.intro
  refine ⟨?wk2, ?fin2⟩
  case wk2 =>
    intro γ
  
    simp only [List.take_succ_cons, List.take_zero]
    repeat (any_goals (first | (focus (go_big_quiet_want; (first | ((with_reducible refine' quiet_load_kng K 26 (.tmp 3) rfl 1 _ _ _ _ rfl _ Try.underlying26 rfl Try.szN5 _ _); rotate_left 2; (focus exact rfl))); simp only [Act.put, List.setIfInBounds_toArray, List.set_cons_zero, List.set_cons_succ]; go_big_quiet_on)) | go_big_quiet_step ((first | (go_at_call 23; with_reducible exact Calls.keepg (M1 _)) | (go_at_call 23; with_reducible exact Calls.keepg (M2 _)) | (go_at_call 23; with_reducible exact Calls.keepg (M3 _)) | (go_at_call 23; with_reducible exact Calls.keepg (M4 _)) | (go_at_call 23; with_reducible exact Calls.keepg (M5 _)) | (go_at_call 23; with_reducible exact Calls.keepg (M6 _)) | (go_at_call 23; with_reducible exact Calls.keepg (M7 _)) | (go_at_call 23; with_reducible exact Calls.keepg (M8 _)) | (go_at_call 23; with_reducible exact Calls.keepg (M9 _)) | (go_at_call 23; with_reducible exact Calls.keepg (MX _)))) | quiet_step ((first | (go_at_call 23; with_reducible exact Calls.keepg (M1 _)) | (go_at_call 23; with_reducible exact Calls.keepg (M2 _)) | (go_at_call 23; with_reducible exact Calls.keepg (M3 _)) | (go_at_call 23; with_reducible exact Calls.keepg (M4 _)) | (go_at_call 23; with_reducible exact Calls.keepg (M5 _)) | (go_at_call 23; with_reducible exact Calls.keepg (M6 _)) | (go_at_call 23; with_reducible exact Calls.keepg (M7 _)) | (go_at_call 23; with_reducible exact Calls.keepg (M8 _)) | (go_at_call 23; with_reducible exact Calls.keepg (M9 _)) | (go_at_call 23; with_reducible exact Calls.keepg (MX _))))))
    exact wpQuiet_nil rfl
  case fin2 =>
    intro gs wz Kz
    clear K
    have K := Kz
    clear Kz
    try simp only [mkAll, asObj, List.map_cons, List.map_nil, putAll, List.drop_succ_cons, List.drop_zero, List.length_cons, List.length_nil, Nat.zero_add, Nat.add_zero] at K ⊢
    try simp only [Act.put, List.setIfInBounds_toArray, List.set_cons_zero, List.set_cons_succ]
    generalize gs 0 = gz0 at *
    go_wp2_with (first
      | (focus ((first | ((with_reducible refine' wpList_store_kn K rfl 26 (.tmp 7) _ rfl 0 _ _ _ _ _ rfl rfl Try.szN5 _ _ _); rotate_left 2; (focus exact rfl))); (focus assumption); intro wz Kz; clear K; have K := Kz; clear Kz; simp only [List.set_cons_zero, List.set_cons_succ] at K; try (simp only [Act.put, List.setIfInBounds_toArray, List.set_cons_zero, List.set_cons_succ]))))
    refine wp_region_kn_tail K 5 [(8, 16, #[.int .i64 0, .int .i64 0, .int .i64 0, .int .i64 0, .int .i64 0, .int .i64 0, .int .i64 0, .int .i64 0, .int .i64 0, .int .i64 0, .int .i64 0, .int .i64 0, .int .i64 0, .int .i64 0, .int .i64 0, .int .i64 0], 26)] (by kernel_rfl) (by kernel_rfl) (mk_one ⟨_, rfl, makes_alloc _ _ _ _ _ _ Try.alN5⟩) (sz_one rfl) ?_
    apply Exists.intro
    refine ⟨?wk3, ?fin3⟩
    case wk3 =>
      intro γ
  
      simp only [List.take_succ_cons, List.take_zero]
      repeat (any_goals (first | (focus (go_big_quiet_want; (first | ((with_reducible refine' quiet_load_kng K 26 (.tmp 7) rfl 0 _ _ _ _ rfl _ Try.underlying26 rfl Try.szN5 _ _); rotate_left 2; (focus exact rfl)) | ((with_reducible refine' quiet_load_kng K 26 (.tmp 3) rfl 2 _ _ _ _ rfl _ Try.underlying26 rfl Try.szN5 _ _); rotate_left 2; (focus exact rfl))); simp only [Act.put, List.setIfInBounds_toArray, List.set_cons_zero, List.set_cons_succ]; go_big_quiet_on)) | go_big_quiet_step ((first | (go_at_call 23; with_reducible exact Calls.keepg (M1 _)) | (go_at_call 23; with_reducible exact Calls.keepg (M2 _)) | (go_at_call 23; with_reducible exact Calls.keepg (M3 _)) | (go_at_call 23; with_reducible exact Calls.keepg (M4 _)) | (go_at_call 23; with_reducible exact Calls.keepg (M5 _)) | (go_at_call 23; with_reducible exact Calls.keepg (M6 _)) | (go_at_call 23; with_reducible exact Calls.keepg (M7 _)) | (go_at_call 23; with_reducible exact Calls.keepg (M8 _)) | (go_at_call 23; with_reducible exact Calls.keepg (M9 _)) | (go_at_call 23; with_reducible exact Calls.keepg (MX _)))) | quiet_step ((first | (go_at_call 23; with_reducible exact Calls.keepg (M1 _)) | (go_at_call 23; with_reducible exact Calls.keepg (M2 _)) | (go_at_call 23; with_reducible exact Calls.keepg (M3 _)) | (go_at_call 23; with_reducible exact Calls.keepg (M4 _)) | (go_at_call 23; with_reducible exact Calls.keepg (M5 _)) | (go_at_call 23; with_reducible exact Calls.keepg (M6 _)) | (go_at_call 23; with_reducible exact Calls.keepg (M7 _)) | (go_at_call 23; with_reducible exact Calls.keepg (M8 _)) | (go_at_call 23; with_reducible exact Calls.keepg (M9 _)) | (go_at_call 23; with_reducible exact Calls.keepg (MX _))))))
      exact wpQuiet_nil rfl
    case fin3 =>
      intro gs wz Kz
      clear K
      have K := Kz
      clear Kz
      try simp only [mkAll, asObj, List.map_cons, List.map_nil, putAll, List.drop_succ_cons, List.drop_zero, List.length_cons, List.length_nil, Nat.zero_add, Nat.add_zero] at K ⊢
      try simp only [Act.put, List.setIfInBounds_toArray, List.set_cons_zero, List.set_cons_succ]
      generalize gs 0 = gz0 at *
      go_wp2_with (first
        | (focus ((first | ((with_reducible refine' wpList_store_kn K rfl 26 (.tmp 8) _ rfl 0 _ _ _ _ _ rfl rfl Try.szN5 _ _ _); rotate_left 2; (focus exact rfl))); (focus assumption); intro wz Kz; clear K; have K := Kz; clear Kz; simp only [List.set_cons_zero, List.set_cons_succ] at K; try (simp only [Act.put, List.setIfInBounds_toArray, List.set_cons_zero, List.set_cons_succ]))))
      refine wp_region_kn_tail K 15 [(9, 16, #[.int .i64 0, .int .i64 0, .int .i64 0, .int .i64 0, .int .i64 0, .int .i64 0, .int .i64 0, .int .i64 0, .int .i64 0, .int .i64 0, .int .i64 0, .int .i64 0, .int .i64 0, .int .i64 0, .int .i64 0, .int .i64 0], 26)] (by kernel_rfl) (by kernel_rfl) (mk_one ⟨_, rfl, makes_alloc _ _ _ _ _ _ Try.alN5⟩) (sz_one rfl) ?_
      apply Exists.intro
      refine ⟨?wk4, ?fin4⟩
      case wk4 =>
        intro γ
  
        simp only [List.take_succ_cons, List.take_zero]
        repeat (any_goals (first | (focus (go_big_quiet_want; (first | ((with_reducible refine' quiet_load_kng K 26 (.tmp 2) rfl 4 _ _ _ _ rfl _ Try.underlying26 rfl Try.szN5 _ _); rotate_left 2; (focus exact rfl)) | ((with_reducible refine' quiet_load_kng K 26 (.tmp 7) rfl 1 _ _ _ _ rfl _ Try.underlying26 rfl Try.szN5 _ _); rotate_left 2; (focus exact rfl)) | ((with_reducible refine' quiet_load_kng K 26 (.tmp 8) rfl 0 _ _ _ _ rfl _ Try.underlying26 rfl Try.szN5 _ _); rotate_left 2; (focus exact rfl))); simp only [Act.put, List.setIfInBounds_toArray, List.set_cons_zero, List.set_cons_succ]; go_big_quiet_on)) | go_big_quiet_step ((first | (go_at_call 23; with_reducible exact Calls.keepg (M1 _)) | (go_at_call 23; with_reducible exact Calls.keepg (M2 _)) | (go_at_call 23; with_reducible exact Calls.keepg (M3 _)) | (go_at_call 23; with_reducible exact Calls.keepg (M4 _)) | (go_at_call 23; with_reducible exact Calls.keepg (M5 _)) | (go_at_call 23; with_reducible exact Calls.keepg (M6 _)) | (go_at_call 35; with_reducible exact Calls.keepg (PO _)) | (go_at_call 23; with_reducible exact Calls.keepg (M7 _)) | (go_at_call 23; with_reducible exact Calls.keepg (M8 _)) | (go_at_call 23; with_reducible exact Calls.keepg (M9 _)) | (go_at_call 23; with_reducible exact Calls.keepg (MX _)))) | quiet_step ((first | (go_at_call 23; with_reducible exact Calls.keepg (M1 _)) | (go_at_call 23; with_reducible exact Calls.keepg (M2 _)) | (go_at_call 23; with_reducible exact Calls.keepg (M3 _)) | (go_at_call 23; with_reducible exact Calls.keepg (M4 _)) | (go_at_call 23; with_reducible exact Calls.keepg (M5 _)) | (go_at_call 23; with_reducible exact Calls.keepg (M6 _)) | (go_at_call 35; with_reducible exact Calls.keepg (PO _)) | (go_at_call 23; with_reducible exact Calls.keepg (M7 _)) | (go_at_call 23; with_reducible exact Calls.keepg (M8 _)) | (go_at_call 23; with_reducible exact Calls.keepg (M9 _)) | (go_at_call 23; with_reducible exact Calls.keepg (MX _))))))
        exact wpQuiet_nil rfl
      case fin4 =>
        intro gs wz Kz
        clear K
        have K := Kz
        clear Kz
        try simp only [mkAll, asObj, List.map_cons, List.map_nil, putAll, List.drop_succ_cons, List.drop_zero, List.length_cons, List.length_nil, Nat.zero_add, Nat.add_zero] at K ⊢
        try simp only [Act.put, List.setIfInBounds_toArray, List.set_cons_zero, List.set_cons_succ]
        generalize gs 0 = gz0 at *
        go_wp2_with (first
          | (focus ((first | ((with_reducible refine' wpList_store_kn K rfl 26 (.tmp 9) _ rfl 0 _ _ _ _ _ rfl rfl Try.szN5 _ _ _); rotate_left 2; (focus exact rfl))); (focus assumption); intro wz Kz; clear K; have K := Kz; clear Kz; simp only [List.set_cons_zero, List.set_cons_succ] at K; try (simp only [Act.put, List.setIfInBounds_toArray, List.set_cons_zero, List.set_cons_succ]))))
        refine wp_region_kn_tail K 5 [(10, 16, #[.int .i64 0, .int .i64 0, .int .i64 0, .int .i64 0, .int .i64 0, .int .i64 0, .int .i64 0, .int .i64 0, .int .i64 0, .int .i64 0, .int .i64 0, .int .i64 0, .int .i64 0, .int .i64 0, .int .i64 0, .int .i64 0], 26)] (by kernel_rfl) (by kernel_rfl) (mk_one ⟨_, rfl, makes_alloc _ _ _ _ _ _ Try.alN5⟩) (sz_one rfl) ?_
        apply Exists.intro
        refine ⟨?wk5, ?fin5⟩
        case wk5 =>
          intro γ
  
          simp only [List.take_succ_cons, List.take_zero]
          repeat (any_goals (first | (focus (go_big_quiet_want; (first | ((with_reducible refine' quiet_load_kng K 26 (.tmp 3) rfl 4 _ _ _ _ rfl _ Try.underlying26 rfl Try.szN5 _ _); rotate_left 2; (focus exact rfl)) | ((with_reducible refine' quiet_load_kng K 26 (.tmp 9) rfl 0 _ _ _ _ rfl _ Try.underlying26 rfl Try.szN5 _ _); rotate_left 2; (focus exact rfl))); simp only [Act.put, List.setIfInBounds_toArray, List.set_cons_zero, List.set_cons_succ]; go_big_quiet_on)) | go_big_quiet_step ((first | (go_at_call 23; with_reducible exact Calls.keepg (M1 _)) | (go_at_call 23; with_reducible exact Calls.keepg (M2 _)) | (go_at_call 23; with_reducible exact Calls.keepg (M3 _)) | (go_at_call 23; with_reducible exact Calls.keepg (M4 _)) | (go_at_call 23; with_reducible exact Calls.keepg (M5 _)) | (go_at_call 23; with_reducible exact Calls.keepg (M6 _)) | (go_at_call 23; with_reducible exact Calls.keepg (M7 _)) | (go_at_call 23; with_reducible exact Calls.keepg (M8 _)) | (go_at_call 23; with_reducible exact Calls.keepg (M9 _)) | (go_at_call 23; with_reducible exact Calls.keepg (MX _)))) | quiet_step ((first | (go_at_call 23; with_reducible exact Calls.keepg (M1 _)) | (go_at_call 23; with_reducible exact Calls.keepg (M2 _)) | (go_at_call 23; with_reducible exact Calls.keepg (M3 _)) | (go_at_call 23; with_reducible exact Calls.keepg (M4 _)) | (go_at_call 23; with_reducible exact Calls.keepg (M5 _)) | (go_at_call 23; with_reducible exact Calls.keepg (M6 _)) | (go_at_call 23; with_reducible exact Calls.keepg (M7 _)) | (go_at_call 23; with_reducible exact Calls.keepg (M8 _)) | (go_at_call 23; with_reducible exact Calls.keepg (M9 _)) | (go_at_call 23; with_reducible exact Calls.keepg (MX _))))))
          exact wpQuiet_nil rfl
        case fin5 =>
          intro gs wz Kz
          clear K
          have K := Kz
          clear Kz
          try simp only [mkAll, asObj, List.map_cons, List.map_nil, putAll, List.drop_succ_cons, List.drop_zero, List.length_cons, List.length_nil, Nat.zero_add, Nat.add_zero] at K ⊢
          try simp only [Act.put, List.setIfInBounds_toArray, List.set_cons_zero, List.set_cons_succ]
          generalize gs 0 = gz0 at *
          go_wp2_with (first
            | (focus (first | ((with_reducible refine' wpList_load_kn K rfl 26 (.tmp 10) rfl 0 _ _ _ _ rfl _ Try.underlying26 rfl Try.szN5 _ _); rotate_left 2; (focus exact rfl)) | ((with_reducible refine' wpList_load_kn K rfl 26 (.tmp 2) rfl 6 _ _ _ _ rfl _ Try.underlying26 rfl Try.szN5 _ _); rotate_left 2; (focus exact rfl)) | ((with_reducible refine' wpList_load_kn K rfl 26 (.tmp 9) rfl 1 _ _ _ _ rfl _ Try.underlying26 rfl Try.szN5 _ _); rotate_left 2; (focus exact rfl))))
            | (focus ((first | ((with_reducible refine' wpList_store_kn K rfl 26 (.tmp 10) _ rfl 0 _ _ _ _ _ rfl rfl Try.szN5 _ _ _); rotate_left 2; (focus exact rfl)) | ((with_reducible refine' wpList_store_kn K rfl 26 (.tmp 4) _ rfl 4 _ _ _ _ _ rfl rfl Try.szN5 _ _ _); rotate_left 2; (focus exact rfl))); (focus assumption); intro wz Kz; clear K; have K := Kz; clear Kz; simp only [List.set_cons_zero, List.set_cons_succ] at K; try (simp only [Act.put, List.setIfInBounds_toArray, List.set_cons_zero, List.set_cons_succ]))))
          refine bodyPost_ret (results_kn_tmp K rfl _ 4 _ _ _ _ rfl _ Try.underlying26 rfl Try.szN5 rfl) rfl ?_
          exact ⟨rfl, K.fr⟩
set_option maxRecDepth 100000 in
set_option maxHeartbeats 3200000 in
theorem root5_b (U V VV T3 T33 T7 UT US PW X XX M NU TT Z : Array Value) (w : World)
    (M1 : ∀ W : World, Calls Try.prog 23 #[.agg V, .agg V] W fun e w' => e = .returned (.agg VV) ∧ Fr (fun _ => False) W w')
    (M2 : ∀ W : World, Calls Try.prog 23 #[.agg VV, .agg V] W fun e w' => e = .returned (.agg T3) ∧ Fr (fun _ => False) W w')
    (M3 : ∀ W : World, Calls Try.prog 23 #[.agg T3, .agg T3] W fun e w' => e = .returned (.agg T33) ∧ Fr (fun _ => False) W w')
    (M4 : ∀ W : World, Calls Try.prog 23 #[.agg T33, .agg V] W fun e w' => e = .returned (.agg T7) ∧ Fr (fun _ => False) W w')
    (M5 : ∀ W : World, Calls Try.prog 23 #[.agg U, .agg T3] W fun e w' => e = .returned (.agg UT) ∧ Fr (fun _ => False) W w')
    (M6 : ∀ W : World, Calls Try.prog 23 #[.agg U, .agg T7] W fun e w' => e = .returned (.agg US) ∧ Fr (fun _ => False) W w')
    (PO : ∀ W : World, Calls Try.prog 35 #[.agg US, .agg #[.int .u64 18446744073709551613, .int .u64 18446744073709551615, .int .u64 18446744073709551615, .int .u64 1152921504606846975]] W fun e w' => e = .returned (.agg PW) ∧ Fr (fun _ => False) W w')
    (M7 : ∀ W : World, Calls Try.prog 23 #[.agg UT, .agg PW] W fun e w' => e = .returned (.agg X) ∧ Fr (fun _ => False) W w')
    (M8 : ∀ W : World, Calls Try.prog 23 #[.agg X, .agg X] W fun e w' => e = .returned (.agg XX) ∧ Fr (fun _ => False) W w')
    (M9 : ∀ W : World, Calls Try.prog 23 #[.agg V, .agg XX] W fun e w' => e = .returned (.agg M) ∧ Fr (fun _ => False) W w')
    (NE : ∀ W : World, Calls Try.prog 25 #[.agg U] W fun e w' => e = .returned (.agg NU) ∧ Fr (fun _ => False) W w')
    (IC : ∀ W : World, Calls Try.prog 88 #[] W fun e w' => e = .returned (.agg TT) ∧ Fr (fun _ => False) W w')
    (MX : ∀ W : World, Calls Try.prog 23 #[.agg X, .agg TT] W fun e w' => e = .returned (.agg Z) ∧ Fr (fun _ => False) W w')
    (E1 : ∀ W : World, (binOp .eql 26 (.agg M) (.agg U)).run Try.prog W = .ok (.bool false) W) (E2 : ∀ W : World, (binOp .eql 26 (.agg M) (.agg NU)).run Try.prog W = .ok (.bool true) W)
    (sU : Sz 16 U) (sV : Sz 16 V) (sT3 : Sz 16 T3) (sT7 : Sz 16 T7) (sX : Sz 16 X) (sM : Sz 16 M) (sZ : Sz 16 Z) :
    Calls Try.prog 38 #[.agg U, .agg V] w fun e w' => e = .returned (.tuple #[.agg Z, .bool true]) ∧ Fr (fun _ => False) w w' := by
  have sz0 : Sz 16 #[.int .i64 0, .int .i64 0, .int .i64 0, .int .i64 0, .int .i64 0, .int .i64 0, .int .i64 0, .int .i64 0, .int .i64 0, .int .i64 0, .int .i64 0, .int .i64 0, .int .i64 0, .int .i64 0, .int .i64 0, .int .i64 0] := ⟨rfl, by simp [Value.oneCell']⟩
  have K := ((((Kn.start w).new (w.heap.size) 16 U 26 rfl sU.1).new (w.heap.size + 1) 16 V 26 (by simp) sV.1).new (w.heap.size + 1 + 1) 16 #[.int .i64 0, .int .i64 0, .int .i64 0, .int .i64 0, .int .i64 0, .int .i64 0, .int .i64 0, .int .i64 0, .int .i64 0, .int .i64 0, .int .i64 0, .int .i64 0, .int .i64 0, .int .i64 0, .int .i64 0, .int .i64 0] 26 (by simp) rfl)
  have EG := Try.guardNum5
  go_enter Try.func38, Try.ntmps38
  go_wp2_with fail
  refine wp_region_kn_tail K 5 [(7, 16, #[.int .i64 0, .int .i64 0, .int .i64 0, .int .i64 0, .int .i64 0, .int .i64 0, .int .i64 0, .int .i64 0, .int .i64 0, .int .i64 0, .int .i64 0, .int .i64 0, .int .i64 0, .int .i64 0, .int .i64 0, .int .i64 0], 26)] (by kernel_rfl) (by kernel_rfl) (mk_one ⟨_, rfl, makes_alloc _ _ _ _ _ _ Try.alN5⟩) (sz_one rfl) ?_
  apply Exists.intro
  refine ⟨?wk2, ?fin2⟩
  case wk2 =>
    intro γ
  
    simp only [List.take_succ_cons, List.take_zero]
    repeat (any_goals (first | (focus (go_big_quiet_want; (first | ((with_reducible refine' quiet_load_kng K 26 (.tmp 3) rfl 1 _ _ _ _ rfl _ Try.underlying26 rfl Try.szN5 _ _); rotate_left 2; (focus exact rfl))); simp only [Act.put, List.setIfInBounds_toArray, List.set_cons_zero, List.set_cons_succ]; go_big_quiet_on)) | go_big_quiet_step ((first | (go_at_call 23; with_reducible exact Calls.keepg (M1 _)) | (go_at_call 23; with_reducible exact Calls.keepg (M2 _)) | (go_at_call 23; with_reducible exact Calls.keepg (M3 _)) | (go_at_call 23; with_reducible exact Calls.keepg (M4 _)) | (go_at_call 23; with_reducible exact Calls.keepg (M5 _)) | (go_at_call 23; with_reducible exact Calls.keepg (M6 _)) | (go_at_call 23; with_reducible exact Calls.keepg (M7 _)) | (go_at_call 23; with_reducible exact Calls.keepg (M8 _)) | (go_at_call 23; with_reducible exact Calls.keepg (M9 _)) | (go_at_call 23; with_reducible exact Calls.keepg (MX _)))) | quiet_step ((first | (go_at_call 23; with_reducible exact Calls.keepg (M1 _)) | (go_at_call 23; with_reducible exact Calls.keepg (M2 _)) | (go_at_call 23; with_reducible exact Calls.keepg (M3 _)) | (go_at_call 23; with_reducible exact Calls.keepg (M4 _)) | (go_at_call 23; with_reducible exact Calls.keepg (M5 _)) | (go_at_call 23; with_reducible exact Calls.keepg (M6 _)) | (go_at_call 23; with_reducible exact Calls.keepg (M7 _)) | (go_at_call 23; with_reducible exact Calls.keepg (M8 _)) | (go_at_call 23; with_reducible exact Calls.keepg (M9 _)) | (go_at_call 23; with_reducible exact Calls.keepg (MX _))))))
    exact wpQuiet_nil rfl
  case fin2 =>
    intro gs wz Kz
    clear K
    have K := Kz
    clear Kz
    try simp only [mkAll, asObj, List.map_cons, List.map_nil, putAll, List.drop_succ_cons, List.drop_zero, List.length_cons, List.length_nil, Nat.zero_add, Nat.add_zero] at K ⊢
    try simp only [Act.put, List.setIfInBounds_toArray, List.set_cons_zero, List.set_cons_succ]
    generalize gs 0 = gz0 at *
    go_wp2_with (first
      | (focus ((first | ((with_reducible refine' wpList_store_kn K rfl 26 (.tmp 7) _ rfl 0 _ _ _ _ _ rfl rfl Try.szN5 _ _ _); rotate_left 2; (focus exact rfl))); (focus assumption); intro wz Kz; clear K; have K := Kz; clear Kz; simp only [List.set_cons_zero, List.set_cons_succ] at K; try (simp only [Act.put, List.setIfInBounds_toArray, List.set_cons_zero, List.set_cons_succ]))))
    refine wp_region_kn_tail K 5 [(8, 16, #[.int .i64 0, .int .i64 0, .int .i64 0, .int .i64 0, .int .i64 0, .int .i64 0, .int .i64 0, .int .i64 0, .int .i64 0, .int .i64 0, .int .i64 0, .int .i64 0, .int .i64 0, .int .i64 0, .int .i64 0, .int .i64 0], 26)] (by kernel_rfl) (by kernel_rfl) (mk_one ⟨_, rfl, makes_alloc _ _ _ _ _ _ Try.alN5⟩) (sz_one rfl) ?_
    apply Exists.intro
    refine ⟨?wk3, ?fin3⟩
    case wk3 =>
      intro γ
  
      simp only [List.take_succ_cons, List.take_zero]
      repeat (any_goals (first | (focus (go_big_quiet_want; (first | ((with_reducible refine' quiet_load_kng K 26 (.tmp 7) rfl 0 _ _ _ _ rfl _ Try.underlying26 rfl Try.szN5 _ _); rotate_left 2; (focus exact rfl)) | ((with_reducible refine' quiet_load_kng K 26 (.tmp 3) rfl 2 _ _ _ _ rfl _ Try.underlying26 rfl Try.szN5 _ _); rotate_left 2; (focus exact rfl))); simp only [Act.put, List.setIfInBounds_toArray, List.set_cons_zero, List.set_cons_succ]; go_big_quiet_on)) | go_big_quiet_step ((first | (go_at_call 23; with_reducible exact Calls.keepg (M1 _)) | (go_at_call 23; with_reducible exact Calls.keepg (M2 _)) | (go_at_call 23; with_reducible exact Calls.keepg (M3 _)) | (go_at_call 23; with_reducible exact Calls.keepg (M4 _)) | (go_at_call 23; with_reducible exact Calls.keepg (M5 _)) | (go_at_call 23; with_reducible exact Calls.keepg (M6 _)) | (go_at_call 23; with_reducible exact Calls.keepg (M7 _)) | (go_at_call 23; with_reducible exact Calls.keepg (M8 _)) | (go_at_call 23; with_reducible exact Calls.keepg (M9 _)) | (go_at_call 23; with_reducible exact Calls.keepg (MX _)))) | quiet_step ((first | (go_at_call 23; with_reducible exact Calls.keepg (M1 _)) | (go_at_call 23; with_reducible exact Calls.keepg (M2 _)) | (go_at_call 23; with_reducible exact Calls.keepg (M3 _)) | (go_at_call 23; with_reducible exact Calls.keepg (M4 _)) | (go_at_call 23; with_reducible exact Calls.keepg (M5 _)) | (go_at_call 23; with_reducible exact Calls.keepg (M6 _)) | (go_at_call 23; with_reducible exact Calls.keepg (M7 _)) | (go_at_call 23; with_reducible exact Calls.keepg (M8 _)) | (go_at_call 23; with_reducible exact Calls.keepg (M9 _)) | (go_at_call 23; with_reducible exact Calls.keepg (MX _))))))
      exact wpQuiet_nil rfl
    case fin3 =>
      intro gs wz Kz
      clear K
      have K := Kz
      clear Kz
      try simp only [mkAll, asObj, List.map_cons, List.map_nil, putAll, List.drop_succ_cons, List.drop_zero, List.length_cons, List.length_nil, Nat.zero_add, Nat.add_zero] at K ⊢
      try simp only [Act.put, List.setIfInBounds_toArray, List.set_cons_zero, List.set_cons_succ]
      generalize gs 0 = gz0 at *
      go_wp2_with (first
        | (focus ((first | ((with_reducible refine' wpList_store_kn K rfl 26 (.tmp 8) _ rfl 0 _ _ _ _ _ rfl rfl Try.szN5 _ _ _); rotate_left 2; (focus exact rfl))); (focus assumption); intro wz Kz; clear K; have K := Kz; clear Kz; simp only [List.set_cons_zero, List.set_cons_succ] at K; try (simp only [Act.put, List.setIfInBounds_toArray, List.set_cons_zero, List.set_cons_succ]))))
      refine wp_region_kn_tail K 15 [(9, 16, #[.int .i64 0, .int .i64 0, .int .i64 0, .int .i64 0, .int .i64 0, .int .i64 0, .int .i64 0, .int .i64 0, .int .i64 0, .int .i64 0, .int .i64 0, .int .i64 0, .int .i64 0, .int .i64 0, .int .i64 0, .int .i64 0], 26)] (by kernel_rfl) (by kernel_rfl) (mk_one ⟨_, rfl, makes_alloc _ _ _ _ _ _ Try.alN5⟩) (sz_one rfl) ?_
      apply Exists.intro
      refine ⟨?wk4, ?fin4⟩
      case wk4 =>
        intro γ
  
        simp only [List.take_succ_cons, List.take_zero]
        repeat (any_goals (first | (focus (go_big_quiet_want; (first | ((with_reducible refine' quiet_load_kng K 26 (.tmp 2) rfl 4 _ _ _ _ rfl _ Try.underlying26 rfl Try.szN5 _ _); rotate_left 2; (focus exact rfl)) | ((with_reducible refine' quiet_load_kng K 26 (.tmp 7) rfl 1 _ _ _ _ rfl _ Try.underlying26 rfl Try.szN5 _ _); rotate_left 2; (focus exact rfl)) | ((with_reducible refine' quiet_load_kng K 26 (.tmp 8) rfl 0 _ _ _ _ rfl _ Try.underlying26 rfl Try.szN5 _ _); rotate_left 2; (focus exact rfl))); simp only [Act.put, List.setIfInBounds_toArray, List.set_cons_zero, List.set_cons_succ]; go_big_quiet_on)) | go_big_quiet_step ((first | (go_at_call 23; with_reducible exact Calls.keepg (M1 _)) | (go_at_call 23; with_reducible exact Calls.keepg (M2 _)) | (go_at_call 23; with_reducible exact Calls.keepg (M3 _)) | (go_at_call 23; with_reducible exact Calls.keepg (M4 _)) | (go_at_call 23; with_reducible exact Calls.keepg (M5 _)) | (go_at_call 23; with_reducible exact Calls.keepg (M6 _)) | (go_at_call 35; with_reducible exact Calls.keepg (PO _)) | (go_at_call 23; with_reducible exact Calls.keepg (M7 _)) | (go_at_call 23; with_reducible exact Calls.keepg (M8 _)) | (go_at_call 23; with_reducible exact Calls.keepg (M9 _)) | (go_at_call 23; with_reducible exact Calls.keepg (MX _)))) | quiet_step ((first | (go_at_call 23; with_reducible exact Calls.keepg (M1 _)) | (go_at_call 23; with_reducible exact Calls.keepg (M2 _)) | (go_at_call 23; with_reducible exact Calls.keepg (M3 _)) | (go_at_call 23; with_reducible exact Calls.keepg (M4 _)) | (go_at_call 23; with_reducible exact Calls.keepg (M5 _)) | (go_at_call 23; with_reducible exact Calls.keepg (M6 _)) | (go_at_call 35; with_reducible exact Calls.keepg (PO _)) | (go_at_call 23; with_reducible exact Calls.keepg (M7 _)) | (go_at_call 23; with_reducible exact Calls.keepg (M8 _)) | (go_at_call 23; with_reducible exact Calls.keepg (M9 _)) | (go_at_call 23; with_reducible exact Calls.keepg (MX _))))))
        exact wpQuiet_nil rfl
      case fin4 =>
        intro gs wz Kz
        clear K
        have K := Kz
        clear Kz
        try simp only [mkAll, asObj, List.map_cons, List.map_nil, putAll, List.drop_succ_cons, List.drop_zero, List.length_cons, List.length_nil, Nat.zero_add, Nat.add_zero] at K ⊢
        try simp only [Act.put, List.setIfInBounds_toArray, List.set_cons_zero, List.set_cons_succ]
        generalize gs 0 = gz0 at *
        go_wp2_with (first
          | (focus ((first | ((with_reducible refine' wpList_store_kn K rfl 26 (.tmp 9) _ rfl 0 _ _ _ _ _ rfl rfl Try.szN5 _ _ _); rotate_left 2; (focus exact rfl))); (focus assumption); intro wz Kz; clear K; have K := Kz; clear Kz; simp only [List.set_cons_zero, List.set_cons_succ] at K; try (simp only [Act.put, List.setIfInBounds_toArray, List.set_cons_zero, List.set_cons_succ]))))
        refine wp_region_kn_tail K 5 [(10, 16, #[.int .i64 0, .int .i64 0, .int .i64 0, .int .i64 0, .int .i64 0, .int .i64 0, .int .i64 0, .int .i64 0, .int .i64 0, .int .i64 0, .int .i64 0, .int .i64 0, .int .i64 0, .int .i64 0, .int .i64 0, .int .i64 0], 26)] (by kernel_rfl) (by kernel_rfl) (mk_one ⟨_, rfl, makes_alloc _ _ _ _ _ _ Try.alN5⟩) (sz_one rfl) ?_
        apply Exists.intro
        refine ⟨?wk5, ?fin5⟩
        case wk5 =>
          intro γ
  
          simp only [List.take_succ_cons, List.take_zero]
          repeat (any_goals (first | (focus (go_big_quiet_want; (first | ((with_reducible refine' quiet_load_kng K 26 (.tmp 3) rfl 4 _ _ _ _ rfl _ Try.underlying26 rfl Try.szN5 _ _); rotate_left 2; (focus exact rfl)) | ((with_reducible refine' quiet_load_kng K 26 (.tmp 9) rfl 0 _ _ _ _ rfl _ Try.underlying26 rfl Try.szN5 _ _); rotate_left 2; (focus exact rfl))); simp only [Act.put, List.setIfInBounds_toArray, List.set_cons_zero, List.set_cons_succ]; go_big_quiet_on)) | go_big_quiet_step ((first | (go_at_call 23; with_reducible exact Calls.keepg (M1 _)) | (go_at_call 23; with_reducible exact Calls.keepg (M2 _)) | (go_at_call 23; with_reducible exact Calls.keepg (M3 _)) | (go_at_call 23; with_reducible exact Calls.keepg (M4 _)) | (go_at_call 23; with_reducible exact Calls.keepg (M5 _)) | (go_at_call 23; with_reducible exact Calls.keepg (M6 _)) | (go_at_call 23; with_reducible exact Calls.keepg (M7 _)) | (go_at_call 23; with_reducible exact Calls.keepg (M8 _)) | (go_at_call 23; with_reducible exact Calls.keepg (M9 _)) | (go_at_call 23; with_reducible exact Calls.keepg (MX _)))) | quiet_step ((first | (go_at_call 23; with_reducible exact Calls.keepg (M1 _)) | (go_at_call 23; with_reducible exact Calls.keepg (M2 _)) | (go_at_call 23; with_reducible exact Calls.keepg (M3 _)) | (go_at_call 23; with_reducible exact Calls.keepg (M4 _)) | (go_at_call 23; with_reducible exact Calls.keepg (M5 _)) | (go_at_call 23; with_reducible exact Calls.keepg (M6 _)) | (go_at_call 23; with_reducible exact Calls.keepg (M7 _)) | (go_at_call 23; with_reducible exact Calls.keepg (M8 _)) | (go_at_call 23; with_reducible exact Calls.keepg (M9 _)) | (go_at_call 23; with_reducible exact Calls.keepg (MX _))))))
          exact wpQuiet_nil rfl
        case fin5 =>
          intro gs wz Kz
          clear K
          have K := Kz
          clear Kz
          try simp only [mkAll, asObj, List.map_cons, List.map_nil, putAll, List.drop_succ_cons, List.drop_zero, List.length_cons, List.length_nil, Nat.zero_add, Nat.add_zero] at K ⊢
          try simp only [Act.put, List.setIfInBounds_toArray, List.set_cons_zero, List.set_cons_succ]
          generalize gs 0 = gz0 at *
          go_wp2_with (first
            | (focus (first | ((with_reducible refine' wpList_load_kn K rfl 26 (.tmp 10) rfl 0 _ _ _ _ rfl _ Try.underlying26 rfl Try.szN5 _ _); rotate_left 2; (focus exact rfl)) | ((with_reducible refine' wpList_load_kn K rfl 26 (.tmp 2) rfl 6 _ _ _ _ rfl _ Try.underlying26 rfl Try.szN5 _ _); rotate_left 2; (focus exact rfl))))
            | (focus ((first | ((with_reducible refine' wpList_store_kn K rfl 26 (.tmp 10) _ rfl 0 _ _ _ _ _ rfl rfl Try.szN5 _ _ _); rotate_left 2; (focus exact rfl))); (focus assumption); intro wz Kz; clear K; have K := Kz; clear Kz; simp only [List.set_cons_zero, List.set_cons_succ] at K; try (simp only [Act.put, List.setIfInBounds_toArray, List.set_cons_zero, List.set_cons_succ]))))
          refine wp_region_keep (by kernel_rfl) (by kernel_rfl) ?_
          repeat (any_goals (first | (focus (go_big_quiet_want; (first | ((with_reducible refine' quiet_load_kn K 26 (.tmp 10) rfl 0 _ _ _ _ rfl _ Try.underlying26 rfl Try.szN5 _ _); rotate_left 2; (focus exact rfl)) | ((with_reducible refine' quiet_load_kn K 26 (.tmp 2) rfl 6 _ _ _ _ rfl _ Try.underlying26 rfl Try.szN5 _ _); rotate_left 2; (focus exact rfl))); simp only [Act.put, List.setIfInBounds_toArray, List.set_cons_zero, List.set_cons_succ]; go_big_quiet_on)) | go_big_quiet_step ((first | (go_at_call 25; with_reducible exact Calls.keep (NE _)))) | quiet_step ((first | (go_at_call 25; with_reducible exact Calls.keep (NE _))))))
          refine wpQuiet_nil ?_
          intro _ hwz
          obtain ⟨y, rfl⟩ := hwz
          have Kz := K.call y.h
          clear K 
          have K := Kz
          clear Kz
          generalize y.w = wz at K ⊢
          clear y
          go_wp2_with fail
          refine wp_region_kn_tail K 3 [] (by kernel_rfl) (by kernel_rfl) mk_nil sz_nil ?_
          apply Exists.intro
          refine ⟨?wk9, ?fin9⟩
          case wk9 =>
            intro γ
  
            simp only [List.take_succ_cons, List.take_zero]
            repeat (any_goals (first | (focus (go_big_quiet_want; (first | ((with_reducible refine' quiet_load_kng K 26 (.tmp 9) rfl 1 _ _ _ _ rfl _ Try.underlying26 rfl Try.szN5 _ _); rotate_left 2; (focus exact rfl))); simp only [Act.put, List.setIfInBounds_toArray, List.set_cons_zero, List.set_cons_succ]; go_big_quiet_on)) | go_big_quiet_step ((first | (go_at_call 23; with_reducible exact Calls.keepg (M1 _)) | (go_at_call 23; with_reducible exact Calls.keepg (M2 _)) | (go_at_call 23; with_reducible exact Calls.keepg (M3 _)) | (go_at_call 23; with_reducible exact Calls.keepg (M4 _)) | (go_at_call 23; with_reducible exact Calls.keepg (M5 _)) | (go_at_call 23; with_reducible exact Calls.keepg (M6 _)) | (go_at_call 23; with_reducible exact Calls.keepg (M7 _)) | (go_at_call 23; with_reducible exact Calls.keepg (M8 _)) | (go_at_call 23; with_reducible exact Calls.keepg (M9 _)) | (go_at_call 88; with_reducible exact Calls.keepg (IC _)) | (go_at_call 23; with_reducible exact Calls.keepg (MX _)))) | quiet_step ((first | (go_at_call 23; with_reducible exact Calls.keepg (M1 _)) | (go_at_call 23; with_reducible exact Calls.keepg (M2 _)) | (go_at_call 23; with_reducible exact Calls.keepg (M3 _)) | (go_at_call 23; with_reducible exact Calls.keepg (M4 _)) | (go_at_call 23; with_reducible exact Calls.keepg (M5 _)) | (go_at_call 23; with_reducible exact Calls.keepg (M6 _)) | (go_at_call 23; with_reducible exact Calls.keepg (M7 _)) | (go_at_call 23; with_reducible exact Calls.keepg (M8 _)) | (go_at_call 23; with_reducible exact Calls.keepg (M9 _)) | (go_at_call 88; with_reducible exact Calls.keepg (IC _)) | (go_at_call 23; with_reducible exact Calls.keepg (MX _))))))
            exact wpQuiet_nil rfl
          case fin9 =>
            intro gs wz Kz
            clear K
            have K := Kz
            clear Kz
            try simp only [mkAll, asObj, List.map_cons, List.map_nil, putAll, List.drop_succ_cons, List.drop_zero, List.length_cons, List.length_nil, Nat.zero_add, Nat.add_zero] at K ⊢
            try simp only [Act.put, List.setIfInBounds_toArray, List.set_cons_zero, List.set_cons_succ]

            go_wp2_with (first
              | (focus ((first | ((with_reducible refine' wpList_store_kn K rfl 26 (.tmp 4) _ rfl 4 _ _ _ _ _ rfl rfl Try.szN5 _ _ _); rotate_left 2; (focus exact rfl))); (focus assumption); intro wz Kz; clear K; have K := Kz; clear Kz; simp only [List.set_cons_zero, List.set_cons_succ] at K; try (simp only [Act.put, List.setIfInBounds_toArray, List.set_cons_zero, List.set_cons_succ]))))
            refine bodyPost_ret (results_kn_tmp K rfl _ 4 _ _ _ _ rfl _ Try.underlying26 rfl Try.szN5 rfl) rfl ?_
            exact ⟨rfl, K.fr⟩
set_option maxRecDepth 100000 in
set_option maxHeartbeats 3200000 in
theorem root5_c (U V VV T3 T33 T7 UT US PW X XX M NU TT Z : Array Value) (w : World)
    (M1 : ∀ W : World, Calls Try.prog 23 #[.agg V, .agg V] W fun e w' => e = .returned (.agg VV) ∧ Fr (fun _ => False) W w')
    (M2 : ∀ W : World, Calls Try.prog 23 #[.agg VV, .agg V] W fun e w' => e = .returned (.agg T3) ∧ Fr (fun _ => False) W w')
    (M3 : ∀ W : World, Calls Try.prog 23 #[.agg T3, .agg T3] W fun e w' => e = .returned (.agg T33) ∧ Fr (fun _ => False) W w')
    (M4 : ∀ W : World, Calls Try.prog 23 #[.agg T33, .agg V] W fun e w' => e = .returned (.agg T7) ∧ Fr (fun _ => False) W w')
    (M5 : ∀ W : World, Calls Try.prog 23 #[.agg U, .agg T3] W fun e w' => e = .returned (.agg UT) ∧ Fr (fun _ => False) W w')
    (M6 : ∀ W : World, Calls Try.prog 23 #[.agg U, .agg T7] W fun e w' => e = .returned (.agg US) ∧ Fr (fun _ => False) W w')
    (PO : ∀ W : World, Calls Try.prog 35 #[.agg US, .agg #[.int .u64 18446744073709551613, .int .u64 18446744073709551615, .int .u64 18446744073709551615, .int .u64 1152921504606846975]] W fun e w' => e = .returned (.agg PW) ∧ Fr (fun _ => False) W w')
    (M7 : ∀ W : World, Calls Try.prog 23 #[.agg UT, .agg PW] W fun e w' => e = .returned (.agg X) ∧ Fr (fun _ => False) W w')
    (M8 : ∀ W : World, Calls Try.prog 23 #[.agg X, .agg X] W fun e w' => e = .returned (.agg XX) ∧ Fr (fun _ => False) W w')
    (M9 : ∀ W : World, Calls Try.prog 23 #[.agg V, .agg XX] W fun e w' => e = .returned (.agg M) ∧ Fr (fun _ => False) W w')
    (NE : ∀ W : World, Calls Try.prog 25 #[.agg U] W fun e w' => e = .returned (.agg NU) ∧ Fr (fun _ => False) W w')
    (IC : ∀ W : World, Calls Try.prog 88 #[] W fun e w' => e = .returned (.agg TT) ∧ Fr (fun _ => False) W w')
    (MX : ∀ W : World, Calls Try.prog 23 #[.agg X, .agg TT] W fun e w' => e = .returned (.agg Z) ∧ Fr (fun _ => False) W w')
    (E1 : ∀ W : World, (binOp .eql 26 (.agg M) (.agg U)).run Try.prog W = .ok (.bool false) W) (E2 : ∀ W : World, (binOp .eql 26 (.agg M) (.agg NU)).run Try.prog W = .ok (.bool false) W)
    (sU : Sz 16 U) (sV : Sz 16 V) (sT3 : Sz 16 T3) (sT7 : Sz 16 T7) (sX : Sz 16 X) (sM : Sz 16 M) (sZ : Sz 16 Z) :
    Calls Try.prog 38 #[.agg U, .agg V] w fun e w' => e = .returned (.tuple #[.agg #[.int .i64 0, .int .i64 0, .int .i64 0, .int .i64 0, .int .i64 0, .int .i64 0, .int .i64 0, .int .i64 0, .int .i64 0, .int .i64 0, .int .i64 0, .int .i64 0, .int .i64 0, .int .i64 0, .int .i64 0, .int .i64 0], .bool false]) ∧ Fr (fun _ => False) w w' := by
  have sz0 : Sz 16 #[.int .i64 0, .int .i64 0, .int .i64 0, .int .i64 0, .int .i64 0, .int .i64 0, .int .i64 0, .int .i64 0, .int .i64 0, .int .i64 0, .int .i64 0, .int .i64 0, .int .i64 0, .int .i64 0, .int .i64 0, .int .i64 0] := ⟨rfl, by simp [Value.oneCell']⟩
  have K := ((((Kn.start w).new (w.heap.size) 16 U 26 rfl sU.1).new (w.heap.size + 1) 16 V 26 (by simp) sV.1).new (w.heap.size + 1 + 1) 16 #[.int .i64 0, .int .i64 0, .int .i64 0, .int .i64 0, .int .i64 0, .int .i64 0, .int .i64 0, .int .i64 0, .int .i64 0, .int .i64 0, .int .i64 0, .int .i64 0, .int .i64 0, .int .i64 0, .int .i64 0, .int .i64 0] 26 (by simp) rfl)
  have EG := Try.guardNum5
  go_enter Try.func38, Try.ntmps38
  go_wp2_with fail
  refine wp_region_kn_tail K 5 [(7, 16, #[.int .i64 0, .int .i64 0, .int .i64 0, .int .i64 0, .int .i64 0, .int .i64 0, .int .i64 0, .int .i64 0, .int .i64 0, .int .i64 0, .int .i64 0, .int .i64 0, .int .i64 0, .int .i64 0, .int .i64 0, .int .i64 0], 26)] (by kernel_rfl) (by kernel_rfl) (mk_one ⟨_, rfl, makes_alloc _ _ _ _ _ _ Try.alN5⟩) (sz_one rfl) ?_
  apply Exists.intro
  refine ⟨?wk2, ?fin2⟩
  case wk2 =>
    intro γ
  
    simp only [List.take_succ_cons, List.take_zero]
    repeat (any_goals (first | (focus (go_big_quiet_want; (first | ((with_reducible refine' quiet_load_kng K 26 (.tmp 3) rfl 1 _ _ _ _ rfl _ Try.underlying26 rfl Try.szN5 _ _); rotate_left 2; (focus exact rfl))); simp only [Act.put, List.setIfInBounds_toArray, List.set_cons_zero, List.set_cons_succ]; go_big_quiet_on)) | go_big_quiet_step ((first | (go_at_call 23; with_reducible exact Calls.keepg (M1 _)) | (go_at_call 23; with_reducible exact Calls.keepg (M2 _)) | (go_at_call 23; with_reducible exact Calls.keepg (M3 _)) | (go_at_call 23; with_reducible exact Calls.keepg (M4 _)) | (go_at_call 23; with_reducible exact Calls.keepg (M5 _)) | (go_at_call 23; with_reducible exact Calls.keepg (M6 _)) | (go_at_call 23; with_reducible exact Calls.keepg (M7 _)) | (go_at_call 23; with_reducible exact Calls.keepg (M8 _)) | (go_at_call 23; with_reducible exact Calls.keepg (M9 _)) | (go_at_call 23; with_reducible exact Calls.keepg (MX _)))) | quiet_step ((first | (go_at_call 23; with_reducible exact Calls.keepg (M1 _)) | (go_at_call 23; with_reducible exact Calls.keepg (M2 _)) | (go_at_call 23; with_reducible exact Calls.keepg (M3 _)) | (go_at_call 23; with_reducible exact Calls.keepg (M4 _)) | (go_at_call 23; with_reducible exact Calls.keepg (M5 _)) | (go_at_call 23; with_reducible exact Calls.keepg (M6 _)) | (go_at_call 23; with_reducible exact Calls.keepg (M7 _)) | (go_at_call 23; with_reducible exact Calls.keepg (M8 _)) | (go_at_call 23; with_reducible exact Calls.keepg (M9 _)) | (go_at_call 23; with_reducible exact Calls.keepg (MX _))))))
    exact wpQuiet_nil rfl
  case fin2 =>
    intro gs wz Kz
    clear K
    have K := Kz
    clear Kz
    try simp only [mkAll, asObj, List.map_cons, List.map_nil, putAll, List.drop_succ_cons, List.drop_zero, List.length_cons, List.length_nil, Nat.zero_add, Nat.add_zero] at K ⊢
    try simp only [Act.put, List.setIfInBounds_toArray, List.set_cons_zero, List.set_cons_succ]
    generalize gs 0 = gz0 at *
    go_wp2_with (first
      | (focus ((first | ((with_reducible refine' wpList_store_kn K rfl 26 (.tmp 7) _ rfl 0 _ _ _ _ _ rfl rfl Try.szN5 _ _ _); rotate_left 2; (focus exact rfl))); (focus assumption); intro wz Kz; clear K; have K := Kz; clear Kz; simp only [List.set_cons_zero, List.set_cons_succ] at K; try (simp only [Act.put, List.setIfInBounds_toArray, List.set_cons_zero, List.set_cons_succ]))))
    refine wp_region_kn_tail K 5 [(8, 16, #[.int .i64 0, .int .i64 0, .int .i64 0, .int .i64 0, .int .i64 0, .int .i64 0, .int .i64 0, .int .i64 0, .int .i64 0, .int .i64 0, .int .i64 0, .int .i64 0, .int .i64 0, .int .i64 0, .int .i64 0, .int .i64 0], 26)] (by kernel_rfl) (by kernel_rfl) (mk_one ⟨_, rfl, makes_alloc _ _ _ _ _ _ Try.alN5⟩) (sz_one rfl) ?_
    apply Exists.intro
    refine ⟨?wk3, ?fin3⟩
    case wk3 =>
      intro γ
  
      simp only [List.take_succ_cons, List.take_zero]
      repeat (any_goals (first | (focus (go_big_quiet_want; (first | ((with_reducible refine' quiet_load_kng K 26 (.tmp 7) rfl 0 _ _ _ _ rfl _ Try.underlying26 rfl Try.szN5 _ _); rotate_left 2; (focus exact rfl)) | ((with_reducible refine' quiet_load_kng K 26 (.tmp 3) rfl 2 _ _ _ _ rfl _ Try.underlying26 rfl Try.szN5 _ _); rotate_left 2; (focus exact rfl))); simp only [Act.put, List.setIfInBounds_toArray, List.set_cons_zero, List.set_cons_succ]; go_big_quiet_on)) | go_big_quiet_step ((first | (go_at_call 23; with_reducible exact Calls.keepg (M1 _)) | (go_at_call 23; with_reducible exact Calls.keepg (M2 _)) | (go_at_call 23; with_reducible exact Calls.keepg (M3 _)) | (go_at_call 23; with_reducible exact Calls.keepg (M4 _)) | (go_at_call 23; with_reducible exact Calls.keepg (M5 _)) | (go_at_call 23; with_reducible exact Calls.keepg (M6 _)) | (go_at_call 23; with_reducible exact Calls.keepg (M7 _)) | (go_at_call 23; with_reducible exact Calls.keepg (M8 _)) | (go_at_call 23; with_reducible exact Calls.keepg (M9 _)) | (go_at_call 23; with_reducible exact Calls.keepg (MX _)))) | quiet_step ((first | (go_at_call 23; with_reducible exact Calls.keepg (M1 _)) | (go_at_call 23; with_reducible exact Calls.keepg (M2 _)) | (go_at_call 23; with_reducible exact Calls.keepg (M3 _)) | (go_at_call 23; with_reducible exact Calls.keepg (M4 _)) | (go_at_call 23; with_reducible exact Calls.keepg (M5 _)) | (go_at_call 23; with_reducible exact Calls.keepg (M6 _)) | (go_at_call 23; with_reducible exact Calls.keepg (M7 _)) | (go_at_call 23; with_reducible exact Calls.keepg (M8 _)) | (go_at_call 23; with_reducible exact Calls.keepg (M9 _)) | (go_at_call 23; with_reducible exact Calls.keepg (MX _))))))
      exact wpQuiet_nil rfl
    case fin3 =>
      intro gs wz Kz
      clear K
      have K := Kz
      clear Kz
      try simp only [mkAll, asObj, List.map_cons, List.map_nil, putAll, List.drop_succ_cons, List.drop_zero, List.length_cons, List.length_nil, Nat.zero_add, Nat.add_zero] at K ⊢
      try simp only [Act.put, List.setIfInBounds_toArray, List.set_cons_zero, List.set_cons_succ]
      generalize gs 0 = gz0 at *
      go_wp2_with (first
        | (focus ((first | ((with_reducible refine' wpList_store_kn K rfl 26 (.tmp 8) _ rfl 0 _ _ _ _ _ rfl rfl Try.szN5 _ _ _); rotate_left 2; (focus exact rfl))); (focus assumption); intro wz Kz; clear K; have K := Kz; clear Kz; simp only [List.set_cons_zero, List.set_cons_succ] at K; try (simp only [Act.put, List.setIfInBounds_toArray, List.set_cons_zero, List.set_cons_succ]))))
      refine wp_region_kn_tail K 15 [(9, 16, #[.int .i64 0, .int .i64 0, .int .i64 0, .int .i64 0, .int .i64 0, .int .i64 0, .int .i64 0, .int .i64 0, .int .i64 0, .int .i64 0, .int .i64 0, .int .i64 0, .int .i64 0, .int .i64 0, .int .i64 0, .int .i64 0], 26)] (by kernel_rfl) (by kernel_rfl) (mk_one ⟨_, rfl, makes_alloc _ _ _ _ _ _ Try.alN5⟩) (sz_one rfl) ?_
      apply Exists.intro
      refine ⟨?wk4, ?fin4⟩
      case wk4 =>
        intro γ
  
        simp only [List.take_succ_cons, List.take_zero]
        repeat (any_goals (first | (focus (go_big_quiet_want; (first | ((with_reducible refine' quiet_load_kng K 26 (.tmp 2) rfl 4 _ _ _ _ rfl _ Try.underlying26 rfl Try.szN5 _ _); rotate_left 2; (focus exact rfl)) | ((with_reducible refine' quiet_load_kng K 26 (.tmp 7) rfl 1 _ _ _ _ rfl _ Try.underlying26 rfl Try.szN5 _ _); rotate_left 2; (focus exact rfl)) | ((with_reducible refine' quiet_load_kng K 26 (.tmp 8) rfl 0 _ _ _ _ rfl _ Try.underlying26 rfl Try.szN5 _ _); rotate_left 2; (focus exact rfl))); simp only [Act.put, List.setIfInBounds_toArray, List.set_cons_zero, List.set_cons_succ]; go_big_quiet_on)) | go_big_quiet_step ((first | (go_at_call 23; with_reducible exact Calls.keepg (M1 _)) | (go_at_call 23; with_reducible exact Calls.keepg (M2 _)) | (go_at_call 23; with_reducible exact Calls.keepg (M3 _)) | (go_at_call 23; with_reducible exact Calls.keepg (M4 _)) | (go_at_call 23; with_reducible exact Calls.keepg (M5 _)) | (go_at_call 23; with_reducible exact Calls.keepg (M6 _)) | (go_at_call 35; with_reducible exact Calls.keepg (PO _)) | (go_at_call 23; with_reducible exact Calls.keepg (M7 _)) | (go_at_call 23; with_reducible exact Calls.keepg (M8 _)) | (go_at_call 23; with_reducible exact Calls.keepg (M9 _)) | (go_at_call 23; with_reducible exact Calls.keepg (MX _)))) | quiet_step ((first | (go_at_call 23; with_reducible exact Calls.keepg (M1 _)) | (go_at_call 23; with_reducible exact Calls.keepg (M2 _)) | (go_at_call 23; with_reducible exact Calls.keepg (M3 _)) | (go_at_call 23; with_reducible exact Calls.keepg (M4 _)) | (go_at_call 23; with_reducible exact Calls.keepg (M5 _)) | (go_at_call 23; with_reducible exact Calls.keepg (M6 _)) | (go_at_call 35; with_reducible exact Calls.keepg (PO _)) | (go_at_call 23; with_reducible exact Calls.keepg (M7 _)) | (go_at_call 23; with_reducible exact Calls.keepg (M8 _)) | (go_at_call 23; with_reducible exact Calls.keepg (M9 _)) | (go_at_call 23; with_reducible exact Calls.keepg (MX _))))))
        exact wpQuiet_nil rfl
      case fin4 =>
        intro gs wz Kz
        clear K
        have K := Kz
        clear Kz
        try simp only [mkAll, asObj, List.map_cons, List.map_nil, putAll, List.drop_succ_cons, List.drop_zero, List.length_cons, List.length_nil, Nat.zero_add, Nat.add_zero] at K ⊢
        try simp only [Act.put, List.setIfInBounds_toArray, List.set_cons_zero, List.set_cons_succ]
        generalize gs 0 = gz0 at *
        go_wp2_with (first
          | (focus ((first | ((with_reducible refine' wpList_store_kn K rfl 26 (.tmp 9) _ rfl 0 _ _ _ _ _ rfl rfl Try.szN5 _ _ _); rotate_left 2; (focus exact rfl))); (focus assumption); intro wz Kz; clear K; have K := Kz; clear Kz; simp only [List.set_cons_zero, List.set_cons_succ] at K; try (simp only [Act.put, List.setIfInBounds_toArray, List.set_cons_zero, List.set_cons_succ]))))
        refine wp_region_kn_tail K 5 [(10, 16, #[.int .i64 0, .int .i64 0, .int .i64 0, .int .i64 0, .int .i64 0, .int .i64 0, .int .i64 0, .int .i64 0, .int .i64 0, .int .i64 0, .int .i64 0, .int .i64 0, .int .i64 0, .int .i64 0, .int .i64 0, .int .i64 0], 26)] (by kernel_rfl) (by kernel_rfl) (mk_one ⟨_, rfl, makes_alloc _ _ _ _ _ _ Try.alN5⟩) (sz_one rfl) ?_
        apply Exists.intro
        refine ⟨?wk5, ?fin5⟩
        case wk5 =>
          intro γ
  
          simp only [List.take_succ_cons, List.take_zero]
          repeat (any_goals (first | (focus (go_big_quiet_want; (first | ((with_reducible refine' quiet_load_kng K 26 (.tmp 3) rfl 4 _ _ _ _ rfl _ Try.underlying26 rfl Try.szN5 _ _); rotate_left 2; (focus exact rfl)) | ((with_reducible refine' quiet_load_kng K 26 (.tmp 9) rfl 0 _ _ _ _ rfl _ Try.underlying26 rfl Try.szN5 _ _); rotate_left 2; (focus exact rfl))); simp only [Act.put, List.setIfInBounds_toArray, List.set_cons_zero, List.set_cons_succ]; go_big_quiet_on)) | go_big_quiet_step ((first | (go_at_call 23; with_reducible exact Calls.keepg (M1 _)) | (go_at_call 23; with_reducible exact Calls.keepg (M2 _)) | (go_at_call 23; with_reducible exact Calls.keepg (M3 _)) | (go_at_call 23; with_reducible exact Calls.keepg (M4 _)) | (go_at_call 23; with_reducible exact Calls.keepg (M5 _)) | (go_at_call 23; with_reducible exact Calls.keepg (M6 _)) | (go_at_call 23; with_reducible exact Calls.keepg (M7 _)) | (go_at_call 23; with_reducible exact Calls.keepg (M8 _)) | (go_at_call 23; with_reducible exact Calls.keepg (M9 _)) | (go_at_call 23; with_reducible exact Calls.keepg (MX _)))) | quiet_step ((first | (go_at_call 23; with_reducible exact Calls.keepg (M1 _)) | (go_at_call 23; with_reducible exact Calls.keepg (M2 _)) | (go_at_call 23; with_reducible exact Calls.keepg (M3 _)) | (go_at_call 23; with_reducible exact Calls.keepg (M4 _)) | (go_at_call 23; with_reducible exact Calls.keepg (M5 _)) | (go_at_call 23; with_reducible exact Calls.keepg (M6 _)) | (go_at_call 23; with_reducible exact Calls.keepg (M7 _)) | (go_at_call 23; with_reducible exact Calls.keepg (M8 _)) | (go_at_call 23; with_reducible exact Calls.keepg (M9 _)) | (go_at_call 23; with_reducible exact Calls.keepg (MX _))))))
          exact wpQuiet_nil rfl
        case fin5 =>
          intro gs wz Kz
          clear K
          have K := Kz
          clear Kz
          try simp only [mkAll, asObj, List.map_cons, List.map_nil, putAll, List.drop_succ_cons, List.drop_zero, List.length_cons, List.length_nil, Nat.zero_add, Nat.add_zero] at K ⊢
          try simp only [Act.put, List.setIfInBounds_toArray, List.set_cons_zero, List.set_cons_succ]
          generalize gs 0 = gz0 at *
          go_wp2_with (first
            | (focus (first | ((with_reducible refine' wpList_load_kn K rfl 26 (.tmp 10) rfl 0 _ _ _ _ rfl _ Try.underlying26 rfl Try.szN5 _ _); rotate_left 2; (focus exact rfl)) | ((with_reducible refine' wpList_load_kn K rfl 26 (.tmp 2) rfl 6 _ _ _ _ rfl _ Try.underlying26 rfl Try.szN5 _ _); rotate_left 2; (focus exact rfl))))
            | (focus ((first | ((with_reducible refine' wpList_store_kn K rfl 26 (.tmp 10) _ rfl 0 _ _ _ _ _ rfl rfl Try.szN5 _ _ _); rotate_left 2; (focus exact rfl))); (focus assumption); intro wz Kz; clear K; have K := Kz; clear Kz; simp only [List.set_cons_zero, List.set_cons_succ] at K; try (simp only [Act.put, List.setIfInBounds_toArray, List.set_cons_zero, List.set_cons_succ]))))
          refine wp_region_keep (by kernel_rfl) (by kernel_rfl) ?_
          repeat (any_goals (first | (focus (go_big_quiet_want; (first | ((with_reducible refine' quiet_load_kn K 26 (.tmp 10) rfl 0 _ _ _ _ rfl _ Try.underlying26 rfl Try.szN5 _ _); rotate_left 2; (focus exact rfl)) | ((with_reducible refine' quiet_load_kn K 26 (.tmp 2) rfl 6 _ _ _ _ rfl _ Try.underlying26 rfl Try.szN5 _ _); rotate_left 2; (focus exact rfl))); simp only [Act.put, List.setIfInBounds_toArray, List.set_cons_zero, List.set_cons_succ]; go_big_quiet_on)) | go_big_quiet_step ((first | (go_at_call 25; with_reducible exact Calls.keep (NE _)))) | quiet_step ((first | (go_at_call 25; with_reducible exact Calls.keep (NE _))))))
          refine wpQuiet_nil ?_
          intro _ hwz
          obtain ⟨y, rfl⟩ := hwz
          have Kz := K.call y.h
          clear K 
          have K := Kz
          clear Kz
          generalize y.w = wz at K ⊢
          clear y
          go_wp2_with (first
              | (focus ((first | ((with_reducible refine' wpList_store_kn K rfl 26 (.tmp 4) _ rfl 4 _ _ _ _ _ rfl rfl Try.szN5 _ _ _); rotate_left 2; (focus exact rfl))); (focus assumption); intro wz Kz; clear K; have K := Kz; clear Kz; simp only [List.set_cons_zero, List.set_cons_succ] at K; try (simp only [Act.put, List.setIfInBounds_toArray, List.set_cons_zero, List.set_cons_succ]))))
          refine bodyPost_ret (results_kn_tmp K rfl _ 4 _ _ _ _ rfl _ Try.underlying26 rfl Try.szN5 rfl) rfl ?_
          exact ⟨rfl, K.fr⟩
set_option maxRecDepth 100000 in
theorem i5_op (TT : Array Value) (w : World)
    (PO : ∀ W : World, Calls Try.prog 35 #[.agg #[.int .i64 2, .int .i64 0, .int .i64 0, .int .i64 0, .int .i64 0, .int .i64 0, .int .i64 0, .int .i64 0, .int .i64 0, .int .i64 0, .int .i64 0, .int .i64 0, .int .i64 0, .int .i64 0, .int .i64 0, .int .i64 0], .agg #[.int .u64 18446744073709551611, .int .u64 18446744073709551615, .int .u64 18446744073709551615, .int .u64 2305843009213693951]] W fun e w' => e = .returned (.agg TT) ∧ Fr (fun _ => False) W w')
    (sTT : Sz 16 TT) :
    Calls Try.prog 88 #[] w fun e w' => e = .returned (.agg TT) ∧ Fr (fun _ => False) w w' := by
  have K := (Kn.start w).new (w.heap.size) 16 #[.int .i64 0, .int .i64 0, .int .i64 0, .int .i64 0, .int .i64 0, .int .i64 0, .int .i64 0, .int .i64 0, .int .i64 0, .int .i64 0, .int .i64 0, .int .i64 0, .int .i64 0, .int .i64 0, .int .i64 0, .int .i64 0] 26 rfl rfl
  go_enter Try.func88, Try.ntmps88
  go_wp2_with (first
      | (focus ((first | ((with_reducible refine' wpList_store_kn K rfl 26 (.tmp 0) _ rfl 0 _ _ _ _ _ rfl rfl Try.szN5 _ _ _); rotate_left 2; (focus exact rfl))); (focus assumption); intro wz Kz; clear K; have K := Kz; clear Kz; simp only [List.set_cons_zero, List.set_cons_succ] at K; try (simp only [Act.put, List.setIfInBounds_toArray, List.set_cons_zero, List.set_cons_succ])))
      | (go_at_call 35; (with_reducible refine Calls.kn K (PO _) ?_); intro wz Kz; clear K; have K := Kz; clear Kz))
  refine bodyPost_ret (results_kn K rfl _ 0 _ _ _ _ rfl _ Try.underlying26 rfl Try.szN5 rfl) rfl ?_
  exact ⟨rfl, K.fr⟩
theorem nd_two : nd 2 = #[.int .i64 2, .int .i64 0, .int .i64 0, .int .i64 0, .int .i64 0, .int .i64 0, .int .i64 0, .int .i64 0, .int .i64 0, .int .i64 0, .int .i64 0, .int .i64 0, .int .i64 0, .int .i64 0, .int .i64 0, .int .i64 0] := by kernel_rfl
theorem i5_any (w : World) : Calls Try.prog 88 #[] w fun e w' => e = .returned (.agg (nd iI)) ∧ Fr (fun _ => False) w w' :=
  i5_op (nd iI) w (fun W => by have := pow5_any 2 rI (by decide) rI_lt W; rw [iI_pow, nc_rI, nd_two] at this; exact this) (sz_nd _)
theorem r3_alt (V : Nat) : V * V % p25519 * V % p25519 = r3 V := by unfold r3; rw [Nat.mul_comm]
theorem r7_alt (V : Nat) : r3 V * r3 V % p25519 * V % p25519 = r7 V := by unfold r7; rw [Nat.mul_comm]
theorem nd_lit0_ : nd 0 = #[.int .i64 0, .int .i64 0, .int .i64 0, .int .i64 0, .int .i64 0, .int .i64 0, .int .i64 0, .int .i64 0, .int .i64 0, .int .i64 0, .int .i64 0, .int .i64 0, .int .i64 0, .int .i64 0, .int .i64 0, .int .i64 0] := by kernel_rfl
theorem root5_any (U V : Nat) (hU : U < p25519) (hV : V < p25519) (w : World) :
    Calls Try.prog 38 #[.agg (nd U), .agg (nd V)] w fun e w' => e = .returned (.tuple #[.agg (nd (rootN U V)), .bool (rootB U V)]) ∧ Fr (fun _ => False) w w' := by
  have qU : U % p25519 = U := Nat.mod_eq_of_lt hU
  have hU' := Nat.lt_trans hU p_lt
  have hV' := Nat.lt_trans hV p_lt
  have h3 : r3 V < 115792089237316195423570985008687907853269984665640564039457584007913129639936 := mod_p_lt _
  have h7 : r7 V < 115792089237316195423570985008687907853269984665640564039457584007913129639936 := mod_p_lt _
  have hx : rx U V < 115792089237316195423570985008687907853269984665640564039457584007913129639936 := mod_p_lt _
  have hm : rm U V < 115792089237316195423570985008687907853269984665640564039457584007913129639936 := mod_p_lt _
  have M2 := fun W : World => mul5_any (V * V % p25519) V (mod_p_lt _) hV' W
  rw [r3_alt] at M2
  have M4 := fun W : World => mul5_any (r3 V * r3 V % p25519) V (mod_p_lt _) hV' W
  rw [r7_alt] at M4
  have PO := fun W : World => pow5_any (U * r7 V % p25519) rE (mod_p_lt _) rE_lt W
  rw [nc_rE] at PO
  have E1 : ∀ W : World, (binOp .eql 26 (.agg (nd (rm U V))) (.agg (nd U))).run Try.prog W = .ok (.bool (rc1 U V)) W := fun W => by
    have := eql_nd5 (rm U V) U hm hU' W
    unfold rc1
    rwa [Nat.mod_eq_of_lt (rm_lt U V), qU]
  have E2 : ∀ W : World, (binOp .eql 26 (.agg (nd (rm U V))) (.agg (nd ((p25519 - U) % p25519)))).run Try.prog W = .ok (.bool (rc2 U V)) W := fun W => by
    have := eql_nd5 (rm U V) ((p25519 - U) % p25519) hm (mod_p_lt _) W
    unfold rc2
    rwa [Nat.mod_eq_of_lt (rm_lt U V), qU, mod_id]
  rcases rootN_cases U V with ⟨c1, e1, e2⟩ | ⟨c1, c2, e1, e2⟩ | ⟨c1, c2, e1, e2⟩
  · rw [c1] at E1
    rw [e1, e2]
    exact root5_a (nd U) (nd V) (nd (V * V % p25519)) (nd (r3 V)) (nd (r3 V * r3 V % p25519)) (nd (r7 V)) (nd (U * r3 V % p25519)) (nd (U * r7 V % p25519)) (nd (pwr (U * r7 V % p25519) rE)) (nd (rx U V)) (nd (rx U V * rx U V % p25519)) (nd (rm U V)) (nd ((p25519 - U) % p25519)) (nd iI) (nd (rx U V * iI % p25519)) w (mul5_any V V hV' hV') M2 (mul5_any _ _ h3 h3) M4 (mul5_any U _ hU' h3) (mul5_any U _ hU' h7) PO (mul5_any _ _ (mod_p_lt _) (pwr_lt _ _)) (mul5_any _ _ hx hx) (mul5_any V _ hV' (mod_p_lt _)) (neg5_any U (Nat.le_of_lt hU)) i5_any (mul5_any _ _ hx iI_ltP) E1 E2 (sz_nd _) (sz_nd _) (sz_nd _) (sz_nd _) (sz_nd _) (sz_nd _) (sz_nd _)
  · rw [c1] at E1
    rw [c2] at E2
    rw [e1, e2]
    exact root5_b (nd U) (nd V) (nd (V * V % p25519)) (nd (r3 V)) (nd (r3 V * r3 V % p25519)) (nd (r7 V)) (nd (U * r3 V % p25519)) (nd (U * r7 V % p25519)) (nd (pwr (U * r7 V % p25519) rE)) (nd (rx U V)) (nd (rx U V * rx U V % p25519)) (nd (rm U V)) (nd ((p25519 - U) % p25519)) (nd iI) (nd (rx U V * iI % p25519)) w (mul5_any V V hV' hV') M2 (mul5_any _ _ h3 h3) M4 (mul5_any U _ hU' h3) (mul5_any U _ hU' h7) PO (mul5_any _ _ (mod_p_lt _) (pwr_lt _ _)) (mul5_any _ _ hx hx) (mul5_any V _ hV' (mod_p_lt _)) (neg5_any U (Nat.le_of_lt hU)) i5_any (mul5_any _ _ hx iI_ltP) E1 E2 (sz_nd _) (sz_nd _) (sz_nd _) (sz_nd _) (sz_nd _) (sz_nd _) (sz_nd _)
  · rw [c1] at E1
    rw [c2] at E2
    rw [e1, e2, nd_lit0_]
    exact root5_c (nd U) (nd V) (nd (V * V % p25519)) (nd (r3 V)) (nd (r3 V * r3 V % p25519)) (nd (r7 V)) (nd (U * r3 V % p25519)) (nd (U * r7 V % p25519)) (nd (pwr (U * r7 V % p25519) rE)) (nd (rx U V)) (nd (rx U V * rx U V % p25519)) (nd (rm U V)) (nd ((p25519 - U) % p25519)) (nd iI) (nd (rx U V * iI % p25519)) w (mul5_any V V hV' hV') M2 (mul5_any _ _ h3 h3) M4 (mul5_any U _ hU' h3) (mul5_any U _ hU' h7) PO (mul5_any _ _ (mod_p_lt _) (pwr_lt _ _)) (mul5_any _ _ hx hx) (mul5_any V _ hV' (mod_p_lt _)) (neg5_any U (Nat.le_of_lt hU)) i5_any (mul5_any _ _ hx iI_ltP) E1 E2 (sz_nd _) (sz_nd _) (sz_nd _) (sz_nd _) (sz_nd _) (sz_nd _) (sz_nd _)
end Go.Proofs.Ytahnlnflcgehaaa
namespace Go.Proofs.Ytahnlnflcgehaaa
open Go.RowKit Pri
set_option linter.unusedVariables false

set_option maxRecDepth 100000 in
set_option maxHeartbeats 1600000 in
theorem bytes5_any (X : Nat) (w : World) :
    Calls Try.prog 31 #[.agg (nd X)] w fun e w' => e = .returned (.string ⟨(bl 32 X).toArray⟩) ∧ Fr (fun _ => False) w w' := by
  unfold nd
  go_enter Try.func31, Try.ntmps31
  go_wp2_with fail
  have A0 := heap_alloc2_old w (.cells (iq 16 (dig 65536 X)) 26) (.cells #[] 5)
  have F0 := ((Fr.refl (fun _ => False) w).alloc (.cells (iq 16 (dig 65536 X)) 26)).alloc (.cells #[] 5)
  have own0 : Own ((w.alloc (.cells (iq 16 (dig 65536 X)) 26)).alloc (.cells #[] 5)) (w.heap.size + 1) (.slice (some ⟨w.heap.size + 1, 0, none⟩) 0 0) [] := Or.inr ⟨w.heap.size + 1, 0, #[], (0, 0), rfl, Nat.le_refl _, heap_alloc2_new w _ _, Or.inl rfl, Nat.le_refl _, Nat.zero_le _, rfl, rfl⟩
  go_loopw [3, 4] (fun v i wr => ∃ k : Nat, k ≤ 16 ∧ i = .int .i64 k ∧ Own wr (w.heap.size + 1) v (bl (2 * k) X) ∧ wr.heap[w.heap.size]? = some (.cells (iq 16 (dig 65536 X)) 26 (0, 0)) ∧ Fr (fun _ => False) w wr) (fun _ i _ => 16 - (intOf i).toNat)
  case atStart => exact ⟨0, by omega, by simp, own0, A0, F0⟩
  case round =>
    clear own0 A0 F0
    obtain ⟨k, hk, rfl, own, hA, hF⟩ := hrel
    obtain ⟨a2, c2, rfl⟩ := own.slice
    have hl := bl_length (2 * k) X
    rw [hl] at own ⊢
    by_cases h32 : k < 16
    · have q0 : (0 : Int) ≤ (k : Int) := by omega
      have q1 : (k : Int) < 16 := by omega
      have cA := cell_of_block hA k
      rw [iq_get 16 _ _ h32] at cA
      have hsucc : bl (2 * (k + 1)) X = bl (2 * k) X ++ [UInt8.ofNat (dig 65536 X k % 256), UInt8.ofNat (dig 65536 X k / 256 % 256)] := by
        rw [show 2 * (k + 1) = 2 * k + 1 + 1 by omega, bl_succ, bl_succ, byte_part0, byte_part1, List.append_assoc]; rfl
      have hz := dig_lt 65536 X k (by decide)
      generalize dig 65536 X k = z at cA hz hsucc
      have hsh : (z : Int) / 256 = ((z / 256 : Nat) : Int) := by omega
      have hby0 := byte_toNat z
      have hby := byte_toNat (z / 256)
      generalize UInt8.ofNat (z / 256 % 256) = y at hsucc hby
      generalize UInt8.ofNat (z % 256) = y0 at hsucc hby0
      generalize z / 256 = zz at hsh hby
      have own1 := own.fr (((Fr.refl (fun _ => False) wr).drew).alloc (.cells #[.int .u8 ((z : Int) % 256), .int .u8 ((zz : Int) % 256)] 5)) (fun _ _ h => h)
      have hsrc : Src Try.prog 1 40 (.slice (some ⟨wr.heap.size, 0, none⟩) 2 2) [y0, y].length (bv [y0, y]) (wr.drew.alloc (.cells #[.int .u8 ((z : Int) % 256), .int .u8 ((zz : Int) % 256)] 5)) := by
        have := src_block (heap_alloc_new wr.drew (.cells #[.int .u8 ((z : Int) % 256), .int .u8 ((zz : Int) % 256)] 5)) (by simp [Value.oneCell']) 2
        rw [← hby0, ← hby] at this
        rw [← hby0, ← hby]
        exact this
      have F1 := hF.drew.alloc (.cells #[.int .u8 ((z : Int) % 256), .int .u8 ((zz : Int) % 256)] 5)
      have hz1 : w.heap.size + 1 ≤ (wr.drew.alloc (.cells #[.int .u8 ((z : Int) % 256), .int .u8 ((zz : Int) % 256)] 5)).heap.size := by have := lt_of_block hA; simp; omega
      have hb1 : (bl (2 * k) X).length + [y0, y].length ≤ 140737488355328 := by rw [hl]; simp; omega
      have hAlt := lt_of_block hA
      have A1 := (Below.heap_alloc wr.drew (.cells #[.int .u8 ((z : Int) % 256), .int .u8 ((zz : Int) % 256)] 5) _ hAlt).trans hA
      have own1lt := own1.lt
      have HS := Lib.hid hsucc
      generalize hx0 : bl (2 * k) X = x0 at *
      clear hby hby0 hsucc
      have cA2 : ∀ o : Obj, (wr.drew.alloc o).cell? ⟨w.heap.size, k, none⟩ = some (.int .i64 (z : Int)) := fun o => (((Fr.refl (fun _ => False) wr).drew).alloc o).cellSome (p := ⟨w.heap.size, k, none⟩) (fun h => h) cA
      have hne2 : ¬ ((Value.slice a2 (2 * k) c2).ownBlock = some w.heap.size) := fun h => by have := (own1lt _ h).1; omega
      go_wp2_with fail
      go_region_held3 (fun w' => w'.cell? ⟨w.heap.size, k, none⟩ = some (.int .i64 (z : Int)))
        (first | go_keep | (exact cA2 _) | (exact (Fr.ofGrown hg3).cellSome (p := ⟨w.heap.size, k, none⟩) hne2 (cA2 _)))
        ((refine wp_own _ (.tmp 10) (.tmp 20) 40 rfl (w.heap.size + 1) (.slice a2 (2 * k) c2) x0 [y0, y] rfl own1 (.slice (some ⟨wr.heap.size, 0, none⟩) 2 2) rfl hsrc hb1 hz1 ?_; intro v3 w3 own3 hg3 hb3))
      have F3 : Fr (fun _ => False) w w3 := F1.trans (Fr.ofGrown hg3) (fun i hi => Or.inr (by have := (own1lt i hi).1; omega))
      have A3 : w3.heap[w.heap.size]? = some (.cells (iq 16 (dig 65536 X)) 26 (0, 0)) := ((Fr.ofGrown hg3).block _ (lt_of_block A1) (fun hi => by have := (own1lt _ hi).1; omega)).trans A1
      rw [← HS.out] at own3
      clear own own1 hsrc hg3 hb3 F1 hF hA A1
      go_wp2
      go_roundw
      case rel => exact ⟨k + 1, by omega, by go_num, own3, A3, F3⟩
      case measure => simp [intOf]; omega
    · obtain rfl : k = 16 := by omega
      obtain ⟨_, _, _, hl7⟩ := own.lies
      have hs7 := run_str hl7 c2 9 Try.underlying9
      have hs8 := hs7
      rw [hl] at hs7
      clear own hl7 hA hl h32 hk
      generalize hbb : bl (2 * 16) X = bb at *
      have HBB := Lib.hid hbb
      clear hbb
      rw [show ((16 : Nat) : Int) = 16 from rfl]
      go_wp2_with fail
      go_ret
      exact ⟨by rw [HBB.out]; rfl, hF⟩
set_option maxRecDepth 100000 in
set_option maxHeartbeats 1600000 in
theorem fbytes_any (X : Nat) (hX : X < 115792089237316195423570985008687907853269984665640564039457584007913129639936) (w : World) :
    Calls Try.prog 28 #[.agg (nc X)] w fun e w' => e = .returned (.agg (bv (bl 32 (X % p25519))).toArray) ∧ Fr (fun _ => False) w w' := by
  have RX := fun (W : World) => fRest_any X hX W
  generalize hRe : X % p25519 = R at RX ⊢
  have hR : R < 115792089237316195423570985008687907853269984665640564039457584007913129639936 := by rw [← hRe]; exact mod_p_lt _
  clear hRe
  obtain ⟨x0, x1, x2, x3, _, _, _, _, _, ex⟩ := nc_open (X) (hX)
  rw [ex] at RX ⊢
  clear ex
  have enq : nc R = uq 4 (dig 18446744073709551616 R) := nc_uq R
  obtain ⟨a0, a1, a2, a3, _, _, _, _, _, ea⟩ := nc_open R hR
  rw [ea] at RX enq
  clear ea hR
  go_enter Try.func28, Try.ntmps28
  go_wp2_with fail
  refine (RX _).mono ?_
  rintro e w1 ⟨rfl, F1⟩
  have A1 : w1.heap[w.heap.size]? = some (.cells #[.int .u64 (x0 : Int), .int .u64 (x1 : Int), .int .u64 (x2 : Int), .int .u64 (x3 : Int)] 24 (0, 0)) := F1.keepM (heap_alloc2_old w _ _)
  have C1 : w1.heap[w.heap.size + 1]? = some (.cells #[.int .u8 0, .int .u8 0, .int .u8 0, .int .u8 0, .int .u8 0, .int .u8 0, .int .u8 0, .int .u8 0, .int .u8 0, .int .u8 0, .int .u8 0, .int .u8 0, .int .u8 0, .int .u8 0, .int .u8 0, .int .u8 0, .int .u8 0, .int .u8 0, .int .u8 0, .int .u8 0, .int .u8 0, .int .u8 0, .int .u8 0, .int .u8 0, .int .u8 0, .int .u8 0, .int .u8 0, .int .u8 0, .int .u8 0, .int .u8 0, .int .u8 0, .int .u8 0] 36 (0, 0)) := F1.keepM (heap_alloc2_new w _ _)
  have G1 : Fr (fun _ => False) w w1 := (((Fr.refl _ w).alloc _).alloc _).trans F1 (fun _ h => h.elim)
  obtain ⟨i0, i1, i2, i3, i4, i5, i6, i7⟩ := blk4 A1
  have HA1 := Lib.hid A1
  have HC1 := Lib.hid C1
  have HG1 := Lib.hid G1
  have ENQ := Lib.hid enq
  clear RX A1 C1 G1 F1 enq
  go_wp2_with fail
  have zT : ((((w1.setCell ⟨w.heap.size, 0, none⟩ (.int .u64 (a0 : Int))).setCell ⟨w.heap.size, 1, none⟩ (.int .u64 (a1 : Int))).setCell ⟨w.heap.size, 2, none⟩ (.int .u64 (a2 : Int))).setCell ⟨w.heap.size, 3, none⟩ (.int .u64 (a3 : Int))).heap.size = w1.heap.size := by simp
  have T2 := heap_alloc_new ((((w1.setCell ⟨w.heap.size, 0, none⟩ (.int .u64 (a0 : Int))).setCell ⟨w.heap.size, 1, none⟩ (.int .u64 (a1 : Int))).setCell ⟨w.heap.size, 2, none⟩ (.int .u64 (a2 : Int))).setCell ⟨w.heap.size, 3, none⟩ (.int .u64 (a3 : Int))) (.cells #[.int .u8 0, .int .u8 0, .int .u8 0, .int .u8 0, .int .u8 0, .int .u8 0, .int .u8 0, .int .u8 0, .int .u8 0, .int .u8 0, .int .u8 0, .int .u8 0, .int .u8 0, .int .u8 0, .int .u8 0, .int .u8 0, .int .u8 0, .int .u8 0, .int .u8 0, .int .u8 0, .int .u8 0, .int .u8 0, .int .u8 0, .int .u8 0, .int .u8 0, .int .u8 0, .int .u8 0, .int .u8 0, .int .u8 0, .int .u8 0, .int .u8 0, .int .u8 0] 36)
  rw [zT] at T2
  have A2 := (Below.heap_alloc _ (.cells #[.int .u8 0, .int .u8 0, .int .u8 0, .int .u8 0, .int .u8 0, .int .u8 0, .int .u8 0, .int .u8 0, .int .u8 0, .int .u8 0, .int .u8 0, .int .u8 0, .int .u8 0, .int .u8 0, .int .u8 0, .int .u8 0, .int .u8 0, .int .u8 0, .int .u8 0, .int .u8 0, .int .u8 0, .int .u8 0, .int .u8 0, .int .u8 0, .int .u8 0, .int .u8 0, .int .u8 0, .int .u8 0, .int .u8 0, .int .u8 0, .int .u8 0, .int .u8 0] 36) _ (lt_of_block (set4 HA1.out _ _ _ _))).trans (set4 HA1.out (.int .u64 (a0 : Int)) (.int .u64 (a1 : Int)) (.int .u64 (a2 : Int)) (.int .u64 (a3 : Int)))
  have lC := lt_of_block HC1.out
  have C2 : (((((w1.setCell ⟨w.heap.size, 0, none⟩ (.int .u64 (a0 : Int))).setCell ⟨w.heap.size, 1, none⟩ (.int .u64 (a1 : Int))).setCell ⟨w.heap.size, 2, none⟩ (.int .u64 (a2 : Int))).setCell ⟨w.heap.size, 3, none⟩ (.int .u64 (a3 : Int))).alloc (.cells #[.int .u8 0, .int .u8 0, .int .u8 0, .int .u8 0, .int .u8 0, .int .u8 0, .int .u8 0, .int .u8 0, .int .u8 0, .int .u8 0, .int .u8 0, .int .u8 0, .int .u8 0, .int .u8 0, .int .u8 0, .int .u8 0, .int .u8 0, .int .u8 0, .int .u8 0, .int .u8 0, .int .u8 0, .int .u8 0, .int .u8 0, .int .u8 0, .int .u8 0, .int .u8 0, .int .u8 0, .int .u8 0, .int .u8 0, .int .u8 0, .int .u8 0, .int .u8 0] 36)).heap[w.heap.size + 1]? = some (.cells #[.int .u8 0, .int .u8 0, .int .u8 0, .int .u8 0, .int .u8 0, .int .u8 0, .int .u8 0, .int .u8 0, .int .u8 0, .int .u8 0, .int .u8 0, .int .u8 0, .int .u8 0, .int .u8 0, .int .u8 0, .int .u8 0, .int .u8 0, .int .u8 0, .int .u8 0, .int .u8 0, .int .u8 0, .int .u8 0, .int .u8 0, .int .u8 0, .int .u8 0, .int .u8 0, .int .u8 0, .int .u8 0, .int .u8 0, .int .u8 0, .int .u8 0, .int .u8 0] 36 (0, 0)) :=
    (Below.heap_alloc _ _ _ (by simpa using lC)).trans (keep_setM (keep_setM (keep_setM (keep_setM HC1.out (by simp) _) (by simp) _) (by simp) _) (by simp) _)
  have G2 : Fr (fun _ => False) w (((((w1.setCell ⟨w.heap.size, 0, none⟩ (.int .u64 (a0 : Int))).setCell ⟨w.heap.size, 1, none⟩ (.int .u64 (a1 : Int))).setCell ⟨w.heap.size, 2, none⟩ (.int .u64 (a2 : Int))).setCell ⟨w.heap.size, 3, none⟩ (.int .u64 (a3 : Int))).alloc (.cells #[.int .u8 0, .int .u8 0, .int .u8 0, .int .u8 0, .int .u8 0, .int .u8 0, .int .u8 0, .int .u8 0, .int .u8 0, .int .u8 0, .int .u8 0, .int .u8 0, .int .u8 0, .int .u8 0, .int .u8 0, .int .u8 0, .int .u8 0, .int .u8 0, .int .u8 0, .int .u8 0, .int .u8 0, .int .u8 0, .int .u8 0, .int .u8 0, .int .u8 0, .int .u8 0, .int .u8 0, .int .u8 0, .int .u8 0, .int .u8 0, .int .u8 0, .int .u8 0] 36)) :=
    ((((HG1.out.setCell (Or.inr (by simp)) _).setCell (Or.inr (by simp)) _).setCell (Or.inr (by simp)) _).setCell (Or.inr (by simp)) _).alloc _
  generalize ((((w1.setCell ⟨w.heap.size, 0, none⟩ (.int .u64 (a0 : Int))).setCell ⟨w.heap.size, 1, none⟩ (.int .u64 (a1 : Int))).setCell ⟨w.heap.size, 2, none⟩ (.int .u64 (a2 : Int))).setCell ⟨w.heap.size, 3, none⟩ (.int .u64 (a3 : Int))).alloc (.cells #[.int .u8 0, .int .u8 0, .int .u8 0, .int .u8 0, .int .u8 0, .int .u8 0, .int .u8 0, .int .u8 0, .int .u8 0, .int .u8 0, .int .u8 0, .int .u8 0, .int .u8 0, .int .u8 0, .int .u8 0, .int .u8 0, .int .u8 0, .int .u8 0, .int .u8 0, .int .u8 0, .int .u8 0, .int .u8 0, .int .u8 0, .int .u8 0, .int .u8 0, .int .u8 0, .int .u8 0, .int .u8 0, .int .u8 0, .int .u8 0, .int .u8 0, .int .u8 0] 36) = W2 at *
  generalize w1.heap.size = T at *
  rw [ENQ.out] at A2
  rw [z32_bv] at T2 C2
  clear i0 i1 i2 i3 i4 i5 i6 i7 HA1 HC1 HG1 zT
  go_loopw [4, 7] (fun i c wr => ∃ k : Nat, k ≤ 32 ∧ c = .int .i64 k ∧ wr.heap[T]? = some (.cells ((bv (bl k R ++ List.replicate (32 - k) 0)).toArray) 36 (0, 0)) ∧ wr.heap[w.heap.size]? = some (.cells (uq 4 (dig 18446744073709551616 R)) 24 (0, 0)) ∧ wr.heap[w.heap.size + 1]? = some (.cells (bv (List.replicate 32 0)).toArray 36 (0, 0)) ∧ Fr (fun _ => False) w wr) (fun _ c _ => 32 - (intOf c).toNat)
  case atStart => exact ⟨0, by omega, by simp, T2, A2, C2, G2⟩
  case round =>
    clear T2 A2 C2 G2
    obtain ⟨k, hk, rfl, hT, hA, hC, hF⟩ := hrel
    by_cases h32 : k < 32
    · have q0 : (0 : Int) ≤ (k : Int) := by omega
      have q1 : (k : Int) < 32 := by omega
      have hq4 : k / 8 < 4 := by omega
      have cA := cell_of_block hA (k / 8)
      rw [uq_get 4 _ _ hq4] at cA
      have cT := cell_of_block hT k
      have cT2 : ∃ v, ((bv (bl k R ++ List.replicate (32 - k) 0)).toArray)[k]? = some v := ⟨_, Array.getElem?_eq_getElem (by simp [bl_length]; omega)⟩
      obtain ⟨vo, hvo⟩ := cT2
      rw [hvo] at cT
      have fT := free_of_block hT k
      have hbw := byte_word R k
      have hset := bytes_set R k h32
      rw [← hbw] at hset
      have hq : ((k : Int)).tdiv 8 = ((k / 8 : Nat) : Int) := by rw [Int.tdiv_eq_ediv_of_nonneg (by omega)]; omega
      have hr : ((k : Int)).tmod 8 = ((k % 8 : Nat) : Int) := by rw [Int.tmod_eq_emod_of_nonneg (by omega)]; omega
      have hr64 : k % 8 < 8 := by omega
      clear hbw hvo
      generalize dig 18446744073709551616 R (k / 8) = z at cA hset
      generalize k / 8 = q at hq hq4 cA
      generalize hrr : k % 8 = r at hr hr64 hset
      obtain ⟨s, hs⟩ : ∃ s, s = 8 * r := ⟨_, rfl⟩
      rw [← hs] at hset
      have hs1 : (r : Int) * 8 = (s : Int) := by omega
      have qa : (0 : Int) ≤ (q : Int) := by omega
      have qb : (q : Int) < 4 := by omega
      have ra : (0 : Int) ≤ (s : Int) := by omega
      have rb : (s : Int) ≤ 64 := by omega
      have hsh : (z : Int) / 2 ^ s = ((z / 2 ^ s : Nat) : Int) := by simp
      have hby := byte_toNat (z / 2 ^ s)
      generalize UInt8.ofNat (z / 2 ^ s % 256) = y at hset hby
      generalize z / 2 ^ s = zz at hsh hby
      have B1 := block_setCell hT k (.int .u8 (y.toNat : Int))
      rw [hset, hby] at B1
      have E1 : Fr (fun i => i = T) wr (wr.setCell ⟨T, k, none⟩ (.int .u8 ((zz : Int) % 256))) := Fr.setCell (S := fun i => i = T) (Fr.refl _ wr) (Or.inl rfl) _
      have E5 := Lib.hid ((E1.block w.heap.size (lt_of_block hA) (by omega)).trans hA)
      have E6 := Lib.hid ((E1.block (w.heap.size + 1) (lt_of_block hC) (by omega)).trans hC)
      have E7 := Lib.hid (hF.setCell (p := ⟨T, k, none⟩) (Or.inr (by show w.heap.size ≤ T; omega)) (.int .u8 ((zz : Int) % 256)))
      have HB := Lib.hid B1
      clear hs hrr hby hset B1 E1 hT hA hC hF
      go_wp2_with fail
      go_roundw
      case rel => exact ⟨k + 1, by omega, by go_num, HB.out, E5.out, E6.out, E7.out⟩
      case measure => simp [intOf]; omega
    · obtain rfl : k = 32 := by omega
      rw [show 32 - 32 = 0 from rfl, List.replicate_zero, List.append_nil] at hT
      have hl := bl_length 32 R
      have s3 := Try.sizeB32 (bl 32 R) hl
      have s1 : ((bv (List.replicate 32 0)).toArray).size = ((bv (bl 32 R)).toArray).size := by rw [bytes_size _ hl, bytes_size _ (by simp)]
      have s2 := bv_oneA (bl 32 R)
      generalize hRR : (bv (bl 32 R)).toArray = RR at *
      have HR := Lib.hid hRR
      generalize (bv (List.replicate 32 0)).toArray = ZZ at *
      clear hA hRR h32 hk hl
      rw [show ((32 : Nat) : Int) = 32 from rfl]
      go_wp2_with (first
        | (with_reducible refine wpList_load_row rfl 36 (.tmp 3) rfl T rfl 36 RR (0, 0) _ hT Try.underlying36 rfl s3 ?_)
        | (with_reducible refine wpList_store_row rfl 36 (.tmp 2) (.tmp 22) rfl (w.heap.size + 1) RR rfl rfl 36 _ hC s3 s1 s2 ?_))
      refine bodyPost_ret (results_cell_row rfl _ _ (w.heap.size + 1) 36 RR (0, 0) _ rfl (setRow_heap _ _ _ _ _ _ hC) Try.underlying36 rfl s3) rfl ?_
      exact ⟨by rw [HR.out], hF.trans (Fr.setRow (S := fun k => k = w.heap.size + 1) (Fr.refl _ _) rfl _) (fun i hi => Or.inr (by omega))⟩
end Go.Proofs.Ytahnlnflcgehaaa

namespace Go.Proofs.Ytahnlnflcgehaaa
open Go.RowKit Pri
set_option linter.unusedVariables false
set_option linter.unusedSimpArgs false

theorem Try.szBa : (Try.prog.info? 36).map (·.size) = some 32 := by kernel_rfl
theorem Try.alBa : ∀ w, (Instr.alloc 36 true (.tuple #[])).run Try.prog w = .ok (.pointer (some ⟨w.heap.size, 0, none⟩)) (w.alloc (.cells #[.int .u8 0, .int .u8 0, .int .u8 0, .int .u8 0, .int .u8 0, .int .u8 0, .int .u8 0, .int .u8 0, .int .u8 0, .int .u8 0, .int .u8 0, .int .u8 0, .int .u8 0, .int .u8 0, .int .u8 0, .int .u8 0, .int .u8 0, .int .u8 0, .int .u8 0, .int .u8 0, .int .u8 0, .int .u8 0, .int .u8 0, .int .u8 0, .int .u8 0, .int .u8 0, .int .u8 0, .int .u8 0, .int .u8 0, .int .u8 0, .int .u8 0, .int .u8 0] 36)) := fun w => by kernel_rfl
theorem Try.iU8 : (Try.prog.info? 5).map (·.size) = some 1 := by kernel_rfl
theorem p256h : (256 : Nat) ^ 32 = 115792089237316195423570985008687907853269984665640564039457584007913129639936 := by decide
theorem b64_byte (j : Nat) : (18446744073709551616 : Nat) ^ j = 256 ^ (8 * j) := by rw [show (18446744073709551616 : Nat) = 256 ^ 8 from rfl, ← Nat.pow_mul]
theorem dig_low8 (X k j : Nat) : dig 18446744073709551616 (X % 256 ^ k) j = X / 18446744073709551616 ^ j % 256 ^ (min 8 (k - 8 * j)) := by
  unfold dig
  rw [b64_byte]
  by_cases h : 8 * j ≤ k
  · obtain ⟨m, rfl⟩ : ∃ m, k = 8 * j + m := ⟨k - 8 * j, by omega⟩
    rw [Nat.pow_add, Nat.mod_mul_right_div_self, show 8 * j + m - 8 * j = m by omega]
    by_cases h4 : 8 ≤ m
    · obtain ⟨n, rfl⟩ : ∃ n, m = 8 + n := ⟨m - 8, by omega⟩
      rw [show min 8 (8 + n) = 8 by omega, Nat.pow_add, show (256 : Nat) ^ 8 = 18446744073709551616 from rfl, Nat.mod_mul_right_mod]
    · rw [show min 8 m = m by omega]
      exact Nat.mod_eq_of_lt (Nat.lt_of_lt_of_le (Nat.mod_lt _ (Nat.pow_pos (by decide))) (Nat.pow_le_pow_right (n := 256) (by decide) (show m ≤ 8 by omega)))
  · rw [show k - 8 * j = 0 by omega, show min 8 0 = 0 from rfl, Nat.pow_zero, Nat.mod_one, Nat.div_eq_of_lt (Nat.lt_of_lt_of_le (Nat.mod_lt _ (Nat.pow_pos (by decide))) (Nat.pow_le_pow_right (n := 256) (by decide) (show k ≤ 8 * j by omega)))]
theorem sh8 (r : Nat) : (2 : Nat) ^ (8 * r) = 256 ^ r := by rw [Nat.pow_mul]
theorem part_old8 (X k : Nat) : dig 18446744073709551616 (X % 256 ^ k) (k / 8) = X / 18446744073709551616 ^ (k / 8) % 2 ^ (8 * (k % 8)) := by
  rw [dig_low8, sh8, show min 8 (k - 8 * (k / 8)) = k % 8 by omega]
theorem part_new8 (X k : Nat) : dig 18446744073709551616 (X % 256 ^ (k + 1)) (k / 8) = dig 18446744073709551616 (X % 256 ^ k) (k / 8) + 2 ^ (8 * (k % 8)) * (X / 256 ^ k % 256) := by
  rw [part_old8, dig_low8, sh8, show min 8 (k + 1 - 8 * (k / 8)) = k % 8 + 1 by omega, Nat.pow_succ, Nat.mod_mul]
  congr 2
  rw [b64_byte, Nat.div_div_eq_div_mul, ← Nat.pow_add, show 8 * (k / 8) + k % 8 = k by omega]
theorem part_step8 (X k : Nat) (hk : k < 32) (z : Nat) (hz : z = dig 18446744073709551616 (X % 256 ^ (k + 1)) (k / 8)) : (nc (X % 256 ^ k)).setIfInBounds (k / 8) (.int .u64 (z : Int)) = nc (X % 256 ^ (k + 1)) := by
  rw [nc_uq, nc_uq, uq_set 4 _ _ _ (by omega)]
  refine uq_congr (fun j hj => ?_)
  by_cases c : j = k / 8
  · subst c; rw [if_pos rfl, hz]
  · rw [if_neg c, dig_low8, dig_low8, show min 8 (k + 1 - 8 * j) = min 8 (k - 8 * j) by omega]
theorem top_set (X : Nat) : (nc X).setIfInBounds 3 (.int .u64 ((dig 18446744073709551616 X 3 % 9223372036854775808 : Nat) : Int)) = nc (X % 57896044618658097711785492504343953926634992332820282019728792003956564819968) := by
  rw [nc_uq, nc_uq, uq_set 4 _ _ _ (by omega)]
  refine uq_congr (fun j hj => ?_)
  unfold dig
  have h : j = 0 ∨ j = 1 ∨ j = 2 ∨ j = 3 := by omega
  rcases h with rfl | rfl | rfl | rfl
  · rw [if_neg (by omega), Nat.pow_zero, Nat.div_one, Nat.div_one]; omega
  · rw [if_neg (by omega), Nat.pow_one]; omega
  · rw [if_neg (by omega), show (18446744073709551616 : Nat) ^ 2 = 340282366920938463463374607431768211456 by decide]; omega
  · rw [if_pos rfl, show (18446744073709551616 : Nat) ^ 3 = 6277101735386680763835789423207666416102355444464034512896 by decide]; omega
theorem bl_cell (X k : Nat) (hk : k < 32) : ((bv (bl 32 X)).toArray)[k]? = some (.int .u8 ((X / 256 ^ k % 256 : Nat) : Int)) := by
  rw [List.getElem?_toArray, bv_get' _ k (by rw [bl_length]; exact hk)]
  congr 2
  simp only [bl, List.getElem_map, List.getElem_range]
  rw [byte_toNat]; omega
set_option maxRecDepth 100000 in
set_option maxHeartbeats 3200000 in
theorem fof_any (X : Nat) (hX : X < 115792089237316195423570985008687907853269984665640564039457584007913129639936) (w : World) :
    Calls Try.prog 29 #[.agg (bv (bl 32 X)).toArray] w fun e w' => e = .returned (.agg (nc (X % 57896044618658097711785492504343953926634992332820282019728792003956564819968 % p25519))) ∧ Fr (fun _ => False) w w' := by
  have RE := fun W : World => fRest_any (X % 57896044618658097711785492504343953926634992332820282019728792003956564819968) (by omega) W
  have TS := top_set X
  have T3 := dig_lt 18446744073709551616 X 3 (by decide)
  have XX : X % 256 ^ 32 = X := Nat.mod_eq_of_lt (by rw [p256h]; exact hX)
  have sA : Sz 32 (bv (bl 32 X)).toArray := ⟨by simp [bl_length], bv_oneA _⟩
  have sE := sz_nc (X % 57896044618658097711785492504343953926634992332820282019728792003956564819968 % p25519)
  have g3 : (nc X)[3]? = some (.int .u64 (dig 18446744073709551616 X 3 : Int)) := by rw [nc_uq]; exact uq_get 4 _ 3 (by omega)
  have zz : nc (X % 256 ^ 0) = #[.int .u64 0, .int .u64 0, .int .u64 0, .int .u64 0] := by rw [Nat.pow_zero, Nat.mod_one]; exact nc_lit0_
  have gB := fun k (hk : k < 32) => bl_cell X k hk
  have hOr : ∀ k, k < 32 → _ := fun k hk => part_step8 X k hk
  have PO := fun k => part_old8 X k
  have PN := fun k => part_new8 X k
  have hGB := Lib.hid gB
  have hTS := Lib.hid TS
  have hXX := Lib.hid XX
  have hg3 := Lib.hid g3
  have hzz := Lib.hid zz
  generalize hR : nc (X % 57896044618658097711785492504343953926634992332820282019728792003956564819968 % p25519) = R at *
  generalize hA : (bv (bl 32 X)).toArray = A at *
  have hHOr := Lib.hid hOr
  have hPO := Lib.hid PO
  have hPN := Lib.hid PN
  clear gB TS XX g3 zz hOr PO PN hR hA hX
  have K := ((Kn.start w).new w.heap.size 32 A 36 rfl sA.1).new (w.heap.size + 1) 4 #[.int .u64 0, .int .u64 0, .int .u64 0, .int .u64 0] 24 (by simp) rfl
  go_enter Try.func29, Try.ntmps29
  go_wp2_with (first
      | (focus (first | ((with_reducible refine' wpList_load_kn K rfl 36 (.tmp 1) rfl 2 _ _ _ _ rfl _ Try.underlying36 rfl Try.szBa _ _); rotate_left 2; (focus exact rfl))))
      | ((with_reducible refine wpList_new_kn K 24 _ _ _ _ #[.int .u64 0, .int .u64 0, .int .u64 0, .int .u64 0] 4 rfl Try.alEl rfl ?_); intro gz wz Kz; clear K; have K := Kz; clear Kz; try (simp only [Act.put, List.setIfInBounds_toArray, List.set_cons_zero, List.set_cons_succ])))
  rw [← hzz.out] at K
  go_loopw [4, 5, 7] (fun i n c wr => ∃ k : Nat, k ≤ 32 ∧ c = .int .i64 k ∧ Kn w [⟨gz, 4, nc (X % 256 ^ k), 24⟩, ⟨w.heap.size + 1, 4, nc (X % 256 ^ 0), 24⟩, ⟨w.heap.size, 32, A, 36⟩] wr) (fun _ _ c _ => 32 - (intOf c).toNat)
  case atStart => exact ⟨0, by omega, by simp, K⟩
  case round =>
    clear K
    obtain ⟨k, hk, rfl, K⟩ := hrel
    by_cases h32 : k < 32
    · as_aux_lemma =>
      have q0 : (0 : Int) ≤ (k : Int) := by omega
      have q1 : (k : Int) < 32 := by omega
      have gk := hGB.out k h32
      have hx : X / 256 ^ k % 256 < 256 := Nat.mod_lt _ (by decide)
      have ho : dig 18446744073709551616 (X % 256 ^ k) (k / 8) < 2 ^ (8 * (k % 8)) := by rw [hPO.out]; exact Nat.mod_lt _ (Nat.pow_pos (by decide))
      have hn := hPN.out k
      have hl := dig_lt 18446744073709551616 (X % 256 ^ (k + 1)) (k / 8) (by decide)
      have hst := fun z => hHOr.out k h32 z
      have g0 : (nc (X % 256 ^ k))[k / 8]? = some (.int .u64 (dig 18446744073709551616 (X % 256 ^ k) (k / 8) : Int)) := by rw [nc_uq]; exact uq_get 4 _ _ (by omega)
      have hidx := fun W => run_index_row (P := Try.prog) Try.underlying36 Try.iU8 Try.underlying5 h32 gk W
      have hd4 : k / 8 < 4 := by omega
      have hr4 : k % 8 < 8 := by omega
      have hq : ((k : Int)).tdiv 8 = ((k / 8 : Nat) : Int) := by rw [Int.tdiv_eq_ediv_of_nonneg (by omega)]; omega
      have hr : ((k : Int)).tmod 8 = ((k % 8 : Nat) : Int) := by rw [Int.tmod_eq_emod_of_nonneg (by omega)]; omega
      generalize dig 18446744073709551616 (X % 256 ^ (k + 1)) (k / 8) = nw at hn hl hst
      generalize dig 18446744073709551616 (X % 256 ^ k) (k / 8) = o at ho hn g0
      generalize X / 256 ^ k % 256 = x at hx hn gk hidx
      generalize k / 8 = d at *
      obtain ⟨u, hu⟩ : ∃ u, u = 8 * (k % 8) := ⟨_, rfl⟩
      rw [← hu] at hn ho
      generalize k % 8 = r at hr hr4 hu
      have hmul : (r : Int) * 8 = (u : Int) := by omega
      have da : (0 : Int) ≤ (d : Int) := by omega
      have db : (d : Int) < 4 := by omega
      have ra : (0 : Int) ≤ (r : Int) := by omega
      have rb : (r : Int) < 8 := by omega
      have ua : (0 : Int) ≤ (u : Int) := by omega
      have ub : (u : Int) < 64 := by omega
      have xa : (0 : Int) ≤ (x : Int) := by omega
      have xb : (x : Int) < 256 := by omega
      have hor := or_sum5 o x u ho (by omega)
      rw [← hn] at hor
      have hlt : 2 ^ u * x < 18446744073709551616 := by omega
      have hsl : IntKind.u64.wrap ((x : Int) * 2 ^ u) = ((2 ^ u * x : Nat) : Int) := by
        rw [show (x : Int) * 2 ^ u = ((2 ^ u * x : Nat) : Int) by rw [Nat.mul_comm]; simp, IntKind.wrap_u64]
        omega
      generalize 2 ^ u * x = y at hor hsl
      have HST := Lib.hid hst
      clear hst hn ho hl hlt hu hx gk T3
      go_wp2_with fail
      refine wp_region_kn_tail K 12 [] (by kernel_rfl) (by kernel_rfl) mk_nil sz_nil ?_
      apply Exists.intro
      refine ⟨?wk5, ?fin5⟩
      case wk5 =>
        intro γ
  
        have c0 := fun y : Wg γ => K.cellg y 0 rfl d g0
        simp only [List.take_succ_cons, List.take_zero]
        repeat (any_goals (first | go_big_quiet_step (fail) | quiet_step (fail)))
        exact wpQuiet_nil rfl
      case fin5 =>
        intro gs wz Kz
        clear K
        have K := Kz
        clear Kz
        try simp only [mkAll, asObj, List.map_cons, List.map_nil, putAll, List.drop_succ_cons, List.drop_zero, List.length_cons, List.length_nil, Nat.zero_add, Nat.add_zero] at K ⊢
        try simp only [Act.put, List.setIfInBounds_toArray, List.set_cons_zero, List.set_cons_succ]

        go_wp2_with (first
          | (focus ((with_reducible refine' wpList_store1_kn K rfl 22 _ _ rfl 0 _ _ d _ _ .u64 (nw : Int) rfl rfl Try.iU5 _ hd4 _); rotate_left 2; (focus exact rfl); intro wz Kz; clear K; have K := Kz; clear Kz; simp only [List.set_cons_zero, List.set_cons_succ] at K; try (simp only [Act.put, List.setIfInBounds_toArray, List.set_cons_zero, List.set_cons_succ]))))

        rw [HST.out nw rfl] at K
        go_roundw
        case rel => exact ⟨k + 1, by omega, by go_num, K⟩
        case measure => simp [intOf]; omega
    · as_aux_lemma =>
      obtain rfl : k = 32 := by omega
      rw [hXX.out] at K
      rw [show ((32 : Nat) : Int) = 32 from rfl]
      have c0 := K.cell 0 rfl 3 hg3.out
      have HTS := hTS.out
      have h3 : 3 < 4 := by omega
      generalize dig 18446744073709551616 X 3 = z at *
      have hand := andNot63 z T3
      generalize z % 9223372036854775808 = y at *
      have HTSh := Lib.hid HTS
      clear HTS
      go_wp2_with (first
          | (focus ((with_reducible refine' wpList_store1_kn K rfl 22 _ _ rfl 0 _ _ 3 _ _ .u64 (y : Int) rfl rfl Try.iU5 _ h3 _); rotate_left 2; (focus exact rfl); intro wz Kz; clear K; have K := Kz; clear Kz; simp only [List.set_cons_zero, List.set_cons_succ] at K; rw [HTSh.out] at K; try (simp only [Act.put, List.setIfInBounds_toArray, List.set_cons_zero, List.set_cons_succ])))
          | (focus (first | ((with_reducible refine' wpList_load_kn K rfl 24 (.tmp 3) rfl 0 _ _ _ _ rfl _ Try.underlying24 rfl Try.szEl _ _); rotate_left 2; (focus exact rfl))))
          | (focus ((first | ((with_reducible refine' wpList_store_kn K rfl 24 (.tmp 2) _ rfl 1 _ _ _ _ _ rfl rfl Try.szEl _ _ _); rotate_left 2; (focus exact rfl))); (focus assumption); intro wz Kz; clear K; have K := Kz; clear Kz; simp only [List.set_cons_zero, List.set_cons_succ] at K; try (simp only [Act.put, List.setIfInBounds_toArray, List.set_cons_zero, List.set_cons_succ])))
          | (go_at_call 17; (with_reducible refine Calls.kn K (RE _) ?_); intro wz Kz; clear K; have K := Kz; clear Kz))
      refine bodyPost_ret (results_kn K rfl _ 1 _ _ _ _ rfl _ Try.underlying24 rfl Try.szEl rfl) rfl ?_
      exact ⟨rfl, K.fr⟩
end Go.Proofs.Ytahnlnflcgehaaa
namespace Go.Proofs.Ytahnlnflcgehaaa
open Go.RowKit Pri
set_option linter.unusedVariables false
set_option linter.unusedSimpArgs false

theorem run_index_str {P : Program} {s : ByteArray} {t : TypeId} {k : Nat} {b : UInt8} (hu : P.underlying t = some .string) (h : s.data[k]? = some b) (w : World) :
    (Instr.index t (.string s) (.int .i64 (k : Int))).run P w = .ok (.int .u8 (b.toNat : Int)) w := by
  have hk : k < s.size := (Array.getElem?_eq_some_iff.1 h).1
  have hb : s[k]'hk = b := (Array.getElem?_eq_some_iff.1 h).2
  simp [Instr.index, asIntOf, run_underlying hu, hk, hb]
theorem or_i64 (a b : Nat) (ha : a < 256) (hb : b < 256) : bits .or .i64 (a : Int) ((b : Int) * 256) = ((a + 256 * b : Nat) : Int) := by
  have h1 : (BitVec.ofInt 64 (a : Int)).toNat = a := by
    rw [BitVec.ofInt_natCast, BitVec.toNat_ofNat]; exact Nat.mod_eq_of_lt (by omega)
  have h2 : (BitVec.ofInt 64 ((b : Int) * 256)).toNat = b * 256 := by
    rw [show ((b : Int) * 256) = ((b * 256 : Nat) : Int) by omega, BitVec.ofInt_natCast, BitVec.toNat_ofNat]; exact Nat.mod_eq_of_lt (by omega)
  show IntKind.i64.wrap ((BitVec.ofInt 64 (a : Int) ||| BitVec.ofInt 64 ((b : Int) * 256)).toNat : Int) = _
  rw [BitVec.toNat_or, h1, h2, show a ||| b * 256 = a + 256 * b by
    rw [Nat.or_comm, show b * 256 = 2 ^ 8 * b by omega, ← Nat.two_pow_add_eq_or_of_lt (show a < 2 ^ 8 by omega)]; omega]
  exact IntWalk.i64_in _ (by omega)
theorem and_i64 (a : Nat) (ha : a < 65536) : bits .and .i64 (a : Int) 32767 = ((a % 32768 : Nat) : Int) := by
  have h1 : (BitVec.ofInt 64 (a : Int)).toNat = a := by
    rw [BitVec.ofInt_natCast, BitVec.toNat_ofNat]; exact Nat.mod_eq_of_lt (by omega)
  have h2 : (BitVec.ofInt 64 (32767 : Int)).toNat = 2 ^ 15 - 1 := rfl
  show IntKind.i64.wrap ((BitVec.ofInt 64 (a : Int) &&& BitVec.ofInt 64 (32767 : Int)).toNat : Int) = _
  rw [BitVec.toNat_and, h1, h2, Nat.and_two_pow_sub_one_eq_mod]
  exact IntWalk.i64_in _ (by omega)
theorem Try.iI5 : (Try.prog.info? 3).map (·.size) = some 1 := by kernel_rfl
/-- The parts that are laid behind k rounds. -/
def fpart (X k j : Nat) : Nat := if j < k then dig 65536 X j else 0
theorem fpart_step (X k : Nat) (hk : k < 16) (z : Nat) (hz : z = dig 65536 X k) : (iq 16 (fpart X k)).setIfInBounds k (.int .i64 (z : Int)) = iq 16 (fpart X (k + 1)) := by
  rw [iq_set 16 _ k _ hk]
  refine iq_congr (fun j hj => ?_)
  unfold fpart
  by_cases e : j = k
  · subst e; rw [if_pos rfl, if_pos (by omega), hz]
  · rw [if_neg e]
    by_cases e2 : j < k
    · rw [if_pos e2, if_pos (by omega)]
    · rw [if_neg e2, if_neg (by omega)]
theorem fpart_all (X : Nat) : iq 16 (fpart X 16) = nd X := iq_congr (fun j hj => if_pos hj)
theorem fpart_none (X : Nat) : iq 16 (fpart X 0) = #[.int .i64 0, .int .i64 0, .int .i64 0, .int .i64 0, .int .i64 0, .int .i64 0, .int .i64 0, .int .i64 0, .int .i64 0, .int .i64 0, .int .i64 0, .int .i64 0, .int .i64 0, .int .i64 0, .int .i64 0, .int .i64 0] := by
  have : (#[.int .i64 0, .int .i64 0, .int .i64 0, .int .i64 0, .int .i64 0, .int .i64 0, .int .i64 0, .int .i64 0, .int .i64 0, .int .i64 0, .int .i64 0, .int .i64 0, .int .i64 0, .int .i64 0, .int .i64 0, .int .i64 0] : Array Value) = iq 16 (fun _ => 0) := by kernel_rfl
  rw [this]; exact iq_congr (fun j hj => if_neg (by omega))
theorem top_set5 (X : Nat) : (nd X).setIfInBounds 15 (.int .i64 ((dig 65536 X 15 % 32768 : Nat) : Int)) = nd (X % 57896044618658097711785492504343953926634992332820282019728792003956564819968) := by
  unfold nd
  rw [iq_set 16 _ _ _ (by omega)]
  refine iq_congr (fun j hj => ?_)
  unfold dig
  by_cases h : j = 15
  · subst h
    rw [if_pos rfl, show (65536 : Nat) ^ 15 = 1766847064778384329583297500742918515827483896875618958121606201292619776 by decide]
    omega
  · rw [if_neg h]
    obtain ⟨m, hm⟩ : ∃ m, 15 = j + 1 + m := ⟨14 - j, by omega⟩
    have e : (57896044618658097711785492504343953926634992332820282019728792003956564819968 : Nat) = 65536 ^ j * (65536 * (65536 ^ m * 32768)) := by
      rw [← Nat.mul_assoc, ← Nat.mul_assoc, ← Nat.pow_succ, ← Nat.pow_add, ← hm]
    rw [e, Nat.mod_mul_right_div_self, Nat.mod_mul_right_mod]
theorem dig_two (X k : Nat) : dig 65536 X k = X / 256 ^ (2 * k) % 256 + 256 * (X / 256 ^ (2 * k + 1) % 256) := by
  have h := dig_lt 65536 X k (by decide)
  rw [← byte_part0, ← byte_part1]; omega
theorem bl_at (X j : Nat) (hj : j < 32) : (bl 32 X).toArray[j]? = some (UInt8.ofNat (X / 256 ^ j % 256)) := by
  simp [bl, hj]
theorem tn (z : Nat) : (UInt8.ofNat (z % 256)).toNat = z % 256 := by rw [UInt8.toNat_ofNat']; omega
set_option maxRecDepth 100000 in
set_option maxHeartbeats 3200000 in
theorem from5_any (X : Nat) (hX : X < 115792089237316195423570985008687907853269984665640564039457584007913129639936) (w : World) :
    Calls Try.prog 30 #[.string ⟨(bl 32 X).toArray⟩] w fun e w' => e = .returned (.agg (nd (X % 57896044618658097711785492504343953926634992332820282019728792003956564819968 % p25519))) ∧ Fr (fun _ => False) w w' := by
  have TI := fun W : World => tidy_any (dig 65536 (X % 57896044618658097711785492504343953926634992332820282019728792003956564819968)) (fun j _ => by have := dig_lt 65536 (X % 57896044618658097711785492504343953926634992332820282019728792003956564819968) j (by decide); omega) W
  rw [val_dig, b16, Nat.mod_eq_of_lt (show X % 57896044618658097711785492504343953926634992332820282019728792003956564819968 < 115792089237316195423570985008687907853269984665640564039457584007913129639936 by omega)] at TI
  have TS := top_set5 X
  have T15 := dig_lt 65536 X 15 (by decide)
  have sE := sz_nd (X % 57896044618658097711785492504343953926634992332820282019728792003956564819968 % p25519)
  have g15 : (nd X)[15]? = some (.int .i64 (dig 65536 X 15 : Int)) := iq_get 16 _ 15 (by omega)
  have zz := fpart_none X
  have hB := fun j (hj : j < 32) => bl_at X j hj
  have zS : (⟨(bl 32 X).toArray⟩ : ByteArray).size = 32 := by show (bl 32 X).toArray.size = 32; simp [bl_length]
  have hTS := Lib.hid TS
  have hg15 := Lib.hid g15
  have hzz := Lib.hid zz
  have hFA := Lib.hid (fpart_all X)
  generalize hR : nd (X % 57896044618658097711785492504343953926634992332820282019728792003956564819968 % p25519) = R at *
  generalize hS : (⟨(bl 32 X).toArray⟩ : ByteArray) = S at *
  have hB' : ∀ j, j < 32 → S.data[j]? = some (UInt8.ofNat (X / 256 ^ j % 256)) := fun j hj => by rw [← hS]; exact hB j hj
  have HB := Lib.hid hB'
  have hzS := Lib.hid zS
  change ∀ W : World, Calls Try.prog 81 #[.agg (nd (X % 57896044618658097711785492504343953926634992332820282019728792003956564819968))] W fun e w' => e = .returned (.agg R) ∧ Fr (fun _ => False) W w' at TI
  clear TS g15 zz hB hB' hR hS zS hX
  have K := (Kn.start w).new w.heap.size 16 #[.int .i64 0, .int .i64 0, .int .i64 0, .int .i64 0, .int .i64 0, .int .i64 0, .int .i64 0, .int .i64 0, .int .i64 0, .int .i64 0, .int .i64 0, .int .i64 0, .int .i64 0, .int .i64 0, .int .i64 0, .int .i64 0] 26 rfl rfl
  go_enter Try.func30, Try.ntmps30
  go_wp2_with (first
      | ((with_reducible refine wpList_new_kn K 26 _ _ _ _ #[.int .i64 0, .int .i64 0, .int .i64 0, .int .i64 0, .int .i64 0, .int .i64 0, .int .i64 0, .int .i64 0, .int .i64 0, .int .i64 0, .int .i64 0, .int .i64 0, .int .i64 0, .int .i64 0, .int .i64 0, .int .i64 0] 16 rfl Try.alN5 rfl ?_); intro gz wz Kz; clear K; have K := Kz; clear Kz; try (simp only [Act.put, List.setIfInBounds_toArray, List.set_cons_zero, List.set_cons_succ])))
  rw [← hzz.out] at K
  go_loopw [4] (fun c wr => ∃ k : Nat, k ≤ 16 ∧ c = .int .i64 k ∧ Kn w [⟨gz, 16, iq 16 (fpart X k), 26⟩, ⟨w.heap.size, 16, iq 16 (fpart X 0), 26⟩] wr) (fun c _ => 16 - (intOf c).toNat)
  case atStart => exact ⟨0, by omega, by simp, K⟩
  case round =>
    clear K
    obtain ⟨k, hk, rfl, K⟩ := hrel
    by_cases h16 : k < 16
    · as_aux_lemma =>
      have q0 : (0 : Int) ≤ (k : Int) := by omega
      have q1 : (k : Int) < 16 := by omega
      have i0 := fun W => run_index_str (P := Try.prog) Try.underlying9 (HB.out (2 * k) (by omega)) W
      have i1 := fun W => run_index_str (P := Try.prog) Try.underlying9 (HB.out (2 * k + 1) (by omega)) W
      have hd := dig_two X k
      have hst := fun z => fpart_step X k h16 z
      have x0 : X / 256 ^ (2 * k) % 256 < 256 := Nat.mod_lt _ (by decide)
      have x1 : X / 256 ^ (2 * k + 1) % 256 < 256 := Nat.mod_lt _ (by decide)
      have hor := or_i64 (X / 256 ^ (2 * k) % 256) (X / 256 ^ (2 * k + 1) % 256) x0 x1
      rw [← hd] at hor
      rw [tn] at i0 i1
      generalize X / 256 ^ (2 * k) % 256 = a at *
      generalize X / 256 ^ (2 * k + 1) % 256 = b at *
      generalize dig 65536 X k = d at *
      have m0 : (2 : Int) * (k : Int) = ((2 * k : Nat) : Int) := by omega
      have m1 : ((2 * k : Nat) : Int) + 1 = ((2 * k + 1 : Nat) : Int) := by omega
      have j0 : (0 : Int) ≤ ((2 * k : Nat) : Int) := by omega
      have j1 : ((2 * k : Nat) : Int) < 32 := by omega
      generalize 2 * k + 1 = m at *
      generalize 2 * k = n at *
      have HST := Lib.hid hst
      have y0 : (0 : Int) ≤ (a : Int) := by omega
      have y1 : (a : Int) < 256 := by omega
      have y2 : (0 : Int) ≤ (b : Int) := by omega
      have y3 : (b : Int) < 256 := by omega
      clear hst hd x0 x1 T15
      go_wp2_with fail
      refine wp_region_kn_tail K 15 [] (by kernel_rfl) (by kernel_rfl) mk_nil sz_nil ?_
      apply Exists.intro
      refine ⟨?wk5, ?fin5⟩
      case wk5 =>
        intro γ
  
        simp only [List.take_succ_cons, List.take_zero]
        repeat (any_goals (first | go_big_quiet_step (fail) | quiet_step (fail)))
        exact wpQuiet_nil rfl
      case fin5 =>
        intro gs wz Kz
        clear K
        have K := Kz
        clear Kz
        try simp only [mkAll, asObj, List.map_cons, List.map_nil, putAll, List.drop_succ_cons, List.drop_zero, List.length_cons, List.length_nil, Nat.zero_add, Nat.add_zero] at K ⊢
        try simp only [Act.put, List.setIfInBounds_toArray, List.set_cons_zero, List.set_cons_succ]

        go_wp2_with (first
          | (focus ((with_reducible refine' wpList_store1_kn K rfl 3 _ _ rfl 0 _ _ k _ _ .i64 (d : Int) rfl rfl Try.iI5 _ h16 _); rotate_left 2; (focus exact rfl); intro wz Kz; clear K; have K := Kz; clear Kz; simp only [List.set_cons_zero, List.set_cons_succ] at K; try (simp only [Act.put, List.setIfInBounds_toArray, List.set_cons_zero, List.set_cons_succ]))))

        rw [HST.out d rfl] at K
        go_roundw
        case rel => exact ⟨k + 1, by omega, by go_num, K⟩
        case measure => simp [intOf]; omega
    · as_aux_lemma =>
      obtain rfl : k = 16 := by omega
      rw [hFA.out] at K
      rw [show ((16 : Nat) : Int) = 16 from rfl]
      have c0 := K.cell 0 rfl 15 hg15.out
      have HTS := hTS.out
      have h15 : 15 < 16 := by omega
      generalize dig 65536 X 15 = z at *
      have hand := and_i64 z T15
      generalize z % 32768 = y at *
      have HTSh := Lib.hid HTS
      clear HTS
      go_wp2_with (first
          | (focus ((with_reducible refine' wpList_store1_kn K rfl 3 _ _ rfl 0 _ _ 15 _ _ .i64 (y : Int) rfl rfl Try.iI5 _ h15 _); rotate_left 2; (focus exact rfl); intro wz Kz; clear K; have K := Kz; clear Kz; simp only [List.set_cons_zero, List.set_cons_succ] at K; rw [HTSh.out] at K; try (simp only [Act.put, List.setIfInBounds_toArray, List.set_cons_zero, List.set_cons_succ])))
          | (focus (first | ((with_reducible refine' wpList_load_kn K rfl 26 (.tmp 3) rfl 0 _ _ _ _ rfl _ Try.underlying26 rfl Try.szN5 _ _); rotate_left 2; (focus exact rfl))))
          | (focus ((first | ((with_reducible refine' wpList_store_kn K rfl 26 (.tmp 2) _ rfl 1 _ _ _ _ _ rfl rfl Try.szN5 _ _ _); rotate_left 2; (focus exact rfl))); (focus assumption); intro wz Kz; clear K; have K := Kz; clear Kz; simp only [List.set_cons_zero, List.set_cons_succ] at K; try (simp only [Act.put, List.setIfInBounds_toArray, List.set_cons_zero, List.set_cons_succ])))
          | (go_at_call 81; (with_reducible refine Calls.kn K (TI _) ?_); intro wz Kz; clear K; have K := Kz; clear Kz))
      refine bodyPost_ret (results_kn K rfl _ 1 _ _ _ _ rfl _ Try.underlying26 rfl Try.szN5 rfl) rfl ?_
      exact ⟨rfl, K.fr⟩
end Go.Proofs.Ytahnlnflcgehaaa

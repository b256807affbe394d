/-
  The walk of the law ScalarSums, over what its callees answer.
-/
import Derived.Test.YtokpaejkdkjloaaSl
import Derived.Test.YtokpaejkdkjloaaKt
import Derived.Test.YtokpaejkdkjloaaLo
import Derived.Test.YtokpaejkdkjloaaSm
import Derived.Deep.RegionHeld3
import Derived.Deep.DeepCutAuto
namespace Go.Proofs.Ytokpaejkdkjloaa
open Go.RowKit
set_option linter.unusedVariables false

theorem Try.alloc6 : ∀ w, (Instr.alloc 78 true (.tuple #[])).run Try.prog w = .ok (.pointer (some ⟨w.heap.size, 0, none⟩)) (w.alloc (.cells #[.int .i64 0, .int .i64 0, .int .i64 0, .int .i64 0, .int .i64 0, .int .i64 0, .int .i64 0, .int .i64 0, .int .i64 0, .int .i64 0, .int .i64 0, .int .i64 0, .int .i64 0, .int .i64 0, .int .i64 0, .int .i64 0] 78)) := fun w => by kernel_rfl
set_option maxRecDepth 100000 in
set_option maxHeartbeats 100000000 in
theorem ssumsl (VM : List Value) (SM : ByteArray) (A B C D E F G H M N O S : Array Value) (w : World)
    (OFA : ∀ W : World, Calls Try.prog 57 #[.agg A] W fun e w' => e = .returned (.agg C) ∧ Fr (fun _ => False) W w')
    (OFB : ∀ W : World, Calls Try.prog 57 #[.agg B] W fun e w' => e = .returned (.agg D) ∧ Fr (fun _ => False) W w')
    (SY : ∀ W : World, Calls Try.prog 58 #[.agg A] W fun e w' => e = .returned (.agg VM.toArray) ∧ Fr (fun _ => False) W w')
    (OR : ∀ W : World, Calls Try.prog 59 #[] W fun e w' => e = .returned (.bool true) ∧ Fr (fun _ => False) W w')
    (AD : ∀ W : World, Calls Try.prog 61 #[.agg A, .agg B] W fun e w' => e = .returned (.agg S) ∧ Fr (fun _ => False) W w')
    (AE : ∀ W : World, Calls Try.prog 62 #[.agg C, .agg D] W fun e w' => e = .returned (.agg E) ∧ Fr (fun _ => False) W w')
    (S1 : ∀ W : World, Calls Try.prog 60 #[.agg S, .agg E] W fun e w' => e = .returned (.bool true) ∧ Fr (fun _ => False) W w')
    (MU : ∀ W : World, Calls Try.prog 63 #[.agg A, .agg B] W fun e w' => e = .returned (.agg M) ∧ Fr (fun _ => False) W w')
    (MF : ∀ W : World, Calls Try.prog 64 #[.agg C, .agg D] W fun e w' => e = .returned (.agg F) ∧ Fr (fun _ => False) W w')
    (S2 : ∀ W : World, Calls Try.prog 60 #[.agg M, .agg F] W fun e w' => e = .returned (.bool true) ∧ Fr (fun _ => False) W w')
    (NE : ∀ W : World, Calls Try.prog 65 #[.agg A] W fun e w' => e = .returned (.agg N) ∧ Fr (fun _ => False) W w')
    (NG : ∀ W : World, Calls Try.prog 66 #[.agg C] W fun e w' => e = .returned (.agg G) ∧ Fr (fun _ => False) W w')
    (S3 : ∀ W : World, Calls Try.prog 60 #[.agg N, .agg G] W fun e w' => e = .returned (.bool true) ∧ Fr (fun _ => False) W w')
    (BY : ∀ W : World, Calls Try.prog 67 #[.agg C] W fun e w' => e = .returned (.string SM) ∧ Fr (fun _ => False) W w')
    (OD : ∀ W : World, Calls Try.prog 68 #[] W fun e w' => e = .returned (.agg O) ∧ Fr (fun _ => False) W w')
    (LH : ∀ W : World, Calls Try.prog 69 #[] W fun e w' => e = .returned (.agg H) ∧ Fr (fun _ => False) W w')
    (S4 : ∀ W : World, Calls Try.prog 60 #[.agg O, .agg H] W fun e w' => e = .returned (.bool true) ∧ Fr (fun _ => False) W w')
    (str : ∀ (b : Nat) (W : World), W.heap[b]? = some (.cells VM.toArray 36 (0, 0)) → (convert 40 9 (.slice (some ⟨b, 0, none⟩) 32 32)).run Try.prog W = .ok (.string SM) W)
    (hb : VM.length = 32) (oneB : ∀ v ∈ VM, v.oneCell' = true) (zA : A.size = 4) (zB : B.size = 4) (zC : C.size = 16) (zD : D.size = 16) (oneC : C.all (·.oneCell') = true) (oneD : D.all (·.oneCell') = true) :
    Calls Try.prog 12 #[.agg A, .agg B] w fun e w' => e = .returned (.bool true) ∧ Fr (fun _ => False) w w' := by
  have sA : (Try.prog.info? 77).map (·.size) = some A.size := by rw [zA]; kernel_rfl
  have sB : (Try.prog.info? 77).map (·.size) = some B.size := by rw [zB]; kernel_rfl
  have sC : (Try.prog.info? 78).map (·.size) = some C.size := by rw [zC]; kernel_rfl
  have sD : (Try.prog.info? 78).map (·.size) = some D.size := by rw [zD]; kernel_rfl
  have zC' : (#[.int .i64 0, .int .i64 0, .int .i64 0, .int .i64 0, .int .i64 0, .int .i64 0, .int .i64 0, .int .i64 0, .int .i64 0, .int .i64 0, .int .i64 0, .int .i64 0, .int .i64 0, .int .i64 0, .int .i64 0, .int .i64 0] : Array Value).size = C.size := by rw [zC]; rfl
  have zD' : (#[.int .i64 0, .int .i64 0, .int .i64 0, .int .i64 0, .int .i64 0, .int .i64 0, .int .i64 0, .int .i64 0, .int .i64 0, .int .i64 0, .int .i64 0, .int .i64 0, .int .i64 0, .int .i64 0, .int .i64 0, .int .i64 0] : Array Value).size = D.size := by rw [zD]; rfl
  have HA := Lib.hid (heap_alloc2_old w (.cells A 77) (.cells B 77))
  have HB := Lib.hid (heap_alloc2_new w (.cells A 77) (.cells B 77))
  have HF := Lib.hid ((((Fr.refl (fun _ => False) w).alloc (.cells A 77)).alloc (.cells B 77)))
  have HSTR := Lib.hid str
  clear str zA zB zC zD
  go_enter Try.func12, Try.ntmps12
  go_upto_region 1 with fail
  go_cut [5, 6] (fun s5 s6 wx => ∃ g5 g6 : Nat, s5 = .pointer (some ⟨g5, 0, none⟩) ∧ s6 = .pointer (some ⟨g6, 0, none⟩) ∧ wx.heap[g5]? = some (.cells C 78 (0, 0)) ∧ wx.heap[g6]? = some (.cells D 78 (0, 0)) ∧ wx.heap[w.heap.size]? = some (.cells A 77 (0, 0)) ∧ wx.heap[w.heap.size + 1]? = some (.cells B 77 (0, 0)) ∧ Fr (fun _ => False) w wx)
  case first =>
    refine wp_region_tail 4 [(5, .cells #[.int .i64 0, .int .i64 0, .int .i64 0, .int .i64 0, .int .i64 0, .int .i64 0, .int .i64 0, .int .i64 0, .int .i64 0, .int .i64 0, .int .i64 0, .int .i64 0, .int .i64 0, .int .i64 0, .int .i64 0, .int .i64 0] 78), (6, .cells #[.int .i64 0, .int .i64 0, .int .i64 0, .int .i64 0, .int .i64 0, .int .i64 0, .int .i64 0, .int .i64 0, .int .i64 0, .int .i64 0, .int .i64 0, .int .i64 0, .int .i64 0, .int .i64 0, .int .i64 0, .int .i64 0] 78)] (by kernel_rfl) (by kernel_rfl) (mk_two ⟨_, rfl, makes_alloc _ _ _ _ _ _ Try.alloc6⟩ ⟨_, rfl, makes_alloc _ _ _ _ _ _ Try.alloc6⟩) ?_
    apply Exists.intro
    refine ⟨?wk, ?fin⟩
    case wk =>
      intro γ
      simp only [List.take_succ_cons, List.take_zero]
      repeat (any_goals (first | (go_big_quiet_want; (with_reducible refine quiet_load_rowg 77 (.tmp 2) rfl w.heap.size rfl 77 A (0, 0) _ HA.out Try.underlying77 rfl sA ?_); simp only [Act.put, List.setIfInBounds_toArray, List.set_cons_zero, List.set_cons_succ]; go_big_quiet_on) | (go_big_quiet_want; (with_reducible refine quiet_load_rowg 77 (.tmp 3) rfl (w.heap.size + 1) rfl 77 B (0, 0) _ HB.out Try.underlying77 rfl sB ?_); simp only [Act.put, List.setIfInBounds_toArray, List.set_cons_zero, List.set_cons_succ]; go_big_quiet_on) | go_big_quiet_step (((first | (go_at_call 57; with_reducible exact Calls.keepg (OFA _)) | (go_at_call 57; with_reducible exact Calls.keepg (OFB _))))) | quiet_step (((first | (go_at_call 57; with_reducible exact Calls.keepg (OFA _)) | (go_at_call 57; with_reducible exact Calls.keepg (OFB _)))))))
      exact wpQuiet_nil rfl
    case fin =>
      intro gs wx hF hg hne
      obtain ⟨l5, h5⟩ := hg 0 _ rfl
      obtain ⟨l6, h6⟩ := hg 1 _ rfl
      have hn : gs 0 ≠ gs 1 := hne 0 1 (by decide) (by decide) (by decide)
      simp only [putAll, List.drop_succ_cons, List.drop_zero, List.length_cons, List.length_nil, Nat.zero_add]
      simp only [Act.put, List.setIfInBounds_toArray, List.set_cons_zero, List.set_cons_succ]
      generalize gs 1 = g6 at *
      generalize gs 0 = g5 at *
      have F1 : Fr (fun _ => False) ((w.alloc (.cells A 77)).alloc (.cells B 77)) (wx.setRow g5 C) := hF.trans (Fr.setRow (S := fun k => k = g5) (Fr.refl _ wx) rfl C) (fun i hi => Or.inr (by omega))
      have F2 : Fr (fun _ => False) ((w.alloc (.cells A 77)).alloc (.cells B 77)) ((wx.setRow g5 C).setRow g6 D) := F1.trans (Fr.setRow (S := fun k => k = g6) (Fr.refl _ _) rfl D) (fun i hi => Or.inr (by omega))
      have k6 := (setRow_other wx g5 g6 C (fun e => hn e.symm)).trans h6
      have k5 := setRow_heap _ _ _ C _ _ h5
      have m5 := (setRow_other (wx.setRow g5 C) g6 g5 D hn).trans k5
      have m6 := setRow_heap _ _ _ D _ _ k6
      have M5 := Lib.hid m5
      have M6 := Lib.hid m6
      have HF2 := Lib.hid F2
      clear hF l5 l6 hne hg F1 F2 k5 m5 m6
      go_wp2_with (first
        | (with_reducible refine wpList_store_row rfl 78 (.tmp 5) (.tmp 9) rfl g5 C rfl rfl 78 #[.int .i64 0, .int .i64 0, .int .i64 0, .int .i64 0, .int .i64 0, .int .i64 0, .int .i64 0, .int .i64 0, .int .i64 0, .int .i64 0, .int .i64 0, .int .i64 0, .int .i64 0, .int .i64 0, .int .i64 0, .int .i64 0] h5 sC zC' oneC ?_)
        | (with_reducible refine wpList_store_row rfl 78 (.tmp 6) (.tmp 11) rfl g6 D rfl rfl 78 #[.int .i64 0, .int .i64 0, .int .i64 0, .int .i64 0, .int .i64 0, .int .i64 0, .int .i64 0, .int .i64 0, .int .i64 0, .int .i64 0, .int .i64 0, .int .i64 0, .int .i64 0, .int .i64 0, .int .i64 0, .int .i64 0] k6 sD zD' oneD ?_))
      go_meet
      exact ⟨g5, g6, rfl, rfl, M5.out, M6.out, HF2.out.keepM HA.out, HF2.out.keepM HB.out, HF.out.trans HF2.out (fun _ h => h.elim)⟩
  case rest =>
    obtain ⟨g5, g6, rfl, rfl, G5, G6, A1, B1, F1⟩ := hcut
    clear HA HB HF
    go_wp2_with (with_reducible refine wpList_load_row rfl 77 (.tmp 2) rfl w.heap.size rfl 77 A (0, 0) _ A1 Try.underlying77 rfl sA ?_)
    refine (SY _).mono ?_
    rintro e w1 ⟨rfl, F2⟩
    have K9 := heap_alloc_new w1 (.cells #[.int .u8 0, .int .u8 0, .int .u8 0, .int .u8 0, .int .u8 0, .int .u8 0, .int .u8 0, .int .u8 0, .int .u8 0, .int .u8 0, .int .u8 0, .int .u8 0, .int .u8 0, .int .u8 0, .int .u8 0, .int .u8 0, .int .u8 0, .int .u8 0, .int .u8 0, .int .u8 0, .int .u8 0, .int .u8 0, .int .u8 0, .int .u8 0, .int .u8 0, .int .u8 0, .int .u8 0, .int .u8 0, .int .u8 0, .int .u8 0, .int .u8 0, .int .u8 0] 36)
    have s32 : (Try.prog.info? 36).map (·.size) = some VM.toArray.size := by rw [show VM.toArray.size = 32 by simpa using hb]; kernel_rfl
    have s1 : (#[.int .u8 0, .int .u8 0, .int .u8 0, .int .u8 0, .int .u8 0, .int .u8 0, .int .u8 0, .int .u8 0, .int .u8 0, .int .u8 0, .int .u8 0, .int .u8 0, .int .u8 0, .int .u8 0, .int .u8 0, .int .u8 0, .int .u8 0, .int .u8 0, .int .u8 0, .int .u8 0, .int .u8 0, .int .u8 0, .int .u8 0, .int .u8 0, .int .u8 0, .int .u8 0, .int .u8 0, .int .u8 0, .int .u8 0, .int .u8 0, .int .u8 0, .int .u8 0] : Array Value).size = VM.toArray.size := by rw [show VM.toArray.size = 32 by simpa using hb]; rfl
    have oneA2 : VM.toArray.all (·.oneCell') = true := by rw [List.all_toArray, List.all_eq_true]; exact oneB
    have FA : Fr (fun _ => False) w1 ((w1.alloc (.cells #[.int .u8 0, .int .u8 0, .int .u8 0, .int .u8 0, .int .u8 0, .int .u8 0, .int .u8 0, .int .u8 0, .int .u8 0, .int .u8 0, .int .u8 0, .int .u8 0, .int .u8 0, .int .u8 0, .int .u8 0, .int .u8 0, .int .u8 0, .int .u8 0, .int .u8 0, .int .u8 0, .int .u8 0, .int .u8 0, .int .u8 0, .int .u8 0, .int .u8 0, .int .u8 0, .int .u8 0, .int .u8 0, .int .u8 0, .int .u8 0, .int .u8 0, .int .u8 0] 36)).setRow w1.heap.size VM.toArray) := ((Fr.refl _ w1).alloc _).trans (Fr.setRow (S := fun k => k = w1.heap.size) (Fr.refl _ _) rfl _) (fun i hi => Or.inr (by omega))
    have KA := setRow_heap _ _ _ VM.toArray _ _ K9
    go_wp2_with (with_reducible refine wpList_store_row rfl 36 (.tmp 7) (.tmp 13) rfl w1.heap.size VM.toArray rfl rfl 36 #[.int .u8 0, .int .u8 0, .int .u8 0, .int .u8 0, .int .u8 0, .int .u8 0, .int .u8 0, .int .u8 0, .int .u8 0, .int .u8 0, .int .u8 0, .int .u8 0, .int .u8 0, .int .u8 0, .int .u8 0, .int .u8 0, .int .u8 0, .int .u8 0, .int .u8 0, .int .u8 0, .int .u8 0, .int .u8 0, .int .u8 0, .int .u8 0, .int .u8 0, .int .u8 0, .int .u8 0, .int .u8 0, .int .u8 0, .int .u8 0, .int .u8 0, .int .u8 0] K9 s32 s1 oneA2 ?_)
    have FA := F2.trans FA (fun _ h => h.elim)
    have FG := F1.trans FA (fun _ h => h.elim)
    have H5 := Lib.hid (FA.keepM G5)
    have H6 := Lib.hid (FA.keepM G6)
    have H7 := Lib.hid (FA.keepM A1)
    have H8 := Lib.hid (FA.keepM B1)
    have H9 := Lib.hid KA
    have HG := Lib.hid FG
    clear FA FG F1 F2 G5 G6 A1 B1 K9 KA s32 s1 oneA2
    generalize hVb : w1.heap.size = Vb at *
    generalize (w1.alloc (.cells #[.int .u8 0, .int .u8 0, .int .u8 0, .int .u8 0, .int .u8 0, .int .u8 0, .int .u8 0, .int .u8 0, .int .u8 0, .int .u8 0, .int .u8 0, .int .u8 0, .int .u8 0, .int .u8 0, .int .u8 0, .int .u8 0, .int .u8 0, .int .u8 0, .int .u8 0, .int .u8 0, .int .u8 0, .int .u8 0, .int .u8 0, .int .u8 0, .int .u8 0, .int .u8 0, .int .u8 0, .int .u8 0, .int .u8 0, .int .u8 0, .int .u8 0, .int .u8 0] 36)).setRow Vb VM.toArray = W0 at *
    have l2 : ∀ y : Wd W0, (convert 40 9 (.slice (some ⟨Vb, 0, none⟩) 32 32)).run Try.prog y.w = .ok (.string SM) y.w := fun y => HSTR.out Vb y.w (y.blk H9.out)
    refine wp_region_keep (by kernel_rfl) (by kernel_rfl) ?_
    repeat (any_goals (first | (go_big_quiet_want; (with_reducible refine quiet_load_row 77 (.tmp 2) rfl w.heap.size rfl 77 A (0, 0) _ H7.out Try.underlying77 rfl sA ?_); simp only [Act.put, List.setIfInBounds_toArray, List.set_cons_zero, List.set_cons_succ]; go_big_quiet_on) | (go_big_quiet_want; (with_reducible refine quiet_load_row 77 (.tmp 3) rfl (w.heap.size + 1) rfl 77 B (0, 0) _ H8.out Try.underlying77 rfl sB ?_); simp only [Act.put, List.setIfInBounds_toArray, List.set_cons_zero, List.set_cons_succ]; go_big_quiet_on) | (go_big_quiet_want; (with_reducible refine quiet_load_row 78 (.tmp 5) rfl g5 rfl 78 C (0, 0) _ H5.out Try.underlying78 rfl sC ?_); simp only [Act.put, List.setIfInBounds_toArray, List.set_cons_zero, List.set_cons_succ]; go_big_quiet_on) | (go_big_quiet_want; (with_reducible refine quiet_load_row 78 (.tmp 6) rfl g6 rfl 78 D (0, 0) _ H6.out Try.underlying78 rfl sD ?_); simp only [Act.put, List.setIfInBounds_toArray, List.set_cons_zero, List.set_cons_succ]; go_big_quiet_on) | go_big_quiet_step (((first | (go_at_call 59; with_reducible exact Calls.keep (OR _)) | (go_at_call 61; with_reducible exact Calls.keep (AD _)) | (go_at_call 62; with_reducible exact Calls.keep (AE _)) | (go_at_call 60; with_reducible exact Calls.keep (S1 _)) | (go_at_call 63; with_reducible exact Calls.keep (MU _)) | (go_at_call 64; with_reducible exact Calls.keep (MF _)) | (go_at_call 60; with_reducible exact Calls.keep (S2 _)) | (go_at_call 65; with_reducible exact Calls.keep (NE _)) | (go_at_call 66; with_reducible exact Calls.keep (NG _)) | (go_at_call 60; with_reducible exact Calls.keep (S3 _)) | (go_at_call 67; with_reducible exact Calls.keep (BY _)) | (go_at_call 68; with_reducible exact Calls.keep (OD _)) | (go_at_call 69; with_reducible exact Calls.keep (LH _)) | (go_at_call 60; with_reducible exact Calls.keep (S4 _))))) | quiet_step (((first | (go_at_call 59; with_reducible exact Calls.keep (OR _)) | (go_at_call 61; with_reducible exact Calls.keep (AD _)) | (go_at_call 62; with_reducible exact Calls.keep (AE _)) | (go_at_call 60; with_reducible exact Calls.keep (S1 _)) | (go_at_call 63; with_reducible exact Calls.keep (MU _)) | (go_at_call 64; with_reducible exact Calls.keep (MF _)) | (go_at_call 60; with_reducible exact Calls.keep (S2 _)) | (go_at_call 65; with_reducible exact Calls.keep (NE _)) | (go_at_call 66; with_reducible exact Calls.keep (NG _)) | (go_at_call 60; with_reducible exact Calls.keep (S3 _)) | (go_at_call 67; with_reducible exact Calls.keep (BY _)) | (go_at_call 68; with_reducible exact Calls.keep (OD _)) | (go_at_call 69; with_reducible exact Calls.keep (LH _)) | (go_at_call 60; with_reducible exact Calls.keep (S4 _)))))))
    refine wpQuiet_nil ?_
    intro _ hw'
    obtain ⟨y, rfl⟩ := hw'
    go_wp2
    go_ret
    exact ⟨rfl, HG.out.trans y.h (fun _ h => h.elim)⟩
end Go.Proofs.Ytokpaejkdkjloaa

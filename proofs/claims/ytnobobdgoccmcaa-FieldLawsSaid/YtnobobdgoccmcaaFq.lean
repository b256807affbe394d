/-
  The walk of the law FieldPowers, over what its callees answer.
-/
import Derived.Test.YtnobobdgoccmcaaFl
import Derived.Test.YtnobobdgoccmcaaVj
namespace Go.Proofs.Ytnobobdgoccmcaa
open Go.RowKit Pri
set_option linter.unusedVariables false

set_option maxRecDepth 100000 in
set_option maxHeartbeats 100000000 in
theorem fpowsl (A B C V Q E T E2 M : Array Value) (z : Bool) (w : World)
    (OFA : ∀ W : World, Calls Try.prog 14 #[.agg A] W fun e w' => e = .returned (.agg C) ∧ Fr (fun _ => False) W w')
    (IN : ∀ W : World, Calls Try.prog 33 #[.agg A] W fun e w' => e = .returned (.agg V) ∧ Fr (fun _ => False) W w')
    (HV : ∀ W : World, Calls Try.prog 15 #[] W fun e w' => e = .returned (.bool true) ∧ Fr (fun _ => False) W w')
    (PO : ∀ W : World, Calls Try.prog 34 #[.agg A, .agg B] W fun e w' => e = .returned (.agg Q) ∧ Fr (fun _ => False) W w')
    (PE : ∀ W : World, Calls Try.prog 35 #[.agg C, .agg B] W fun e w' => e = .returned (.agg E) ∧ Fr (fun _ => False) W w')
    (S1 : ∀ W : World, Calls Try.prog 16 #[.agg Q, .agg E] W fun e w' => e = .returned (.bool true) ∧ Fr (fun _ => False) W w')
    (IE : ∀ W : World, Calls Try.prog 36 #[.agg C] W fun e w' => e = .returned (.agg E2) ∧ Fr (fun _ => False) W w')
    (S2 : ∀ W : World, Calls Try.prog 16 #[.agg V, .agg E2] W fun e w' => e = .returned (.bool true) ∧ Fr (fun _ => False) W w')
    (MU : ∀ W : World, Calls Try.prog 22 #[.agg A, .agg V] W fun e w' => e = .returned (.agg M) ∧ Fr (fun _ => False) W w')
    (EQ : ∀ W : World, (binOp .eql 26 (.agg C) (.agg #[.int .i64 0, .int .i64 0, .int .i64 0, .int .i64 0, .int .i64 0, .int .i64 0, .int .i64 0, .int .i64 0, .int .i64 0, .int .i64 0, .int .i64 0, .int .i64 0, .int .i64 0, .int .i64 0, .int .i64 0, .int .i64 0])).run Try.prog W = .ok (.bool z) W)
    (EM : ∀ W : World, (binOp .eql 24 (.agg M) (.agg (if z = true then #[.int .u64 0, .int .u64 0, .int .u64 0, .int .u64 0] else #[.int .u64 1, .int .u64 0, .int .u64 0, .int .u64 0]))).run Try.prog W = .ok (.bool true) W)
    (zA : A.size = 4) (zB : B.size = 4) (zC : C.size = 16) (zV : V.size = 4) (oneC : C.all (·.oneCell') = true) (oneV : V.all (·.oneCell') = true) :
    Calls Try.prog 5 #[.agg A, .agg B] w fun e w' => e = .returned (.bool true) ∧ Fr (fun _ => False) w w' := by
  have sA : (Try.prog.info? 24).map (·.size) = some A.size := by rw [zA]; kernel_rfl
  have sB : (Try.prog.info? 23).map (·.size) = some B.size := by rw [zB]; kernel_rfl
  have sC : (Try.prog.info? 26).map (·.size) = some C.size := by rw [zC]; kernel_rfl
  have sV : (Try.prog.info? 24).map (·.size) = some V.size := by rw [zV]; kernel_rfl
  have zC' : (#[.int .i64 0, .int .i64 0, .int .i64 0, .int .i64 0, .int .i64 0, .int .i64 0, .int .i64 0, .int .i64 0, .int .i64 0, .int .i64 0, .int .i64 0, .int .i64 0, .int .i64 0, .int .i64 0, .int .i64 0, .int .i64 0] : Array Value).size = C.size := by rw [zC]; rfl
  have zV' : (#[.int .u64 0, .int .u64 0, .int .u64 0, .int .u64 0] : Array Value).size = V.size := by rw [zV]; rfl
  have A0 := heap_alloc2_old w (.cells A 24) (.cells B 23)
  have B0 := heap_alloc2_new w (.cells A 24) (.cells B 23)
  have F0 := (((Fr.refl (fun _ => False) w).alloc (.cells A 24)).alloc (.cells B 23))
  have EG := Try.guardNum5
  have EG2 := Try.guardElem
  clear zA zB zC
  go_enter Try.func5, Try.ntmps5
  go_wp2_with (with_reducible refine wpList_load_row rfl 24 (.tmp 2) rfl w.heap.size rfl 24 A (0, 0) _ A0 Try.underlying24 rfl sA ?_)
  refine (OFA _).mono ?_
  rintro e w1 ⟨rfl, F1⟩
  have A1 := F1.keep A0
  have B1 := F1.keep B0
  have G1 := F0.trans F1 (fun _ h => h.elim)
  have K0 := heap_alloc_new w1 (.cells #[.int .i64 0, .int .i64 0, .int .i64 0, .int .i64 0, .int .i64 0, .int .i64 0, .int .i64 0, .int .i64 0, .int .i64 0, .int .i64 0, .int .i64 0, .int .i64 0, .int .i64 0, .int .i64 0, .int .i64 0, .int .i64 0] 26)
  have F4 : Fr (fun _ => False) w1 ((w1.alloc (.cells #[.int .i64 0, .int .i64 0, .int .i64 0, .int .i64 0, .int .i64 0, .int .i64 0, .int .i64 0, .int .i64 0, .int .i64 0, .int .i64 0, .int .i64 0, .int .i64 0, .int .i64 0, .int .i64 0, .int .i64 0, .int .i64 0] 26)).setRow w1.heap.size C) := ((Fr.refl _ w1).alloc _).trans (Fr.setRow (S := fun k => k = w1.heap.size) (Fr.refl _ _) rfl _) (fun i hi => Or.inr (by have : i = w1.heap.size := hi; omega))
  have A4 := F4.keep A1
  have B4 := F4.keep B1
  have C4 := setRow_heap _ _ _ C _ _ K0
  have G4 := G1.trans F4 (fun _ h => h.elim)
  have HB4 := Lib.hid B4
  have HC4 := Lib.hid C4
  have HG4 := Lib.hid G4
  clear A0 B0 F0 F1 A1 B1 G1 F4 B4 C4 G4 OFA
  go_wp2_with (first
    | (with_reducible refine wpList_store_row rfl 26 (.tmp 5) (.tmp 9) rfl w1.heap.size C rfl rfl 26 _ K0 sC zC' oneC ?_)
    | (with_reducible refine wpList_load_row rfl 24 (.tmp 2) rfl w.heap.size rfl 24 A (0, 0) _ A4 Try.underlying24 rfl sA ?_))
  have B4 := HB4.out
  have C4 := HC4.out
  have G4 := HG4.out
  clear HB4 HC4 HG4 K0
  generalize w1.heap.size = g5 at *
  generalize (w1.alloc (.cells #[.int .i64 0, .int .i64 0, .int .i64 0, .int .i64 0, .int .i64 0, .int .i64 0, .int .i64 0, .int .i64 0, .int .i64 0, .int .i64 0, .int .i64 0, .int .i64 0, .int .i64 0, .int .i64 0, .int .i64 0, .int .i64 0] 26)).setRow g5 C = w2 at *
  refine (IN _).mono ?_
  rintro e w3 ⟨rfl, F3⟩
  have A5 := F3.keep A4
  have B5 := F3.keep B4
  have C5 := F3.keep C4
  have G5 := G4.trans F3 (fun _ h => h.elim)
  have K0 := heap_alloc_new w3 (.cells #[.int .u64 0, .int .u64 0, .int .u64 0, .int .u64 0] 24)
  have lA := lt_of_block A5
  have lB := lt_of_block B5
  have lC := lt_of_block C5
  have sz3 : ((w3.alloc (.cells #[.int .u64 0, .int .u64 0, .int .u64 0, .int .u64 0] 24)).setRow w3.heap.size V).heap.size = w3.heap.size + 1 := by simp
  have F6 : Fr (fun _ => False) w3 ((w3.alloc (.cells #[.int .u64 0, .int .u64 0, .int .u64 0, .int .u64 0] 24)).setRow w3.heap.size V) := ((Fr.refl _ w3).alloc _).trans (Fr.setRow (S := fun k => k = w3.heap.size) (Fr.refl _ _) rfl _) (fun i hi => Or.inr (by have : i = w3.heap.size := hi; omega))
  have F7 := F6.alloc (.cells #[.int .u64 1, .int .u64 0, .int .u64 0, .int .u64 0] 24)
  have E7 := (Fr.refl (fun _ => False) ((w3.alloc (.cells #[.int .u64 0, .int .u64 0, .int .u64 0, .int .u64 0] 24)).setRow w3.heap.size V)).alloc (.cells #[.int .u64 1, .int .u64 0, .int .u64 0, .int .u64 0] 24)
  have O7 := heap_alloc_new ((w3.alloc (.cells #[.int .u64 0, .int .u64 0, .int .u64 0, .int .u64 0] 24)).setRow w3.heap.size V) (.cells #[.int .u64 1, .int .u64 0, .int .u64 0, .int .u64 0] 24)
  rw [sz3] at O7
  have V7 := E7.keep (setRow_heap _ _ _ V _ _ K0)
  have HA7 := Lib.hid (F7.keep A5)
  have HB7 := Lib.hid (F7.keep B5)
  have C7 := F7.keep C5
  have HV7 := Lib.hid V7
  have HG7 := Lib.hid (G5.trans F7 (fun _ h => h.elim))
  have HO7 := Lib.hid O7
  clear A4 B4 C4 G4 F3 A5 B5 C5 G5 F6 F7 E7 O7 V7 IN sz3
  cases z with
  | true =>
    have s74 : (Try.prog.info? 24).map (·.size) = some (#[.int .u64 0, .int .u64 0, .int .u64 0, .int .u64 0] : Array Value).size := by kernel_rfl
    have z74 : (#[.int .u64 1, .int .u64 0, .int .u64 0, .int .u64 0] : Array Value).size = (#[.int .u64 0, .int .u64 0, .int .u64 0, .int .u64 0] : Array Value).size := rfl
    have o74 : (#[.int .u64 0, .int .u64 0, .int .u64 0, .int .u64 0] : Array Value).all (·.oneCell') = true := by simp [Value.oneCell']
    have F8 : Fr (fun k => k = w3.heap.size + 1) (((w3.alloc (.cells #[.int .u64 0, .int .u64 0, .int .u64 0, .int .u64 0] 24)).setRow w3.heap.size V).alloc (.cells #[.int .u64 1, .int .u64 0, .int .u64 0, .int .u64 0] 24)) ((((w3.alloc (.cells #[.int .u64 0, .int .u64 0, .int .u64 0, .int .u64 0] 24)).setRow w3.heap.size V).alloc (.cells #[.int .u64 1, .int .u64 0, .int .u64 0, .int .u64 0] 24)).setRow (w3.heap.size + 1) #[.int .u64 0, .int .u64 0, .int .u64 0, .int .u64 0]) := Fr.setRow (S := fun k => k = w3.heap.size + 1) (Fr.refl _ _) rfl _
    have bA := lt_of_block HA7.out
    have HA := Lib.hid ((F8.block _ (lt_of_block HA7.out) (by show w.heap.size ≠ w3.heap.size + 1; omega)).trans HA7.out)
    have HB := Lib.hid ((F8.block _ (lt_of_block HB7.out) (by show w.heap.size + 1 ≠ w3.heap.size + 1; omega)).trans HB7.out)
    have HC := Lib.hid ((F8.block _ (lt_of_block C7) (by show g5 ≠ w3.heap.size + 1; omega)).trans C7)
    have HI := Lib.hid ((F8.block _ (lt_of_block HV7.out) (by show w3.heap.size ≠ w3.heap.size + 1; omega)).trans HV7.out)
    have HO := Lib.hid (setRow_heap _ _ _ #[.int .u64 0, .int .u64 0, .int .u64 0, .int .u64 0] _ _ HO7.out)
    have HG := Lib.hid (HG7.out.trans F8 (fun i hi => Or.inr (by have : i = w3.heap.size + 1 := hi; omega)))
    clear F8
    have EM := fun W => EM W
    rw [if_pos rfl] at EM
    go_wp2_with (first
      | (with_reducible refine wpList_store_row rfl 24 (.tmp 6) (.tmp 11) rfl w3.heap.size V rfl rfl 24 _ K0 sV zV' oneV ?_)
      | (with_reducible refine wpList_load_row rfl 26 (.tmp 5) rfl g5 rfl 26 C (0, 0) _ C7 Try.underlying26 rfl sC ?_)
      | (with_reducible refine wpList_store_row rfl 24 (.tmp 7) (.tmp 16) rfl (w3.heap.size + 1) #[.int .u64 0, .int .u64 0, .int .u64 0, .int .u64 0] rfl rfl 24 #[.int .u64 1, .int .u64 0, .int .u64 0, .int .u64 0] HO7.out s74 z74 o74 ?_))
    have sO : (Try.prog.info? 24).map (·.size) = some (#[.int .u64 0, .int .u64 0, .int .u64 0, .int .u64 0] : Array Value).size := by kernel_rfl
    clear HA7 HB7 HV7 HG7 HO7 C7 K0
    generalize w3.heap.size = g6 at *
    generalize (((w3.alloc (.cells #[.int .u64 0, .int .u64 0, .int .u64 0, .int .u64 0] 24)).setRow g6 V).alloc (.cells #[.int .u64 1, .int .u64 0, .int .u64 0, .int .u64 0] 24)).setRow (g6 + 1) #[.int .u64 0, .int .u64 0, .int .u64 0, .int .u64 0] = W0 at *
    refine wp_region_keep (by kernel_rfl) (by kernel_rfl) ?_
    repeat (any_goals (first | (go_big_quiet_want; (with_reducible refine quiet_load_row 24 (.tmp 2) rfl w.heap.size rfl 24 A (0, 0) _ HA.out Try.underlying24 rfl sA ?_); simp only [Act.put, List.setIfInBounds_toArray, List.set_cons_zero, List.set_cons_succ]; go_big_quiet_on) | (go_big_quiet_want; (with_reducible refine quiet_load_row 23 (.tmp 3) rfl (w.heap.size + 1) rfl 23 B (0, 0) _ HB.out Try.underlying23 rfl sB ?_); simp only [Act.put, List.setIfInBounds_toArray, List.set_cons_zero, List.set_cons_succ]; go_big_quiet_on) | (go_big_quiet_want; (with_reducible refine quiet_load_row 26 (.tmp 5) rfl g5 rfl 26 C (0, 0) _ HC.out Try.underlying26 rfl sC ?_); simp only [Act.put, List.setIfInBounds_toArray, List.set_cons_zero, List.set_cons_succ]; go_big_quiet_on) | (go_big_quiet_want; (with_reducible refine quiet_load_row 24 (.tmp 6) rfl g6 rfl 24 V (0, 0) _ HI.out Try.underlying24 rfl sV ?_); simp only [Act.put, List.setIfInBounds_toArray, List.set_cons_zero, List.set_cons_succ]; go_big_quiet_on) | (go_big_quiet_want; (with_reducible refine quiet_load_row 24 (.tmp 7) rfl (g6 + 1) rfl 24 #[.int .u64 0, .int .u64 0, .int .u64 0, .int .u64 0] (0, 0) _ HO.out Try.underlying24 rfl sO ?_); simp only [Act.put, List.setIfInBounds_toArray, List.set_cons_zero, List.set_cons_succ]; go_big_quiet_on) | go_big_quiet_step (((first | (go_at_call 15; with_reducible exact Calls.keep (HV _)) | (go_at_call 34; with_reducible exact Calls.keep (PO _)) | (go_at_call 35; with_reducible exact Calls.keep (PE _)) | (go_at_call 16; with_reducible exact Calls.keep (S1 _)) | (go_at_call 36; with_reducible exact Calls.keep (IE _)) | (go_at_call 16; with_reducible exact Calls.keep (S2 _)) | (go_at_call 22; with_reducible exact Calls.keep (MU _))))) | quiet_step (((first | (go_at_call 15; with_reducible exact Calls.keep (HV _)) | (go_at_call 34; with_reducible exact Calls.keep (PO _)) | (go_at_call 35; with_reducible exact Calls.keep (PE _)) | (go_at_call 16; with_reducible exact Calls.keep (S1 _)) | (go_at_call 36; with_reducible exact Calls.keep (IE _)) | (go_at_call 16; with_reducible exact Calls.keep (S2 _)) | (go_at_call 22; with_reducible exact Calls.keep (MU _)))))))
    refine wpQuiet_nil ?_
    intro _ hw'
    obtain ⟨y, rfl⟩ := hw'
    go_wp2
    go_ret
    exact ⟨rfl, HG.out.trans y.h (fun _ h => h.elim)⟩
  | false =>
    have HA := HA7
    have HB := HB7
    have HC := Lib.hid C7
    have HI := HV7
    have HO := HO7
    have HG := HG7
    have EM := fun W => EM W
    rw [if_neg (by decide)] at EM
    go_wp2_with (first
      | (with_reducible refine wpList_store_row rfl 24 (.tmp 6) (.tmp 11) rfl w3.heap.size V rfl rfl 24 _ K0 sV zV' oneV ?_)
      | (with_reducible refine wpList_load_row rfl 26 (.tmp 5) rfl g5 rfl 26 C (0, 0) _ C7 Try.underlying26 rfl sC ?_))
    have sO : (Try.prog.info? 24).map (·.size) = some (#[.int .u64 1, .int .u64 0, .int .u64 0, .int .u64 0] : Array Value).size := by kernel_rfl
    clear HA7 HB7 HV7 HG7 HO7 C7 K0
    generalize w3.heap.size = g6 at *
    generalize (((w3.alloc (.cells #[.int .u64 0, .int .u64 0, .int .u64 0, .int .u64 0] 24)).setRow g6 V).alloc (.cells #[.int .u64 1, .int .u64 0, .int .u64 0, .int .u64 0] 24)) = W0 at *
    refine wp_region_keep (by kernel_rfl) (by kernel_rfl) ?_
    repeat (any_goals (first | (go_big_quiet_want; (with_reducible refine quiet_load_row 24 (.tmp 2) rfl w.heap.size rfl 24 A (0, 0) _ HA.out Try.underlying24 rfl sA ?_); simp only [Act.put, List.setIfInBounds_toArray, List.set_cons_zero, List.set_cons_succ]; go_big_quiet_on) | (go_big_quiet_want; (with_reducible refine quiet_load_row 23 (.tmp 3) rfl (w.heap.size + 1) rfl 23 B (0, 0) _ HB.out Try.underlying23 rfl sB ?_); simp only [Act.put, List.setIfInBounds_toArray, List.set_cons_zero, List.set_cons_succ]; go_big_quiet_on) | (go_big_quiet_want; (with_reducible refine quiet_load_row 26 (.tmp 5) rfl g5 rfl 26 C (0, 0) _ HC.out Try.underlying26 rfl sC ?_); simp only [Act.put, List.setIfInBounds_toArray, List.set_cons_zero, List.set_cons_succ]; go_big_quiet_on) | (go_big_quiet_want; (with_reducible refine quiet_load_row 24 (.tmp 6) rfl g6 rfl 24 V (0, 0) _ HI.out Try.underlying24 rfl sV ?_); simp only [Act.put, List.setIfInBounds_toArray, List.set_cons_zero, List.set_cons_succ]; go_big_quiet_on) | (go_big_quiet_want; (with_reducible refine quiet_load_row 24 (.tmp 7) rfl (g6 + 1) rfl 24 #[.int .u64 1, .int .u64 0, .int .u64 0, .int .u64 0] (0, 0) _ HO.out Try.underlying24 rfl sO ?_); simp only [Act.put, List.setIfInBounds_toArray, List.set_cons_zero, List.set_cons_succ]; go_big_quiet_on) | go_big_quiet_step (((first | (go_at_call 15; with_reducible exact Calls.keep (HV _)) | (go_at_call 34; with_reducible exact Calls.keep (PO _)) | (go_at_call 35; with_reducible exact Calls.keep (PE _)) | (go_at_call 16; with_reducible exact Calls.keep (S1 _)) | (go_at_call 36; with_reducible exact Calls.keep (IE _)) | (go_at_call 16; with_reducible exact Calls.keep (S2 _)) | (go_at_call 22; with_reducible exact Calls.keep (MU _))))) | quiet_step (((first | (go_at_call 15; with_reducible exact Calls.keep (HV _)) | (go_at_call 34; with_reducible exact Calls.keep (PO _)) | (go_at_call 35; with_reducible exact Calls.keep (PE _)) | (go_at_call 16; with_reducible exact Calls.keep (S1 _)) | (go_at_call 36; with_reducible exact Calls.keep (IE _)) | (go_at_call 16; with_reducible exact Calls.keep (S2 _)) | (go_at_call 22; with_reducible exact Calls.keep (MU _)))))))
    refine wpQuiet_nil ?_
    intro _ hw'
    obtain ⟨y, rfl⟩ := hw'
    go_wp2
    go_ret
    exact ⟨rfl, HG.out.trans y.h (fun _ h => h.elim)⟩
end Go.Proofs.Ytnobobdgoccmcaa


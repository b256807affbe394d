/-
  The laws Sha2Roots and Sha5Roots: the constants by which the document reckons are the roots' first bits.
-/
import Derived.Test.YtmoepalhoaekgaaDoorQy
import Derived.Test.YtmoepalhoaekgaaDoorUi
import Derived.Laws.Cover1
namespace Go.Proofs.YtmoepalhoaekgaaDoor
open Go.ChangeShapes Go.WideShapes Go.ChangeAt Go.RowKit
set_option linter.unusedVariables false

set_option maxRecDepth 100000 in
set_option maxHeartbeats 1600000 in
theorem roots2_any (a1 : Option Addr) (n1 c1 : Nat) (l1 : List UInt8) (w : World) (h1 : Came w a1 n1 c1 l1) (hE : Env w) (hR : REnv w) :
    Calls Tryd.prog 3 #[.slice a1 n1 c1] w fun e w' => e = .returned (.bool true) ∧ Fr (fun _ => False) w w' := by
  have k1 : n1 ≤ 9223372036854775807 := by have := h1.le; have := h1.mx; unfold maxLen at this; omega
  have d1 := h1.le
  have d2 : (c1 : Int) ≤ 9223372036854775807 := by have := h1.mx; unfold maxLen at this; omega
  obtain ⟨q, hq⟩ : ∃ q, q = min n1 100 := ⟨_, rfl⟩
  have hq1 : (if (100 : Int) < (n1 : Int) then (100 : Int) else (n1 : Int)) = (q : Int) := by split <;> omega
  have hq2 : min (n1 : Int) 100 = (q : Int) := by omega
  have hq0 : (0 : Int) ≤ (q : Int) := by omega
  have hqc : (q : Int) ≤ (c1 : Int) := by omega
  have hq3 : q ≤ 100 := by omega
  have C1 := h1.cut q (by omega) (Fr.refl _ w)
  generalize l1.take q = l at C1
  clear hq h1
  go_enter Tryd.func3, Tryd.ntmps3
  go_wp2_with fail
  refine (psum_any _ [l] 1 1 rfl _ (parts1 (heap_alloc_new w _) (C1.grow ((Fr.refl (fun _ => False) w).alloc _) (fun _ _ h => h))) (by unfold maxLen; omega) (by have := C1.len; simp; omega) (hE.fr ((Fr.refl (fun _ => False) w).alloc _) (fun h => h))).mono ?_
  rintro e w2 ⟨rfl, F2⟩
  rw [show [l].flatten = l by simp]
  have F12 : Fr (fun _ => False) w w2 := ((Fr.refl (fun _ => False) w).alloc _).trans F2 (fun _ h => h.elim)
  have hone : (sumc l).all (·.oneCell') = true := sumv_one _
  have hsz : (#[.int .u8 0, .int .u8 0, .int .u8 0, .int .u8 0, .int .u8 0, .int .u8 0, .int .u8 0, .int .u8 0, .int .u8 0, .int .u8 0, .int .u8 0, .int .u8 0, .int .u8 0, .int .u8 0, .int .u8 0, .int .u8 0, .int .u8 0, .int .u8 0, .int .u8 0, .int .u8 0, .int .u8 0, .int .u8 0, .int .u8 0, .int .u8 0, .int .u8 0, .int .u8 0, .int .u8 0, .int .u8 0, .int .u8 0, .int .u8 0, .int .u8 0, .int .u8 0] : Array Value).size = (sumc l).size := (sumv_size _).symm
  go_wp2_with (with_reducible refine wpList_store_rowA rfl 23 (.tmp 3) (.tmp 11) rfl w2.heap.size (sumc l) rfl rfl 23 _ (heap_alloc_new w2 _) Tryd.sizeC hsz hone ?k)
  case k =>
  intro w3 h3 hG3
  have F13 : Fr (fun _ => False) w w3 := (F12.alloc _).trans hG3 (fun i hi => Or.inr (by have := F12.size; omega))
  have C3 := C1.grow F13 (fun _ _ h => h)
  have E3 := hE.fr F13 (fun h => h)
  have R3 := hR.fr F13 (fun h => h) (fun h => h)
  have L3 := sumc_lies h3
  have HL := Lib.hid (show (sb ⟨l.toArray⟩) = l by simp [sb])
  have hls : (⟨l.toArray⟩ : ByteArray).size ≤ 1000000000000 := by have := C1.len; show l.toArray.size ≤ _; simp; omega
  clear hone hsz hG3 F12 F2 C1 hE hR h3
  generalize w2.heap.size = b3 at *
  have hS : ∀ w' : World, Fr (fun _ => False) w3 w' → (Fr (fun _ => False) w3 w' ∧ (convert 22 9 (.slice (some ⟨b3, 0, none⟩) 32 32)).run Tryd.prog w' = .ok (.string ⟨(S2.sum l).toArray⟩) w' ∧ (convert 22 9 (.slice a1 q c1)).run Tryd.prog w' = .ok (.string ⟨l.toArray⟩) w') :=
    fun w' hF => ⟨hF, run_str (L3.grow hF) 32 9 Tryd.underlying9, (C3.grow hF (fun _ _ h => h)).str2⟩
  go_wp2_with fail
  go_region_held3 (fun w' => Fr (fun _ => False) w3 w' ∧ (convert 22 9 (.slice (some ⟨b3, 0, none⟩) 32 32)).run Tryd.prog w' = .ok (.string ⟨(S2.sum l).toArray⟩) w' ∧ (convert 22 9 (.slice a1 q c1)).run Tryd.prog w' = .ok (.string ⟨l.toArray⟩) w')
    (first
      | (exact hS _ (by assumption))
      | (exact hS _ (Fr.refl _ w3).drew))
    (first
      | (go_at_call 9; refine (sums_any _ (E3.fr (‹Fr (fun _ => False) w3 _ ∧ _›).1 (fun h => h))).mono ?_; rintro e w5 ⟨rfl, F5⟩; have F55 := (‹Fr (fun _ => False) w3 _ ∧ _›).1.trans F5 (fun _ h => h.elim))
      | (go_at_call 10; refine (right1_op #[] _ (R3.fr (‹Fr (fun _ => False) w3 _ ∧ _›).1 (fun h => h) (fun h => h)) ⟨rfl, by simp⟩).mono ?_; rintro e w7 ⟨rfl, F7⟩; have F77 := (‹Fr (fun _ => False) w3 _ ∧ _›).1.trans F7 (fun _ h => h.elim))
      | (go_at_call 11; refine (rsum_any ⟨l.toArray⟩ hls _ (R3.fr (‹Fr (fun _ => False) w3 _ ∧ _›).1 (fun h => h) (fun h => h))).mono ?_; rw [HL.out]; rintro e w6 ⟨rfl, F6⟩; have F66 := (‹Fr (fun _ => False) w3 _ ∧ _›).1.trans F6 (fun _ h => h.elim)))
  all_goals
    go_wp2
    go_ret
    exact ⟨rfl, F13.trans F66 (fun _ h => h.elim)⟩
set_option maxRecDepth 100000 in
set_option maxHeartbeats 1600000 in
theorem roots5_any (a1 : Option Addr) (n1 c1 : Nat) (l1 : List UInt8) (w : World) (h1 : Came w a1 n1 c1 l1) (hE : Env5 w) (hR : UEnv w) :
    Calls Tryd.prog 6 #[.slice a1 n1 c1] w fun e w' => e = .returned (.bool true) ∧ Fr (fun _ => False) w w' := by
  have k1 : n1 ≤ 9223372036854775807 := by have := h1.le; have := h1.mx; unfold maxLen at this; omega
  have d1 := h1.le
  have d2 : (c1 : Int) ≤ 9223372036854775807 := by have := h1.mx; unfold maxLen at this; omega
  obtain ⟨q, hq⟩ : ∃ q, q = min n1 100 := ⟨_, rfl⟩
  have hq1 : (if (100 : Int) < (n1 : Int) then (100 : Int) else (n1 : Int)) = (q : Int) := by split <;> omega
  have hq2 : min (n1 : Int) 100 = (q : Int) := by omega
  have hq0 : (0 : Int) ≤ (q : Int) := by omega
  have hqc : (q : Int) ≤ (c1 : Int) := by omega
  have hq3 : q ≤ 100 := by omega
  have C1 := h1.cut q (by omega) (Fr.refl _ w)
  generalize l1.take q = l at C1
  clear hq h1
  go_enter Tryd.func6, Tryd.ntmps6
  go_wp2_with fail
  refine (psum_any5 _ [l] 1 1 rfl _ (parts1 (heap_alloc_new w _) (C1.grow ((Fr.refl (fun _ => False) w).alloc _) (fun _ _ h => h))) (by unfold maxLen; omega) (by have := C1.len; simp; omega) (hE.fr ((Fr.refl (fun _ => False) w).alloc _) (fun h => h))).mono ?_
  rintro e w2 ⟨rfl, F2⟩
  rw [show [l].flatten = l by simp]
  have F12 : Fr (fun _ => False) w w2 := ((Fr.refl (fun _ => False) w).alloc _).trans F2 (fun _ h => h.elim)
  have hone : (sumc5 l).all (·.oneCell') = true := sumv_one5 _
  have hsz : (#[.int .u8 0, .int .u8 0, .int .u8 0, .int .u8 0, .int .u8 0, .int .u8 0, .int .u8 0, .int .u8 0, .int .u8 0, .int .u8 0, .int .u8 0, .int .u8 0, .int .u8 0, .int .u8 0, .int .u8 0, .int .u8 0, .int .u8 0, .int .u8 0, .int .u8 0, .int .u8 0, .int .u8 0, .int .u8 0, .int .u8 0, .int .u8 0, .int .u8 0, .int .u8 0, .int .u8 0, .int .u8 0, .int .u8 0, .int .u8 0, .int .u8 0, .int .u8 0, .int .u8 0, .int .u8 0, .int .u8 0, .int .u8 0, .int .u8 0, .int .u8 0, .int .u8 0, .int .u8 0, .int .u8 0, .int .u8 0, .int .u8 0, .int .u8 0, .int .u8 0, .int .u8 0, .int .u8 0, .int .u8 0, .int .u8 0, .int .u8 0, .int .u8 0, .int .u8 0, .int .u8 0, .int .u8 0, .int .u8 0, .int .u8 0, .int .u8 0, .int .u8 0, .int .u8 0, .int .u8 0, .int .u8 0, .int .u8 0, .int .u8 0, .int .u8 0] : Array Value).size = (sumc5 l).size := (sumv_size5 _).symm
  go_wp2_with (with_reducible refine wpList_store_rowA rfl 31 (.tmp 3) (.tmp 11) rfl w2.heap.size (sumc5 l) rfl rfl 31 _ (heap_alloc_new w2 _) Tryd.sizeC5 hsz hone ?k)
  case k =>
  intro w3 h3 hG3
  have F13 : Fr (fun _ => False) w w3 := (F12.alloc _).trans hG3 (fun i hi => Or.inr (by have := F12.size; omega))
  have C3 := C1.grow F13 (fun _ _ h => h)
  have E3 := hE.fr F13 (fun h => h)
  have R3 := hR.fr F13 (fun h => h) (fun h => h)
  have L3 := sumc5_lies h3
  have HL := Lib.hid (show (sb ⟨l.toArray⟩) = l by simp [sb])
  have hls : (⟨l.toArray⟩ : ByteArray).size ≤ 1000000000000 := by have := C1.len; show l.toArray.size ≤ _; simp; omega
  clear hone hsz hG3 F12 F2 C1 hE hR h3
  generalize w2.heap.size = b3 at *
  have hS : ∀ w' : World, Fr (fun _ => False) w3 w' → (Fr (fun _ => False) w3 w' ∧ (convert 22 9 (.slice (some ⟨b3, 0, none⟩) 64 64)).run Tryd.prog w' = .ok (.string ⟨(S5.sum l).toArray⟩) w' ∧ (convert 22 9 (.slice a1 q c1)).run Tryd.prog w' = .ok (.string ⟨l.toArray⟩) w') :=
    fun w' hF => ⟨hF, run_str (L3.grow hF) 64 9 Tryd.underlying9, (C3.grow hF (fun _ _ h => h)).str2⟩
  go_wp2_with fail
  go_region_held3 (fun w' => Fr (fun _ => False) w3 w' ∧ (convert 22 9 (.slice (some ⟨b3, 0, none⟩) 64 64)).run Tryd.prog w' = .ok (.string ⟨(S5.sum l).toArray⟩) w' ∧ (convert 22 9 (.slice a1 q c1)).run Tryd.prog w' = .ok (.string ⟨l.toArray⟩) w')
    (first
      | (exact hS _ (by assumption))
      | (exact hS _ (Fr.refl _ w3).drew))
    (first
      | (go_at_call 15; refine (sums_any5 _ (E3.fr (‹Fr (fun _ => False) w3 _ ∧ _›).1 (fun h => h))).mono ?_; rintro e w5 ⟨rfl, F5⟩; have F55 := (‹Fr (fun _ => False) w3 _ ∧ _›).1.trans F5 (fun _ h => h.elim))
      | (go_at_call 17; refine (right2_op #[] _ (R3.fr (‹Fr (fun _ => False) w3 _ ∧ _›).1 (fun h => h) (fun h => h)) ⟨rfl, by simp⟩).mono ?_; rintro e w7 ⟨rfl, F7⟩; have F77 := (‹Fr (fun _ => False) w3 _ ∧ _›).1.trans F7 (fun _ h => h.elim))
      | (go_at_call 16; refine (usum_any ⟨l.toArray⟩ hls _ (R3.fr (‹Fr (fun _ => False) w3 _ ∧ _›).1 (fun h => h) (fun h => h))).mono ?_; rw [HL.out]; rintro e w6 ⟨rfl, F6⟩; have F66 := (‹Fr (fun _ => False) w3 _ ∧ _›).1.trans F6 (fun _ h => h.elim)))
  all_goals
    go_wp2
    go_ret
    exact ⟨rfl, F13.trans F66 (fun _ h => h.elim)⟩
end Go.Proofs.YtmoepalhoaekgaaDoor

/-
  The laws' own look at a known mark.
-/
import Derived.Test.YtpgbghnjeonmjaaDoorHs
namespace Go.Proofs.YtpgbghnjeonmjaaDoor
open Go.RowKit
set_option linter.unusedVariables false

/-- The bytes of the known example. -/
def jefe : List UInt8 := [74, 101, 102, 101]
def what : List UInt8 := [119, 104, 97, 116, 32, 100, 111, 32, 121, 97, 32, 119, 97, 110, 116, 32]
def noth : List UInt8 := [102, 111, 114, 32, 110, 111, 116, 104, 105, 110, 103, 63]
set_option maxRecDepth 100000 in
theorem mark_jefe : ((S2.sum (HM.out jefe (what ++ noth))).getD 0 0, (S2.sum (HM.out jefe (what ++ noth))).getD 1 0, (S2.sum (HM.out jefe (what ++ noth))).getD 31 0) = (0x5B, 0xDC, 0x43) := by kernel_rfl

theorem const_came {w : World} {b n : Nat} {l : List UInt8} {t : TypeId} {fr : Nat × Nat} (h : w.heap[b]? = some (.cells (bv l).toArray t fr)) (hn : l.length = n) (hm : n ≤ maxLen) : Came w (some ⟨b, 0, none⟩) n n l := by
  subst hn
  refine ⟨rfl, Nat.le_refl _, hm, Or.inr ⟨b, 0, rfl, fun j hj => ?_⟩, fun h => by cases h⟩
  rw [Nat.zero_add, cell_of_block h, List.getElem?_toArray, bv_get' _ _ hj]

set_option maxRecDepth 100000 in
theorem eJ : (#[.int .u8 74, .int .u8 101, .int .u8 102, .int .u8 101] : Array Value) = (bv jefe).toArray := by kernel_rfl
theorem eW : (#[.int .u8 119, .int .u8 104, .int .u8 97, .int .u8 116, .int .u8 32, .int .u8 100, .int .u8 111, .int .u8 32, .int .u8 121, .int .u8 97, .int .u8 32, .int .u8 119, .int .u8 97, .int .u8 110, .int .u8 116, .int .u8 32] : Array Value) = (bv what).toArray := by kernel_rfl
theorem eN : (#[.int .u8 102, .int .u8 111, .int .u8 114, .int .u8 32, .int .u8 110, .int .u8 111, .int .u8 116, .int .u8 104, .int .u8 105, .int .u8 110, .int .u8 103, .int .u8 63] : Array Value) = (bv noth).toArray := by kernel_rfl
set_option maxRecDepth 100000 in
theorem marks_call (w : World) (hE : Env w) : Calls Tryd.prog 20 #[.slice (some ⟨w.heap.size, 0, none⟩) 4 4, .slice (some ⟨w.heap.size + 1 + 1 + 1, 0, none⟩) 2 2]
    ((((w.alloc (.cells (bv jefe).toArray 5 (4, 5))).alloc (.cells (bv what).toArray 5 (16, 17))).alloc (.cells (bv noth).toArray 5 (12, 13))).alloc (.cells #[.slice (some ⟨w.heap.size + 1, 0, none⟩) 16 16, .slice (some ⟨w.heap.size + 1 + 1, 0, none⟩) 12 12] 22))
    fun e w' => e = .returned (.agg (sumc (HM.out jefe (what ++ noth)))) ∧ Fr (fun _ => False) w w' := by
  have hF : Fr (fun _ => False) w _ := ((((Fr.refl (fun _ => False) w).alloc (.cells (bv jefe).toArray 5 (4, 5))).alloc (.cells (bv what).toArray 5 (16, 17))).alloc (.cells (bv noth).toArray 5 (12, 13))).alloc (.cells #[.slice (some ⟨w.heap.size + 1, 0, none⟩) 16 16, .slice (some ⟨w.heap.size + 1 + 1, 0, none⟩) 12 12] 22)
  have b0 := heap_three w (.cells (bv jefe).toArray 5 (4, 5)) (.cells (bv what).toArray 5 (16, 17)) (.cells (bv noth).toArray 5 (12, 13))
  have b1 := heap_three1 w (.cells (bv jefe).toArray 5 (4, 5)) (.cells (bv what).toArray 5 (16, 17)) (.cells (bv noth).toArray 5 (12, 13))
  have b2 := heap_three2 w (.cells (bv jefe).toArray 5 (4, 5)) (.cells (bv what).toArray 5 (16, 17)) (.cells (bv noth).toArray 5 (12, 13))
  have hs : (((w.alloc (.cells (bv jefe).toArray 5 (4, 5))).alloc (.cells (bv what).toArray 5 (16, 17))).alloc (.cells (bv noth).toArray 5 (12, 13))).heap.size = w.heap.size + 1 + 1 + 1 := by simp
  generalize ((w.alloc (.cells (bv jefe).toArray 5 (4, 5))).alloc (.cells (bv what).toArray 5 (16, 17))).alloc (.cells (bv noth).toArray 5 (12, 13)) = w3 at *
  rw [← hs]
  have F3 := (Fr.refl (fun _ => False) w3).alloc (.cells #[.slice (some ⟨w.heap.size + 1, 0, none⟩) 16 16, .slice (some ⟨w.heap.size + 1 + 1, 0, none⟩) 12 12] 22)
  have c0 := (const_came b0 (show jefe.length = 4 by rfl) (by unfold maxLen; omega)).grow F3 (fun _ _ h => h)
  have c1 := (const_came b1 (show what.length = 16 by rfl) (by unfold maxLen; omega)).grow F3 (fun _ _ h => h)
  have c2 := (const_came b2 (show noth.length = 12 by rfl) (by unfold maxLen; omega)).grow F3 (fun _ _ h => h)
  refine (hof_any _ _ jefe 4 4 [what, noth] 2 2 _ c0 (by omega) (parts2 (heap_alloc_new w3 _) c1 c2) rfl (by unfold maxLen; omega) (by decide) (hE.fr hF (fun h => h))).mono ?_
  rintro e w1 ⟨rfl, F1⟩
  exact ⟨by rw [show [what, noth].flatten = what ++ noth by simp], hF.trans F1 (fun _ h => h.elim)⟩

set_option maxRecDepth 100000 in
set_option maxHeartbeats 1600000 in
theorem marks_any (w : World) (hE : Env w) : Calls Tryd.prog 17 #[] w fun e w' => e = .returned (.bool true) ∧ Fr (fun _ => False) w w' := by
  have kc := fun (w : World) (C : Array Value) (n c : Nat) => Lib.run_convert_bytes_const (P := Tryd.prog) w 22 5 C n c Tryd.underlying22 Tryd.underlying5
  have kc2 : ∀ (A : Obj) (C : Array Value) (n c : Nat), (convert 22 22 (.slice (some ⟨w.heap.size + 1, 0, none⟩) n c)).run Tryd.prog ((w.alloc A).alloc (.cells C 5)) = .ok (.slice (some ⟨w.heap.size + 1, 0, none⟩) n c) ((w.alloc A).alloc (.cells C 5 (C.size, C.size + 1))) := fun A C n c => by
    have := kc (w.alloc A) C n c
    simpa using this
  have kc3 : ∀ (A B : Obj) (C : Array Value) (n c : Nat), (convert 22 22 (.slice (some ⟨w.heap.size + 1 + 1, 0, none⟩) n c)).run Tryd.prog (((w.alloc A).alloc B).alloc (.cells C 5)) = .ok (.slice (some ⟨w.heap.size + 1 + 1, 0, none⟩) n c) (((w.alloc A).alloc B).alloc (.cells C 5 (C.size, C.size + 1))) := fun A B C n c => by
    have := kc ((w.alloc A).alloc B) C n c
    simpa using this
  go_enter Tryd.func17, Tryd.ntmps17
  go_wp2_with fail
  rw [eJ, eW, eN]
  refine (marks_call w hE).mono ?_
  rintro e w1 ⟨rfl, hF1⟩
  have hone : (sumc (HM.out jefe (what ++ noth))).all (·.oneCell') = true := sumv_one _
  have hsz : (ub 32 (fun _ => 0)).size = (sumc (HM.out jefe (what ++ noth))).size := (ub_size _ _).trans (sumv_size _).symm
  have hnew := heap_alloc_new w1 (.cells (ub 32 (fun _ => 0)) 34)
  rw [← zero32] at hnew hsz
  go_wp2_with (with_reducible refine wpList_store_rowA rfl 34 (.tmp 1) (.tmp 9) rfl w1.heap.size (sumc (HM.out jefe (what ++ noth))) rfl rfl 34 _ hnew Tryd.sizeC hsz hone ?k)
  case k =>
  intro w2 h2 hG2
  have c0 := cell_of_block h2 0
  have c1 := cell_of_block h2 1
  have c31 := cell_of_block h2 31
  have hm := mark_jefe
  simp only [Prod.mk.injEq] at hm
  rw [sumc_get _ _ (by decide)] at c0 c1 c31
  rw [hm.1] at c0
  rw [hm.2.1] at c1
  rw [hm.2.2] at c31
  replace c0 : w2.cell? ⟨w1.heap.size, 0, none⟩ = some (.int .u8 91) := c0
  replace c1 : w2.cell? ⟨w1.heap.size, 1, none⟩ = some (.int .u8 220) := c1
  replace c31 : w2.cell? ⟨w1.heap.size, 31, none⟩ = some (.int .u8 67) := c31
  clear hm
  go_wp2
  go_ret
  exact ⟨rfl, (hF1.alloc _).trans hG2 (fun i hi => Or.inr (by have := hF1.size; omega))⟩
end Go.Proofs.YtpgbghnjeonmjaaDoor


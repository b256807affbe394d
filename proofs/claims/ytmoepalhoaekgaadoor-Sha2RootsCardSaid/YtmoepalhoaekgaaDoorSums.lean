/-
  The contracts of New, Fork and Len of package sha2, and of the laws' own look at a known sum.
-/
import Derived.Test.YtmoepalhoaekgaaDoorPsum
import Derived.Lib.SlBytesConst
namespace Go.Proofs.YtmoepalhoaekgaaDoor
open Go.RowKit
set_option linter.unusedVariables false

theorem sumc_get (l : List UInt8) (j : Nat) (hj : j < 32) : (sumc l)[j]? = some (.int .u8 (((S2.sum l).getD j 0).toNat : Int)) := ub_get 32 _ j hj

set_option maxRecDepth 100000 in
set_option maxHeartbeats 400000 in
theorem new_any (w : World) : Calls Tryd.prog 45 #[] w fun e w' => e = .returned (.pointer (some ⟨w.heap.size, 0, none⟩)) ∧ HIs w' w.heap.size [] ∧ Fr (fun _ => False) w w' := by
  go_enter Tryd.func45, Tryd.ntmps45
  go_wp2
  go_ret
  exact ⟨rfl, HIs.zero (heap_alloc_new w _), (Fr.refl _ w).alloc _⟩

set_option maxRecDepth 100000 in
set_option maxHeartbeats 1600000 in
theorem sums_any (w : World) (hE : Env w) : Calls Tryd.prog 9 #[] w fun e w' => e = .returned (.bool true) ∧ Fr (fun _ => False) w w' := by
  have kc := fun (w : World) (C : Array Value) (n c : Nat) => Lib.run_convert_bytes_const (P := Tryd.prog) w 22 5 C n c Tryd.underlying22 Tryd.underlying5
  have kc2 : ∀ (A : Obj) (C : Array Value) (n c : Nat), (convert 22 22 (.slice (some ⟨w.heap.size + 1, 0, none⟩) n c)).run Tryd.prog ((w.alloc A).alloc (.cells C 5)) = .ok (.slice (some ⟨w.heap.size + 1, 0, none⟩) n c) ((w.alloc A).alloc (.cells C 5 (C.size, C.size + 1))) := fun A C n c => by
    have := kc (w.alloc A) C n c
    simpa using this
  go_enter Tryd.func9, Tryd.ntmps9
  go_wp2_with fail
  refine (psum_any _ [[97], [98, 99]] 2 2 rfl _ ?hp (by unfold maxLen; omega) (by decide) ?he).mono ?_
  case he => exact hE.fr ((((Fr.refl (fun _ => False) w).alloc _).alloc _).alloc _) (fun h => h)
  case hp =>
    refine Or.inr ⟨w.heap.size + 1 + 1, 0, rfl, fun j hj => ?_⟩
    have h0 := heap_three w (.cells #[.int .u8 97] 5 (1, 2)) (.cells #[.int .u8 98, .int .u8 99] 5 (2, 3)) (.cells #[.slice (some ⟨w.heap.size, 0, none⟩) 1 1, .slice (some ⟨w.heap.size + 1, 0, none⟩) 2 2] 22)
    have h1 := heap_three1 w (.cells #[.int .u8 97] 5 (1, 2)) (.cells #[.int .u8 98, .int .u8 99] 5 (2, 3)) (.cells #[.slice (some ⟨w.heap.size, 0, none⟩) 1 1, .slice (some ⟨w.heap.size + 1, 0, none⟩) 2 2] 22)
    have h2 := heap_three2 w (.cells #[.int .u8 97] 5 (1, 2)) (.cells #[.int .u8 98, .int .u8 99] 5 (2, 3)) (.cells #[.slice (some ⟨w.heap.size, 0, none⟩) 1 1, .slice (some ⟨w.heap.size + 1, 0, none⟩) 2 2] 22)
    match j, hj with
    | 0, _ => exact ⟨some ⟨w.heap.size, 0, none⟩, 1, by rw [cell_of_block h2]; rfl, Or.inr ⟨_, 0, rfl, fun i hi => by
        match i, hi with
        | 0, _ => rw [cell_of_block h0]; rfl⟩, Nat.le_refl _, by unfold maxLen; omega⟩
    | 1, _ => exact ⟨some ⟨w.heap.size + 1, 0, none⟩, 2, by rw [cell_of_block h2]; rfl, Or.inr ⟨_, 0, rfl, fun i hi => by
        match i, hi with
        | 0, _ => rw [cell_of_block h1]; rfl
        | 1, _ => rw [cell_of_block h1]; rfl⟩, Nat.le_refl _, by unfold maxLen; omega⟩
  rintro e w1 ⟨rfl, F1⟩
  have hF1 : Fr (fun _ => False) w w1 := ((((Fr.refl (fun _ => False) w).alloc _).alloc _).alloc _).trans F1 (fun _ h => h.elim)
  rw [show ([[97], [98, 99]] : List (List UInt8)).flatten = [97, 98, 99] from rfl]
  have hone : (sumc [97, 98, 99]).all (·.oneCell') = true := sumv_one _
  have hsz : (#[.int .u8 0, .int .u8 0, .int .u8 0, .int .u8 0, .int .u8 0, .int .u8 0, .int .u8 0, .int .u8 0, .int .u8 0, .int .u8 0, .int .u8 0, .int .u8 0, .int .u8 0, .int .u8 0, .int .u8 0, .int .u8 0, .int .u8 0, .int .u8 0, .int .u8 0, .int .u8 0, .int .u8 0, .int .u8 0, .int .u8 0, .int .u8 0, .int .u8 0, .int .u8 0, .int .u8 0, .int .u8 0, .int .u8 0, .int .u8 0, .int .u8 0, .int .u8 0] : Array Value).size = (sumc [97, 98, 99]).size := (sumv_size _).symm
  go_wp2_with (with_reducible refine wpList_store_rowA rfl 23 (.tmp 1) (.tmp 7) rfl w1.heap.size (sumc [97, 98, 99]) rfl rfl 23 _ (heap_alloc_new w1 _) Tryd.sizeC hsz hone ?k)
  case k =>
  intro w2 h2 hG2
  have c0 := cell_of_block h2 0
  have c1 := cell_of_block h2 1
  have c31 := cell_of_block h2 31
  rw [sumc_get _ _ (by decide), S2.sum_abc] at c0 c1 c31
  replace c0 : w2.cell? ⟨w1.heap.size, 0, none⟩ = some (.int .u8 186) := c0
  replace c1 : w2.cell? ⟨w1.heap.size, 1, none⟩ = some (.int .u8 120) := c1
  replace c31 : w2.cell? ⟨w1.heap.size, 31, none⟩ = some (.int .u8 173) := c31
  go_wp2
  go_ret
  exact ⟨rfl, (hF1.alloc _).trans hG2 (fun i hi => Or.inr (by have := hF1.size; omega))⟩
end Go.Proofs.YtmoepalhoaekgaaDoor


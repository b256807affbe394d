/-
  The contracts of New, Fork and Len of package sha2, and of the laws' own look at a known sum.
-/
import Derived.Test.YtebmbhlhfojpeaaDoorPsum
import Derived.Lib.SlBytesConst
namespace Go.Proofs.YtebmbhlhfojpeaaDoor
open Go.RowKit
set_option linter.unusedVariables false

theorem sumc_get (l : List UInt8) (j : Nat) (hj : j < 32) : (sumc l)[j]? = some (.int .u8 (((S2.sum l).getD j 0).toNat : Int)) := ub_get 32 _ j hj

set_option maxRecDepth 100000 in
set_option maxHeartbeats 400000 in
theorem new_any (w : World) : Calls Tryd.prog 25 #[] w fun e w' => e = .returned (.pointer (some ⟨w.heap.size, 0, none⟩)) ∧ HIs w' w.heap.size [] ∧ Fr (fun _ => False) w w' := by
  go_enter Tryd.func25, Tryd.ntmps25
  go_wp2
  go_ret
  exact ⟨rfl, HIs.zero (heap_alloc_new w _), (Fr.refl _ w).alloc _⟩

set_option maxRecDepth 100000 in
set_option maxHeartbeats 400000 in
theorem len_any (bh : Nat) (l : List UInt8) (w : World) (h : HIs w bh l) : Calls Tryd.prog 23 #[.pointer (some ⟨bh, 0, none⟩)] w fun e w' => e = .returned (.int .i64 l.length) ∧ w' = w := by
  obtain ⟨_, _, hb1, _⟩ := h.cells
  have hcnt := hb1.count
  go_enter Tryd.func23, Tryd.ntmps23
  go_wp2
  go_ret
  exact ⟨rfl, rfl⟩

set_option maxRecDepth 100000 in
set_option maxHeartbeats 800000 in
theorem fork_any (bh : Nat) (l : List UInt8) (w : World) (h : HIs w bh l) : Calls Tryd.prog 22 #[.pointer (some ⟨bh, 0, none⟩)] w fun e w' => e = .returned (.pointer (some ⟨w.heap.size, 0, none⟩)) ∧ HIs w' w.heap.size l ∧ Fr (fun _ => False) w w' := by
  obtain ⟨wl, tl, hb, hi⟩ := h.cells
  have hw8 := hb.w8
  have ht64 := hb.t64
  go_enter Tryd.func22, Tryd.ntmps22
  go_wp2_with (first
    | (with_reducible refine wpList_load_row rfl 54 (.tmp 7) rfl bh rfl 54 (hcells wl tl l.length).toArray (0, 0) _ hb.blk Tryd.underlying54 rfl (Tryd.size73 hw8 ht64) ?_)
    | (with_reducible refine wpList_store_rowA rfl 54 (.tmp 3) (.tmp 8) rfl w.heap.size (hcells wl tl l.length).toArray rfl rfl 54 _ (heap_alloc_new w _) (Tryd.size73 hw8 ht64) ?hold (hcells_one hb.one) ?k))
  case hold => simp [hcells, hw8, ht64]
  case k =>
  intro w1 hn1 hG1
  go_wp2
  go_ret
  exact ⟨rfl, HIs.copied hb hi hn1, ((Fr.refl _ w).alloc _).trans hG1 (fun i hi => Or.inr (by omega))⟩

set_option maxRecDepth 100000 in
set_option maxHeartbeats 1600000 in
theorem sums_any (w : World) (hE : Env w) : Calls Tryd.prog 18 #[] w fun e w' => e = .returned (.bool true) ∧ Fr (fun _ => False) w w' := by
  have kc := fun (w : World) (C : Array Value) (n c : Nat) => Lib.run_convert_bytes_const (P := Tryd.prog) w 28 5 C n c Tryd.underlying28 Tryd.underlying5
  have kc2 : ∀ (A : Obj) (C : Array Value) (n c : Nat), (convert 28 28 (.slice (some ⟨w.heap.size + 1, 0, none⟩) n c)).run Tryd.prog ((w.alloc A).alloc (.cells C 5)) = .ok (.slice (some ⟨w.heap.size + 1, 0, none⟩) n c) ((w.alloc A).alloc (.cells C 5 (C.size, C.size + 1))) := fun A C n c => by
    have := kc (w.alloc A) C n c
    simpa using this
  go_enter Tryd.func18, Tryd.ntmps18
  go_wp2_with fail
  refine (psum_any _ [[97], [98, 99]] 2 2 rfl _ ?hp (by unfold maxLen; omega) (by decide) ?he).mono ?_
  case he => exact hE.fr ((((Fr.refl (fun _ => False) w).alloc _).alloc _).alloc _) (fun h => h)
  case hp =>
    refine Or.inr ⟨w.heap.size + 1 + 1, 0, rfl, fun j hj => ?_⟩
    have h0 := heap_three w (.cells #[.int .u8 97] 5 (1, 2)) (.cells #[.int .u8 98, .int .u8 99] 5 (2, 3)) (.cells #[.slice (some ⟨w.heap.size, 0, none⟩) 1 1, .slice (some ⟨w.heap.size + 1, 0, none⟩) 2 2] 28)
    have h1 := heap_three1 w (.cells #[.int .u8 97] 5 (1, 2)) (.cells #[.int .u8 98, .int .u8 99] 5 (2, 3)) (.cells #[.slice (some ⟨w.heap.size, 0, none⟩) 1 1, .slice (some ⟨w.heap.size + 1, 0, none⟩) 2 2] 28)
    have h2 := heap_three2 w (.cells #[.int .u8 97] 5 (1, 2)) (.cells #[.int .u8 98, .int .u8 99] 5 (2, 3)) (.cells #[.slice (some ⟨w.heap.size, 0, none⟩) 1 1, .slice (some ⟨w.heap.size + 1, 0, none⟩) 2 2] 28)
    match j, hj with
    | 0, _ => exact ⟨some ⟨w.heap.size, 0, none⟩, 1, by rw [cell_of_block h2]; rfl, Or.inr ⟨_, 0, rfl, fun i hi => by
        match i, hi with
        | 0, _ => rw [cell_of_block h0]; rfl⟩, Nat.le_refl _, by unfold maxLen; omega⟩
    | 1, _ => exact ⟨some ⟨w.heap.size + 1, 0, none⟩, 2, by rw [cell_of_block h2]; rfl, Or.inr ⟨_, 0, rfl, fun i hi => by
        match i, hi with
        | 0, _ => rw [cell_of_block h1]; rfl
        | 1, _ => rw [cell_of_block h1]; rfl⟩, Nat.le_refl _, by unfold maxLen; omega⟩
  rintro e w1 ⟨rfl, F1⟩
  have hF1 : Fr (fun _ => False) w w1 := ((((Fr.refl (fun _ => False) w).alloc _).alloc _).alloc _).trans F1 (fun _ h => h.elim)
  rw [show ([[97], [98, 99]] : List (List UInt8)).flatten = [97, 98, 99] from rfl]
  have hone : (sumc [97, 98, 99]).all (·.oneCell') = true := sumv_one _
  have hsz : (#[.int .u8 0, .int .u8 0, .int .u8 0, .int .u8 0, .int .u8 0, .int .u8 0, .int .u8 0, .int .u8 0, .int .u8 0, .int .u8 0, .int .u8 0, .int .u8 0, .int .u8 0, .int .u8 0, .int .u8 0, .int .u8 0, .int .u8 0, .int .u8 0, .int .u8 0, .int .u8 0, .int .u8 0, .int .u8 0, .int .u8 0, .int .u8 0, .int .u8 0, .int .u8 0, .int .u8 0, .int .u8 0, .int .u8 0, .int .u8 0, .int .u8 0, .int .u8 0] : Array Value).size = (sumc [97, 98, 99]).size := (sumv_size _).symm
  go_wp2_with (with_reducible refine wpList_store_rowA rfl 25 (.tmp 1) (.tmp 7) rfl w1.heap.size (sumc [97, 98, 99]) rfl rfl 25 _ (heap_alloc_new w1 _) Tryd.sizeC hsz hone ?k)
  case k =>
  intro w2 h2 hG2
  have c0 := cell_of_block h2 0
  have c1 := cell_of_block h2 1
  have c31 := cell_of_block h2 31
  rw [sumc_get _ _ (by decide), S2.sum_abc] at c0 c1 c31
  replace c0 : w2.cell? ⟨w1.heap.size, 0, none⟩ = some (.int .u8 186) := c0
  replace c1 : w2.cell? ⟨w1.heap.size, 1, none⟩ = some (.int .u8 120) := c1
  replace c31 : w2.cell? ⟨w1.heap.size, 31, none⟩ = some (.int .u8 173) := c31
  go_wp2
  go_ret
  exact ⟨rfl, (hF1.alloc _).trans hG2 (fun i hi => Or.inr (by have := hF1.size; omega))⟩
end Go.Proofs.YtebmbhlhfojpeaaDoor

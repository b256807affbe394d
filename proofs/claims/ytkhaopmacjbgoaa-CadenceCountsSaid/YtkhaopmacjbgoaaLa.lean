/-
  The schedule of one: what is found.
-/
import Derived.Test.YtkhaopmacjbgoaaKn
import Derived.Test.YtkhaopmacjbgoaaProg
import Derived.Handy
namespace Go.Proofs.Ytkhaopmacjbgoaa
open Go.RowKit
set_option linter.unusedVariables false
set_option linter.unusedSimpArgs false
/-- A text that is itself. -/
structure Own1 (s : ByteArray) : Prop where
  ne : ∀ W : World, (binOp .neq 9 (.string s) (.string s)).run Try.prog W = .ok (.bool false) W
  lt : Op.bytesLess s.toList s.toList = false
  gt : ∀ W : World, (binOp .gtr 9 (.string s) (.string s)).run Try.prog W = .ok (.bool false) W
set_option maxRecDepth 100000 in
theorem own_x : Own1 ⟨#[120]⟩ := ⟨fun W => by kernel_rfl, by kernel_rfl, fun W => by kernel_rfl⟩
set_option maxRecDepth 100000 in
theorem own_a : Own1 ⟨#[97]⟩ := ⟨fun W => by kernel_rfl, by kernel_rfl, fun W => by kernel_rfl⟩
set_option maxRecDepth 100000 in
theorem nan_any (s : ByteArray) (hs : Own1 s) (w : World) : Calls Try.prog 19 #[.string s] w fun e w' => e = .returned (.bool false) ∧ w = w' := by
  have h1 := hs.ne
  go_enter Try.func19, Try.ntmps19
  go_wp2_with fail
  go_ret
  exact ⟨rfl, rfl⟩
set_option maxRecDepth 100000 in
theorem cmp_any (s : ByteArray) (hs : Own1 s) (w : World) : Calls Try.prog 16 #[.string s, .string s] w fun e w' => e = .returned (.int .i64 0) ∧ w = w' := by
  have h2 := hs.lt
  have h3 := hs.gt
  go_enter Try.func16, Try.ntmps16
  go_wp2_with fail
  refine (nan_any s hs w).mono ?_
  rintro e w1 ⟨rfl, rfl⟩
  go_wp2_with fail
  refine (nan_any s hs w).mono ?_
  rintro e w1 ⟨rfl, rfl⟩
  go_wp2_with fail
  go_ret
  exact ⟨rfl, rfl⟩
set_option maxRecDepth 100000 in
theorem clos_any (s : ByteArray) (hs : Own1 s) (p a : Int) (w : World) : Calls Try.prog 15 #[.agg #[.string s, .int .i64 p, .int .i64 a], .string s] w fun e w' => e = .returned (.int .i64 0) ∧ Fr (fun _ => False) w w' := by
  have c0 : (w.alloc (.cells #[.string s, .int .i64 p, .int .i64 a] 43)).cell? ⟨w.heap.size, 0, none⟩ = some (.string s) := (cell_of_block (heap_alloc_new w _) 0).trans rfl
  have F := (Fr.refl (fun _ => False) w).alloc (.cells #[.string s, .int .i64 p, .int .i64 a] 43)
  go_enter Try.func15, Try.ntmps15
  go_wp2_with fail
  refine (cmp_any s hs _).mono ?_
  rintro e w1 ⟨rfl, rfl⟩
  go_wp2_with fail
  go_ret
  exact ⟨rfl, F⟩
/-- One who is there. -/
structure M1 (w : World) (gm : Nat) (s : ByteArray) (p a : Int) : Prop where
  blk : ∃ cur : Array Value, w.heap[gm]? = some (.cells cur 43 (0, 0)) ∧ cur[0]? = some (.string s) ∧ cur[1]? = some (.int .i64 p) ∧ cur[2]? = some (.int .i64 a)
theorem M1.c {w : World} {gm : Nat} {s : ByteArray} {p a : Int} (h : M1 w gm s p a) : w.cell? ⟨gm, 0, none⟩ = some (.string s) ∧ w.cell? ⟨gm, 1, none⟩ = some (.int .i64 p) ∧ w.cell? ⟨gm, 2, none⟩ = some (.int .i64 a) ∧ w.frozen? ⟨gm, 2, none⟩ = false := by
  obtain ⟨cur, hb, h0, h1, h2⟩ := h.blk
  exact ⟨(cell_of_block hb 0).trans h0, (cell_of_block hb 1).trans h1, (cell_of_block hb 2).trans h2, free_of_block hb 2⟩
theorem M1.fr {w w' : World} {gm : Nat} {s : ByteArray} {p a : Int} {S : Nat → Prop} (h : M1 w gm s p a) (F : Fr S w w') (hS : ¬ S gm) : M1 w' gm s p a := by
  obtain ⟨cur, hb, r⟩ := h.blk
  exact ⟨cur, (F.block gm (lt_of_block hb) hS).trans hb, r⟩
theorem M1.set {w : World} {gm : Nat} {s : ByteArray} {p a : Int} (h : M1 w gm s p a) (a' : Int) : M1 (w.setCell ⟨gm, 2, none⟩ (.int .i64 a')) gm s p a' := by
  obtain ⟨cur, hb, h0, h1, h2⟩ := h.blk
  refine ⟨_, block_setCell hb 2 _, ?_, ?_, ?_⟩
  · rw [Array.getElem?_setIfInBounds, if_neg (by decide)]; exact h0
  · rw [Array.getElem?_setIfInBounds, if_neg (by decide)]; exact h1
  · rw [Array.getElem?_setIfInBounds, if_pos rfl, if_pos (Array.getElem?_eq_some_iff.1 h2).1]
theorem M1.lt {w : World} {gm : Nat} {s : ByteArray} {p a : Int} (h : M1 w gm s p a) : gm < w.heap.size := by
  obtain ⟨cur, hb, _⟩ := h.blk
  exact lt_of_block hb
set_option maxRecDepth 100000 in
theorem bs_none (s : ByteArray) (w : World) : Calls Try.prog 14 #[.slice none 0 0, .string s, .func (.func 15) #[] #[]] w fun e w' => e = .returned (.tuple #[.int .i64 0, .bool false]) ∧ Fr (fun _ => False) w w' := by
  go_enter Try.func14, Try.ntmps14
  go_wp2_with fail
  go_loopw [9, 10] (fun i j wr => i = .int .i64 0 ∧ j = .int .i64 0 ∧ Fr (fun _ => False) w wr) (fun _ j _ => (intOf j).toNat)
  case atStart => exact ⟨rfl, rfl, Fr.refl _ _⟩
  case round =>
    obtain ⟨rfl, rfl, F⟩ := hrel
    go_wp2_with fail
    go_returns
    exact ⟨rfl, F⟩
set_option maxRecDepth 100000 in
set_option maxHeartbeats 1600000 in
theorem bs_one (s : ByteArray) (hs : Own1 s) (gm c : Nat) (p a : Int) (w : World) (h : M1 w gm s p a) : Calls Try.prog 14 #[.slice (some ⟨gm, 0, none⟩) 1 c, .string s, .func (.func 15) #[] #[]] w fun e w' => e = .returned (.tuple #[.int .i64 0, .bool true]) ∧ Fr (fun _ => False) w w' := by
  go_enter Try.func14, Try.ntmps14
  go_wp2_with fail
  go_loopw [9, 10] (fun i j wr => i = .int .i64 0 ∧ (j = .int .i64 1 ∨ j = .int .i64 0) ∧ Fr (fun _ => False) w wr) (fun _ j _ => (intOf j).toNat)
  case atStart => exact ⟨rfl, .inl (by simp), Fr.refl _ _⟩
  case round =>
    obtain ⟨rfl, hj, F⟩ := hrel
    have hM := h.fr F (fun h => h)
    obtain ⟨c0, c1, c2, _⟩ := hM.c
    have HF := Lib.hid F
    clear F hM
    rcases hj with rfl | rfl
    · go_wp2_with fail
      refine (clos_any s hs p a _).mono ?_
      rintro e w1 ⟨rfl, F1⟩
      have HF1 := Lib.hid (HF.out.trans F1 (fun _ h => h.elim))
      clear F1
      go_wp2_with fail
      exact ⟨⟨rfl, .inr rfl, HF1.out⟩, by simp [intOf]⟩
    · go_wp2_with fail
      refine (clos_any s hs p a _).mono ?_
      rintro e w1 ⟨rfl, F1⟩
      have HF1 := Lib.hid (HF.out.trans F1 (fun _ h => h.elim))
      clear F1
      go_wp2_with fail
      go_returns
      exact ⟨rfl, HF1.out⟩
end Go.Proofs.Ytkhaopmacjbgoaa

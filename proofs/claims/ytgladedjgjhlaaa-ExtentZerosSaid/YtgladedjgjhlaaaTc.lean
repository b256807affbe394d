/-
  Of of package extent, and of the document's answer.
-/
import Derived.Test.YtgladedjgjhlaaaTb
import Derived.Deep.LoopGhost
namespace Go.Proofs.Ytgladedjgjhlaaa
open Go.RowKit
set_option linter.unusedVariables false
set_option linter.unusedSimpArgs false

set_option maxRecDepth 100000 in
theorem of_nil (b : Int) (w : World) :
    Calls Try.prog 47 #[.pointer none, .int .i64 b] w fun e w' => e = .returned (.int .i64 (-1)) ∧ Fr (fun _ => False) w w' := by
  go_enter Try.func47, Try.ntmps47
  go_wp2_with fail
  refine wp_region_keep (by kernel_rfl) (by kernel_rfl) ?_
  repeat (any_goals (first | go_big_quiet_step (fail) | quiet_step (fail)))
  refine wpQuiet_nil ?_
  intro _ hwz
  obtain ⟨y, rfl⟩ := hwz
  go_wp2_with fail
  go_ret
  exact ⟨rfl, y.h⟩
set_option maxRecDepth 100000 in
set_option maxHeartbeats 1600000 in
theorem of_out (x : Nat) (pd : Value) (f c s b : Int) (w : World) (h : Ext w x pd f c s) (r1 : In64 (c * s)) (r2 : In64 (f + c * s)) (hb : b < f ∨ f + c * s ≤ b) :
    Calls Try.prog 47 #[.pointer (some ⟨x, 0, none⟩), .int .i64 b] w fun e w' => e = .returned (.int .i64 (-1)) ∧ Fr (fun _ => False) w w' := by
  have w1 := r1.w
  have w2 := r1.k
  have w3 := r2.w
  have w4 := r2.k
  have c1 : ∀ y : Wd w, y.w.cell? ⟨x, 1, none⟩ = some (.int .i64 f) := fun y => by rw [cell_of_block (h.fr y.h)]; rfl
  have c2 : ∀ y : Wd w, y.w.cell? ⟨x, 2, none⟩ = some (.int .i64 c) := fun y => by rw [cell_of_block (h.fr y.h)]; rfl
  have c3 : ∀ y : Wd w, y.w.cell? ⟨x, 3, none⟩ = some (.int .i64 s) := fun y => by rw [cell_of_block (h.fr y.h)]; rfl
  go_enter Try.func47, Try.ntmps47
  by_cases h0 : b < f
  · have t0 : decide (b < f) = true := by simpa using h0
    clear hb r1 r2
    go_wp2_with fail
    refine wp_region_keep (by kernel_rfl) (by kernel_rfl) ?_
    repeat (any_goals (first | go_big_quiet_step (fail) | quiet_step (fail)))
    refine wpQuiet_nil ?_
    intro _ hwz
    obtain ⟨y, rfl⟩ := hwz
    go_wp2_with fail
    go_ret
    exact ⟨rfl, y.h⟩
  · have t0 : decide (b < f) = false := by simpa using h0
    have t1 : decide (f + c * s ≤ b) = true := by simp; omega
    clear hb r1 r2
    go_wp2_with fail
    refine wp_region_keep (by kernel_rfl) (by kernel_rfl) ?_
    repeat (any_goals (first | go_big_quiet_step (fail) | quiet_step (fail)))
    refine wpQuiet_nil ?_
    intro _ hwz
    obtain ⟨y, rfl⟩ := hwz
    go_wp2_with fail
    go_ret
    exact ⟨rfl, y.h⟩
set_option maxRecDepth 100000 in
set_option maxHeartbeats 1600000 in
theorem of_in (x : Nat) (pd : Value) (f c s b : Int) (w : World) (h : Ext w x pd f c s) (hs : ¬ (s = 0)) (r1 : In64 (c * s)) (r2 : In64 (f + c * s)) (r3 : In64 (b - f)) (h0 : f ≤ b) (h1 : b < f + c * s) :
    Calls Try.prog 47 #[.pointer (some ⟨x, 0, none⟩), .int .i64 b] w fun e w' => e = .returned (.int .i64 ((b - f).tdiv s)) ∧ Fr (fun _ => False) w w' := by
  have w1 := r1.w
  have w2 := r1.k
  have w3 := r2.w
  have w4 := r2.k
  have w5 := r3.w
  have w6 := r3.k
  have r4 := quo_in (b - f) s r3 (by omega)
  have w7 := r4.w
  have w8 := r4.k
  have t0 : decide (b < f) = false := by simp; omega
  have t1 : decide (f + c * s ≤ b) = false := by simp; omega
  clear r1 r2 r3 r4 h0 h1
  have c1 : ∀ y : Wd w, y.w.cell? ⟨x, 1, none⟩ = some (.int .i64 f) := fun y => by rw [cell_of_block (h.fr y.h)]; rfl
  have c2 : ∀ y : Wd w, y.w.cell? ⟨x, 2, none⟩ = some (.int .i64 c) := fun y => by rw [cell_of_block (h.fr y.h)]; rfl
  have c3 : ∀ y : Wd w, y.w.cell? ⟨x, 3, none⟩ = some (.int .i64 s) := fun y => by rw [cell_of_block (h.fr y.h)]; rfl
  go_enter Try.func47, Try.ntmps47
  go_wp2_with fail
  refine wp_region_keep (by kernel_rfl) (by kernel_rfl) ?_
  repeat (any_goals (first | go_big_quiet_step (fail) | quiet_step (fail)))
  refine wpQuiet_nil ?_
  intro _ hwz
  obtain ⟨y, rfl⟩ := hwz
  clear c1 c2 c3
  have h2 := h.fr y.h
  have F2 := y.h
  generalize y.w = w2' at *
  have c1 : ∀ y : Wd w2', y.w.cell? ⟨x, 1, none⟩ = some (.int .i64 f) := fun y => by rw [cell_of_block (h2.fr y.h)]; rfl
  have c3 : ∀ y : Wd w2', y.w.cell? ⟨x, 3, none⟩ = some (.int .i64 s) := fun y => by rw [cell_of_block (h2.fr y.h)]; rfl
  go_wp2_with fail
  refine wp_region_keep (by kernel_rfl) (by kernel_rfl) ?_
  repeat (any_goals (first | go_big_quiet_step (fail) | quiet_step (fail)))
  refine wpQuiet_nil ?_
  intro _ hwz
  obtain ⟨y2, rfl⟩ := hwz
  go_wp2_with fail
  go_ret
  exact ⟨rfl, F2.trans y2.h (fun _ h => h.elim)⟩
end Go.Proofs.Ytgladedjgjhlaaa

/-
  New, Count, Area and Of of package extent.
-/
import Derived.Test.YtgladedjgjhlaaaTa
namespace Go.Proofs.Ytgladedjgjhlaaa
open Go.RowKit
set_option linter.unusedVariables false
set_option linter.unusedSimpArgs false

def In64 (z : Int) : Prop := -9223372036854775808 ≤ z ∧ z ≤ 9223372036854775807
theorem In64.w {z : Int} (h : In64 z) : wrap64 z = z := IntWalk.wrap64_in _ h
theorem In64.k {z : Int} (h : In64 z) : IntKind.i64.wrap z = z := IntWalk.i64_in _ h
/-- Extents, as they lie. -/
def Ext (w : World) (x : Nat) (pd : Value) (f c s : Int) : Prop := w.heap[x]? = some (.cells #[pd, .int .i64 f, .int .i64 c, .int .i64 s] 122 (0, 0))
theorem Ext.fr {w w' : World} {x : Nat} {pd : Value} {f c s : Int} (h : Ext w x pd f c s) (hF : Fr (fun _ => False) w w') : Ext w' x pd f c s := (hF.block _ (lt_of_block h) (fun h => h)).trans h
theorem quo_in (a c : Int) (ha : In64 a) (h : -9223372036854775807 ≤ a) : In64 (a.tdiv c) := by
  have h1 : (a.tdiv c).natAbs ≤ a.natAbs := by rw [Int.natAbs_tdiv]; exact Nat.div_le_self _ _
  unfold In64 at *
  omega
set_option maxRecDepth 100000 in
set_option maxHeartbeats 1600000 in
theorem xnew_good (p : Option Addr) (m : Nat) (f c s : Int) (hm : m ≤ 8192) (h0 : 0 ≤ f) (h1 : 1 ≤ c) (h2 : 1 ≤ s) (h3 : s ≤ ((m : Int) - f).tdiv c) (rf : In64 f) (rc : In64 c) (rs : In64 s) (w : World)
    (hsz : Calls Try.prog 21 #[.pointer p] w fun e w' => e = .returned (.int .i64 (m : Int)) ∧ Fr (fun _ => False) w w') :
    Calls Try.prog 39 #[.pointer p, .int .i64 f, .int .i64 c, .int .i64 s] w fun e w' => ∃ x, e = .returned (.tuple #[.pointer (some ⟨x, 0, none⟩), .int .i64 0]) ∧ Ext w' x (.pointer p) f c s ∧ w.heap.size ≤ x ∧ Fr (fun _ => False) w w' := by
  have hd : In64 ((m : Int) - f) := by unfold In64 at *; omega
  have hq := quo_in ((m : Int) - f) c hd (by unfold In64 at rf; omega)
  have w1 := hd.w
  have w2 := hd.k
  have w3 := hq.w
  have w4 := hq.k
  have t0 : decide (f < 0) = false := by simp; omega
  have t1 : decide (c < 1) = false := by simp; omega
  have t2 : decide (s < 1) = false := by simp; omega
  have t3 : ¬ (c = 0) := by omega
  obtain ⟨q, hqq⟩ : ∃ q, q = ((m : Int) - f).tdiv c := ⟨_, rfl⟩
  rw [← hqq] at h3
  have t4 : decide (q < s) = false := by simp; omega
  have HS := Lib.hid hsz
  rw [hqq] at t4
  clear hsz hqq h3 h0 h1 h2 hd hq
  go_enter Try.func39, Try.ntmps39
  go_wp2_with fail
  refine HS.out.mono ?_
  rintro e w2 ⟨rfl, F2⟩
  go_wp2_with fail
  go_returns
  exact ⟨_, rfl, heap_alloc_new w2 _, F2.size, F2.alloc _⟩
set_option maxRecDepth 100000 in
set_option maxHeartbeats 1600000 in
theorem xnew_bad (p : Option Addr) (m : Nat) (f c s : Int) (hm : m ≤ 8192) (h : ¬ (0 ≤ f ∧ 1 ≤ c ∧ 1 ≤ s ∧ s ≤ ((m : Int) - f).tdiv c)) (rf : In64 f) (rc : In64 c) (rs : In64 s) (w : World)
    (hsz : Calls Try.prog 21 #[.pointer p] w fun e w' => e = .returned (.int .i64 (m : Int)) ∧ Fr (fun _ => False) w w') :
    Calls Try.prog 39 #[.pointer p, .int .i64 f, .int .i64 c, .int .i64 s] w fun e w' => e = .returned (.tuple #[.pointer none, .int .i64 1]) ∧ Fr (fun _ => False) w w' := by
  have HS := Lib.hid hsz
  clear hsz
  go_enter Try.func39, Try.ntmps39
  by_cases h0 : f < 0
  · have t0 : decide (f < 0) = true := by simpa using h0
    clear h
    go_wp2_with fail
    go_returns
    exact ⟨rfl, Fr.refl _ _⟩
  · have t0 : decide (f < 0) = false := by simpa using h0
    by_cases h1 : c < 1
    · have t1 : decide (c < 1) = true := by simpa using h1
      clear h
      go_wp2_with fail
      go_returns
      exact ⟨rfl, Fr.refl _ _⟩
    · have t1 : decide (c < 1) = false := by simpa using h1
      by_cases h2 : s < 1
      · have t2 : decide (s < 1) = true := by simpa using h2
        clear h
        go_wp2_with fail
        go_returns
        exact ⟨rfl, Fr.refl _ _⟩
      · have t2 : decide (s < 1) = false := by simpa using h2
        have hd : In64 ((m : Int) - f) := by unfold In64 at *; omega
        have hq := quo_in ((m : Int) - f) c hd (by unfold In64 at rf; omega)
        have w1 := hd.w
        have w2 := hd.k
        have w3 := hq.w
        have w4 := hq.k
        have t3 : ¬ (c = 0) := by omega
        have t4 : decide (((m : Int) - f).tdiv c < s) = true := by
          have : ¬ (s ≤ ((m : Int) - f).tdiv c) := fun e => h ⟨by omega, by omega, by omega, e⟩
          simpa using this
        clear h hd hq h0 h1 h2
        go_wp2_with fail
        refine HS.out.mono ?_
        rintro e w2 ⟨rfl, F2⟩
        go_wp2_with fail
        go_returns
        exact ⟨rfl, F2⟩
set_option maxRecDepth 100000 in
theorem count_ok (x : Nat) (pd : Value) (f c s : Int) (w : World) (h : Ext w x pd f c s) :
    Calls Try.prog 46 #[.pointer (some ⟨x, 0, none⟩)] w fun e w' => e = .returned (.int .i64 c) ∧ Fr (fun _ => False) w w' := by
  have c2 : w.cell? ⟨x, 2, none⟩ = some (.int .i64 c) := by rw [cell_of_block h]; rfl
  go_enter Try.func46, Try.ntmps46
  go_wp2_with fail
  go_ret
  exact ⟨rfl, Fr.refl _ _⟩
set_option maxRecDepth 100000 in
theorem count_nil (w : World) :
    Calls Try.prog 46 #[.pointer none] w fun e w' => e = .returned (.int .i64 0) ∧ Fr (fun _ => False) w w' := by
  go_enter Try.func46, Try.ntmps46
  go_wp2_with fail
  go_ret
  exact ⟨rfl, Fr.refl _ _⟩
set_option maxRecDepth 100000 in
set_option maxHeartbeats 1600000 in
theorem area_bad (px : Value) (c i : Int) (h : i < 0 ∨ c ≤ i) (w : World) (hct : ∀ W : World, Fr (fun _ => False) w W → Calls Try.prog 46 #[px] W fun e w' => e = .returned (.int .i64 c) ∧ Fr (fun _ => False) W w') :
    Calls Try.prog 41 #[px, .int .i64 i] w fun e w' => e = .returned (.tuple #[.int .i64 0, .int .i64 0, .int .i64 1]) ∧ Fr (fun _ => False) w w' := by
  have HC := Lib.hid hct
  clear hct
  go_enter Try.func41, Try.ntmps41
  by_cases h0 : i < 0
  · have t0 : decide (i < 0) = true := by simpa using h0
    clear h
    go_wp2_with fail
    go_returns
    exact ⟨rfl, Fr.refl _ _⟩
  · have t0 : decide (i < 0) = false := by simpa using h0
    have t1 : decide (c ≤ i) = true := by simp; omega
    clear h
    go_wp2_with fail
    refine (HC.out w (Fr.refl _ w)).mono ?_
    rintro e w2 ⟨rfl, F2⟩
    go_wp2_with fail
    go_returns
    exact ⟨rfl, F2⟩
set_option maxRecDepth 100000 in
set_option maxHeartbeats 1600000 in
theorem area_ok (x : Nat) (pd : Value) (f c s i : Int) (w : World) (h : Ext w x pd f c s) (h0 : 0 ≤ i) (h1 : i < c) (r1 : In64 (i * s)) (r2 : In64 (f + i * s)) :
    Calls Try.prog 41 #[.pointer (some ⟨x, 0, none⟩), .int .i64 i] w fun e w' => e = .returned (.tuple #[.int .i64 (f + i * s), .int .i64 s, .int .i64 0]) ∧ Fr (fun _ => False) w w' := by
  have t0 : decide (i < 0) = false := by simp; omega
  have t1 : decide (c ≤ i) = false := by simp; omega
  have w1 := r1.w
  have w2 := r1.k
  have w3 := r2.w
  have w4 := r2.k
  clear r1 r2 h0 h1
  go_enter Try.func41, Try.ntmps41
  go_wp2_with fail
  refine (count_ok x pd f c s w h).mono ?_
  rintro e w2 ⟨rfl, F2⟩
  have h2 := h.fr F2
  go_wp2_with fail
  have c1 : ∀ y : Wd w2, y.w.cell? ⟨x, 1, none⟩ = some (.int .i64 f) := fun y => by rw [cell_of_block (h2.fr y.h)]; rfl
  have c3 : ∀ y : Wd w2, y.w.cell? ⟨x, 3, none⟩ = some (.int .i64 s) := fun y => by rw [cell_of_block (h2.fr y.h)]; rfl
  refine wp_region_keep (by kernel_rfl) (by kernel_rfl) ?_
  repeat (any_goals (first | go_big_quiet_step (fail) | quiet_step (fail)))
  refine wpQuiet_nil ?_
  intro _ hwz
  obtain ⟨y, rfl⟩ := hwz
  go_wp2_with fail
  go_returns
  exact ⟨rfl, F2.trans y.h (fun _ h => h.elim)⟩
end Go.Proofs.Ytgladedjgjhlaaa

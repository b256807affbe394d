/-
  Numbers in sixteen parts of 16 bits; the contracts of less and L of package custumalref06.
-/
import Derived.Test.YtnobobdgoccmcaaSl
namespace Go.Proofs.Ytnobobdgoccmcaa
open Go.RowKit
set_option linter.unusedVariables false

/-- The first n values of f as whole numbers. -/
def iq (n : Nat) (f : Nat → Nat) : Array Value := ((List.range n).map fun j => Value.int .i64 (f j : Int)).toArray
theorem iq_size (n : Nat) (f : Nat → Nat) : (iq n f).size = n := by simp [iq]
theorem iq_get (n : Nat) (f : Nat → Nat) (j : Nat) (hj : j < n) : (iq n f)[j]? = some (.int .i64 (f j : Int)) := by simp [iq, hj]
theorem iq_one (n : Nat) (f : Nat → Nat) : (iq n f).all (·.oneCell') = true := by simp [iq, Value.oneCell']
theorem iq_ext {cs : Array Value} {n : Nat} {f : Nat → Nat} (h : cs.size = n) (h2 : ∀ j, j < n → cs[j]? = some (.int .i64 (f j : Int))) : cs = iq n f := by
  apply Array.ext
  · rw [h, iq_size]
  · intro i h3 h4
    have a := h2 i (by omega)
    have b := iq_get n f i (by omega)
    rw [Array.getElem?_eq_getElem h3] at a
    rw [Array.getElem?_eq_getElem h4] at b
    exact (Option.some.inj a).trans (Option.some.inj b).symm
theorem iq_set (n : Nat) (f : Nat → Nat) (i b : Nat) (hi : i < n) : (iq n f).setIfInBounds i (.int .i64 (b : Int)) = iq n (fun j => if j = i then b else f j) := by
  refine iq_ext (by simp [iq_size]) (fun j hj => ?_)
  rw [Array.getElem?_setIfInBounds]
  by_cases h : i = j
  · subst h; simp [iq_size, hj]
  · rw [if_neg h, iq_get n f j hj, if_neg (fun e => h e.symm)]
theorem iq_congr {n : Nat} {f g : Nat → Nat} (h : ∀ j, j < n → f j = g j) : iq n f = iq n g := iq_ext (iq_size n f) (fun j hj => by rw [iq_get n f j hj, h j hj])
/-- A number's sixteen parts. -/
def nd (X : Nat) : Array Value := iq 16 (dig 65536 X)
theorem Try.size16 {f : Nat → Nat} : (Try.prog.info? 78).map (·.size) = some (iq 16 f).size := by
  rw [iq_size]; kernel_rfl
theorem dig_top (B X k : Nat) : X / B ^ k = B * (X / B ^ (k + 1)) + dig B X k := by
  unfold dig
  rw [Nat.pow_succ, ← Nat.div_div_eq_div_mul, Nat.div_add_mod]
theorem cmp_eq (X Y m : Nat) (h : X / 65536 ^ (m + 1) = Y / 65536 ^ (m + 1)) (hd : dig 65536 X m = dig 65536 Y m) : X / 65536 ^ m = Y / 65536 ^ m := by
  rw [dig_top, dig_top 65536 Y, h, hd]
theorem cmp_ne (X Y m : Nat) (h : X / 65536 ^ (m + 1) = Y / 65536 ^ (m + 1)) (hd : dig 65536 X m ≠ dig 65536 Y m) : (X < Y) ↔ dig 65536 X m < dig 65536 Y m := by
  have hp : 0 < 65536 ^ m := Nat.pow_pos (by decide)
  have e1 := dig_top 65536 X m
  have e2 := dig_top 65536 Y m
  have m1 := Nat.div_add_mod X (65536 ^ m)
  have m2 := Nat.div_add_mod Y (65536 ^ m)
  have l1 := Nat.mod_lt X hp
  have l2 := Nat.mod_lt Y hp
  rw [← h] at e2
  constructor
  · intro hlt
    have : X / 65536 ^ m ≤ Y / 65536 ^ m := Nat.div_le_div_right (Nat.le_of_lt hlt)
    omega
  · intro hlt
    have h1 : X / 65536 ^ m + 1 ≤ Y / 65536 ^ m := by omega
    have h2 := Nat.mul_le_mul_left (65536 ^ m) h1
    rw [Nat.mul_add, Nat.mul_one] at h2
    omega

set_option maxRecDepth 100000 in
set_option maxHeartbeats 1600000 in
theorem less_any (X Y : Nat) (hX : X < 65536 ^ 16) (hY : Y < 65536 ^ 16) (w : World) :
    Calls Try.prog 105 #[.agg (nd X), .agg (nd Y)] w fun e w' => e = .returned (.bool (decide (X < Y))) ∧ Fr (fun _ => False) w w' := by
  unfold nd
  go_enter Try.func105, Try.ntmps105
  go_wp2_with fail
  have A0 := heap_alloc2_old w (.cells (iq 16 (dig 65536 X)) 78) (.cells (iq 16 (dig 65536 Y)) 78)
  have B0 := heap_alloc2_new w (.cells (iq 16 (dig 65536 X)) 78) (.cells (iq 16 (dig 65536 Y)) 78)
  have F0 := ((Fr.refl (fun _ => False) w).alloc (.cells (iq 16 (dig 65536 X)) 78)).alloc (.cells (iq 16 (dig 65536 Y)) 78)
  go_loopw [5] (fun i wr => ∃ n : Nat, n ≤ 16 ∧ i = .int .i64 ((n : Int) - 1) ∧ X / 65536 ^ n = Y / 65536 ^ n ∧ wr.heap[w.heap.size]? = some (.cells (iq 16 (dig 65536 X)) 78 (0, 0)) ∧ wr.heap[w.heap.size + 1]? = some (.cells (iq 16 (dig 65536 Y)) 78 (0, 0)) ∧ Fr (fun _ => False) w wr) (fun i _ => (intOf i + 1).toNat)
  case atStart => exact ⟨16, by omega, by simp, by rw [Nat.div_eq_of_lt hX, Nat.div_eq_of_lt hY], A0, B0, F0⟩
  case round =>
    clear A0 B0 F0
    obtain ⟨n, hn, rfl, hxy, hA, hB, hF⟩ := hrel
    by_cases h0 : n = 0
    · subst h0
      rw [Nat.pow_zero, Nat.div_one, Nat.div_one] at hxy
      have hd : decide (X < Y) = false := by simp; omega
      rw [show ((0 : Nat) : Int) - 1 = -1 from rfl]
      have HD := Lib.hid hd
      clear hd hA hB hxy
      go_wp2_with fail
      go_ret
      exact ⟨by rw [HD.out]; rfl, hF⟩
    · obtain ⟨m, rfl⟩ : ∃ m, n = m + 1 := ⟨n - 1, by omega⟩
      rw [show ((m + 1 : Nat) : Int) - 1 = (m : Int) by omega]
      have cA := cell_of_block hA m
      rw [iq_get 16 _ m (by omega)] at cA
      have cB := cell_of_block hB m
      rw [iq_get 16 _ m (by omega)] at cB
      have q0 : (0 : Int) ≤ (m : Int) := by omega
      have q1 : (m : Int) < 16 := by omega
      have he := cmp_eq X Y m hxy
      have hne := cmp_ne X Y m hxy
      generalize dig 65536 X m = x at cA he hne
      generalize dig 65536 Y m = y at cB he hne
      by_cases hd : x = y
      · subst hd
        have HE := Lib.hid (he rfl)
        clear he hne hxy
        go_wp2_with fail
        go_quiet (fail)
        go_wp2_with fail
        go_roundw
        case rel => exact ⟨m, by omega, rfl, HE.out, hA, hB, hF.drewN nq⟩
        case measure => simp [intOf]
      · have hbn : ((x : Int) != (y : Int)) = true := by simp; omega
        have hde : decide (X < Y) = decide (x < y) := by
          rw [decide_eq_decide, hne hd]
        have HDE := Lib.hid hde
        clear he hne hxy hde
        go_wp2_with fail
        go_quiet (fail)
        replace cA : (wr.drewN nq).cell? ⟨w.heap.size, m, none⟩ = some (.int .i64 (x : Int)) := cA
        replace cB : (wr.drewN nq).cell? ⟨w.heap.size + 1, m, none⟩ = some (.int .i64 (y : Int)) := cB
        replace hF := hF.drewN nq
        generalize wr.drewN nq = wq at *
        go_wp2_with fail
        go_quiet (fail)
        go_wp2_with fail
        go_ret
        exact ⟨by rw [HDE.out]; rfl, hF.drewN _⟩
end Go.Proofs.Ytnobobdgoccmcaa


/-
  The contract of carry of package custumalref05.
-/
import Derived.Test.YtnobobdgoccmcaaA6
import Derived.Test.YtnobobdgoccmcaaCy
namespace Go.Proofs.Ytnobobdgoccmcaa
open Go.RowKit
set_option linter.unusedVariables false

theorem ov_le (g : Nat → Nat) (c : Nat) : ∀ n, (∀ j, j < n → g j < c) → ov 65536 g n ≤ c
  | 0, _ => by rw [ov_zero]; omega
  | n + 1, h => by
    have := ov_le g c n (fun j hj => h j (by omega))
    have := h n (by omega)
    rw [ov_succ _ _ _ (by decide)]
    omega
theorem val_le (g : Nat → Nat) (c : Nat) (h : ∀ j, j < 16 → g j < c) : val 65536 g 16 < (c + 1) * 115792089237316195423570985008687907853269984665640564039457584007913129639936 := by
  have h1 := ov_le g c 16 h
  unfold ov at h1
  rw [b16] at h1
  omega
theorem rpart_le (g : Nat → Nat) (c : Nat) (h : ov 65536 g 16 ≤ c) (j : Nat) : rpart g j < 65536 + 38 * c + 1 := by
  unfold rpart
  have := dig_lt 65536 (val 65536 g 16) j (by decide)
  split <;> omega
/-- The parts behind so many rounds. -/
def rit (g : Nat → Nat) : Nat → Nat → Nat
  | 0 => g
  | r + 1 => rpart (rit g r)
theorem rit_bd (g : Nat → Nat) (h : ∀ j, j < 16 → g j < 70368744177664) (r : Nat) (hr : r < 3) (j : Nat) (hj : j < 16) : rit g r j < 4503599627370496 := by
  have o0 := ov_le g 70368744177664 16 h
  have v0 := val_le g 70368744177664 h
  rcases r with _ | _ | _ | r
  · have := h j hj; show g j < _; omega
  · have := rpart_le g _ o0 j; show rpart g j < _; omega
  · have e : ov 65536 (rpart g) 16 ≤ 1 := by
      unfold ov
      rw [val_rpart, b16]
      unfold rnd
      omega
    have := rpart_le (rpart g) _ e j
    show rpart (rpart g) j < _
    omega
  · omega
theorem Try.sizeV {f : Nat → Nat} : (Try.prog.info? 26).map (·.size) = some (iq 16 f).size := by
  rw [iq_size]; kernel_rfl
theorem rpart_set (f : Nat → Nat) (V c : Nat) (hV : val 65536 f 16 = V) (hc : ov 65536 f 16 = c) : iq 16 (rpart f) = (iq 16 (fun j => if j < 16 then dig 65536 V j else f j)).setIfInBounds 0 (.int .i64 ((dig 65536 V 0 + 38 * c : Nat) : Int)) := by
  rw [iq_set 16 _ 0 _ (by omega)]
  refine iq_congr (fun j hj => ?_)
  unfold rpart
  rw [hV, hc]
  by_cases e : j = 0
  · rw [if_pos e, if_pos e, e]
  · rw [if_neg e, if_neg e, if_pos hj, Nat.add_zero]
set_option maxRecDepth 100000 in
set_option maxHeartbeats 3200000 in
theorem carry_any (g : Nat → Nat) (h : ∀ j, j < 16 → g j < 70368744177664) (w : World) :
    Calls Try.prog 109 #[.agg (iq 16 g)] w fun e w' => e = .returned (.agg (nd (rnd (rnd (rnd (val 65536 g 16)))))) ∧ Fr (fun _ => False) w w' := by
  have hend : iq 16 (rit g 3) = nd (rnd (rnd (rnd (val 65536 g 16)))) := by
    have := val_le g 70368744177664 h
    exact iq_congr (fun j hj => rnd3_dig g (by omega) j hj)
  rw [← hend]
  have HBD := Lib.hid (rit_bd g h)
  clear hend h
  have A0 := heap_alloc2_old w (.cells (iq 16 g) 26) (.cells #[.int .i64 0, .int .i64 0, .int .i64 0, .int .i64 0, .int .i64 0, .int .i64 0, .int .i64 0, .int .i64 0, .int .i64 0, .int .i64 0, .int .i64 0, .int .i64 0, .int .i64 0, .int .i64 0, .int .i64 0, .int .i64 0] 26)
  have B0 := heap_alloc2_new w (.cells (iq 16 g) 26) (.cells #[.int .i64 0, .int .i64 0, .int .i64 0, .int .i64 0, .int .i64 0, .int .i64 0, .int .i64 0, .int .i64 0, .int .i64 0, .int .i64 0, .int .i64 0, .int .i64 0, .int .i64 0, .int .i64 0, .int .i64 0, .int .i64 0] 26)
  have F0 : Fr (fun _ => False) w ((w.alloc (.cells (iq 16 g) 26)).alloc (.cells #[.int .i64 0, .int .i64 0, .int .i64 0, .int .i64 0, .int .i64 0, .int .i64 0, .int .i64 0, .int .i64 0, .int .i64 0, .int .i64 0, .int .i64 0, .int .i64 0, .int .i64 0, .int .i64 0, .int .i64 0, .int .i64 0] 26)) := ((Fr.refl _ w).alloc _).alloc _
  go_enter Try.func109, Try.ntmps109
  go_wp2_with fail
  go_loopw [3, 4, 5, 6] (fun r _ _ _ wr => ∃ n : Nat, n ≤ 3 ∧ r = .int .i64 n ∧ wr.heap[w.heap.size]? = some (.cells (iq 16 (rit g n)) 26 (0, 0)) ∧ wr.heap[w.heap.size + 1]? = some (.cells #[.int .i64 0, .int .i64 0, .int .i64 0, .int .i64 0, .int .i64 0, .int .i64 0, .int .i64 0, .int .i64 0, .int .i64 0, .int .i64 0, .int .i64 0, .int .i64 0, .int .i64 0, .int .i64 0, .int .i64 0, .int .i64 0] 26 (0, 0)) ∧ Fr (fun _ => False) w wr) (fun r _ _ _ _ => 3 - (intOf r).toNat)
  case atStart => exact ⟨0, by omega, by simp, A0, B0, F0⟩
  case round =>
    clear A0 B0 F0
    obtain ⟨n, hn, rfl, hA, hB, hF⟩ := hrel
    by_cases h3 : n < 3
    · have hbd := HBD.out n h3
      have HR := Lib.hid (show rpart (rit g n) = rit g (n + 1) from rfl)
      generalize rit g n = f at *
      have A1 : wr.heap[w.heap.size]? = some (.cells (iq 16 (fun j => if j < 0 then dig 65536 (val 65536 f 16) j else f j)) 26 (0, 0)) := by simpa using hA
      have HO := Lib.hid (ov_le f 4503599627370496)
      have HB := Lib.hid hbd
      have hlt : decide ((n : Int) < 3) = true := by simp; omega
      clear hA hbd
      go_wp2_with fail
      clear hlt
      obtain ⟨wo, rfl⟩ : ∃ wo : World, wo = wr := ⟨_, rfl⟩
      go_loopw [4, 5, 6] (fun o i _ wi => ∃ k : Nat, k ≤ 16 ∧ i = .int .i64 k ∧ o = .int .i64 (ov 65536 f k : Nat) ∧ wi.heap[w.heap.size]? = some (.cells (iq 16 (fun j => if j < k then dig 65536 (val 65536 f 16) j else f j)) 26 (0, 0)) ∧ wi.heap[w.heap.size + 1]? = some (.cells #[.int .i64 0, .int .i64 0, .int .i64 0, .int .i64 0, .int .i64 0, .int .i64 0, .int .i64 0, .int .i64 0, .int .i64 0, .int .i64 0, .int .i64 0, .int .i64 0, .int .i64 0, .int .i64 0, .int .i64 0, .int .i64 0] 26 (0, 0)) ∧ Fr (fun _ => False) w wi) (fun _ i _ _ => 16 - (intOf i).toNat)
      case atStart => exact ⟨0, by omega, by simp, by simp [ov_zero], A1, hB, hF⟩
      case round =>
        clear A1 hB hF
        obtain ⟨k, hk, rfl, rfl, hA, hB, hF⟩ := hrel
        by_cases h16 : k < 16
        · as_aux_lemma =>
          have q0 : (0 : Int) ≤ (k : Int) := by omega
          have q1 : (k : Int) < 16 := by omega
          have c0 := cell_of_block hA k
          rw [iq_get 16 _ k h16, if_neg (by omega)] at c0
          have f0 := free_of_block hA k
          have hx := HB.out k h16
          have hc := HO.out k (fun j hj => HB.out j (by omega))
          have hs := ov_succ 65536 f k (by decide)
          have hd := dig_val 65536 f 16 k (by decide) h16
          have hst := fun m hm => block_setCell hA k (.int .i64 ((m : Nat) : Int)) |>.trans (by rw [step_set 16 (dig 65536 (val 65536 f 16)) _ k m h16 hm])
          generalize f k = x at c0 hs hd hx
          generalize ov 65536 f k = c at hc hs hd ⊢
          obtain ⟨s, hse⟩ : ∃ s, s = x + c := ⟨_, rfl⟩
          rw [← hse] at hs hd
          have e2 : IntKind.i64.wrap ((x : Int) + (c : Int)) = (s : Int) := by rw [IntWalk.i64_in _ (by omega)]; omega
          have e2' : (x : Int) + (c : Int) = (s : Int) := by omega
          have e3 := mask16 s (by omega)
          have e4 : (s : Int) / 65536 = ((s / 65536 : Nat) : Int) := by omega
          rw [← hd] at e3
          rw [← hs] at e4
          have s0 : (0 : Int) ≤ (s : Int) := by omega
          have s9 : (s : Int) < 18014398509481984 := by omega
          have HS := Lib.hid (hst _ rfl)
          generalize hz : dig 65536 (val 65536 f 16) k = z at e3
          generalize hc2 : ov 65536 f (k + 1) = c2 at e4
          have HC2 := Lib.hid hc2
          have HZ := Lib.hid hz
          have HB2 := Lib.hid hB
          have HF := Lib.hid hF
          have E1 : Fr (fun i => i = w.heap.size) wr (wr.setCell ⟨w.heap.size, k, none⟩ (.int .i64 (z : Int))) := Fr.setCell (S := fun i => i = w.heap.size) (Fr.refl _ wr) (Or.inl rfl) _
          have E5 := Lib.hid ((E1.block (w.heap.size + 1) (lt_of_block hB) (by omega)).trans hB)
          have E2 : Fr (fun _ => False) w (wr.setCell ⟨w.heap.size, k, none⟩ (.int .i64 (z : Int))) := hF.setCell (Or.inr (Nat.le_refl _)) _
          clear hs hd hse hz hc2 hA hB hF hst E1
          go_wp2_with fail
          go_roundw
          case rel => exact ⟨k + 1, by omega, by go_num, by rw [HC2.out], by rw [← HZ.out]; exact HS.out, E5.out, E2⟩
          case measure => simp [intOf]; omega
        · as_aux_lemma =>
          obtain rfl : k = 16 := by omega
          have hc := HO.out 16 (fun j hj => HB.out j (by omega))
          have hR := rpart_set f _ _ rfl rfl
          generalize val 65536 f 16 = V at *
          generalize ov 65536 f 16 = c at *
          have c0 := cell_of_block hA 0
          rw [iq_get 16 _ 0 (by omega), if_pos (by omega)] at c0
          have f0 := free_of_block hA 0
          have hx := dig_lt 65536 V 0 (by decide)
          have hst := block_setCell hA 0 (.int .i64 ((dig 65536 V 0 + 38 * c : Nat) : Int))
          rw [← hR, HR.out] at hst
          generalize dig 65536 V 0 = x at c0 hx hst
          have e2 : IntKind.i64.wrap (38 * (c : Int)) = 38 * (c : Int) := IntWalk.i64_in _ (by omega)
          have e3 : IntKind.i64.wrap ((x : Int) + 38 * (c : Int)) = ((x + 38 * c : Nat) : Int) := by rw [IntWalk.i64_in _ (by omega)]; omega
          have e4 : (x : Int) + 38 * (c : Int) = ((x + 38 * c : Nat) : Int) := by omega
          generalize x + 38 * c = s at *
          have HS := Lib.hid hst
          have E1 : Fr (fun i => i = w.heap.size) wr (wr.setCell ⟨w.heap.size, 0, none⟩ (.int .i64 (s : Int))) := Fr.setCell (S := fun i => i = w.heap.size) (Fr.refl _ wr) (Or.inl rfl) _
          have E5 := Lib.hid ((E1.block (w.heap.size + 1) (lt_of_block hB) (by omega)).trans hB)
          have E2 : Fr (fun _ => False) w (wr.setCell ⟨w.heap.size, 0, none⟩ (.int .i64 (s : Int))) := hF.setCell (Or.inr (Nat.le_refl _)) _
          clear hst hA hB hF E1 hR
          rw [show ((16 : Nat) : Int) = 16 from rfl]
          go_wp2_with fail
          go_roundw
          case rel => exact ⟨n + 1, by omega, by go_num, HS.out, E5.out, E2⟩
          case measure => simp [intOf]; omega
    · as_aux_lemma =>
      obtain rfl : n = 3 := by omega
      have s3 := Try.sizeV (f := rit g 3)
      have hsz := z16_size (rit g 3)
      have hone := iq_one 16 (rit g 3)
      generalize hRR : iq 16 (rit g 3) = R at *
      have HRR := Lib.hid hRR
      clear hRR
      rw [show ((3 : Nat) : Int) = 3 from rfl]
      go_wp2_with (first
        | (with_reducible refine wpList_load_row rfl 26 (.tmp 1) rfl w.heap.size rfl 26 R (0, 0) _ hA Try.underlying26 rfl s3 ?_)
        | (with_reducible refine wpList_store_row rfl 26 (.tmp 2) (.tmp 32) rfl (w.heap.size + 1) R rfl rfl 26 _ hB s3 hsz hone ?_))
      refine bodyPost_ret (results_cell_row rfl _ _ (w.heap.size + 1) 26 R (0, 0) _ rfl (setRow_heap _ _ _ _ _ _ hB) Try.underlying26 rfl s3) rfl ?_
      exact ⟨by rw [HRR.out], hF.trans (Fr.setRow (S := fun k => k = w.heap.size + 1) (Fr.refl _ _) rfl _) (fun i hi => Or.inr (by omega))⟩
end Go.Proofs.Ytnobobdgoccmcaa


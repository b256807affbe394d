/-
  The contract of Of of package custumalref05.
-/
import Derived.Test.YtnobobdgoccmcaaVc
import Derived.Test.YtnobobdgoccmcaaMl
import Derived.Test.YtnobobdgoccmcaaSc
namespace Go.Proofs.Ytnobobdgoccmcaa
open Go.RowKit Pri
set_option linter.unusedVariables false

theorem dig_part (X q r : Nat) (hr : r < 4) : dig 18446744073709551616 X q / 2 ^ (16 * r) % 65536 = dig 65536 X (4 * q + r) := by
  unfold dig
  have e1 : (65536 : Nat) ^ (4 * q + r) = 18446744073709551616 ^ q * 2 ^ (16 * r) := by
    rw [Nat.pow_add, Nat.pow_mul, show (65536 : Nat) ^ 4 = 18446744073709551616 from by decide, show (65536 : Nat) = 2 ^ 16 from rfl, ← Nat.pow_mul]
  rw [e1, ← Nat.div_div_eq_div_mul]
  generalize X / 18446744073709551616 ^ q = z
  have h : r = 0 ∨ r = 1 ∨ r = 2 ∨ r = 3 := by omega
  rcases h with rfl | rfl | rfl | rfl
  · show z % 18446744073709551616 / 2 ^ 0 % 65536 = z / 2 ^ 0 % 65536; rw [Nat.pow_zero, Nat.div_one, Nat.div_one]; omega
  · show z % 18446744073709551616 / 65536 % 65536 = z / 65536 % 65536; omega
  · show z % 18446744073709551616 / 4294967296 % 65536 = z / 4294967296 % 65536; omega
  · show z % 18446744073709551616 / 281474976710656 % 65536 = z / 281474976710656 % 65536; omega
theorem maskU16 (z : Nat) (hz : z < 18446744073709551616) : bits .and .u64 (z : Int) 65535 = ((z % 65536 : Nat) : Int) := by
  rw [show (65535 : Int) = ((65535 : Nat) : Int) from rfl, (bits_u64_N z 65535 hz (by decide)).2.1, show (65535 : Nat) = 2 ^ 16 - 1 from rfl, Nat.and_two_pow_sub_one_eq_mod]
set_option maxRecDepth 100000 in
set_option maxHeartbeats 3200000 in
theorem of5_any (X : Nat) (hX : X < 115792089237316195423570985008687907853269984665640564039457584007913129639936) (w : World) :
    Calls Try.prog 74 #[.agg (nc X)] w fun e w' => e = .returned (.agg (nd (X % p25519))) ∧ Fr (fun _ => False) w w' := by
  have TI := fun W : World => tidy_any (dig 65536 X) (fun j _ => by have := dig_lt 65536 X j (by decide); omega) W
  rw [val_dig, b16, Nat.mod_eq_of_lt hX] at TI
  generalize X % p25519 = R at *
  have A0 := (Below.heap_alloc ((w.alloc (.cells (nc X) 23)).alloc (.cells #[.int .i64 0, .int .i64 0, .int .i64 0, .int .i64 0, .int .i64 0, .int .i64 0, .int .i64 0, .int .i64 0, .int .i64 0, .int .i64 0, .int .i64 0, .int .i64 0, .int .i64 0, .int .i64 0, .int .i64 0, .int .i64 0] 26)) (.cells #[.int .i64 0, .int .i64 0, .int .i64 0, .int .i64 0, .int .i64 0, .int .i64 0, .int .i64 0, .int .i64 0, .int .i64 0, .int .i64 0, .int .i64 0, .int .i64 0, .int .i64 0, .int .i64 0, .int .i64 0, .int .i64 0] 26) _ (by simp; omega)).trans (heap_alloc2_old w _ _)
  have R0 := (Below.heap_alloc ((w.alloc (.cells (nc X) 23)).alloc (.cells #[.int .i64 0, .int .i64 0, .int .i64 0, .int .i64 0, .int .i64 0, .int .i64 0, .int .i64 0, .int .i64 0, .int .i64 0, .int .i64 0, .int .i64 0, .int .i64 0, .int .i64 0, .int .i64 0, .int .i64 0, .int .i64 0] 26)) (.cells #[.int .i64 0, .int .i64 0, .int .i64 0, .int .i64 0, .int .i64 0, .int .i64 0, .int .i64 0, .int .i64 0, .int .i64 0, .int .i64 0, .int .i64 0, .int .i64 0, .int .i64 0, .int .i64 0, .int .i64 0, .int .i64 0] 26) _ (by simp)).trans (heap_alloc2_new w _ _)
  have N0 := heap_at ((w.alloc (.cells (nc X) 23)).alloc (.cells #[.int .i64 0, .int .i64 0, .int .i64 0, .int .i64 0, .int .i64 0, .int .i64 0, .int .i64 0, .int .i64 0, .int .i64 0, .int .i64 0, .int .i64 0, .int .i64 0, .int .i64 0, .int .i64 0, .int .i64 0, .int .i64 0] 26)) #[.int .i64 0, .int .i64 0, .int .i64 0, .int .i64 0, .int .i64 0, .int .i64 0, .int .i64 0, .int .i64 0, .int .i64 0, .int .i64 0, .int .i64 0, .int .i64 0, .int .i64 0, .int .i64 0, .int .i64 0, .int .i64 0] 26 (w.heap.size + 1 + 1) (by simp)
  rw [show (#[.int .i64 0, .int .i64 0, .int .i64 0, .int .i64 0, .int .i64 0, .int .i64 0, .int .i64 0, .int .i64 0, .int .i64 0, .int .i64 0, .int .i64 0, .int .i64 0, .int .i64 0, .int .i64 0, .int .i64 0, .int .i64 0] : Array Value) = iq 16 (fun j => if j < 0 then dig 65536 X j else 0) from rfl] at N0
  have F0 := ((((Fr.refl (fun _ => False) w).alloc (.cells (nc X) 23)).alloc (.cells #[.int .i64 0, .int .i64 0, .int .i64 0, .int .i64 0, .int .i64 0, .int .i64 0, .int .i64 0, .int .i64 0, .int .i64 0, .int .i64 0, .int .i64 0, .int .i64 0, .int .i64 0, .int .i64 0, .int .i64 0, .int .i64 0] 26)).alloc (.cells #[.int .i64 0, .int .i64 0, .int .i64 0, .int .i64 0, .int .i64 0, .int .i64 0, .int .i64 0, .int .i64 0, .int .i64 0, .int .i64 0, .int .i64 0, .int .i64 0, .int .i64 0, .int .i64 0, .int .i64 0, .int .i64 0] 26))
  rw [nc_uq] at A0 F0 R0 N0
  rw [nc_uq]
  clear hX
  go_enter Try.func74, Try.ntmps74
  go_wp2_with fail
  go_loopw [4] (fun i wr => ∃ k : Nat, k ≤ 16 ∧ i = .int .i64 k ∧ wr.heap[w.heap.size]? = some (.cells (uq 4 (dig 18446744073709551616 X)) 23 (0, 0)) ∧ wr.heap[w.heap.size + 1]? = some (.cells #[.int .i64 0, .int .i64 0, .int .i64 0, .int .i64 0, .int .i64 0, .int .i64 0, .int .i64 0, .int .i64 0, .int .i64 0, .int .i64 0, .int .i64 0, .int .i64 0, .int .i64 0, .int .i64 0, .int .i64 0, .int .i64 0] 26 (0, 0)) ∧ wr.heap[w.heap.size + 1 + 1]? = some (.cells (iq 16 (fun j => if j < k then dig 65536 X j else 0)) 26 (0, 0)) ∧ Fr (fun _ => False) w wr) (fun i _ => 16 - (intOf i).toNat)
  case atStart => exact ⟨0, by omega, by simp, A0, R0, N0, F0⟩
  case round =>
    clear A0 R0 N0 F0
    obtain ⟨k, hk, rfl, hA, hR, hN, hF⟩ := hrel
    by_cases h16 : k < 16
    · obtain ⟨q, hq⟩ : ∃ q, q = k / 4 := ⟨_, rfl⟩
      have hq4 : q < 4 := by omega
      have q0 : (0 : Int) ≤ (k : Int) := by omega
      have q1 : (k : Int) < 16 := by omega
      have q2 : (0 : Int) ≤ (q : Int) := by omega
      have q3 : (q : Int) < 4 := by omega
      have c0 := cell_of_block hA q
      rw [uq_get 4 _ q hq4] at c0
      have hz := dig_lt 18446744073709551616 X q (by decide)
      have hsz : k < (iq 16 (fun j => if j < k then dig 65536 X j else 0)).size := by rw [iq_size]; exact h16
      have hst := step_set 16 (dig 65536 X) (fun _ => 0) k _ h16 rfl
      have hx := dig_lt 65536 X k (by decide)
      have hr4 : k = 4 * q + 0 ∨ k = 4 * q + 1 ∨ k = 4 * q + 2 ∨ k = 4 * q + 3 := by omega
      have hdq : ((k : Int)).tdiv 4 = (q : Int) := by rw [Int.tdiv_eq_ediv_of_nonneg (by omega)]; omega
      have HA := Lib.hid hA
      have HR := Lib.hid hR
      have HN := Lib.hid hN
      have HF := Lib.hid hF
      have HST := Lib.hid hst
      clear hst hA hR hN hF hq
      rcases hr4 with h | h | h | h
      · as_aux_lemma =>
        have hrm : ((k : Int)).tmod 4 = 0 := by rw [Int.tmod_eq_emod_of_nonneg (by omega)]; omega
        have hp := dig_part X q 0 (by decide)
        rw [← h, show (2 : Nat) ^ (16 * 0) = 1 from by decide] at hp
        generalize dig 65536 X k = d at *
        generalize dig 18446744073709551616 X q = z at *
        have hzd : z / 1 < 18446744073709551616 := Nat.lt_of_le_of_lt (Nat.div_le_self _ _) hz
        have hm := maskU16 (z / 1) hzd
        rw [hp] at hm
        have hdv : (z : Int) / 1 = ((z / 1 : Nat) : Int) := by omega
        have hcv : IntKind.i64.wrap (d : Int) = (d : Int) := IntWalk.i64_in _ (by omega)
        generalize z / 1 = y at *
        clear hp h hz hzd hx
        go_wp2_with (with_reducible refine wpList_store_int rfl 3 (.tmp 20) (.tmp 19) rfl (w.heap.size + 1 + 1) k rfl .i64 (d : Int) rfl Try.i3 26 _ HN.out hsz ?k0)
        case k0 =>
        intro wa M0 E0
        have M1 := Lib.hid (M0.trans (by rw [HST.out]))
        have A2 := Lib.hid ((E0.block _ (lt_of_block HA.out) (by omega)).trans HA.out)
        have R2 := Lib.hid ((E0.block _ (lt_of_block HR.out) (by omega)).trans HR.out)
        have G2 := Lib.hid (HF.out.trans E0 (fun i hi => Or.inr (by omega)))
        clear M0 E0 hsz c0
        go_wp2_with fail
        go_roundw
        case rel => exact ⟨k + 1, by omega, by go_num, A2.out, R2.out, M1.out, G2.out⟩
        case measure => simp [intOf]; omega
      · as_aux_lemma =>
        have hrm : ((k : Int)).tmod 4 = 1 := by rw [Int.tmod_eq_emod_of_nonneg (by omega)]; omega
        have hp := dig_part X q 1 (by decide)
        rw [← h, show (2 : Nat) ^ (16 * 1) = 65536 from by decide] at hp
        generalize dig 65536 X k = d at *
        generalize dig 18446744073709551616 X q = z at *
        have hzd : z / 65536 < 18446744073709551616 := Nat.lt_of_le_of_lt (Nat.div_le_self _ _) hz
        have hm := maskU16 (z / 65536) hzd
        rw [hp] at hm
        have hdv : (z : Int) / 65536 = ((z / 65536 : Nat) : Int) := by omega
        have hcv : IntKind.i64.wrap (d : Int) = (d : Int) := IntWalk.i64_in _ (by omega)
        generalize z / 65536 = y at *
        clear hp h hz hzd hx
        go_wp2_with (with_reducible refine wpList_store_int rfl 3 (.tmp 20) (.tmp 19) rfl (w.heap.size + 1 + 1) k rfl .i64 (d : Int) rfl Try.i3 26 _ HN.out hsz ?k0)
        case k0 =>
        intro wa M0 E0
        have M1 := Lib.hid (M0.trans (by rw [HST.out]))
        have A2 := Lib.hid ((E0.block _ (lt_of_block HA.out) (by omega)).trans HA.out)
        have R2 := Lib.hid ((E0.block _ (lt_of_block HR.out) (by omega)).trans HR.out)
        have G2 := Lib.hid (HF.out.trans E0 (fun i hi => Or.inr (by omega)))
        clear M0 E0 hsz c0
        go_wp2_with fail
        go_roundw
        case rel => exact ⟨k + 1, by omega, by go_num, A2.out, R2.out, M1.out, G2.out⟩
        case measure => simp [intOf]; omega
      · as_aux_lemma =>
        have hrm : ((k : Int)).tmod 4 = 2 := by rw [Int.tmod_eq_emod_of_nonneg (by omega)]; omega
        have hp := dig_part X q 2 (by decide)
        rw [← h, show (2 : Nat) ^ (16 * 2) = 4294967296 from by decide] at hp
        generalize dig 65536 X k = d at *
        generalize dig 18446744073709551616 X q = z at *
        have hzd : z / 4294967296 < 18446744073709551616 := Nat.lt_of_le_of_lt (Nat.div_le_self _ _) hz
        have hm := maskU16 (z / 4294967296) hzd
        rw [hp] at hm
        have hdv : (z : Int) / 4294967296 = ((z / 4294967296 : Nat) : Int) := by omega
        have hcv : IntKind.i64.wrap (d : Int) = (d : Int) := IntWalk.i64_in _ (by omega)
        generalize z / 4294967296 = y at *
        clear hp h hz hzd hx
        go_wp2_with (with_reducible refine wpList_store_int rfl 3 (.tmp 20) (.tmp 19) rfl (w.heap.size + 1 + 1) k rfl .i64 (d : Int) rfl Try.i3 26 _ HN.out hsz ?k0)
        case k0 =>
        intro wa M0 E0
        have M1 := Lib.hid (M0.trans (by rw [HST.out]))
        have A2 := Lib.hid ((E0.block _ (lt_of_block HA.out) (by omega)).trans HA.out)
        have R2 := Lib.hid ((E0.block _ (lt_of_block HR.out) (by omega)).trans HR.out)
        have G2 := Lib.hid (HF.out.trans E0 (fun i hi => Or.inr (by omega)))
        clear M0 E0 hsz c0
        go_wp2_with fail
        go_roundw
        case rel => exact ⟨k + 1, by omega, by go_num, A2.out, R2.out, M1.out, G2.out⟩
        case measure => simp [intOf]; omega
      · as_aux_lemma =>
        have hrm : ((k : Int)).tmod 4 = 3 := by rw [Int.tmod_eq_emod_of_nonneg (by omega)]; omega
        have hp := dig_part X q 3 (by decide)
        rw [← h, show (2 : Nat) ^ (16 * 3) = 281474976710656 from by decide] at hp
        generalize dig 65536 X k = d at *
        generalize dig 18446744073709551616 X q = z at *
        have hzd : z / 281474976710656 < 18446744073709551616 := Nat.lt_of_le_of_lt (Nat.div_le_self _ _) hz
        have hm := maskU16 (z / 281474976710656) hzd
        rw [hp] at hm
        have hdv : (z : Int) / 281474976710656 = ((z / 281474976710656 : Nat) : Int) := by omega
        have hcv : IntKind.i64.wrap (d : Int) = (d : Int) := IntWalk.i64_in _ (by omega)
        generalize z / 281474976710656 = y at *
        clear hp h hz hzd hx
        go_wp2_with (with_reducible refine wpList_store_int rfl 3 (.tmp 20) (.tmp 19) rfl (w.heap.size + 1 + 1) k rfl .i64 (d : Int) rfl Try.i3 26 _ HN.out hsz ?k0)
        case k0 =>
        intro wa M0 E0
        have M1 := Lib.hid (M0.trans (by rw [HST.out]))
        have A2 := Lib.hid ((E0.block _ (lt_of_block HA.out) (by omega)).trans HA.out)
        have R2 := Lib.hid ((E0.block _ (lt_of_block HR.out) (by omega)).trans HR.out)
        have G2 := Lib.hid (HF.out.trans E0 (fun i hi => Or.inr (by omega)))
        clear M0 E0 hsz c0
        go_wp2_with fail
        go_roundw
        case rel => exact ⟨k + 1, by omega, by go_num, A2.out, R2.out, M1.out, G2.out⟩
        case measure => simp [intOf]; omega
    · as_aux_lemma =>
      obtain rfl : k = 16 := by omega
      rw [show iq 16 (fun j => if j < 16 then dig 65536 X j else 0) = iq 16 (dig 65536 X) from iq_congr (fun j hj => by rw [if_pos hj])] at hN
      have s1 := Try.sizeV (f := dig 65536 X)
      have s2 : (Try.prog.info? 26).map (·.size) = some (nd R).size := Try.sizeV
      have o2 : (nd R).all (·.oneCell') = true := iq_one 16 _
      have z2 : (#[.int .i64 0, .int .i64 0, .int .i64 0, .int .i64 0, .int .i64 0, .int .i64 0, .int .i64 0, .int .i64 0, .int .i64 0, .int .i64 0, .int .i64 0, .int .i64 0, .int .i64 0, .int .i64 0, .int .i64 0, .int .i64 0] : Array Value).size = (nd R).size := by unfold nd; rw [iq_size]; rfl
      generalize iq 16 (dig 65536 X) = S at *
      rw [show ((16 : Nat) : Int) = 16 from rfl]
      go_wp2_with (with_reducible refine wpList_load_row rfl 26 (.tmp 3) rfl (w.heap.size + 1 + 1) rfl 26 S (0, 0) _ hN Try.underlying26 rfl s1 ?_)
      refine (TI _).mono ?_
      rintro e w1 ⟨rfl, F1⟩
      have R3 := F1.keep hR
      have G3 := hF.trans F1 (fun _ h => h.elim)
      clear hA hN hR hF F1
      go_wp2_with (with_reducible refine wpList_store_row rfl 26 (.tmp 2) (.tmp 22) rfl (w.heap.size + 1) (nd R) rfl rfl 26 #[.int .i64 0, .int .i64 0, .int .i64 0, .int .i64 0, .int .i64 0, .int .i64 0, .int .i64 0, .int .i64 0, .int .i64 0, .int .i64 0, .int .i64 0, .int .i64 0, .int .i64 0, .int .i64 0, .int .i64 0, .int .i64 0] R3 s2 z2 o2 ?_)
      refine bodyPost_ret (results_cell_row rfl _ _ (w.heap.size + 1) 26 (nd R) (0, 0) _ rfl (setRow_heap _ _ _ _ _ _ R3) Try.underlying26 rfl s2) rfl ?_
      exact ⟨rfl, G3.trans (Fr.setRow (S := fun k => k = w.heap.size + 1) (Fr.refl _ _) rfl _) (fun i hi => Or.inr (by omega))⟩
end Go.Proofs.Ytnobobdgoccmcaa


/-
  The contract of Parts of package custumalref05.
-/
import Derived.Test.YtnobobdgoccmcaaVg
import Derived.Test.YtnobobdgoccmcaaPl
import Derived.Test.YtnobobdgoccmcaaNc
namespace Go.Proofs.Ytnobobdgoccmcaa
open Go.RowKit Pri
set_option linter.unusedVariables false

theorem b64_pow (j : Nat) : (18446744073709551616 : Nat) ^ j = 65536 ^ (4 * j) := by rw [show (18446744073709551616 : Nat) = 65536 ^ 4 from rfl, ← Nat.pow_mul]
theorem dig_low5 (X k j : Nat) : dig 18446744073709551616 (X % 65536 ^ k) j = X / 18446744073709551616 ^ j % 65536 ^ (min 4 (k - 4 * j)) := by
  unfold dig
  rw [b64_pow]
  by_cases h : 4 * j ≤ k
  · obtain ⟨m, rfl⟩ : ∃ m, k = 4 * j + m := ⟨k - 4 * j, by omega⟩
    rw [Nat.pow_add, Nat.mod_mul_right_div_self, show 4 * j + m - 4 * j = m by omega]
    by_cases h4 : 4 ≤ m
    · obtain ⟨n, rfl⟩ : ∃ n, m = 4 + n := ⟨m - 4, by omega⟩
      rw [show min 4 (4 + n) = 4 by omega, Nat.pow_add, show (65536 : Nat) ^ 4 = 18446744073709551616 from rfl, Nat.mod_mul_right_mod]
    · rw [show min 4 m = m by omega]
      exact Nat.mod_eq_of_lt (Nat.lt_of_lt_of_le (Nat.mod_lt _ (Nat.pow_pos (by decide))) (Nat.pow_le_pow_right (n := 65536) (by decide) (show m ≤ 4 by omega)))
  · rw [show k - 4 * j = 0 by omega, show min 4 0 = 0 from rfl, Nat.pow_zero, Nat.mod_one, Nat.div_eq_of_lt (Nat.lt_of_lt_of_le (Nat.mod_lt _ (Nat.pow_pos (by decide))) (Nat.pow_le_pow_right (n := 65536) (by decide) (show k ≤ 4 * j by omega)))]
theorem sh16 (r : Nat) : (2 : Nat) ^ (16 * r) = 65536 ^ r := by rw [Nat.pow_mul]
theorem part_old5 (X k : Nat) : dig 18446744073709551616 (X % 65536 ^ k) (k / 4) = X / 18446744073709551616 ^ (k / 4) % 2 ^ (16 * (k % 4)) := by
  rw [dig_low5, sh16, show min 4 (k - 4 * (k / 4)) = k % 4 by omega]
theorem part_new5 (X k : Nat) : dig 18446744073709551616 (X % 65536 ^ (k + 1)) (k / 4) = dig 18446744073709551616 (X % 65536 ^ k) (k / 4) + 2 ^ (16 * (k % 4)) * dig 65536 X k := by
  rw [part_old5, dig_low5, sh16, show min 4 (k + 1 - 4 * (k / 4)) = k % 4 + 1 by omega, Nat.pow_succ, Nat.mod_mul]
  congr 2
  unfold dig
  rw [b64_pow, Nat.div_div_eq_div_mul, ← Nat.pow_add, show 4 * (k / 4) + k % 4 = k by omega]
theorem part_step5 (X k : Nat) (hk : k < 16) (z : Nat) (hz : z = dig 18446744073709551616 (X % 65536 ^ (k + 1)) (k / 4)) : (nc (X % 65536 ^ k)).setIfInBounds (k / 4) (.int .u64 (z : Int)) = nc (X % 65536 ^ (k + 1)) := by
  rw [nc_uq, nc_uq, uq_set 4 _ _ _ (by omega)]
  refine uq_congr (fun j hj => ?_)
  by_cases c : j = k / 4
  · subst c; rw [if_pos rfl, hz]
  · rw [if_neg c, dig_low5, dig_low5, show min 4 (k + 1 - 4 * j) = min 4 (k - 4 * j) by omega]
theorem or_sum5 (o x u : Nat) (ho : o < 2 ^ u) (h : o + 2 ^ u * x < 18446744073709551616) : bits .or .u64 (o : Int) ((2 ^ u * x : Nat) : Int) = ((o + 2 ^ u * x : Nat) : Int) := by
  rw [(bits_u64_N o (2 ^ u * x) (by omega) (by omega)).1, Nat.or_comm, ← Nat.two_pow_add_eq_or_of_lt ho, Nat.add_comm]
theorem Try.iU5 : (Try.prog.info? 22).map (·.size) = some 1 := by kernel_rfl
theorem Try.sizeP5 (X : Nat) : (Try.prog.info? 23).map (·.size) = some (nc X).size := by show _ = some 4; kernel_rfl
set_option maxRecDepth 100000 in
set_option maxHeartbeats 3200000 in
theorem parts5_any (X : Nat) (hX : X < 115792089237316195423570985008687907853269984665640564039457584007913129639936) (w : World) :
    Calls Try.prog 75 #[.agg (nd X)] w fun e w' => e = .returned (.agg (nc X)) ∧ Fr (fun _ => False) w w' := by
  have B0 := (Below.heap_alloc ((w.alloc (.cells (nd X) 26)).alloc (.cells #[.int .u64 0, .int .u64 0, .int .u64 0, .int .u64 0] 23)) (.cells #[.int .u64 0, .int .u64 0, .int .u64 0, .int .u64 0] 23) _ (by simp; omega)).trans (heap_alloc2_old w _ _)
  have R0 := (Below.heap_alloc ((w.alloc (.cells (nd X) 26)).alloc (.cells #[.int .u64 0, .int .u64 0, .int .u64 0, .int .u64 0] 23)) (.cells #[.int .u64 0, .int .u64 0, .int .u64 0, .int .u64 0] 23) _ (by simp)).trans (heap_alloc2_new w _ _)
  have A0 := heap_at ((w.alloc (.cells (nd X) 26)).alloc (.cells #[.int .u64 0, .int .u64 0, .int .u64 0, .int .u64 0] 23)) #[.int .u64 0, .int .u64 0, .int .u64 0, .int .u64 0] 23 (w.heap.size + 1 + 1) (by simp)
  have F0 := ((((Fr.refl (fun _ => False) w).alloc (.cells (nd X) 26)).alloc (.cells #[.int .u64 0, .int .u64 0, .int .u64 0, .int .u64 0] 23)).alloc (.cells #[.int .u64 0, .int .u64 0, .int .u64 0, .int .u64 0] 23))
  have A0' : (((w.alloc (.cells (nd X) 26)).alloc (.cells #[.int .u64 0, .int .u64 0, .int .u64 0, .int .u64 0] 23)).alloc (.cells #[.int .u64 0, .int .u64 0, .int .u64 0, .int .u64 0] 23)).heap[w.heap.size + 1 + 1]? = some (.cells (nc (X % 65536 ^ 0)) 23 (0, 0)) := A0.trans (congrArg (fun a => some (Obj.cells a 23 (0, 0))) (by rw [Nat.pow_zero, Nat.mod_one]; rfl))
  have XX : X % 65536 ^ 16 = X := Nat.mod_eq_of_lt (by rw [b16]; exact hX)
  clear A0 hX
  go_enter Try.func75, Try.ntmps75
  go_wp2_with fail
  go_loopw [4] (fun i wr => ∃ k : Nat, k ≤ 16 ∧ i = .int .i64 k ∧ wr.heap[w.heap.size + 1 + 1]? = some (.cells (nc (X % 65536 ^ k)) 23 (0, 0)) ∧ wr.heap[w.heap.size]? = some (.cells (nd X) 26 (0, 0)) ∧ wr.heap[w.heap.size + 1]? = some (.cells #[.int .u64 0, .int .u64 0, .int .u64 0, .int .u64 0] 23 (0, 0)) ∧ Fr (fun _ => False) w wr) (fun i _ => 16 - (intOf i).toNat)
  case atStart => exact ⟨0, by omega, by simp, A0', B0, R0, F0⟩
  case round =>
    clear A0' B0 R0 F0
    obtain ⟨k, hk, rfl, hA, hB, hR, hF⟩ := hrel
    by_cases h16 : k < 16
    · as_aux_lemma =>
      have q0 : (0 : Int) ≤ (k : Int) := by omega
      have q1 : (k : Int) < 16 := by omega
      have hx := dig_lt 65536 X k (by decide)
      have ho : dig 18446744073709551616 (X % 65536 ^ k) (k / 4) < 2 ^ (16 * (k % 4)) := by rw [part_old5]; exact Nat.mod_lt _ (Nat.pow_pos (by decide))
      have hn := part_new5 X k
      have hl := dig_lt 18446744073709551616 (X % 65536 ^ (k + 1)) (k / 4) (by decide)
      have hst := fun z => part_step5 X k h16 z
      have hsz : k / 4 < (nc (X % 65536 ^ k)).size := by show k / 4 < 4; omega
      have g0 : (nc (X % 65536 ^ k))[k / 4]? = some (.int .u64 (dig 18446744073709551616 (X % 65536 ^ k) (k / 4) : Int)) := by rw [nc_uq]; exact uq_get 4 _ _ (by omega)
      have g1 : (nd X)[k]? = some (.int .i64 (dig 65536 X k : Int)) := iq_get 16 _ k h16
      have hd4 : k / 4 < 4 := by omega
      have hr4 : k % 4 < 4 := by omega
      have hq : ((k : Int)).tdiv 4 = ((k / 4 : Nat) : Int) := by rw [Int.tdiv_eq_ediv_of_nonneg (by omega)]; omega
      have hr : ((k : Int)).tmod 4 = ((k % 4 : Nat) : Int) := by rw [Int.tmod_eq_emod_of_nonneg (by omega)]; omega
      have hHA := hA
      generalize dig 18446744073709551616 (X % 65536 ^ (k + 1)) (k / 4) = nw at hn hl hst
      generalize dig 18446744073709551616 (X % 65536 ^ k) (k / 4) = o at ho hn g0
      generalize dig 65536 X k = x at hx hn g1
      generalize k / 4 = d at *
      obtain ⟨u, hu⟩ : ∃ u, u = 16 * (k % 4) := ⟨_, rfl⟩
      rw [← hu] at hn ho
      generalize k % 4 = r at hr hr4 hu
      have hmul : 16 * (r : Int) = (u : Int) := by omega
      have da : (0 : Int) ≤ (d : Int) := by omega
      have db : (d : Int) < 4 := by omega
      have ra : (0 : Int) ≤ (r : Int) := by omega
      have rb : (r : Int) < 4 := by omega
      have ua : (0 : Int) ≤ (u : Int) := by omega
      have ub : (u : Int) < 64 := by omega
      have xa : (0 : Int) ≤ (x : Int) := by omega
      have xb : (x : Int) < 65536 := by omega
      have hor := or_sum5 o x u ho (by omega)
      rw [← hn] at hor
      have hlt : 2 ^ u * x < 18446744073709551616 := by omega
      have hsl : IntKind.u64.wrap ((x : Int) * 2 ^ u) = ((2 ^ u * x : Nat) : Int) := by
        rw [show (x : Int) * 2 ^ u = ((2 ^ u * x : Nat) : Int) by rw [Nat.mul_comm]; simp, IntKind.wrap_u64]
        omega
      generalize 2 ^ u * x = y at hor hsl
      have HST := Lib.hid hst
      have HA := Lib.hid hA
      have HB := Lib.hid hB
      have HR := Lib.hid hR
      have HF := Lib.hid hF
      clear hst hA hHA hB hR hF XX hn ho hl hlt hu hx
      go_wp2_with fail
      refine wp_region_tail 16 [] (by kernel_rfl) (by kernel_rfl) mk_nil ?_
      apply Exists.intro
      refine ⟨?wk, ?fin⟩
      case wk =>
        intro γ
        have c0 := fun y : Wg γ => y.cell HA.out d g0
        have c1 := fun y : Wg γ => y.cell HB.out k g1
        simp only [List.take_succ_cons, List.take_zero]
        repeat (any_goals (first | go_big_quiet_step (fail) | quiet_step (fail)))
        exact wpQuiet_nil rfl
      case fin =>
        intro gs wx hE hg hne
        simp only [putAll, List.drop_succ_cons, List.drop_zero, List.length_nil, Nat.add_zero]
        have A1 := Lib.hid (hE.keep HA.out)
        have B1 := Lib.hid (hE.keep HB.out)
        have R1 := Lib.hid (hE.keep HR.out)
        have G1 := Lib.hid (HF.out.trans hE (fun _ h => h.elim))
        clear hg hne hE
        go_wp2_with (with_reducible refine wpList_store_int rfl 22 (.tmp 24) (.tmp 23) rfl (w.heap.size + 1 + 1) d rfl .u64 (nw : Int) rfl Try.iU5 23 _ A1.out hsz ?k0)
        case k0 =>
        intro wa M0 E0
        have M1 := Lib.hid (M0.trans (by rw [HST.out nw rfl]))
        have B2 := Lib.hid ((E0.block _ (lt_of_block B1.out) (by omega)).trans B1.out)
        have R2 := Lib.hid ((E0.block _ (lt_of_block R1.out) (by omega)).trans R1.out)
        have G2 := Lib.hid (G1.out.trans E0 (fun i hi => Or.inr (by omega)))
        clear M0 E0 A1 B1 R1 G1 hsz
        go_wp2_with fail
        go_roundw
        case rel => exact ⟨k + 1, by omega, by go_num, M1.out, B2.out, R2.out, G2.out⟩
        case measure => simp [intOf]; omega
    · as_aux_lemma =>
      obtain rfl : k = 16 := by omega
      rw [XX] at hA
      have s1 := Try.sizeP5 X
      have z1 : (#[.int .u64 0, .int .u64 0, .int .u64 0, .int .u64 0] : Array Value).size = (nc X).size := rfl
      have o1 := nc_one X
      generalize hS : nc X = S at *
      have HS := Lib.hid hS
      clear XX hB hS
      rw [show ((16 : Nat) : Int) = 16 from rfl]
      go_wp2_with (first
        | (with_reducible refine wpList_load_row rfl 23 (.tmp 3) rfl (w.heap.size + 1 + 1) rfl 23 S (0, 0) _ hA Try.underlying23 rfl s1 ?_)
        | (with_reducible refine wpList_store_row rfl 23 (.tmp 2) (.tmp 25) rfl (w.heap.size + 1) S rfl rfl 23 #[.int .u64 0, .int .u64 0, .int .u64 0, .int .u64 0] hR s1 z1 o1 ?_))
      refine bodyPost_ret (results_cell_row rfl _ _ (w.heap.size + 1) 23 S (0, 0) _ rfl (setRow_heap _ _ _ _ _ _ hR) Try.underlying23 rfl s1) rfl ?_
      exact ⟨by rw [HS.out], hF.trans (Fr.setRow (S := fun k => k = w.heap.size + 1) (Fr.refl _ _) rfl _) (fun i hi => Or.inr (by have : i = w.heap.size + 1 := hi; omega))⟩
end Go.Proofs.Ytnobobdgoccmcaa


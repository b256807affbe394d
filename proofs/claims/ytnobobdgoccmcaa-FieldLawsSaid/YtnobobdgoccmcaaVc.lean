/-
  The contract of Add of package custumalref05.
-/
import Derived.Test.YtnobobdgoccmcaaVb
import Derived.Test.YtnobobdgoccmcaaKt
namespace Go.Proofs.Ytnobobdgoccmcaa
open Go.RowKit Pri
set_option linter.unusedVariables false

theorem val_sum (B : Nat) (f g : Nat → Nat) : ∀ n, val B (fun j => f j + g j) n = val B f n + val B g n
  | 0 => rfl
  | n + 1 => by
    show val B _ n + (f n + g n) * B ^ n = val B f n + f n * B ^ n + (val B g n + g n * B ^ n)
    rw [val_sum B f g n, Nat.add_mul]
    omega
theorem Try.i3 : (Try.prog.info? 3).map (·.size) = some 1 := by kernel_rfl
set_option maxRecDepth 100000 in
set_option maxHeartbeats 3200000 in
theorem add5_any (X Y : Nat) (hX : X < 115792089237316195423570985008687907853269984665640564039457584007913129639936) (hY : Y < 115792089237316195423570985008687907853269984665640564039457584007913129639936) (w : World) :
    Calls Try.prog 19 #[.agg (nd X), .agg (nd Y)] w fun e w' => e = .returned (.agg (nd ((X + Y) % p25519))) ∧ Fr (fun _ => False) w w' := by
  have TI := fun W : World => tidy_any (fun j => dig 65536 X j + dig 65536 Y j) (fun j _ => by have := dig_lt 65536 X j (by decide); have := dig_lt 65536 Y j (by decide); show dig 65536 X j + dig 65536 Y j < _; omega) W
  rw [val_sum, val_dig, val_dig, b16, Nat.mod_eq_of_lt hX, Nat.mod_eq_of_lt hY] at TI
  generalize (X + Y) % p25519 = R at *
  have A0 := (Below.heap_alloc ((w.alloc (.cells (nd X) 26)).alloc (.cells (nd Y) 26)) (.cells #[.int .i64 0, .int .i64 0, .int .i64 0, .int .i64 0, .int .i64 0, .int .i64 0, .int .i64 0, .int .i64 0, .int .i64 0, .int .i64 0, .int .i64 0, .int .i64 0, .int .i64 0, .int .i64 0, .int .i64 0, .int .i64 0] 26) _ (by simp; omega)).trans (heap_alloc2_old w _ _)
  have B0 := (Below.heap_alloc ((w.alloc (.cells (nd X) 26)).alloc (.cells (nd Y) 26)) (.cells #[.int .i64 0, .int .i64 0, .int .i64 0, .int .i64 0, .int .i64 0, .int .i64 0, .int .i64 0, .int .i64 0, .int .i64 0, .int .i64 0, .int .i64 0, .int .i64 0, .int .i64 0, .int .i64 0, .int .i64 0, .int .i64 0] 26) _ (by simp)).trans (heap_alloc2_new w _ _)
  have R0 := heap_at ((w.alloc (.cells (nd X) 26)).alloc (.cells (nd Y) 26)) #[.int .i64 0, .int .i64 0, .int .i64 0, .int .i64 0, .int .i64 0, .int .i64 0, .int .i64 0, .int .i64 0, .int .i64 0, .int .i64 0, .int .i64 0, .int .i64 0, .int .i64 0, .int .i64 0, .int .i64 0, .int .i64 0] 26 (w.heap.size + 1 + 1) (by simp)
  have F0 := ((((Fr.refl (fun _ => False) w).alloc (.cells (nd X) 26)).alloc (.cells (nd Y) 26)).alloc (.cells #[.int .i64 0, .int .i64 0, .int .i64 0, .int .i64 0, .int .i64 0, .int .i64 0, .int .i64 0, .int .i64 0, .int .i64 0, .int .i64 0, .int .i64 0, .int .i64 0, .int .i64 0, .int .i64 0, .int .i64 0, .int .i64 0] 26))
  have A0' : (((w.alloc (.cells (nd X) 26)).alloc (.cells (nd Y) 26)).alloc (.cells #[.int .i64 0, .int .i64 0, .int .i64 0, .int .i64 0, .int .i64 0, .int .i64 0, .int .i64 0, .int .i64 0, .int .i64 0, .int .i64 0, .int .i64 0, .int .i64 0, .int .i64 0, .int .i64 0, .int .i64 0, .int .i64 0] 26)).heap[w.heap.size]? = some (.cells (iq 16 (fun j => if j < 0 then dig 65536 X j + dig 65536 Y j else dig 65536 X j)) 26 (0, 0)) := A0.trans (congrArg (fun a => some (Obj.cells a 26 (0, 0))) (iq_congr (fun j hj => by rw [if_neg (by omega)])))
  clear A0 hX hY
  go_enter Try.func19, Try.ntmps19
  go_wp2_with fail
  go_loopw [5] (fun i wr => ∃ k : Nat, k ≤ 16 ∧ i = .int .i64 k ∧ wr.heap[w.heap.size]? = some (.cells (iq 16 (fun j => if j < k then dig 65536 X j + dig 65536 Y j else dig 65536 X j)) 26 (0, 0)) ∧ wr.heap[w.heap.size + 1]? = some (.cells (nd Y) 26 (0, 0)) ∧ wr.heap[w.heap.size + 1 + 1]? = some (.cells #[.int .i64 0, .int .i64 0, .int .i64 0, .int .i64 0, .int .i64 0, .int .i64 0, .int .i64 0, .int .i64 0, .int .i64 0, .int .i64 0, .int .i64 0, .int .i64 0, .int .i64 0, .int .i64 0, .int .i64 0, .int .i64 0] 26 (0, 0)) ∧ Fr (fun _ => False) w wr) (fun i _ => 16 - (intOf i).toNat)
  case atStart => exact ⟨0, by omega, by simp, A0', B0, R0, F0⟩
  case round =>
    clear A0' B0 R0 F0
    obtain ⟨k, hk, rfl, hA, hB, hR, hF⟩ := hrel
    by_cases h16 : k < 16
    · as_aux_lemma =>
      have q0 : (0 : Int) ≤ (k : Int) := by omega
      have q1 : (k : Int) < 16 := by omega
      have hx := dig_lt 65536 X k (by decide)
      have hy := dig_lt 65536 Y k (by decide)
      have hsz : k < (iq 16 (fun j => if j < k then dig 65536 X j + dig 65536 Y j else dig 65536 X j)).size := by rw [iq_size]; exact h16
      have g0 : (iq 16 (fun j => if j < k then dig 65536 X j + dig 65536 Y j else dig 65536 X j))[k]? = some (.int .i64 (dig 65536 X k : Int)) := by rw [iq_get 16 _ k h16, if_neg (by omega)]
      have g1 : (nd Y)[k]? = some (.int .i64 (dig 65536 Y k : Int)) := iq_get 16 _ k h16
      have hst := step_set 16 (fun j => dig 65536 X j + dig 65536 Y j) (dig 65536 X) k _ h16 rfl
      generalize dig 65536 X k = x at hx g0 hst
      generalize dig 65536 Y k = y at hy g1 hst
      have e1 : IntKind.i64.wrap ((x : Int) + (y : Int)) = (x : Int) + (y : Int) := IntWalk.i64_in _ (by omega)
      have x9 : (x : Int) < 65536 := by omega
      have y9 : (y : Int) < 65536 := by omega
      have HST := Lib.hid hst
      have HA := Lib.hid hA
      have HB := Lib.hid hB
      have HR := Lib.hid hR
      have HF := Lib.hid hF
      clear hst hA hB hR hF
      go_wp2_with fail
      refine wp_region_tail 9 [] (by kernel_rfl) (by kernel_rfl) mk_nil ?_
      apply Exists.intro
      refine ⟨?wk, ?fin⟩
      case wk =>
        intro γ
        have c0 := fun y : Wg γ => y.cell HA.out k g0
        have c1 := fun y : Wg γ => y.cell HB.out k g1
        simp only [List.take_succ_cons, List.take_zero]
        repeat (any_goals (first | go_big_quiet_step (fail) | quiet_step (fail)))
        exact wpQuiet_nil rfl
      case fin =>
        intro gs wx hE hg hne
        simp only [putAll, List.drop_succ_cons, List.drop_zero, List.length_nil, Nat.add_zero]
        have A1 := Lib.hid (hE.keep HA.out)
        have B1 := Lib.hid (hE.keep HB.out)
        have R1 := Lib.hid (hE.keep HR.out)
        have G1 := Lib.hid (HF.out.trans hE (fun _ h => h.elim))
        clear hg hne hE
        go_wp2_with (with_reducible refine wpList_store_int rfl 3 (.tmp 18) (.tmp 17) rfl w.heap.size k rfl .i64 ((x : Int) + (y : Int)) rfl Try.i3 26 _ A1.out hsz ?k0)
        case k0 =>
        intro wa M0 E0
        have M1 := Lib.hid (M0.trans (by rw [show (x : Int) + (y : Int) = ((x + y : Nat) : Int) by omega, HST.out]))
        have B2 := Lib.hid ((E0.block _ (lt_of_block B1.out) (by omega)).trans B1.out)
        have R2 := Lib.hid ((E0.block _ (lt_of_block R1.out) (by omega)).trans R1.out)
        have G2 := Lib.hid (G1.out.trans E0 (fun i hi => Or.inr (by omega)))
        clear M0 E0 A1 B1 R1 G1 hsz
        go_wp2_with fail
        go_roundw
        case rel => exact ⟨k + 1, by omega, by go_num, M1.out, B2.out, R2.out, G2.out⟩
        case measure => simp [intOf]; omega
    · as_aux_lemma =>
      obtain rfl : k = 16 := by omega
      rw [show iq 16 (fun j => if j < 16 then dig 65536 X j + dig 65536 Y j else dig 65536 X j) = iq 16 (fun j => dig 65536 X j + dig 65536 Y j) from iq_congr (fun j hj => by rw [if_pos hj])] at hA
      have s1 := Try.sizeV (f := fun j => dig 65536 X j + dig 65536 Y j)
      have s2 : (Try.prog.info? 26).map (·.size) = some (nd R).size := Try.sizeV
      have o2 : (nd R).all (·.oneCell') = true := iq_one 16 _
      have z2 : (#[.int .i64 0, .int .i64 0, .int .i64 0, .int .i64 0, .int .i64 0, .int .i64 0, .int .i64 0, .int .i64 0, .int .i64 0, .int .i64 0, .int .i64 0, .int .i64 0, .int .i64 0, .int .i64 0, .int .i64 0, .int .i64 0] : Array Value).size = (nd R).size := by unfold nd; rw [iq_size]; rfl
      generalize iq 16 (fun j => dig 65536 X j + dig 65536 Y j) = S at *
      rw [show ((16 : Nat) : Int) = 16 from rfl]
      go_wp2_with (with_reducible refine wpList_load_row rfl 26 (.tmp 2) rfl w.heap.size rfl 26 S (0, 0) _ hA Try.underlying26 rfl s1 ?_)
      refine (TI _).mono ?_
      rintro e w1 ⟨rfl, F1⟩
      have R3 := F1.keep hR
      have G3 := hF.trans F1 (fun _ h => h.elim)
      clear hA hB hR hF F1
      go_wp2_with (with_reducible refine wpList_store_row rfl 26 (.tmp 4) (.tmp 20) rfl (w.heap.size + 1 + 1) (nd R) rfl rfl 26 #[.int .i64 0, .int .i64 0, .int .i64 0, .int .i64 0, .int .i64 0, .int .i64 0, .int .i64 0, .int .i64 0, .int .i64 0, .int .i64 0, .int .i64 0, .int .i64 0, .int .i64 0, .int .i64 0, .int .i64 0, .int .i64 0] R3 s2 z2 o2 ?_)
      refine bodyPost_ret (results_cell_row rfl _ _ (w.heap.size + 1 + 1) 26 (nd R) (0, 0) _ rfl (setRow_heap _ _ _ _ _ _ R3) Try.underlying26 rfl s2) rfl ?_
      exact ⟨rfl, G3.trans (Fr.setRow (S := fun k => k = w.heap.size + 1 + 1) (Fr.refl _ _) rfl _) (fun i hi => Or.inr (by omega))⟩
end Go.Proofs.Ytnobobdgoccmcaa


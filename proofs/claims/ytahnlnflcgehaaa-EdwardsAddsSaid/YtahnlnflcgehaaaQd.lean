/-
  The contract of Add of package custumalref05.
  The contract of Neg of package custumalref05.
  The contract of Sub of package custumalref05.
  The contract of Parts of package custumalref05.
  The contract of Of of package custumalref05.
  The contract of Mul of package custumalref05.
  The contracts of parts, elem, sum, difference, step and line of package field.
  The contracts of rest, folded and product of package field.
  The contract of folded of package field.
  The contract of product of package field.
  The contracts of Rest, Add, Mul, Same of package field.
  The contracts of prime, Sub, Neg of package field.
  The contracts of Same and Odd of package field.
  Sixteen numbers of four words in one block; the contract of firstPowers of package field.
  The contract of firstPowers of package field.
  The contract of Pow of package field.
  The contracts of Inv of package field and of the laws' halves.
-/
import Derived.Test.YtahnlnflcgehaaaQc
import Derived.Test.YtahnlnflcgehaaaQb
import Derived.Test.YtahnlnflcgehaaaQa
import Derived.Deep.MidRow
namespace Go.Proofs.Ytahnlnflcgehaaa
open Go.RowKit Pri
set_option linter.unusedVariables false

theorem val_sum (B : Nat) (f g : Nat → Nat) : ∀ n, val B (fun j => f j + g j) n = val B f n + val B g n
  | 0 => rfl
  | n + 1 => by
    show val B _ n + (f n + g n) * B ^ n = val B f n + f n * B ^ n + (val B g n + g n * B ^ n)
    rw [val_sum B f g n, Nat.add_mul]
    omega
theorem Try.i3 : (Try.prog.info? 3).map (·.size) = some 1 := by kernel_rfl
set_option maxRecDepth 100000 in
set_option maxHeartbeats 3200000 in
theorem add5_any (X Y : Nat) (hX : X < 115792089237316195423570985008687907853269984665640564039457584007913129639936) (hY : Y < 115792089237316195423570985008687907853269984665640564039457584007913129639936) (w : World) :
    Calls Try.prog 19 #[.agg (nd X), .agg (nd Y)] w fun e w' => e = .returned (.agg (nd ((X + Y) % p25519))) ∧ Fr (fun _ => False) w w' := by
  have TI := fun W : World => tidy_any (fun j => dig 65536 X j + dig 65536 Y j) (fun j _ => by have := dig_lt 65536 X j (by decide); have := dig_lt 65536 Y j (by decide); show dig 65536 X j + dig 65536 Y j < _; omega) W
  rw [val_sum, val_dig, val_dig, b16, Nat.mod_eq_of_lt hX, Nat.mod_eq_of_lt hY] at TI
  generalize (X + Y) % p25519 = R at *
  have A0 := (Below.heap_alloc ((w.alloc (.cells (nd X) 26)).alloc (.cells (nd Y) 26)) (.cells #[.int .i64 0, .int .i64 0, .int .i64 0, .int .i64 0, .int .i64 0, .int .i64 0, .int .i64 0, .int .i64 0, .int .i64 0, .int .i64 0, .int .i64 0, .int .i64 0, .int .i64 0, .int .i64 0, .int .i64 0, .int .i64 0] 26) _ (by simp; omega)).trans (heap_alloc2_old w _ _)
  have B0 := (Below.heap_alloc ((w.alloc (.cells (nd X) 26)).alloc (.cells (nd Y) 26)) (.cells #[.int .i64 0, .int .i64 0, .int .i64 0, .int .i64 0, .int .i64 0, .int .i64 0, .int .i64 0, .int .i64 0, .int .i64 0, .int .i64 0, .int .i64 0, .int .i64 0, .int .i64 0, .int .i64 0, .int .i64 0, .int .i64 0] 26) _ (by simp)).trans (heap_alloc2_new w _ _)
  have R0 := heap_at ((w.alloc (.cells (nd X) 26)).alloc (.cells (nd Y) 26)) #[.int .i64 0, .int .i64 0, .int .i64 0, .int .i64 0, .int .i64 0, .int .i64 0, .int .i64 0, .int .i64 0, .int .i64 0, .int .i64 0, .int .i64 0, .int .i64 0, .int .i64 0, .int .i64 0, .int .i64 0, .int .i64 0] 26 (w.heap.size + 1 + 1) (by simp)
  have F0 := ((((Fr.refl (fun _ => False) w).alloc (.cells (nd X) 26)).alloc (.cells (nd Y) 26)).alloc (.cells #[.int .i64 0, .int .i64 0, .int .i64 0, .int .i64 0, .int .i64 0, .int .i64 0, .int .i64 0, .int .i64 0, .int .i64 0, .int .i64 0, .int .i64 0, .int .i64 0, .int .i64 0, .int .i64 0, .int .i64 0, .int .i64 0] 26))
  have A0' : (((w.alloc (.cells (nd X) 26)).alloc (.cells (nd Y) 26)).alloc (.cells #[.int .i64 0, .int .i64 0, .int .i64 0, .int .i64 0, .int .i64 0, .int .i64 0, .int .i64 0, .int .i64 0, .int .i64 0, .int .i64 0, .int .i64 0, .int .i64 0, .int .i64 0, .int .i64 0, .int .i64 0, .int .i64 0] 26)).heap[w.heap.size]? = some (.cells (iq 16 (fun j => if j < 0 then dig 65536 X j + dig 65536 Y j else dig 65536 X j)) 26 (0, 0)) := A0.trans (congrArg (fun a => some (Obj.cells a 26 (0, 0))) (iq_congr (fun j hj => by rw [if_neg (by omega)])))
  clear A0 hX hY
  go_enter Try.func19, Try.ntmps19
  go_wp2_with fail
  go_loopw [5] (fun i wr => ∃ k : Nat, k ≤ 16 ∧ i = .int .i64 k ∧ wr.heap[w.heap.size]? = some (.cells (iq 16 (fun j => if j < k then dig 65536 X j + dig 65536 Y j else dig 65536 X j)) 26 (0, 0)) ∧ wr.heap[w.heap.size + 1]? = some (.cells (nd Y) 26 (0, 0)) ∧ wr.heap[w.heap.size + 1 + 1]? = some (.cells #[.int .i64 0, .int .i64 0, .int .i64 0, .int .i64 0, .int .i64 0, .int .i64 0, .int .i64 0, .int .i64 0, .int .i64 0, .int .i64 0, .int .i64 0, .int .i64 0, .int .i64 0, .int .i64 0, .int .i64 0, .int .i64 0] 26 (0, 0)) ∧ Fr (fun _ => False) w wr) (fun i _ => 16 - (intOf i).toNat)
  case atStart => exact ⟨0, by omega, by simp, A0', B0, R0, F0⟩
  case round =>
    clear A0' B0 R0 F0
    obtain ⟨k, hk, rfl, hA, hB, hR, hF⟩ := hrel
    by_cases h16 : k < 16
    · as_aux_lemma =>
      have q0 : (0 : Int) ≤ (k : Int) := by omega
      have q1 : (k : Int) < 16 := by omega
      have hx := dig_lt 65536 X k (by decide)
      have hy := dig_lt 65536 Y k (by decide)
      have hsz : k < (iq 16 (fun j => if j < k then dig 65536 X j + dig 65536 Y j else dig 65536 X j)).size := by rw [iq_size]; exact h16
      have g0 : (iq 16 (fun j => if j < k then dig 65536 X j + dig 65536 Y j else dig 65536 X j))[k]? = some (.int .i64 (dig 65536 X k : Int)) := by rw [iq_get 16 _ k h16, if_neg (by omega)]
      have g1 : (nd Y)[k]? = some (.int .i64 (dig 65536 Y k : Int)) := iq_get 16 _ k h16
      have hst := step_set 16 (fun j => dig 65536 X j + dig 65536 Y j) (dig 65536 X) k _ h16 rfl
      generalize dig 65536 X k = x at hx g0 hst
      generalize dig 65536 Y k = y at hy g1 hst
      have e1 : IntKind.i64.wrap ((x : Int) + (y : Int)) = (x : Int) + (y : Int) := IntWalk.i64_in _ (by omega)
      have x9 : (x : Int) < 65536 := by omega
      have y9 : (y : Int) < 65536 := by omega
      have HST := Lib.hid hst
      have HA := Lib.hid hA
      have HB := Lib.hid hB
      have HR := Lib.hid hR
      have HF := Lib.hid hF
      clear hst hA hB hR hF
      go_wp2_with fail
      refine wp_region_tail 9 [] (by kernel_rfl) (by kernel_rfl) mk_nil ?_
      apply Exists.intro
      refine ⟨?wk, ?fin⟩
      case wk =>
        intro γ
        have c0 := fun y : Wg γ => y.cell HA.out k g0
        have c1 := fun y : Wg γ => y.cell HB.out k g1
        simp only [List.take_succ_cons, List.take_zero]
        repeat (any_goals (first | go_big_quiet_step (fail) | quiet_step (fail)))
        exact wpQuiet_nil rfl
      case fin =>
        intro gs wx hE hg hne
        simp only [putAll, List.drop_succ_cons, List.drop_zero, List.length_nil, Nat.add_zero]
        have A1 := Lib.hid (hE.keep HA.out)
        have B1 := Lib.hid (hE.keep HB.out)
        have R1 := Lib.hid (hE.keep HR.out)
        have G1 := Lib.hid (HF.out.trans hE (fun _ h => h.elim))
        clear hg hne hE
        go_wp2_with (with_reducible refine wpList_store_int rfl 3 (.tmp 18) (.tmp 17) rfl w.heap.size k rfl .i64 ((x : Int) + (y : Int)) rfl Try.i3 26 _ A1.out hsz ?k0)
        case k0 =>
        intro wa M0 E0
        have M1 := Lib.hid (M0.trans (by rw [show (x : Int) + (y : Int) = ((x + y : Nat) : Int) by omega, HST.out]))
        have B2 := Lib.hid ((E0.block _ (lt_of_block B1.out) (by omega)).trans B1.out)
        have R2 := Lib.hid ((E0.block _ (lt_of_block R1.out) (by omega)).trans R1.out)
        have G2 := Lib.hid (G1.out.trans E0 (fun i hi => Or.inr (by omega)))
        clear M0 E0 A1 B1 R1 G1 hsz
        go_wp2_with fail
        go_roundw
        case rel => exact ⟨k + 1, by omega, by go_num, M1.out, B2.out, R2.out, G2.out⟩
        case measure => simp [intOf]; omega
    · as_aux_lemma =>
      obtain rfl : k = 16 := by omega
      rw [show iq 16 (fun j => if j < 16 then dig 65536 X j + dig 65536 Y j else dig 65536 X j) = iq 16 (fun j => dig 65536 X j + dig 65536 Y j) from iq_congr (fun j hj => by rw [if_pos hj])] at hA
      have s1 := Try.sizeV (f := fun j => dig 65536 X j + dig 65536 Y j)
      have s2 : (Try.prog.info? 26).map (·.size) = some (nd R).size := Try.sizeV
      have o2 : (nd R).all (·.oneCell') = true := iq_one 16 _
      have z2 : (#[.int .i64 0, .int .i64 0, .int .i64 0, .int .i64 0, .int .i64 0, .int .i64 0, .int .i64 0, .int .i64 0, .int .i64 0, .int .i64 0, .int .i64 0, .int .i64 0, .int .i64 0, .int .i64 0, .int .i64 0, .int .i64 0] : Array Value).size = (nd R).size := by unfold nd; rw [iq_size]; rfl
      generalize iq 16 (fun j => dig 65536 X j + dig 65536 Y j) = S at *
      rw [show ((16 : Nat) : Int) = 16 from rfl]
      go_wp2_with (with_reducible refine wpList_load_row rfl 26 (.tmp 2) rfl w.heap.size rfl 26 S (0, 0) _ hA Try.underlying26 rfl s1 ?_)
      refine (TI _).mono ?_
      rintro e w1 ⟨rfl, F1⟩
      have R3 := F1.keep hR
      have G3 := hF.trans F1 (fun _ h => h.elim)
      clear hA hB hR hF F1
      go_wp2_with (with_reducible refine wpList_store_row rfl 26 (.tmp 4) (.tmp 20) rfl (w.heap.size + 1 + 1) (nd R) rfl rfl 26 #[.int .i64 0, .int .i64 0, .int .i64 0, .int .i64 0, .int .i64 0, .int .i64 0, .int .i64 0, .int .i64 0, .int .i64 0, .int .i64 0, .int .i64 0, .int .i64 0, .int .i64 0, .int .i64 0, .int .i64 0, .int .i64 0] R3 s2 z2 o2 ?_)
      refine bodyPost_ret (results_cell_row rfl _ _ (w.heap.size + 1 + 1) 26 (nd R) (0, 0) _ rfl (setRow_heap _ _ _ _ _ _ R3) Try.underlying26 rfl s2) rfl ?_
      exact ⟨rfl, G3.trans (Fr.setRow (S := fun k => k = w.heap.size + 1 + 1) (Fr.refl _ _) rfl _) (fun i hi => Or.inr (by omega))⟩
end Go.Proofs.Ytahnlnflcgehaaa
namespace Go.Proofs.Ytahnlnflcgehaaa
open Go.RowKit Pri
set_option linter.unusedVariables false

/-- What stands in the opposite's parts behind k steps. -/
def npart (X k j : Nat) : Int := if j < k then (dig 65536 (p25519 + 65536 ^ 16 - X) j : Int) else 0
theorem npart_step (X k : Nat) (hk : k < 16) (z : Int) (hz : z = (dig 65536 (p25519 + 65536 ^ 16 - X) k : Int)) : (zq 16 (npart X k)).setIfInBounds k (.int .i64 z) = zq 16 (npart X (k + 1)) := by
  rw [zq_set 16 _ k _ hk]
  refine zq_congr (fun j hj => ?_)
  unfold npart
  by_cases e : j = k
  · subst e; rw [if_pos rfl, if_pos (show j < j + 1 by omega), hz]
  · rw [if_neg e]
    by_cases e2 : j < k
    · rw [if_pos e2, if_pos (show j < k + 1 by omega)]
    · rw [if_neg e2, if_neg (show ¬ j < k + 1 by omega)]
theorem npart_end (X : Nat) (h : X ≤ p25519) : zq 16 (npart X 16) = nd (p25519 - X) := by
  refine zq_congr (fun j hj => ?_)
  unfold npart
  rw [if_pos hj, show p25519 + 65536 ^ 16 - X = (p25519 - X) + 65536 ^ 16 by omega, ← dig_of_mod 65536 _ 16 j hj, Nat.add_mod_right, dig_of_mod 65536 _ 16 j hj]
theorem nstep (X k : Nat) (hk : k < 16) (hX : X < 65536 ^ 16) : ∃ x l : Nat, x < 65536 ∧ l ≤ 1 ∧ x = dig 65536 X k ∧ l = lck 65536 p25519 X k ∧
    (((pdg k : Int) - x - l < 0 ∧ lck 65536 p25519 X (k + 1) = 1 ∧ (dig 65536 (p25519 + 65536 ^ 16 - X) k : Int) = (pdg k : Int) - x - l + 65536) ∨
     (¬ (pdg k : Int) - x - l < 0 ∧ lck 65536 p25519 X (k + 1) = 0 ∧ (dig 65536 (p25519 + 65536 ^ 16 - X) k : Int) = (pdg k : Int) - x - l)) := by
  have h1 := dig_sub 65536 p25519 X 16 k (by decide) hk (Nat.le_trans (Nat.le_of_lt hX) (Nat.le_add_left _ _))
  have h2 := lck_succ 65536 p25519 X k (by decide)
  have h3 := dig_lt 65536 X k (by decide)
  have h4 := lck_le 65536 p25519 X k
  rw [pdg_dig k hk] at h1 h2
  have h5 : pdg k < 65536 := by unfold pdg; split; omega; split <;> omega
  refine ⟨_, _, h3, h4, rfl, rfl, ?_⟩
  generalize dig 65536 X k = x at *
  generalize lck 65536 p25519 X k = l at *
  generalize pdg k = q at *
  rw [h1, h2]
  by_cases c : q < x + l
  · rw [if_pos c]; left; refine ⟨by omega, rfl, by omega⟩
  · rw [if_neg c]; right; refine ⟨by omega, rfl, by omega⟩
set_option maxRecDepth 100000 in
set_option maxHeartbeats 6400000 in
theorem neg5_any (X : Nat) (hX : X ≤ p25519) (w : World) :
    Calls Try.prog 25 #[.agg (nd X)] w fun e w' => e = .returned (.agg (nd ((p25519 - X) % p25519))) ∧ Fr (fun _ => False) w w' := by
  have TI := fun W : World => tidy_any (dig 65536 (p25519 - X)) (fun j _ => by have := dig_lt 65536 (p25519 - X) j (by decide); omega) W
  rw [val_dig, Nat.mod_eq_of_lt (Nat.lt_of_le_of_lt (Nat.sub_le _ _) p_b16)] at TI
  have hXb : X < 65536 ^ 16 := Nat.lt_of_le_of_lt hX p_b16
  have hend := npart_end X hX
  have hT : iq 16 (dig 65536 (p25519 - X)) = nd (p25519 - X) := rfl
  rw [hT, ← hend] at TI
  have HXB := Lib.hid hXb
  clear hXb hend hT hX
  generalize (p25519 - X) % p25519 = R at *
  have A0 := (Below.heap_alloc ((w.alloc (.cells (nd X) 26)).alloc (.cells #[.int .i64 0, .int .i64 0, .int .i64 0, .int .i64 0, .int .i64 0, .int .i64 0, .int .i64 0, .int .i64 0, .int .i64 0, .int .i64 0, .int .i64 0, .int .i64 0, .int .i64 0, .int .i64 0, .int .i64 0, .int .i64 0] 26)) (.cells #[.int .i64 0, .int .i64 0, .int .i64 0, .int .i64 0, .int .i64 0, .int .i64 0, .int .i64 0, .int .i64 0, .int .i64 0, .int .i64 0, .int .i64 0, .int .i64 0, .int .i64 0, .int .i64 0, .int .i64 0, .int .i64 0] 26) _ (by simp; omega)).trans (heap_alloc2_old w _ _)
  have R0 := (Below.heap_alloc ((w.alloc (.cells (nd X) 26)).alloc (.cells #[.int .i64 0, .int .i64 0, .int .i64 0, .int .i64 0, .int .i64 0, .int .i64 0, .int .i64 0, .int .i64 0, .int .i64 0, .int .i64 0, .int .i64 0, .int .i64 0, .int .i64 0, .int .i64 0, .int .i64 0, .int .i64 0] 26)) (.cells #[.int .i64 0, .int .i64 0, .int .i64 0, .int .i64 0, .int .i64 0, .int .i64 0, .int .i64 0, .int .i64 0, .int .i64 0, .int .i64 0, .int .i64 0, .int .i64 0, .int .i64 0, .int .i64 0, .int .i64 0, .int .i64 0] 26) _ (by simp)).trans (heap_alloc2_new w _ _)
  have N0 := heap_at ((w.alloc (.cells (nd X) 26)).alloc (.cells #[.int .i64 0, .int .i64 0, .int .i64 0, .int .i64 0, .int .i64 0, .int .i64 0, .int .i64 0, .int .i64 0, .int .i64 0, .int .i64 0, .int .i64 0, .int .i64 0, .int .i64 0, .int .i64 0, .int .i64 0, .int .i64 0] 26)) #[.int .i64 0, .int .i64 0, .int .i64 0, .int .i64 0, .int .i64 0, .int .i64 0, .int .i64 0, .int .i64 0, .int .i64 0, .int .i64 0, .int .i64 0, .int .i64 0, .int .i64 0, .int .i64 0, .int .i64 0, .int .i64 0] 26 (w.heap.size + 1 + 1) (by simp)
  have N0' : (((w.alloc (.cells (nd X) 26)).alloc (.cells #[.int .i64 0, .int .i64 0, .int .i64 0, .int .i64 0, .int .i64 0, .int .i64 0, .int .i64 0, .int .i64 0, .int .i64 0, .int .i64 0, .int .i64 0, .int .i64 0, .int .i64 0, .int .i64 0, .int .i64 0, .int .i64 0] 26)).alloc (.cells #[.int .i64 0, .int .i64 0, .int .i64 0, .int .i64 0, .int .i64 0, .int .i64 0, .int .i64 0, .int .i64 0, .int .i64 0, .int .i64 0, .int .i64 0, .int .i64 0, .int .i64 0, .int .i64 0, .int .i64 0, .int .i64 0] 26)).heap[w.heap.size + 1 + 1]? = some (.cells (zq 16 (npart X 0)) 26 (0, 0)) := N0.trans (by congr 2)
  have F0 := ((((Fr.refl (fun _ => False) w).alloc (.cells (nd X) 26)).alloc (.cells #[.int .i64 0, .int .i64 0, .int .i64 0, .int .i64 0, .int .i64 0, .int .i64 0, .int .i64 0, .int .i64 0, .int .i64 0, .int .i64 0, .int .i64 0, .int .i64 0, .int .i64 0, .int .i64 0, .int .i64 0, .int .i64 0] 26)).alloc (.cells #[.int .i64 0, .int .i64 0, .int .i64 0, .int .i64 0, .int .i64 0, .int .i64 0, .int .i64 0, .int .i64 0, .int .i64 0, .int .i64 0, .int .i64 0, .int .i64 0, .int .i64 0, .int .i64 0, .int .i64 0, .int .i64 0] 26))
  clear N0
  go_enter Try.func25, Try.ntmps25
  go_wp2_with fail
  go_loopw [4, 5, 6] (fun u i _ wr => ∃ k : Nat, k ≤ 16 ∧ i = .int .i64 k ∧ u = .int .i64 (lck 65536 p25519 X k : Nat) ∧ wr.heap[w.heap.size + 1 + 1]? = some (.cells (zq 16 (npart X k)) 26 (0, 0)) ∧ wr.heap[w.heap.size]? = some (.cells (nd X) 26 (0, 0)) ∧ wr.heap[w.heap.size + 1]? = some (.cells #[.int .i64 0, .int .i64 0, .int .i64 0, .int .i64 0, .int .i64 0, .int .i64 0, .int .i64 0, .int .i64 0, .int .i64 0, .int .i64 0, .int .i64 0, .int .i64 0, .int .i64 0, .int .i64 0, .int .i64 0, .int .i64 0] 26 (0, 0)) ∧ Fr (fun _ => False) w wr) (fun _ i _ _ => 16 - (intOf i).toNat)
  case atStart => exact ⟨0, by omega, by simp, by simp [lck_zero], N0', A0, R0, F0⟩
  case round =>
    clear N0' A0 R0 F0
    obtain ⟨k, hk, rfl, rfl, hM, hA, hB, hF⟩ := hrel
    by_cases h16 : k < 16
    · obtain ⟨x, l, hx, hl, ex, el, hz⟩ := nstep X k h16 HXB.out
      have c0 := cell_of_block hA k
      rw [show (nd X)[k]? = some (.int .i64 (dig 65536 X k : Int)) from iq_get 16 _ k h16, ← ex] at c0
      have q0 : (0 : Int) ≤ (k : Int) := by omega
      have q1 : (k : Int) < 16 := by omega
      have x9 : (x : Int) < 65536 := by omega
      have l9 : (l : Int) ≤ 1 := by omega
      rw [← el]
      rcases hz with ⟨h1, h2, h3⟩ | ⟨h1, h2, h3⟩
      · as_aux_lemma =>
        have HL := Lib.hid h2
        have HD := Lib.hid h3
        have HX1 := Lib.hid ex
        have HM := Lib.hid hM
        have HA := Lib.hid hA
        have HB := Lib.hid hB
        have HF := Lib.hid hF
        clear h2 h3 el ex hM hA hB hF
        by_cases k0 : k = 0
        · subst k0
          have hp : pdg 0 = 65517 := by rfl
          rw [hp] at h1
          have hz2 : ((65517 : Int) - (x : Int) - (l : Int)) + 65536 = (dig 65536 (p25519 + 65536 ^ 16 - X) 0 : Int) := by rw [HD.out, hp]; omega
          clear hp
          have w1 : IntKind.i64.wrap ((65517 : Int) - (x : Int)) = (65517 : Int) - (x : Int) := IntWalk.i64_in _ (by omega)
          have w2 : IntKind.i64.wrap ((65517 : Int) - (x : Int) - (l : Int)) = ((65517 : Int) - (x : Int) - (l : Int)) := IntWalk.i64_in _ (by omega)
          have w3 : IntKind.i64.wrap (((65517 : Int) - (x : Int) - (l : Int)) + 65536) = ((65517 : Int) - (x : Int) - (l : Int)) + 65536 := IntWalk.i64_in _ (by omega)
          have d1 : decide (((65517 : Int) - (x : Int) - (l : Int)) < 0) = true := decide_eq_true h1
          have hst : ∀ w9 : World, w9.heap[w.heap.size + 1 + 1]? = some (.cells ((zq 16 (npart X 0)).setIfInBounds 0 (.int .i64 (((65517 : Int) - (x : Int) - (l : Int)) + 65536))) 26 (0, 0)) → w9.heap[w.heap.size + 1 + 1]? = some (.cells (zq 16 (npart X (0 + 1))) 26 (0, 0)) := fun w9 h9 => by rw [npart_step X 0 (by omega) _ hz2] at h9; exact h9
          have HST := Lib.hid hst
          clear hst hz2 HD HX1 h1
          rw [show ((0 : Nat) : Int) = 0 from rfl] at *
          have hsz : 0 < (zq 16 (npart X 0)).size := by rw [zq_size]; omega
          go_wp2_with (with_reducible refine wpList_store_int rfl 3 (.tmp 23) (.tmp 22) rfl (w.heap.size + 1 + 1) 0 rfl .i64 (((65517 : Int) - (x : Int) - (l : Int))) rfl Try.i3 26 _ HM.out hsz ?k0)
          case k0 =>
          intro wa M0 F0
          have c1 : wa.cell? ⟨w.heap.size + 1 + 1, 0, none⟩ = some (Value.int .i64 (((65517 : Int) - (x : Int) - (l : Int)))) := by rw [cell_of_block M0, Array.getElem?_setIfInBounds_self_of_lt]; first | exact hsz | (simp only [Array.size_setIfInBounds]; exact hsz)
          have HM0 := Lib.hid M0
          have HF0 := Lib.hid F0
          clear M0 F0 c0
          go_wp2_with (with_reducible refine wpList_store_int rfl 3 (.tmp 33) (.tmp 32) rfl (w.heap.size + 1 + 1) 0 rfl .i64 (((65517 : Int) - (x : Int) - (l : Int)) + 65536) rfl Try.i3 26 _ HM0.out (by first | exact hsz | (simp only [Array.size_setIfInBounds]; exact hsz)) ?k1)
          case k1 =>
          intro wb M1 F1
          have c2 : wb.cell? ⟨w.heap.size + 1 + 1, 0, none⟩ = some (Value.int .i64 (((65517 : Int) - (x : Int) - (l : Int)) + 65536)) := by rw [cell_of_block M1, Array.getElem?_setIfInBounds_self_of_lt]; first | exact hsz | (simp only [Array.size_setIfInBounds]; exact hsz)
          have HM1 := Lib.hid M1
          have HF1 := Lib.hid F1
          clear M1 F1 c1
          clear c2
          go_wp2_with fail
          go_roundw
          case rel => exact ⟨0 + 1, by omega, by first | go_num | rfl, by rw [HL.out]; rfl, HST.out _ (by have := HM1.out; (try simp only [Array.setIfInBounds_setIfInBounds] at this); exact this), ((HF1.out.block _ (lt_of_block ((HF0.out.block _ (lt_of_block HA.out) (by omega)).trans HA.out)) (by omega)).trans ((HF0.out.block _ (lt_of_block HA.out) (by omega)).trans HA.out)), ((HF1.out.block _ (lt_of_block ((HF0.out.block _ (lt_of_block HB.out) (by omega)).trans HB.out)) (by omega)).trans ((HF0.out.block _ (lt_of_block HB.out) (by omega)).trans HB.out)), ((HF.out.trans HF0.out (fun i hi => Or.inr (by omega))).trans HF1.out (fun i hi => Or.inr (by omega)))⟩
          case measure => simp [intOf] <;> omega
        · by_cases k15 : k = 15
          · subst k15
            have hp : pdg 15 = 32767 := by rfl
            rw [hp] at h1
            have hz2 : ((32767 : Int) - (x : Int) - (l : Int)) + 65536 = (dig 65536 (p25519 + 65536 ^ 16 - X) 15 : Int) := by rw [HD.out, hp]; omega
            clear hp
            have w1 : IntKind.i64.wrap ((32767 : Int) - (x : Int)) = (32767 : Int) - (x : Int) := IntWalk.i64_in _ (by omega)
            have w2 : IntKind.i64.wrap ((32767 : Int) - (x : Int) - (l : Int)) = ((32767 : Int) - (x : Int) - (l : Int)) := IntWalk.i64_in _ (by omega)
            have w3 : IntKind.i64.wrap (((32767 : Int) - (x : Int) - (l : Int)) + 65536) = ((32767 : Int) - (x : Int) - (l : Int)) + 65536 := IntWalk.i64_in _ (by omega)
            have d1 : decide (((32767 : Int) - (x : Int) - (l : Int)) < 0) = true := decide_eq_true h1
            have hst : ∀ w9 : World, w9.heap[w.heap.size + 1 + 1]? = some (.cells ((zq 16 (npart X 15)).setIfInBounds 15 (.int .i64 (((32767 : Int) - (x : Int) - (l : Int)) + 65536))) 26 (0, 0)) → w9.heap[w.heap.size + 1 + 1]? = some (.cells (zq 16 (npart X (15 + 1))) 26 (0, 0)) := fun w9 h9 => by rw [npart_step X 15 (by omega) _ hz2] at h9; exact h9
            have HST := Lib.hid hst
            clear hst hz2 HD HX1 h1
            rw [show ((15 : Nat) : Int) = 15 from rfl] at *
            have hsz : 15 < (zq 16 (npart X 15)).size := by rw [zq_size]; omega
            go_wp2_with (with_reducible refine wpList_store_int rfl 3 (.tmp 23) (.tmp 22) rfl (w.heap.size + 1 + 1) 15 rfl .i64 (((32767 : Int) - (x : Int) - (l : Int))) rfl Try.i3 26 _ HM.out hsz ?k0)
            case k0 =>
            intro wa M0 F0
            have c1 : wa.cell? ⟨w.heap.size + 1 + 1, 15, none⟩ = some (Value.int .i64 (((32767 : Int) - (x : Int) - (l : Int)))) := by rw [cell_of_block M0, Array.getElem?_setIfInBounds_self_of_lt]; first | exact hsz | (simp only [Array.size_setIfInBounds]; exact hsz)
            have HM0 := Lib.hid M0
            have HF0 := Lib.hid F0
            clear M0 F0 c0
            go_wp2_with (with_reducible refine wpList_store_int rfl 3 (.tmp 33) (.tmp 32) rfl (w.heap.size + 1 + 1) 15 rfl .i64 (((32767 : Int) - (x : Int) - (l : Int)) + 65536) rfl Try.i3 26 _ HM0.out (by first | exact hsz | (simp only [Array.size_setIfInBounds]; exact hsz)) ?k1)
            case k1 =>
            intro wb M1 F1
            have c2 : wb.cell? ⟨w.heap.size + 1 + 1, 15, none⟩ = some (Value.int .i64 (((32767 : Int) - (x : Int) - (l : Int)) + 65536)) := by rw [cell_of_block M1, Array.getElem?_setIfInBounds_self_of_lt]; first | exact hsz | (simp only [Array.size_setIfInBounds]; exact hsz)
            have HM1 := Lib.hid M1
            have HF1 := Lib.hid F1
            clear M1 F1 c1
            clear c2
            go_wp2_with fail
            go_roundw
            case rel => exact ⟨15 + 1, by omega, by first | go_num | rfl, by rw [HL.out]; rfl, HST.out _ (by have := HM1.out; (try simp only [Array.setIfInBounds_setIfInBounds] at this); exact this), ((HF1.out.block _ (lt_of_block ((HF0.out.block _ (lt_of_block HA.out) (by omega)).trans HA.out)) (by omega)).trans ((HF0.out.block _ (lt_of_block HA.out) (by omega)).trans HA.out)), ((HF1.out.block _ (lt_of_block ((HF0.out.block _ (lt_of_block HB.out) (by omega)).trans HB.out)) (by omega)).trans ((HF0.out.block _ (lt_of_block HB.out) (by omega)).trans HB.out)), ((HF.out.trans HF0.out (fun i hi => Or.inr (by omega))).trans HF1.out (fun i hi => Or.inr (by omega)))⟩
            case measure => simp [intOf] <;> omega
          · have hp : pdg k = 65535 := by unfold pdg; rw [if_neg k0, if_neg k15]
            have t3 : ((k : Int) == 15) = false := by rw [beq_eq_false_iff_ne]; omega
            have t3' : (k == 15) = false := by rw [beq_eq_false_iff_ne]; exact k15
            have t4 : ((k : Int) == 0) = false := by rw [beq_eq_false_iff_ne]; omega
            have t4' : (k == 0) = false := by rw [beq_eq_false_iff_ne]; exact k0
            rw [hp] at h1
            have hz2 : ((65535 : Int) - (x : Int) - (l : Int)) + 65536 = (dig 65536 (p25519 + 65536 ^ 16 - X) k : Int) := by rw [HD.out, hp]; omega
            clear hp
            have w1 : IntKind.i64.wrap ((65535 : Int) - (x : Int)) = (65535 : Int) - (x : Int) := IntWalk.i64_in _ (by omega)
            have w2 : IntKind.i64.wrap ((65535 : Int) - (x : Int) - (l : Int)) = ((65535 : Int) - (x : Int) - (l : Int)) := IntWalk.i64_in _ (by omega)
            have w3 : IntKind.i64.wrap (((65535 : Int) - (x : Int) - (l : Int)) + 65536) = ((65535 : Int) - (x : Int) - (l : Int)) + 65536 := IntWalk.i64_in _ (by omega)
            have d1 : decide (((65535 : Int) - (x : Int) - (l : Int)) < 0) = true := decide_eq_true h1
            have hst : ∀ w9 : World, w9.heap[w.heap.size + 1 + 1]? = some (.cells ((zq 16 (npart X k)).setIfInBounds k (.int .i64 (((65535 : Int) - (x : Int) - (l : Int)) + 65536))) 26 (0, 0)) → w9.heap[w.heap.size + 1 + 1]? = some (.cells (zq 16 (npart X (k + 1))) 26 (0, 0)) := fun w9 h9 => by rw [npart_step X k (by omega) _ hz2] at h9; exact h9
            have HST := Lib.hid hst
            clear hst hz2 HD HX1 h1
            have hsz : k < (zq 16 (npart X k)).size := by rw [zq_size]; omega
            go_wp2_with (with_reducible refine wpList_store_int rfl 3 (.tmp 23) (.tmp 22) rfl (w.heap.size + 1 + 1) k rfl .i64 (((65535 : Int) - (x : Int) - (l : Int))) rfl Try.i3 26 _ HM.out hsz ?k0)
            case k0 =>
            intro wa M0 F0
            have c1 : wa.cell? ⟨w.heap.size + 1 + 1, k, none⟩ = some (Value.int .i64 (((65535 : Int) - (x : Int) - (l : Int)))) := by rw [cell_of_block M0, Array.getElem?_setIfInBounds_self_of_lt]; first | exact hsz | (simp only [Array.size_setIfInBounds]; exact hsz)
            have HM0 := Lib.hid M0
            have HF0 := Lib.hid F0
            clear M0 F0 c0
            go_wp2_with (with_reducible refine wpList_store_int rfl 3 (.tmp 33) (.tmp 32) rfl (w.heap.size + 1 + 1) k rfl .i64 (((65535 : Int) - (x : Int) - (l : Int)) + 65536) rfl Try.i3 26 _ HM0.out (by first | exact hsz | (simp only [Array.size_setIfInBounds]; exact hsz)) ?k1)
            case k1 =>
            intro wb M1 F1
            have c2 : wb.cell? ⟨w.heap.size + 1 + 1, k, none⟩ = some (Value.int .i64 (((65535 : Int) - (x : Int) - (l : Int)) + 65536)) := by rw [cell_of_block M1, Array.getElem?_setIfInBounds_self_of_lt]; first | exact hsz | (simp only [Array.size_setIfInBounds]; exact hsz)
            have HM1 := Lib.hid M1
            have HF1 := Lib.hid F1
            clear M1 F1 c1
            clear c2
            go_wp2_with fail
            go_roundw
            case rel => exact ⟨k + 1, by omega, by first | go_num | rfl, by rw [HL.out]; rfl, HST.out _ (by have := HM1.out; (try simp only [Array.setIfInBounds_setIfInBounds] at this); exact this), ((HF1.out.block _ (lt_of_block ((HF0.out.block _ (lt_of_block HA.out) (by omega)).trans HA.out)) (by omega)).trans ((HF0.out.block _ (lt_of_block HA.out) (by omega)).trans HA.out)), ((HF1.out.block _ (lt_of_block ((HF0.out.block _ (lt_of_block HB.out) (by omega)).trans HB.out)) (by omega)).trans ((HF0.out.block _ (lt_of_block HB.out) (by omega)).trans HB.out)), ((HF.out.trans HF0.out (fun i hi => Or.inr (by omega))).trans HF1.out (fun i hi => Or.inr (by omega)))⟩
            case measure => simp [intOf] <;> omega
      · as_aux_lemma =>
        have HL := Lib.hid h2
        have HD := Lib.hid h3
        have HX1 := Lib.hid ex
        have HM := Lib.hid hM
        have HA := Lib.hid hA
        have HB := Lib.hid hB
        have HF := Lib.hid hF
        clear h2 h3 el ex hM hA hB hF
        by_cases k0 : k = 0
        · subst k0
          have hp : pdg 0 = 65517 := by rfl
          rw [hp] at h1
          have hz2 : ((65517 : Int) - (x : Int) - (l : Int)) = (dig 65536 (p25519 + 65536 ^ 16 - X) 0 : Int) := by rw [HD.out, hp]; omega
          clear hp
          have w1 : IntKind.i64.wrap ((65517 : Int) - (x : Int)) = (65517 : Int) - (x : Int) := IntWalk.i64_in _ (by omega)
          have w2 : IntKind.i64.wrap ((65517 : Int) - (x : Int) - (l : Int)) = ((65517 : Int) - (x : Int) - (l : Int)) := IntWalk.i64_in _ (by omega)
          have d1 : decide (((65517 : Int) - (x : Int) - (l : Int)) < 0) = false := decide_eq_false h1
          have hst : ∀ w9 : World, w9.heap[w.heap.size + 1 + 1]? = some (.cells ((zq 16 (npart X 0)).setIfInBounds 0 (.int .i64 (((65517 : Int) - (x : Int) - (l : Int))))) 26 (0, 0)) → w9.heap[w.heap.size + 1 + 1]? = some (.cells (zq 16 (npart X (0 + 1))) 26 (0, 0)) := fun w9 h9 => by rw [npart_step X 0 (by omega) _ hz2] at h9; exact h9
          have HST := Lib.hid hst
          clear hst hz2 HD HX1 h1
          rw [show ((0 : Nat) : Int) = 0 from rfl] at *
          have hsz : 0 < (zq 16 (npart X 0)).size := by rw [zq_size]; omega
          go_wp2_with (with_reducible refine wpList_store_int rfl 3 (.tmp 23) (.tmp 22) rfl (w.heap.size + 1 + 1) 0 rfl .i64 (((65517 : Int) - (x : Int) - (l : Int))) rfl Try.i3 26 _ HM.out hsz ?k0)
          case k0 =>
          intro wa M0 F0
          have c1 : wa.cell? ⟨w.heap.size + 1 + 1, 0, none⟩ = some (Value.int .i64 (((65517 : Int) - (x : Int) - (l : Int)))) := by rw [cell_of_block M0, Array.getElem?_setIfInBounds_self_of_lt]; first | exact hsz | (simp only [Array.size_setIfInBounds]; exact hsz)
          have HM0 := Lib.hid M0
          have HF0 := Lib.hid F0
          clear M0 F0 c0
          go_wp2_with fail
          go_roundw
          case rel => exact ⟨0 + 1, by omega, by first | go_num | rfl, by rw [HL.out]; rfl, HST.out _ HM0.out, ((HF0.out.block _ (lt_of_block HA.out) (by omega)).trans HA.out), ((HF0.out.block _ (lt_of_block HB.out) (by omega)).trans HB.out), (HF.out.trans HF0.out (fun i hi => Or.inr (by omega)))⟩
          case measure => simp [intOf] <;> omega
        · by_cases k15 : k = 15
          · subst k15
            have hp : pdg 15 = 32767 := by rfl
            rw [hp] at h1
            have hz2 : ((32767 : Int) - (x : Int) - (l : Int)) = (dig 65536 (p25519 + 65536 ^ 16 - X) 15 : Int) := by rw [HD.out, hp]; omega
            clear hp
            have w1 : IntKind.i64.wrap ((32767 : Int) - (x : Int)) = (32767 : Int) - (x : Int) := IntWalk.i64_in _ (by omega)
            have w2 : IntKind.i64.wrap ((32767 : Int) - (x : Int) - (l : Int)) = ((32767 : Int) - (x : Int) - (l : Int)) := IntWalk.i64_in _ (by omega)
            have d1 : decide (((32767 : Int) - (x : Int) - (l : Int)) < 0) = false := decide_eq_false h1
            have hst : ∀ w9 : World, w9.heap[w.heap.size + 1 + 1]? = some (.cells ((zq 16 (npart X 15)).setIfInBounds 15 (.int .i64 (((32767 : Int) - (x : Int) - (l : Int))))) 26 (0, 0)) → w9.heap[w.heap.size + 1 + 1]? = some (.cells (zq 16 (npart X (15 + 1))) 26 (0, 0)) := fun w9 h9 => by rw [npart_step X 15 (by omega) _ hz2] at h9; exact h9
            have HST := Lib.hid hst
            clear hst hz2 HD HX1 h1
            rw [show ((15 : Nat) : Int) = 15 from rfl] at *
            have hsz : 15 < (zq 16 (npart X 15)).size := by rw [zq_size]; omega
            go_wp2_with (with_reducible refine wpList_store_int rfl 3 (.tmp 23) (.tmp 22) rfl (w.heap.size + 1 + 1) 15 rfl .i64 (((32767 : Int) - (x : Int) - (l : Int))) rfl Try.i3 26 _ HM.out hsz ?k0)
            case k0 =>
            intro wa M0 F0
            have c1 : wa.cell? ⟨w.heap.size + 1 + 1, 15, none⟩ = some (Value.int .i64 (((32767 : Int) - (x : Int) - (l : Int)))) := by rw [cell_of_block M0, Array.getElem?_setIfInBounds_self_of_lt]; first | exact hsz | (simp only [Array.size_setIfInBounds]; exact hsz)
            have HM0 := Lib.hid M0
            have HF0 := Lib.hid F0
            clear M0 F0 c0
            go_wp2_with fail
            go_roundw
            case rel => exact ⟨15 + 1, by omega, by first | go_num | rfl, by rw [HL.out]; rfl, HST.out _ HM0.out, ((HF0.out.block _ (lt_of_block HA.out) (by omega)).trans HA.out), ((HF0.out.block _ (lt_of_block HB.out) (by omega)).trans HB.out), (HF.out.trans HF0.out (fun i hi => Or.inr (by omega)))⟩
            case measure => simp [intOf] <;> omega
          · have hp : pdg k = 65535 := by unfold pdg; rw [if_neg k0, if_neg k15]
            have t3 : ((k : Int) == 15) = false := by rw [beq_eq_false_iff_ne]; omega
            have t3' : (k == 15) = false := by rw [beq_eq_false_iff_ne]; exact k15
            have t4 : ((k : Int) == 0) = false := by rw [beq_eq_false_iff_ne]; omega
            have t4' : (k == 0) = false := by rw [beq_eq_false_iff_ne]; exact k0
            rw [hp] at h1
            have hz2 : ((65535 : Int) - (x : Int) - (l : Int)) = (dig 65536 (p25519 + 65536 ^ 16 - X) k : Int) := by rw [HD.out, hp]; omega
            clear hp
            have w1 : IntKind.i64.wrap ((65535 : Int) - (x : Int)) = (65535 : Int) - (x : Int) := IntWalk.i64_in _ (by omega)
            have w2 : IntKind.i64.wrap ((65535 : Int) - (x : Int) - (l : Int)) = ((65535 : Int) - (x : Int) - (l : Int)) := IntWalk.i64_in _ (by omega)
            have d1 : decide (((65535 : Int) - (x : Int) - (l : Int)) < 0) = false := decide_eq_false h1
            have hst : ∀ w9 : World, w9.heap[w.heap.size + 1 + 1]? = some (.cells ((zq 16 (npart X k)).setIfInBounds k (.int .i64 (((65535 : Int) - (x : Int) - (l : Int))))) 26 (0, 0)) → w9.heap[w.heap.size + 1 + 1]? = some (.cells (zq 16 (npart X (k + 1))) 26 (0, 0)) := fun w9 h9 => by rw [npart_step X k (by omega) _ hz2] at h9; exact h9
            have HST := Lib.hid hst
            clear hst hz2 HD HX1 h1
            have hsz : k < (zq 16 (npart X k)).size := by rw [zq_size]; omega
            go_wp2_with (with_reducible refine wpList_store_int rfl 3 (.tmp 23) (.tmp 22) rfl (w.heap.size + 1 + 1) k rfl .i64 (((65535 : Int) - (x : Int) - (l : Int))) rfl Try.i3 26 _ HM.out hsz ?k0)
            case k0 =>
            intro wa M0 F0
            have c1 : wa.cell? ⟨w.heap.size + 1 + 1, k, none⟩ = some (Value.int .i64 (((65535 : Int) - (x : Int) - (l : Int)))) := by rw [cell_of_block M0, Array.getElem?_setIfInBounds_self_of_lt]; first | exact hsz | (simp only [Array.size_setIfInBounds]; exact hsz)
            have HM0 := Lib.hid M0
            have HF0 := Lib.hid F0
            clear M0 F0 c0
            go_wp2_with fail
            go_roundw
            case rel => exact ⟨k + 1, by omega, by first | go_num | rfl, by rw [HL.out]; rfl, HST.out _ HM0.out, ((HF0.out.block _ (lt_of_block HA.out) (by omega)).trans HA.out), ((HF0.out.block _ (lt_of_block HB.out) (by omega)).trans HB.out), (HF.out.trans HF0.out (fun i hi => Or.inr (by omega)))⟩
            case measure => simp [intOf] <;> omega
    · as_aux_lemma =>
      obtain rfl : k = 16 := by omega
      have s1 : (Try.prog.info? 26).map (·.size) = some (zq 16 (npart X 16)).size := by rw [zq_size]; kernel_rfl
      have s2 : (Try.prog.info? 26).map (·.size) = some (nd R).size := Try.sizeV
      have o2 : (nd R).all (·.oneCell') = true := iq_one 16 _
      have z2 : (#[.int .i64 0, .int .i64 0, .int .i64 0, .int .i64 0, .int .i64 0, .int .i64 0, .int .i64 0, .int .i64 0, .int .i64 0, .int .i64 0, .int .i64 0, .int .i64 0, .int .i64 0, .int .i64 0, .int .i64 0, .int .i64 0] : Array Value).size = (nd R).size := by unfold nd; rw [iq_size]; rfl
      generalize zq 16 (npart X 16) = S at *
      generalize lck 65536 p25519 X 16 = l at *
      rw [show ((16 : Nat) : Int) = 16 from rfl]
      go_wp2_with (with_reducible refine wpList_load_row rfl 26 (.tmp 3) rfl (w.heap.size + 1 + 1) rfl 26 S (0, 0) _ hM Try.underlying26 rfl s1 ?_)
      refine (TI _).mono ?_
      rintro e w1 ⟨rfl, F1⟩
      have R3 := F1.keep hB
      have G3 := hF.trans F1 (fun _ h => h.elim)
      clear hA hB hM hF F1
      go_wp2_with (with_reducible refine wpList_store_row rfl 26 (.tmp 2) (.tmp 35) rfl (w.heap.size + 1) (nd R) rfl rfl 26 #[.int .i64 0, .int .i64 0, .int .i64 0, .int .i64 0, .int .i64 0, .int .i64 0, .int .i64 0, .int .i64 0, .int .i64 0, .int .i64 0, .int .i64 0, .int .i64 0, .int .i64 0, .int .i64 0, .int .i64 0, .int .i64 0] R3 s2 z2 o2 ?_)
      refine bodyPost_ret (results_cell_row rfl _ _ (w.heap.size + 1) 26 (nd R) (0, 0) _ rfl (setRow_heap _ _ _ _ _ _ R3) Try.underlying26 rfl s2) rfl ?_
      exact ⟨rfl, G3.trans (Fr.setRow (S := fun k => k = w.heap.size + 1) (Fr.refl _ _) rfl _) (fun i hi => Or.inr (by omega))⟩
end Go.Proofs.Ytahnlnflcgehaaa
namespace Go.Proofs.Ytahnlnflcgehaaa
open Go.RowKit Pri
set_option linter.unusedVariables false

set_option maxRecDepth 100000 in
set_option maxHeartbeats 1600000 in
theorem sub5_op (A B C R : Array Value) (w : World)
    (NE : ∀ W : World, Calls Try.prog 25 #[.agg B] W fun e w' => e = .returned (.agg C) ∧ Fr (fun _ => False) W w')
    (AD : ∀ W : World, Calls Try.prog 19 #[.agg A, .agg C] W fun e w' => e = .returned (.agg R) ∧ Fr (fun _ => False) W w')
    (zA : A.size = 16) (zB : B.size = 16) (zR : R.size = 16) (oneR : R.all (·.oneCell') = true) :
    Calls Try.prog 21 #[.agg A, .agg B] w fun e w' => e = .returned (.agg R) ∧ Fr (fun _ => False) w w' := by
  have sA : (Try.prog.info? 26).map (·.size) = some A.size := by rw [zA]; kernel_rfl
  have sB : (Try.prog.info? 26).map (·.size) = some B.size := by rw [zB]; kernel_rfl
  have sR : (Try.prog.info? 26).map (·.size) = some R.size := by rw [zR]; kernel_rfl
  have zR' : (#[.int .i64 0, .int .i64 0, .int .i64 0, .int .i64 0, .int .i64 0, .int .i64 0, .int .i64 0, .int .i64 0, .int .i64 0, .int .i64 0, .int .i64 0, .int .i64 0, .int .i64 0, .int .i64 0, .int .i64 0, .int .i64 0] : Array Value).size = R.size := by rw [zR]; rfl
  have HA := Lib.hid ((Below.heap_alloc ((w.alloc (.cells A 26)).alloc (.cells B 26)) (.cells #[.int .i64 0, .int .i64 0, .int .i64 0, .int .i64 0, .int .i64 0, .int .i64 0, .int .i64 0, .int .i64 0, .int .i64 0, .int .i64 0, .int .i64 0, .int .i64 0, .int .i64 0, .int .i64 0, .int .i64 0, .int .i64 0] 26) _ (by simp; omega)).trans (heap_alloc2_old w _ _))
  have HB := Lib.hid ((Below.heap_alloc ((w.alloc (.cells A 26)).alloc (.cells B 26)) (.cells #[.int .i64 0, .int .i64 0, .int .i64 0, .int .i64 0, .int .i64 0, .int .i64 0, .int .i64 0, .int .i64 0, .int .i64 0, .int .i64 0, .int .i64 0, .int .i64 0, .int .i64 0, .int .i64 0, .int .i64 0, .int .i64 0] 26) _ (by simp)).trans (heap_alloc2_new w _ _))
  have HR := Lib.hid (heap_at ((w.alloc (.cells A 26)).alloc (.cells B 26)) #[.int .i64 0, .int .i64 0, .int .i64 0, .int .i64 0, .int .i64 0, .int .i64 0, .int .i64 0, .int .i64 0, .int .i64 0, .int .i64 0, .int .i64 0, .int .i64 0, .int .i64 0, .int .i64 0, .int .i64 0, .int .i64 0] 26 (w.heap.size + 1 + 1) (by simp))
  have HF := Lib.hid (((((Fr.refl (fun _ => False) w).alloc (.cells A 26)).alloc (.cells B 26)).alloc (.cells #[.int .i64 0, .int .i64 0, .int .i64 0, .int .i64 0, .int .i64 0, .int .i64 0, .int .i64 0, .int .i64 0, .int .i64 0, .int .i64 0, .int .i64 0, .int .i64 0, .int .i64 0, .int .i64 0, .int .i64 0, .int .i64 0] 26)))
  clear zA zB zR
  go_enter Try.func21, Try.ntmps21
  go_wp2_with fail
  refine wp_region_tail 4 [] (by kernel_rfl) (by kernel_rfl) mk_nil ?_
  apply Exists.intro
  refine ⟨?wk, ?fin⟩
  case wk =>
    intro γ
    simp only [List.take_succ_cons, List.take_zero]
    repeat (any_goals (first | (go_big_quiet_want; (with_reducible refine quiet_load_rowg 26 (.tmp 2) rfl w.heap.size rfl 26 A (0, 0) _ HA.out Try.underlying26 rfl sA ?_); simp only [Act.put, List.setIfInBounds_toArray, List.set_cons_zero, List.set_cons_succ]; go_big_quiet_on) | (go_big_quiet_want; (with_reducible refine quiet_load_rowg 26 (.tmp 3) rfl (w.heap.size + 1) rfl 26 B (0, 0) _ HB.out Try.underlying26 rfl sB ?_); simp only [Act.put, List.setIfInBounds_toArray, List.set_cons_zero, List.set_cons_succ]; go_big_quiet_on) | go_big_quiet_step (((first | (go_at_call 25; with_reducible exact Calls.keepg (NE _)) | (go_at_call 19; with_reducible exact Calls.keepg (AD _))))) | quiet_step (((first | (go_at_call 25; with_reducible exact Calls.keepg (NE _)) | (go_at_call 19; with_reducible exact Calls.keepg (AD _)))))))
    exact wpQuiet_nil rfl
  case fin =>
    intro gs wx hF hg hne
    simp only [putAll, List.drop_succ_cons, List.drop_zero, List.length_nil, Nat.add_zero]
    have R1 := hF.keep HR.out
    have G1 := HF.out.trans hF (fun _ h => h.elim)
    clear hg hne hF
    go_wp2_with (with_reducible refine wpList_store_row rfl 26 (.tmp 4) (.tmp 8) rfl (w.heap.size + 1 + 1) R rfl rfl 26 #[.int .i64 0, .int .i64 0, .int .i64 0, .int .i64 0, .int .i64 0, .int .i64 0, .int .i64 0, .int .i64 0, .int .i64 0, .int .i64 0, .int .i64 0, .int .i64 0, .int .i64 0, .int .i64 0, .int .i64 0, .int .i64 0] R1 sR zR' oneR ?_)
    refine bodyPost_ret (results_cell_row rfl _ _ (w.heap.size + 1 + 1) 26 R (0, 0) _ rfl (setRow_heap _ _ _ _ _ _ R1) Try.underlying26 rfl sR) rfl ?_
    exact ⟨rfl, G1.trans (Fr.setRow (S := fun k => k = w.heap.size + 1 + 1) (Fr.refl _ _) rfl _) (fun i hi => Or.inr (by omega))⟩
theorem nd_size (X : Nat) : (nd X).size = 16 := iq_size _ _
theorem sub5_any (X Y : Nat) (hX : X < 115792089237316195423570985008687907853269984665640564039457584007913129639936) (hY : Y ≤ p25519) (w : World) :
    Calls Try.prog 21 #[.agg (nd X), .agg (nd Y)] w fun e w' => e = .returned (.agg (nd ((X + (p25519 - Y) % p25519) % p25519))) ∧ Fr (fun _ => False) w w' :=
  sub5_op (nd X) (nd Y) (nd ((p25519 - Y) % p25519)) _ w (fun W => neg5_any Y hY W) (fun W => add5_any X _ hX (Nat.lt_trans (Nat.mod_lt _ p_pos) (by decide +kernel)) W) (nd_size _) (nd_size _) (nd_size _) (iq_one 16 _)
end Go.Proofs.Ytahnlnflcgehaaa
namespace Go.Proofs.Ytahnlnflcgehaaa
open Go.RowKit Pri
set_option linter.unusedVariables false

theorem b64_pow (j : Nat) : (18446744073709551616 : Nat) ^ j = 65536 ^ (4 * j) := by rw [show (18446744073709551616 : Nat) = 65536 ^ 4 from rfl, ← Nat.pow_mul]
theorem dig_low5 (X k j : Nat) : dig 18446744073709551616 (X % 65536 ^ k) j = X / 18446744073709551616 ^ j % 65536 ^ (min 4 (k - 4 * j)) := by
  unfold dig
  rw [b64_pow]
  by_cases h : 4 * j ≤ k
  · obtain ⟨m, rfl⟩ : ∃ m, k = 4 * j + m := ⟨k - 4 * j, by omega⟩
    rw [Nat.pow_add, Nat.mod_mul_right_div_self, show 4 * j + m - 4 * j = m by omega]
    by_cases h4 : 4 ≤ m
    · obtain ⟨n, rfl⟩ : ∃ n, m = 4 + n := ⟨m - 4, by omega⟩
      rw [show min 4 (4 + n) = 4 by omega, Nat.pow_add, show (65536 : Nat) ^ 4 = 18446744073709551616 from rfl, Nat.mod_mul_right_mod]
    · rw [show min 4 m = m by omega]
      exact Nat.mod_eq_of_lt (Nat.lt_of_lt_of_le (Nat.mod_lt _ (Nat.pow_pos (by decide))) (Nat.pow_le_pow_right (n := 65536) (by decide) (show m ≤ 4 by omega)))
  · rw [show k - 4 * j = 0 by omega, show min 4 0 = 0 from rfl, Nat.pow_zero, Nat.mod_one, Nat.div_eq_of_lt (Nat.lt_of_lt_of_le (Nat.mod_lt _ (Nat.pow_pos (by decide))) (Nat.pow_le_pow_right (n := 65536) (by decide) (show k ≤ 4 * j by omega)))]
theorem sh16 (r : Nat) : (2 : Nat) ^ (16 * r) = 65536 ^ r := by rw [Nat.pow_mul]
theorem part_old5 (X k : Nat) : dig 18446744073709551616 (X % 65536 ^ k) (k / 4) = X / 18446744073709551616 ^ (k / 4) % 2 ^ (16 * (k % 4)) := by
  rw [dig_low5, sh16, show min 4 (k - 4 * (k / 4)) = k % 4 by omega]
theorem part_new5 (X k : Nat) : dig 18446744073709551616 (X % 65536 ^ (k + 1)) (k / 4) = dig 18446744073709551616 (X % 65536 ^ k) (k / 4) + 2 ^ (16 * (k % 4)) * dig 65536 X k := by
  rw [part_old5, dig_low5, sh16, show min 4 (k + 1 - 4 * (k / 4)) = k % 4 + 1 by omega, Nat.pow_succ, Nat.mod_mul]
  congr 2
  unfold dig
  rw [b64_pow, Nat.div_div_eq_div_mul, ← Nat.pow_add, show 4 * (k / 4) + k % 4 = k by omega]
theorem part_step5 (X k : Nat) (hk : k < 16) (z : Nat) (hz : z = dig 18446744073709551616 (X % 65536 ^ (k + 1)) (k / 4)) : (nc (X % 65536 ^ k)).setIfInBounds (k / 4) (.int .u64 (z : Int)) = nc (X % 65536 ^ (k + 1)) := by
  rw [nc_uq, nc_uq, uq_set 4 _ _ _ (by omega)]
  refine uq_congr (fun j hj => ?_)
  by_cases c : j = k / 4
  · subst c; rw [if_pos rfl, hz]
  · rw [if_neg c, dig_low5, dig_low5, show min 4 (k + 1 - 4 * j) = min 4 (k - 4 * j) by omega]
theorem or_sum5 (o x u : Nat) (ho : o < 2 ^ u) (h : o + 2 ^ u * x < 18446744073709551616) : bits .or .u64 (o : Int) ((2 ^ u * x : Nat) : Int) = ((o + 2 ^ u * x : Nat) : Int) := by
  rw [(bits_u64_N o (2 ^ u * x) (by omega) (by omega)).1, Nat.or_comm, ← Nat.two_pow_add_eq_or_of_lt ho, Nat.add_comm]
theorem Try.iU5 : (Try.prog.info? 22).map (·.size) = some 1 := by kernel_rfl
theorem Try.sizeP5 (X : Nat) : (Try.prog.info? 23).map (·.size) = some (nc X).size := by show _ = some 4; kernel_rfl
set_option maxRecDepth 100000 in
set_option maxHeartbeats 3200000 in
theorem parts5_any (X : Nat) (hX : X < 115792089237316195423570985008687907853269984665640564039457584007913129639936) (w : World) :
    Calls Try.prog 75 #[.agg (nd X)] w fun e w' => e = .returned (.agg (nc X)) ∧ Fr (fun _ => False) w w' := by
  have B0 := (Below.heap_alloc ((w.alloc (.cells (nd X) 26)).alloc (.cells #[.int .u64 0, .int .u64 0, .int .u64 0, .int .u64 0] 23)) (.cells #[.int .u64 0, .int .u64 0, .int .u64 0, .int .u64 0] 23) _ (by simp; omega)).trans (heap_alloc2_old w _ _)
  have R0 := (Below.heap_alloc ((w.alloc (.cells (nd X) 26)).alloc (.cells #[.int .u64 0, .int .u64 0, .int .u64 0, .int .u64 0] 23)) (.cells #[.int .u64 0, .int .u64 0, .int .u64 0, .int .u64 0] 23) _ (by simp)).trans (heap_alloc2_new w _ _)
  have A0 := heap_at ((w.alloc (.cells (nd X) 26)).alloc (.cells #[.int .u64 0, .int .u64 0, .int .u64 0, .int .u64 0] 23)) #[.int .u64 0, .int .u64 0, .int .u64 0, .int .u64 0] 23 (w.heap.size + 1 + 1) (by simp)
  have F0 := ((((Fr.refl (fun _ => False) w).alloc (.cells (nd X) 26)).alloc (.cells #[.int .u64 0, .int .u64 0, .int .u64 0, .int .u64 0] 23)).alloc (.cells #[.int .u64 0, .int .u64 0, .int .u64 0, .int .u64 0] 23))
  have A0' : (((w.alloc (.cells (nd X) 26)).alloc (.cells #[.int .u64 0, .int .u64 0, .int .u64 0, .int .u64 0] 23)).alloc (.cells #[.int .u64 0, .int .u64 0, .int .u64 0, .int .u64 0] 23)).heap[w.heap.size + 1 + 1]? = some (.cells (nc (X % 65536 ^ 0)) 23 (0, 0)) := A0.trans (congrArg (fun a => some (Obj.cells a 23 (0, 0))) (by rw [Nat.pow_zero, Nat.mod_one]; rfl))
  have XX : X % 65536 ^ 16 = X := Nat.mod_eq_of_lt (by rw [b16]; exact hX)
  clear A0 hX
  go_enter Try.func75, Try.ntmps75
  go_wp2_with fail
  go_loopw [4] (fun i wr => ∃ k : Nat, k ≤ 16 ∧ i = .int .i64 k ∧ wr.heap[w.heap.size + 1 + 1]? = some (.cells (nc (X % 65536 ^ k)) 23 (0, 0)) ∧ wr.heap[w.heap.size]? = some (.cells (nd X) 26 (0, 0)) ∧ wr.heap[w.heap.size + 1]? = some (.cells #[.int .u64 0, .int .u64 0, .int .u64 0, .int .u64 0] 23 (0, 0)) ∧ Fr (fun _ => False) w wr) (fun i _ => 16 - (intOf i).toNat)
  case atStart => exact ⟨0, by omega, by simp, A0', B0, R0, F0⟩
  case round =>
    clear A0' B0 R0 F0
    obtain ⟨k, hk, rfl, hA, hB, hR, hF⟩ := hrel
    by_cases h16 : k < 16
    · as_aux_lemma =>
      have q0 : (0 : Int) ≤ (k : Int) := by omega
      have q1 : (k : Int) < 16 := by omega
      have hx := dig_lt 65536 X k (by decide)
      have ho : dig 18446744073709551616 (X % 65536 ^ k) (k / 4) < 2 ^ (16 * (k % 4)) := by rw [part_old5]; exact Nat.mod_lt _ (Nat.pow_pos (by decide))
      have hn := part_new5 X k
      have hl := dig_lt 18446744073709551616 (X % 65536 ^ (k + 1)) (k / 4) (by decide)
      have hst := fun z => part_step5 X k h16 z
      have hsz : k / 4 < (nc (X % 65536 ^ k)).size := by show k / 4 < 4; omega
      have g0 : (nc (X % 65536 ^ k))[k / 4]? = some (.int .u64 (dig 18446744073709551616 (X % 65536 ^ k) (k / 4) : Int)) := by rw [nc_uq]; exact uq_get 4 _ _ (by omega)
      have g1 : (nd X)[k]? = some (.int .i64 (dig 65536 X k : Int)) := iq_get 16 _ k h16
      have hd4 : k / 4 < 4 := by omega
      have hr4 : k % 4 < 4 := by omega
      have hq : ((k : Int)).tdiv 4 = ((k / 4 : Nat) : Int) := by rw [Int.tdiv_eq_ediv_of_nonneg (by omega)]; omega
      have hr : ((k : Int)).tmod 4 = ((k % 4 : Nat) : Int) := by rw [Int.tmod_eq_emod_of_nonneg (by omega)]; omega
      have hHA := hA
      generalize dig 18446744073709551616 (X % 65536 ^ (k + 1)) (k / 4) = nw at hn hl hst
      generalize dig 18446744073709551616 (X % 65536 ^ k) (k / 4) = o at ho hn g0
      generalize dig 65536 X k = x at hx hn g1
      generalize k / 4 = d at *
      obtain ⟨u, hu⟩ : ∃ u, u = 16 * (k % 4) := ⟨_, rfl⟩
      rw [← hu] at hn ho
      generalize k % 4 = r at hr hr4 hu
      have hmul : 16 * (r : Int) = (u : Int) := by omega
      have da : (0 : Int) ≤ (d : Int) := by omega
      have db : (d : Int) < 4 := by omega
      have ra : (0 : Int) ≤ (r : Int) := by omega
      have rb : (r : Int) < 4 := by omega
      have ua : (0 : Int) ≤ (u : Int) := by omega
      have ub : (u : Int) < 64 := by omega
      have xa : (0 : Int) ≤ (x : Int) := by omega
      have xb : (x : Int) < 65536 := by omega
      have hor := or_sum5 o x u ho (by omega)
      rw [← hn] at hor
      have hlt : 2 ^ u * x < 18446744073709551616 := by omega
      have hsl : IntKind.u64.wrap ((x : Int) * 2 ^ u) = ((2 ^ u * x : Nat) : Int) := by
        rw [show (x : Int) * 2 ^ u = ((2 ^ u * x : Nat) : Int) by rw [Nat.mul_comm]; simp, IntKind.wrap_u64]
        omega
      generalize 2 ^ u * x = y at hor hsl
      have HST := Lib.hid hst
      have HA := Lib.hid hA
      have HB := Lib.hid hB
      have HR := Lib.hid hR
      have HF := Lib.hid hF
      clear hst hA hHA hB hR hF XX hn ho hl hlt hu hx
      go_wp2_with fail
      refine wp_region_tail 16 [] (by kernel_rfl) (by kernel_rfl) mk_nil ?_
      apply Exists.intro
      refine ⟨?wk, ?fin⟩
      case wk =>
        intro γ
        have c0 := fun y : Wg γ => y.cell HA.out d g0
        have c1 := fun y : Wg γ => y.cell HB.out k g1
        simp only [List.take_succ_cons, List.take_zero]
        repeat (any_goals (first | go_big_quiet_step (fail) | quiet_step (fail)))
        exact wpQuiet_nil rfl
      case fin =>
        intro gs wx hE hg hne
        simp only [putAll, List.drop_succ_cons, List.drop_zero, List.length_nil, Nat.add_zero]
        have A1 := Lib.hid (hE.keep HA.out)
        have B1 := Lib.hid (hE.keep HB.out)
        have R1 := Lib.hid (hE.keep HR.out)
        have G1 := Lib.hid (HF.out.trans hE (fun _ h => h.elim))
        clear hg hne hE
        go_wp2_with (with_reducible refine wpList_store_int rfl 22 (.tmp 24) (.tmp 23) rfl (w.heap.size + 1 + 1) d rfl .u64 (nw : Int) rfl Try.iU5 23 _ A1.out hsz ?k0)
        case k0 =>
        intro wa M0 E0
        have M1 := Lib.hid (M0.trans (by rw [HST.out nw rfl]))
        have B2 := Lib.hid ((E0.block _ (lt_of_block B1.out) (by omega)).trans B1.out)
        have R2 := Lib.hid ((E0.block _ (lt_of_block R1.out) (by omega)).trans R1.out)
        have G2 := Lib.hid (G1.out.trans E0 (fun i hi => Or.inr (by omega)))
        clear M0 E0 A1 B1 R1 G1 hsz
        go_wp2_with fail
        go_roundw
        case rel => exact ⟨k + 1, by omega, by go_num, M1.out, B2.out, R2.out, G2.out⟩
        case measure => simp [intOf]; omega
    · as_aux_lemma =>
      obtain rfl : k = 16 := by omega
      rw [XX] at hA
      have s1 := Try.sizeP5 X
      have z1 : (#[.int .u64 0, .int .u64 0, .int .u64 0, .int .u64 0] : Array Value).size = (nc X).size := rfl
      have o1 := nc_one X
      generalize hS : nc X = S at *
      have HS := Lib.hid hS
      clear XX hB hS
      rw [show ((16 : Nat) : Int) = 16 from rfl]
      go_wp2_with (first
        | (with_reducible refine wpList_load_row rfl 23 (.tmp 3) rfl (w.heap.size + 1 + 1) rfl 23 S (0, 0) _ hA Try.underlying23 rfl s1 ?_)
        | (with_reducible refine wpList_store_row rfl 23 (.tmp 2) (.tmp 25) rfl (w.heap.size + 1) S rfl rfl 23 #[.int .u64 0, .int .u64 0, .int .u64 0, .int .u64 0] hR s1 z1 o1 ?_))
      refine bodyPost_ret (results_cell_row rfl _ _ (w.heap.size + 1) 23 S (0, 0) _ rfl (setRow_heap _ _ _ _ _ _ hR) Try.underlying23 rfl s1) rfl ?_
      exact ⟨by rw [HS.out], hF.trans (Fr.setRow (S := fun k => k = w.heap.size + 1) (Fr.refl _ _) rfl _) (fun i hi => Or.inr (by have : i = w.heap.size + 1 := hi; omega))⟩
end Go.Proofs.Ytahnlnflcgehaaa
namespace Go.Proofs.Ytahnlnflcgehaaa
open Go.RowKit Pri
set_option linter.unusedVariables false

theorem dig_part (X q r : Nat) (hr : r < 4) : dig 18446744073709551616 X q / 2 ^ (16 * r) % 65536 = dig 65536 X (4 * q + r) := by
  unfold dig
  have e1 : (65536 : Nat) ^ (4 * q + r) = 18446744073709551616 ^ q * 2 ^ (16 * r) := by
    rw [Nat.pow_add, Nat.pow_mul, show (65536 : Nat) ^ 4 = 18446744073709551616 from by decide, show (65536 : Nat) = 2 ^ 16 from rfl, ← Nat.pow_mul]
  rw [e1, ← Nat.div_div_eq_div_mul]
  generalize X / 18446744073709551616 ^ q = z
  have h : r = 0 ∨ r = 1 ∨ r = 2 ∨ r = 3 := by omega
  rcases h with rfl | rfl | rfl | rfl
  · show z % 18446744073709551616 / 2 ^ 0 % 65536 = z / 2 ^ 0 % 65536; rw [Nat.pow_zero, Nat.div_one, Nat.div_one]; omega
  · show z % 18446744073709551616 / 65536 % 65536 = z / 65536 % 65536; omega
  · show z % 18446744073709551616 / 4294967296 % 65536 = z / 4294967296 % 65536; omega
  · show z % 18446744073709551616 / 281474976710656 % 65536 = z / 281474976710656 % 65536; omega
theorem maskU16 (z : Nat) (hz : z < 18446744073709551616) : bits .and .u64 (z : Int) 65535 = ((z % 65536 : Nat) : Int) := by
  rw [show (65535 : Int) = ((65535 : Nat) : Int) from rfl, (bits_u64_N z 65535 hz (by decide)).2.1, show (65535 : Nat) = 2 ^ 16 - 1 from rfl, Nat.and_two_pow_sub_one_eq_mod]
set_option maxRecDepth 100000 in
set_option maxHeartbeats 3200000 in
theorem of5_any (X : Nat) (hX : X < 115792089237316195423570985008687907853269984665640564039457584007913129639936) (w : World) :
    Calls Try.prog 74 #[.agg (nc X)] w fun e w' => e = .returned (.agg (nd (X % p25519))) ∧ Fr (fun _ => False) w w' := by
  have TI := fun W : World => tidy_any (dig 65536 X) (fun j _ => by have := dig_lt 65536 X j (by decide); omega) W
  rw [val_dig, b16, Nat.mod_eq_of_lt hX] at TI
  generalize X % p25519 = R at *
  have A0 := (Below.heap_alloc ((w.alloc (.cells (nc X) 23)).alloc (.cells #[.int .i64 0, .int .i64 0, .int .i64 0, .int .i64 0, .int .i64 0, .int .i64 0, .int .i64 0, .int .i64 0, .int .i64 0, .int .i64 0, .int .i64 0, .int .i64 0, .int .i64 0, .int .i64 0, .int .i64 0, .int .i64 0] 26)) (.cells #[.int .i64 0, .int .i64 0, .int .i64 0, .int .i64 0, .int .i64 0, .int .i64 0, .int .i64 0, .int .i64 0, .int .i64 0, .int .i64 0, .int .i64 0, .int .i64 0, .int .i64 0, .int .i64 0, .int .i64 0, .int .i64 0] 26) _ (by simp; omega)).trans (heap_alloc2_old w _ _)
  have R0 := (Below.heap_alloc ((w.alloc (.cells (nc X) 23)).alloc (.cells #[.int .i64 0, .int .i64 0, .int .i64 0, .int .i64 0, .int .i64 0, .int .i64 0, .int .i64 0, .int .i64 0, .int .i64 0, .int .i64 0, .int .i64 0, .int .i64 0, .int .i64 0, .int .i64 0, .int .i64 0, .int .i64 0] 26)) (.cells #[.int .i64 0, .int .i64 0, .int .i64 0, .int .i64 0, .int .i64 0, .int .i64 0, .int .i64 0, .int .i64 0, .int .i64 0, .int .i64 0, .int .i64 0, .int .i64 0, .int .i64 0, .int .i64 0, .int .i64 0, .int .i64 0] 26) _ (by simp)).trans (heap_alloc2_new w _ _)
  have N0 := heap_at ((w.alloc (.cells (nc X) 23)).alloc (.cells #[.int .i64 0, .int .i64 0, .int .i64 0, .int .i64 0, .int .i64 0, .int .i64 0, .int .i64 0, .int .i64 0, .int .i64 0, .int .i64 0, .int .i64 0, .int .i64 0, .int .i64 0, .int .i64 0, .int .i64 0, .int .i64 0] 26)) #[.int .i64 0, .int .i64 0, .int .i64 0, .int .i64 0, .int .i64 0, .int .i64 0, .int .i64 0, .int .i64 0, .int .i64 0, .int .i64 0, .int .i64 0, .int .i64 0, .int .i64 0, .int .i64 0, .int .i64 0, .int .i64 0] 26 (w.heap.size + 1 + 1) (by simp)
  rw [show (#[.int .i64 0, .int .i64 0, .int .i64 0, .int .i64 0, .int .i64 0, .int .i64 0, .int .i64 0, .int .i64 0, .int .i64 0, .int .i64 0, .int .i64 0, .int .i64 0, .int .i64 0, .int .i64 0, .int .i64 0, .int .i64 0] : Array Value) = iq 16 (fun j => if j < 0 then dig 65536 X j else 0) from rfl] at N0
  have F0 := ((((Fr.refl (fun _ => False) w).alloc (.cells (nc X) 23)).alloc (.cells #[.int .i64 0, .int .i64 0, .int .i64 0, .int .i64 0, .int .i64 0, .int .i64 0, .int .i64 0, .int .i64 0, .int .i64 0, .int .i64 0, .int .i64 0, .int .i64 0, .int .i64 0, .int .i64 0, .int .i64 0, .int .i64 0] 26)).alloc (.cells #[.int .i64 0, .int .i64 0, .int .i64 0, .int .i64 0, .int .i64 0, .int .i64 0, .int .i64 0, .int .i64 0, .int .i64 0, .int .i64 0, .int .i64 0, .int .i64 0, .int .i64 0, .int .i64 0, .int .i64 0, .int .i64 0] 26))
  rw [nc_uq] at A0 F0 R0 N0
  rw [nc_uq]
  clear hX
  go_enter Try.func74, Try.ntmps74
  go_wp2_with fail
  go_loopw [4] (fun i wr => ∃ k : Nat, k ≤ 16 ∧ i = .int .i64 k ∧ wr.heap[w.heap.size]? = some (.cells (uq 4 (dig 18446744073709551616 X)) 23 (0, 0)) ∧ wr.heap[w.heap.size + 1]? = some (.cells #[.int .i64 0, .int .i64 0, .int .i64 0, .int .i64 0, .int .i64 0, .int .i64 0, .int .i64 0, .int .i64 0, .int .i64 0, .int .i64 0, .int .i64 0, .int .i64 0, .int .i64 0, .int .i64 0, .int .i64 0, .int .i64 0] 26 (0, 0)) ∧ wr.heap[w.heap.size + 1 + 1]? = some (.cells (iq 16 (fun j => if j < k then dig 65536 X j else 0)) 26 (0, 0)) ∧ Fr (fun _ => False) w wr) (fun i _ => 16 - (intOf i).toNat)
  case atStart => exact ⟨0, by omega, by simp, A0, R0, N0, F0⟩
  case round =>
    clear A0 R0 N0 F0
    obtain ⟨k, hk, rfl, hA, hR, hN, hF⟩ := hrel
    by_cases h16 : k < 16
    · obtain ⟨q, hq⟩ : ∃ q, q = k / 4 := ⟨_, rfl⟩
      have hq4 : q < 4 := by omega
      have q0 : (0 : Int) ≤ (k : Int) := by omega
      have q1 : (k : Int) < 16 := by omega
      have q2 : (0 : Int) ≤ (q : Int) := by omega
      have q3 : (q : Int) < 4 := by omega
      have c0 := cell_of_block hA q
      rw [uq_get 4 _ q hq4] at c0
      have hz := dig_lt 18446744073709551616 X q (by decide)
      have hsz : k < (iq 16 (fun j => if j < k then dig 65536 X j else 0)).size := by rw [iq_size]; exact h16
      have hst := step_set 16 (dig 65536 X) (fun _ => 0) k _ h16 rfl
      have hx := dig_lt 65536 X k (by decide)
      have hr4 : k = 4 * q + 0 ∨ k = 4 * q + 1 ∨ k = 4 * q + 2 ∨ k = 4 * q + 3 := by omega
      have hdq : ((k : Int)).tdiv 4 = (q : Int) := by rw [Int.tdiv_eq_ediv_of_nonneg (by omega)]; omega
      have HA := Lib.hid hA
      have HR := Lib.hid hR
      have HN := Lib.hid hN
      have HF := Lib.hid hF
      have HST := Lib.hid hst
      clear hst hA hR hN hF hq
      rcases hr4 with h | h | h | h
      · as_aux_lemma =>
        have hrm : ((k : Int)).tmod 4 = 0 := by rw [Int.tmod_eq_emod_of_nonneg (by omega)]; omega
        have hp := dig_part X q 0 (by decide)
        rw [← h, show (2 : Nat) ^ (16 * 0) = 1 from by decide] at hp
        generalize dig 65536 X k = d at *
        generalize dig 18446744073709551616 X q = z at *
        have hzd : z / 1 < 18446744073709551616 := Nat.lt_of_le_of_lt (Nat.div_le_self _ _) hz
        have hm := maskU16 (z / 1) hzd
        rw [hp] at hm
        have hdv : (z : Int) / 1 = ((z / 1 : Nat) : Int) := by omega
        have hcv : IntKind.i64.wrap (d : Int) = (d : Int) := IntWalk.i64_in _ (by omega)
        generalize z / 1 = y at *
        clear hp h hz hzd hx
        go_wp2_with (with_reducible refine wpList_store_int rfl 3 (.tmp 20) (.tmp 19) rfl (w.heap.size + 1 + 1) k rfl .i64 (d : Int) rfl Try.i3 26 _ HN.out hsz ?k0)
        case k0 =>
        intro wa M0 E0
        have M1 := Lib.hid (M0.trans (by rw [HST.out]))
        have A2 := Lib.hid ((E0.block _ (lt_of_block HA.out) (by omega)).trans HA.out)
        have R2 := Lib.hid ((E0.block _ (lt_of_block HR.out) (by omega)).trans HR.out)
        have G2 := Lib.hid (HF.out.trans E0 (fun i hi => Or.inr (by omega)))
        clear M0 E0 hsz c0
        go_wp2_with fail
        go_roundw
        case rel => exact ⟨k + 1, by omega, by go_num, A2.out, R2.out, M1.out, G2.out⟩
        case measure => simp [intOf]; omega
      · as_aux_lemma =>
        have hrm : ((k : Int)).tmod 4 = 1 := by rw [Int.tmod_eq_emod_of_nonneg (by omega)]; omega
        have hp := dig_part X q 1 (by decide)
        rw [← h, show (2 : Nat) ^ (16 * 1) = 65536 from by decide] at hp
        generalize dig 65536 X k = d at *
        generalize dig 18446744073709551616 X q = z at *
        have hzd : z / 65536 < 18446744073709551616 := Nat.lt_of_le_of_lt (Nat.div_le_self _ _) hz
        have hm := maskU16 (z / 65536) hzd
        rw [hp] at hm
        have hdv : (z : Int) / 65536 = ((z / 65536 : Nat) : Int) := by omega
        have hcv : IntKind.i64.wrap (d : Int) = (d : Int) := IntWalk.i64_in _ (by omega)
        generalize z / 65536 = y at *
        clear hp h hz hzd hx
        go_wp2_with (with_reducible refine wpList_store_int rfl 3 (.tmp 20) (.tmp 19) rfl (w.heap.size + 1 + 1) k rfl .i64 (d : Int) rfl Try.i3 26 _ HN.out hsz ?k0)
        case k0 =>
        intro wa M0 E0
        have M1 := Lib.hid (M0.trans (by rw [HST.out]))
        have A2 := Lib.hid ((E0.block _ (lt_of_block HA.out) (by omega)).trans HA.out)
        have R2 := Lib.hid ((E0.block _ (lt_of_block HR.out) (by omega)).trans HR.out)
        have G2 := Lib.hid (HF.out.trans E0 (fun i hi => Or.inr (by omega)))
        clear M0 E0 hsz c0
        go_wp2_with fail
        go_roundw
        case rel => exact ⟨k + 1, by omega, by go_num, A2.out, R2.out, M1.out, G2.out⟩
        case measure => simp [intOf]; omega
      · as_aux_lemma =>
        have hrm : ((k : Int)).tmod 4 = 2 := by rw [Int.tmod_eq_emod_of_nonneg (by omega)]; omega
        have hp := dig_part X q 2 (by decide)
        rw [← h, show (2 : Nat) ^ (16 * 2) = 4294967296 from by decide] at hp
        generalize dig 65536 X k = d at *
        generalize dig 18446744073709551616 X q = z at *
        have hzd : z / 4294967296 < 18446744073709551616 := Nat.lt_of_le_of_lt (Nat.div_le_self _ _) hz
        have hm := maskU16 (z / 4294967296) hzd
        rw [hp] at hm
        have hdv : (z : Int) / 4294967296 = ((z / 4294967296 : Nat) : Int) := by omega
        have hcv : IntKind.i64.wrap (d : Int) = (d : Int) := IntWalk.i64_in _ (by omega)
        generalize z / 4294967296 = y at *
        clear hp h hz hzd hx
        go_wp2_with (with_reducible refine wpList_store_int rfl 3 (.tmp 20) (.tmp 19) rfl (w.heap.size + 1 + 1) k rfl .i64 (d : Int) rfl Try.i3 26 _ HN.out hsz ?k0)
        case k0 =>
        intro wa M0 E0
        have M1 := Lib.hid (M0.trans (by rw [HST.out]))
        have A2 := Lib.hid ((E0.block _ (lt_of_block HA.out) (by omega)).trans HA.out)
        have R2 := Lib.hid ((E0.block _ (lt_of_block HR.out) (by omega)).trans HR.out)
        have G2 := Lib.hid (HF.out.trans E0 (fun i hi => Or.inr (by omega)))
        clear M0 E0 hsz c0
        go_wp2_with fail
        go_roundw
        case rel => exact ⟨k + 1, by omega, by go_num, A2.out, R2.out, M1.out, G2.out⟩
        case measure => simp [intOf]; omega
      · as_aux_lemma =>
        have hrm : ((k : Int)).tmod 4 = 3 := by rw [Int.tmod_eq_emod_of_nonneg (by omega)]; omega
        have hp := dig_part X q 3 (by decide)
        rw [← h, show (2 : Nat) ^ (16 * 3) = 281474976710656 from by decide] at hp
        generalize dig 65536 X k = d at *
        generalize dig 18446744073709551616 X q = z at *
        have hzd : z / 281474976710656 < 18446744073709551616 := Nat.lt_of_le_of_lt (Nat.div_le_self _ _) hz
        have hm := maskU16 (z / 281474976710656) hzd
        rw [hp] at hm
        have hdv : (z : Int) / 281474976710656 = ((z / 281474976710656 : Nat) : Int) := by omega
        have hcv : IntKind.i64.wrap (d : Int) = (d : Int) := IntWalk.i64_in _ (by omega)
        generalize z / 281474976710656 = y at *
        clear hp h hz hzd hx
        go_wp2_with (with_reducible refine wpList_store_int rfl 3 (.tmp 20) (.tmp 19) rfl (w.heap.size + 1 + 1) k rfl .i64 (d : Int) rfl Try.i3 26 _ HN.out hsz ?k0)
        case k0 =>
        intro wa M0 E0
        have M1 := Lib.hid (M0.trans (by rw [HST.out]))
        have A2 := Lib.hid ((E0.block _ (lt_of_block HA.out) (by omega)).trans HA.out)
        have R2 := Lib.hid ((E0.block _ (lt_of_block HR.out) (by omega)).trans HR.out)
        have G2 := Lib.hid (HF.out.trans E0 (fun i hi => Or.inr (by omega)))
        clear M0 E0 hsz c0
        go_wp2_with fail
        go_roundw
        case rel => exact ⟨k + 1, by omega, by go_num, A2.out, R2.out, M1.out, G2.out⟩
        case measure => simp [intOf]; omega
    · as_aux_lemma =>
      obtain rfl : k = 16 := by omega
      rw [show iq 16 (fun j => if j < 16 then dig 65536 X j else 0) = iq 16 (dig 65536 X) from iq_congr (fun j hj => by rw [if_pos hj])] at hN
      have s1 := Try.sizeV (f := dig 65536 X)
      have s2 : (Try.prog.info? 26).map (·.size) = some (nd R).size := Try.sizeV
      have o2 : (nd R).all (·.oneCell') = true := iq_one 16 _
      have z2 : (#[.int .i64 0, .int .i64 0, .int .i64 0, .int .i64 0, .int .i64 0, .int .i64 0, .int .i64 0, .int .i64 0, .int .i64 0, .int .i64 0, .int .i64 0, .int .i64 0, .int .i64 0, .int .i64 0, .int .i64 0, .int .i64 0] : Array Value).size = (nd R).size := by unfold nd; rw [iq_size]; rfl
      generalize iq 16 (dig 65536 X) = S at *
      rw [show ((16 : Nat) : Int) = 16 from rfl]
      go_wp2_with (with_reducible refine wpList_load_row rfl 26 (.tmp 3) rfl (w.heap.size + 1 + 1) rfl 26 S (0, 0) _ hN Try.underlying26 rfl s1 ?_)
      refine (TI _).mono ?_
      rintro e w1 ⟨rfl, F1⟩
      have R3 := F1.keep hR
      have G3 := hF.trans F1 (fun _ h => h.elim)
      clear hA hN hR hF F1
      go_wp2_with (with_reducible refine wpList_store_row rfl 26 (.tmp 2) (.tmp 22) rfl (w.heap.size + 1) (nd R) rfl rfl 26 #[.int .i64 0, .int .i64 0, .int .i64 0, .int .i64 0, .int .i64 0, .int .i64 0, .int .i64 0, .int .i64 0, .int .i64 0, .int .i64 0, .int .i64 0, .int .i64 0, .int .i64 0, .int .i64 0, .int .i64 0, .int .i64 0] R3 s2 z2 o2 ?_)
      refine bodyPost_ret (results_cell_row rfl _ _ (w.heap.size + 1) 26 (nd R) (0, 0) _ rfl (setRow_heap _ _ _ _ _ _ R3) Try.underlying26 rfl s2) rfl ?_
      exact ⟨rfl, G3.trans (Fr.setRow (S := fun k => k = w.heap.size + 1) (Fr.refl _ _) rfl _) (fun i hi => Or.inr (by omega))⟩
end Go.Proofs.Ytahnlnflcgehaaa
namespace Go.Proofs.Ytahnlnflcgehaaa
open Go.RowKit Pri
set_option linter.unusedVariables false

theorem val_upd (B : Nat) (f : Nat → Nat) (m x : Nat) : ∀ n, m < n → val B (fun j => if j = m then f m + x else f j) n = val B f n + x * B ^ m
  | 0, h => by omega
  | n + 1, h => by
    show val B _ n + (if n = m then f m + x else f n) * B ^ n = val B f n + f n * B ^ n + x * B ^ m
    by_cases e : n = m
    · subst e
      rw [if_pos rfl, val_congr B n (f := fun j => if j = n then f n + x else f j) (g := f) (fun j hj => by rw [if_neg (by omega)]), Nat.add_mul]
      omega
    · rw [if_neg e, val_upd B f m x n (by omega)]
      omega
theorem val_shift (B : Nat) (f : Nat → Nat) (k : Nat) : ∀ n, val B f (k + n) = val B f k + B ^ k * val B (fun j => f (j + k)) n
  | 0 => rfl
  | n + 1 => by
    show val B f (k + n) + f (k + n) * B ^ (k + n) = val B f k + B ^ k * (val B (fun j => f (j + k)) n + f (n + k) * B ^ n)
    rw [val_shift B f k n, Nat.mul_add, Nat.pow_add, Nat.mul_left_comm (B ^ k), Nat.add_comm n k, Nat.add_assoc]
theorem val_38 (f : Nat → Nat) : ∀ n, val 65536 (fun j => 38 * f j) n = 38 * val 65536 f n
  | 0 => rfl
  | n + 1 => by
    show val 65536 _ n + 38 * f n * 65536 ^ n = 38 * (val 65536 f n + f n * 65536 ^ n)
    rw [val_38 f n, Nat.mul_add, Nat.mul_assoc]
theorem fold32 (C : Nat → Nat) (V : Nat) (h : val 65536 C 32 = V) : val 65536 (fun j => C j + 38 * C (j + 16)) 16 % p25519 = V % p25519 := by
  have h2 := val_shift 65536 C 16 16
  rw [show 16 + 16 = 32 from rfl, h, b16] at h2
  rw [val_sum, val_38 (fun j => C (j + 16)), h2]
  generalize val 65536 C 16 = a
  generalize val 65536 (fun j => C (j + 16)) 16 = b
  rw [p_val]
  omega
theorem mul_row (X Y i k : Nat) : (X % 65536 ^ i) * Y + dig 65536 X i * 65536 ^ i * (Y % 65536 ^ k) + dig 65536 X i * dig 65536 Y k * 65536 ^ (i + k) = (X % 65536 ^ i) * Y + dig 65536 X i * 65536 ^ i * (Y % 65536 ^ (k + 1)) := by
  rw [dig_mod 65536 Y k, Nat.mul_add, Nat.pow_add, Nat.add_assoc]
  congr 2
  ac_rfl
theorem mul_next (X Y i : Nat) (hY : Y < 65536 ^ 16) : (X % 65536 ^ i) * Y + dig 65536 X i * 65536 ^ i * (Y % 65536 ^ 16) = (X % 65536 ^ (i + 1)) * Y := by
  rw [Nat.mod_eq_of_lt hY, dig_mod 65536 X i, Nat.add_mul]
  congr 2
  ac_rfl
theorem prod_bd (x y : Nat) (hx : x < 65536) (hy : y < 65536) : x * y ≤ 4294836225 := by
  have : x * y ≤ 65535 * 65535 := Nat.mul_le_mul (by omega) (by omega)
  omega
theorem upd_bd (D : Nat → Nat) (b s pr : Nat) (h : ∀ j, j < 32 → D j ≤ b) (hp : pr ≤ 4294836225) (hs : s < 32) : ∀ j, j < 32 → (fun j => if j = s then D s + pr else D j) j ≤ b + 4294836225 := by
  intro j hj
  have h1 := h j hj
  have h2 := h s hs
  show (if j = s then D s + pr else D j) ≤ _
  split <;> omega
theorem Try.alloc32 : ∀ w, (Instr.alloc 108 true (.tuple #[])).run Try.prog w = .ok (.pointer (some ⟨w.heap.size, 0, none⟩)) (w.alloc (.cells #[.int .i64 0, .int .i64 0, .int .i64 0, .int .i64 0, .int .i64 0, .int .i64 0, .int .i64 0, .int .i64 0, .int .i64 0, .int .i64 0, .int .i64 0, .int .i64 0, .int .i64 0, .int .i64 0, .int .i64 0, .int .i64 0, .int .i64 0, .int .i64 0, .int .i64 0, .int .i64 0, .int .i64 0, .int .i64 0, .int .i64 0, .int .i64 0, .int .i64 0, .int .i64 0, .int .i64 0, .int .i64 0, .int .i64 0, .int .i64 0, .int .i64 0, .int .i64 0] 108)) := fun w => by kernel_rfl
set_option maxRecDepth 100000 in
set_option maxHeartbeats 6400000 in
theorem mul5_any (X Y : Nat) (hX : X < 115792089237316195423570985008687907853269984665640564039457584007913129639936) (hY : Y < 115792089237316195423570985008687907853269984665640564039457584007913129639936) (w : World) :
    Calls Try.prog 23 #[.agg (nd X), .agg (nd Y)] w fun e w' => e = .returned (.agg (nd (X * Y % p25519))) ∧ Fr (fun _ => False) w w' := by
  have A0 := (Below.heap_alloc (((w.alloc (.cells (nd X) 26)).alloc (.cells (nd Y) 26)).alloc (.cells #[.int .i64 0, .int .i64 0, .int .i64 0, .int .i64 0, .int .i64 0, .int .i64 0, .int .i64 0, .int .i64 0, .int .i64 0, .int .i64 0, .int .i64 0, .int .i64 0, .int .i64 0, .int .i64 0, .int .i64 0, .int .i64 0] 26)) (.cells #[.int .i64 0, .int .i64 0, .int .i64 0, .int .i64 0, .int .i64 0, .int .i64 0, .int .i64 0, .int .i64 0, .int .i64 0, .int .i64 0, .int .i64 0, .int .i64 0, .int .i64 0, .int .i64 0, .int .i64 0, .int .i64 0, .int .i64 0, .int .i64 0, .int .i64 0, .int .i64 0, .int .i64 0, .int .i64 0, .int .i64 0, .int .i64 0, .int .i64 0, .int .i64 0, .int .i64 0, .int .i64 0, .int .i64 0, .int .i64 0, .int .i64 0, .int .i64 0] 108) _ (by simp <;> omega)).trans ((Below.heap_alloc ((w.alloc (.cells (nd X) 26)).alloc (.cells (nd Y) 26)) (.cells #[.int .i64 0, .int .i64 0, .int .i64 0, .int .i64 0, .int .i64 0, .int .i64 0, .int .i64 0, .int .i64 0, .int .i64 0, .int .i64 0, .int .i64 0, .int .i64 0, .int .i64 0, .int .i64 0, .int .i64 0, .int .i64 0] 26) _ (by simp <;> omega)).trans (heap_alloc2_old w _ _))
  have B0 := (Below.heap_alloc (((w.alloc (.cells (nd X) 26)).alloc (.cells (nd Y) 26)).alloc (.cells #[.int .i64 0, .int .i64 0, .int .i64 0, .int .i64 0, .int .i64 0, .int .i64 0, .int .i64 0, .int .i64 0, .int .i64 0, .int .i64 0, .int .i64 0, .int .i64 0, .int .i64 0, .int .i64 0, .int .i64 0, .int .i64 0] 26)) (.cells #[.int .i64 0, .int .i64 0, .int .i64 0, .int .i64 0, .int .i64 0, .int .i64 0, .int .i64 0, .int .i64 0, .int .i64 0, .int .i64 0, .int .i64 0, .int .i64 0, .int .i64 0, .int .i64 0, .int .i64 0, .int .i64 0, .int .i64 0, .int .i64 0, .int .i64 0, .int .i64 0, .int .i64 0, .int .i64 0, .int .i64 0, .int .i64 0, .int .i64 0, .int .i64 0, .int .i64 0, .int .i64 0, .int .i64 0, .int .i64 0, .int .i64 0, .int .i64 0] 108) _ (by simp <;> omega)).trans ((Below.heap_alloc ((w.alloc (.cells (nd X) 26)).alloc (.cells (nd Y) 26)) (.cells #[.int .i64 0, .int .i64 0, .int .i64 0, .int .i64 0, .int .i64 0, .int .i64 0, .int .i64 0, .int .i64 0, .int .i64 0, .int .i64 0, .int .i64 0, .int .i64 0, .int .i64 0, .int .i64 0, .int .i64 0, .int .i64 0] 26) _ (by simp <;> omega)).trans (heap_alloc2_new w _ _))
  have R0 := (Below.heap_alloc (((w.alloc (.cells (nd X) 26)).alloc (.cells (nd Y) 26)).alloc (.cells #[.int .i64 0, .int .i64 0, .int .i64 0, .int .i64 0, .int .i64 0, .int .i64 0, .int .i64 0, .int .i64 0, .int .i64 0, .int .i64 0, .int .i64 0, .int .i64 0, .int .i64 0, .int .i64 0, .int .i64 0, .int .i64 0] 26)) (.cells #[.int .i64 0, .int .i64 0, .int .i64 0, .int .i64 0, .int .i64 0, .int .i64 0, .int .i64 0, .int .i64 0, .int .i64 0, .int .i64 0, .int .i64 0, .int .i64 0, .int .i64 0, .int .i64 0, .int .i64 0, .int .i64 0, .int .i64 0, .int .i64 0, .int .i64 0, .int .i64 0, .int .i64 0, .int .i64 0, .int .i64 0, .int .i64 0, .int .i64 0, .int .i64 0, .int .i64 0, .int .i64 0, .int .i64 0, .int .i64 0, .int .i64 0, .int .i64 0] 108) _ (by simp <;> omega)).trans (heap_at ((w.alloc (.cells (nd X) 26)).alloc (.cells (nd Y) 26)) #[.int .i64 0, .int .i64 0, .int .i64 0, .int .i64 0, .int .i64 0, .int .i64 0, .int .i64 0, .int .i64 0, .int .i64 0, .int .i64 0, .int .i64 0, .int .i64 0, .int .i64 0, .int .i64 0, .int .i64 0, .int .i64 0] 26 (w.heap.size + 1 + 1) (by simp))
  have C0 := heap_at (((w.alloc (.cells (nd X) 26)).alloc (.cells (nd Y) 26)).alloc (.cells #[.int .i64 0, .int .i64 0, .int .i64 0, .int .i64 0, .int .i64 0, .int .i64 0, .int .i64 0, .int .i64 0, .int .i64 0, .int .i64 0, .int .i64 0, .int .i64 0, .int .i64 0, .int .i64 0, .int .i64 0, .int .i64 0] 26)) #[.int .i64 0, .int .i64 0, .int .i64 0, .int .i64 0, .int .i64 0, .int .i64 0, .int .i64 0, .int .i64 0, .int .i64 0, .int .i64 0, .int .i64 0, .int .i64 0, .int .i64 0, .int .i64 0, .int .i64 0, .int .i64 0, .int .i64 0, .int .i64 0, .int .i64 0, .int .i64 0, .int .i64 0, .int .i64 0, .int .i64 0, .int .i64 0, .int .i64 0, .int .i64 0, .int .i64 0, .int .i64 0, .int .i64 0, .int .i64 0, .int .i64 0, .int .i64 0] 108 (w.heap.size + 1 + 1 + 1) (by simp)
  rw [show (#[.int .i64 0, .int .i64 0, .int .i64 0, .int .i64 0, .int .i64 0, .int .i64 0, .int .i64 0, .int .i64 0, .int .i64 0, .int .i64 0, .int .i64 0, .int .i64 0, .int .i64 0, .int .i64 0, .int .i64 0, .int .i64 0, .int .i64 0, .int .i64 0, .int .i64 0, .int .i64 0, .int .i64 0, .int .i64 0, .int .i64 0, .int .i64 0, .int .i64 0, .int .i64 0, .int .i64 0, .int .i64 0, .int .i64 0, .int .i64 0, .int .i64 0, .int .i64 0] : Array Value) = iq 32 (fun _ => 0) from by kernel_rfl] at A0 B0 R0 C0
  have F0 := (((((Fr.refl (fun _ => False) w).alloc (.cells (nd X) 26)).alloc (.cells (nd Y) 26)).alloc (.cells #[.int .i64 0, .int .i64 0, .int .i64 0, .int .i64 0, .int .i64 0, .int .i64 0, .int .i64 0, .int .i64 0, .int .i64 0, .int .i64 0, .int .i64 0, .int .i64 0, .int .i64 0, .int .i64 0, .int .i64 0, .int .i64 0] 26)).alloc (.cells (iq 32 (fun _ => 0)) 108))
  have hv0 : val 65536 (fun _ => 0) 32 = (X % 65536 ^ 0) * Y := by
    rw [Nat.pow_zero, Nat.mod_one, Nat.zero_mul]
    have : ∀ n, val 65536 (fun _ => 0) n = 0 := fun n => by
      induction n with
      | zero => rfl
      | succ n ih => show val 65536 _ n + 0 * _ = 0; rw [ih, Nat.zero_mul]
    exact this 32
  have hz32 : (#[.int .i64 0, .int .i64 0, .int .i64 0, .int .i64 0, .int .i64 0, .int .i64 0, .int .i64 0, .int .i64 0, .int .i64 0, .int .i64 0, .int .i64 0, .int .i64 0, .int .i64 0, .int .i64 0, .int .i64 0, .int .i64 0, .int .i64 0, .int .i64 0, .int .i64 0, .int .i64 0, .int .i64 0, .int .i64 0, .int .i64 0, .int .i64 0, .int .i64 0, .int .i64 0, .int .i64 0, .int .i64 0, .int .i64 0, .int .i64 0, .int .i64 0, .int .i64 0] : Array Value) = iq 32 (fun _ => 0) := by kernel_rfl
  have HZ := Lib.hid hz32
  have HXY := Lib.hid (And.intro hX hY)
  have HV := Lib.hid hv0
  clear hz32 hv0 hX hY
  go_enter Try.func23, Try.ntmps23
  go_wp2_with fail
  rw [HZ.out]
  go_loopw [6, 7] (fun i _ wr => ∃ (n : Nat) (C : Nat → Nat), n ≤ 16 ∧ i = .int .i64 n ∧ Hid ((∀ j, j < 32 → C j ≤ n * 16 * 4294836225) ∧ val 65536 C 32 = (X % 65536 ^ n) * Y) ∧ wr.heap[w.heap.size + 1 + 1 + 1]? = some (.cells (iq 32 C) 108 (0, 0)) ∧ wr.heap[w.heap.size]? = some (.cells (nd X) 26 (0, 0)) ∧ wr.heap[w.heap.size + 1]? = some (.cells (nd Y) 26 (0, 0)) ∧ wr.heap[w.heap.size + 1 + 1]? = some (.cells #[.int .i64 0, .int .i64 0, .int .i64 0, .int .i64 0, .int .i64 0, .int .i64 0, .int .i64 0, .int .i64 0, .int .i64 0, .int .i64 0, .int .i64 0, .int .i64 0, .int .i64 0, .int .i64 0, .int .i64 0, .int .i64 0] 26 (0, 0)) ∧ Fr (fun _ => False) w wr) (fun i _ _ => 16 - (intOf i).toNat)
  case atStart => exact ⟨0, fun _ => 0, by omega, by simp, Lib.hid ⟨fun j _ => by simp, HV.out⟩, C0, A0, B0, R0, F0⟩
  case round =>
    clear C0 A0 B0 R0 F0 HV HZ
    obtain ⟨n, C, hn, rfl, hC, hM, hA, hB, hR, hF⟩ := hrel
    by_cases h16 : n < 16
    · have C1 := Lib.hid (show (∀ j, j < 32 → C j ≤ (n * 16 + 0) * 4294836225) ∧ val 65536 C 32 = (X % 65536 ^ n) * Y + dig 65536 X n * 65536 ^ n * (Y % 65536 ^ 0) from ⟨hC.out.1, by rw [Nat.pow_zero, Nat.mod_one, Nat.mul_zero, Nat.add_zero]; exact hC.out.2⟩)
      have hlt : decide ((n : Int) < 16) = true := by simp; omega
      have n0 : (0 : Int) ≤ (n : Int) := by omega
      have n1 : (n : Int) < 16 := by omega
      clear hC
      go_wp2_with fail
      clear hlt
      obtain ⟨wo, rfl⟩ : ∃ wo : World, wo = wr := ⟨_, rfl⟩
      go_loopw [7] (fun k wi => ∃ (m : Nat) (D : Nat → Nat), m ≤ 16 ∧ k = .int .i64 m ∧ Hid ((∀ j, j < 32 → D j ≤ (n * 16 + m) * 4294836225) ∧ val 65536 D 32 = (X % 65536 ^ n) * Y + dig 65536 X n * 65536 ^ n * (Y % 65536 ^ m)) ∧ wi.heap[w.heap.size + 1 + 1 + 1]? = some (.cells (iq 32 D) 108 (0, 0)) ∧ wi.heap[w.heap.size]? = some (.cells (nd X) 26 (0, 0)) ∧ wi.heap[w.heap.size + 1]? = some (.cells (nd Y) 26 (0, 0)) ∧ wi.heap[w.heap.size + 1 + 1]? = some (.cells #[.int .i64 0, .int .i64 0, .int .i64 0, .int .i64 0, .int .i64 0, .int .i64 0, .int .i64 0, .int .i64 0, .int .i64 0, .int .i64 0, .int .i64 0, .int .i64 0, .int .i64 0, .int .i64 0, .int .i64 0, .int .i64 0] 26 (0, 0)) ∧ Fr (fun _ => False) w wi) (fun k _ => 16 - (intOf k).toNat)
      case atStart => exact ⟨0, C, by omega, by simp, C1, hM, hA, hB, hR, hF⟩
      case round =>
        clear C1 hM hA hB hR hF
        obtain ⟨m, D, hm, rfl, hD, hM, hA, hB, hR, hF⟩ := hrel
        by_cases m16 : m < 16
        · as_aux_lemma =>
          have m0 : (0 : Int) ≤ (m : Int) := by omega
          have m1 : (m : Int) < 16 := by omega
          obtain ⟨s, hs⟩ : ∃ s, s = n + m := ⟨_, rfl⟩
          have s32 : s < 32 := by omega
          have hx := dig_lt 65536 X n (by decide)
          have hy := dig_lt 65536 Y m (by decide)
          have hpr := prod_bd _ _ hx hy
          have hcb := hD.out.1 s s32
          have hnm : (n * 16 + m) * 4294836225 ≤ 256 * 4294836225 := Nat.mul_le_mul_right _ (by omega)
          have HD2 := Lib.hid (show (∀ j, j < 32 → (fun j => if j = s then D s + dig 65536 X n * dig 65536 Y m else D j) j ≤ (n * 16 + (m + 1)) * 4294836225) ∧ val 65536 (fun j => if j = s then D s + dig 65536 X n * dig 65536 Y m else D j) 32 = (X % 65536 ^ n) * Y + dig 65536 X n * 65536 ^ n * (Y % 65536 ^ (m + 1)) from by
            refine ⟨fun j hj => ?_, ?_⟩
            · rw [show (n * 16 + (m + 1)) * 4294836225 = (n * 16 + m) * 4294836225 + 4294836225 from Nat.succ_mul (n * 16 + m) 4294836225]
              exact upd_bd D _ s _ hD.out.1 hpr s32 j hj
            · rw [val_upd 65536 D s _ 32 s32, hD.out.2, hs, mul_row])
          have g0 : (iq 32 D)[s]? = some (.int .i64 (D s : Int)) := iq_get 32 D s s32
          have g1 : (nd X)[n]? = some (.int .i64 (dig 65536 X n : Int)) := iq_get 16 _ n h16
          have g2 : (nd Y)[m]? = some (.int .i64 (dig 65536 Y m : Int)) := iq_get 16 _ m m16
          have hset := iq_set 32 D s (D s + dig 65536 X n * dig 65536 Y m) s32
          have hsz : s < (iq 32 D).size := by rw [iq_size]; exact s32
          generalize dig 65536 X n = x at *
          generalize dig 65536 Y m = y at *
          generalize D s = c at *
          have e1 : (x : Int) * (y : Int) = ((x * y : Nat) : Int) := by rw [Int.natCast_mul]
          generalize x * y = pr at *
          have e2 : IntKind.i64.wrap (pr : Int) = (pr : Int) := IntWalk.i64_in _ (by omega)
          have e2' : IntKind.i64.wrap ((x : Int) * (y : Int)) = (pr : Int) := by rw [e1]; exact e2
          have e3 : IntKind.i64.wrap ((c : Int) + (pr : Int)) = (c : Int) + (pr : Int) := IntWalk.i64_in _ (by omega)
          have e4 : (n : Int) + (m : Int) = (s : Int) := by omega
          have e5 : IntKind.i64.wrap ((n : Int) + (m : Int)) = (s : Int) := by rw [e4]; exact IntWalk.i64_in _ (by omega)
          have e6 : IntKind.i64.wrap (s : Int) = (s : Int) := IntWalk.i64_in _ (by omega)
          have s0 : (0 : Int) ≤ (s : Int) := by omega
          have s1 : (s : Int) < 32 := by omega
          have HSET := Lib.hid hset
          have HM := Lib.hid hM
          have HA := Lib.hid hA
          have HB := Lib.hid hB
          have HR := Lib.hid hR
          have HF := Lib.hid hF
          clear hset hM hA hB hR hF hD hs hcb hnm hpr hx hy
          go_wp2_with fail
          refine wp_region_tail 17 [] (by kernel_rfl) (by kernel_rfl) mk_nil ?_
          apply Exists.intro
          refine ⟨?wk, ?fin⟩
          case wk =>
            intro γ
            have c0 := fun y : Wg γ => y.cell HM.out s g0
            have c1 := fun y : Wg γ => y.cell HA.out n g1
            have c2 := fun y : Wg γ => y.cell HB.out m g2
            simp only [List.take_succ_cons, List.take_zero]
            repeat (any_goals (first | go_big_quiet_step (fail) | quiet_step (fail)))
            exact wpQuiet_nil rfl
          case fin =>
            intro gs wx hE hg hne
            simp only [putAll, List.drop_succ_cons, List.drop_zero, List.length_nil, Nat.add_zero]
            have M1 := Lib.hid (hE.keep HM.out)
            have A1 := Lib.hid (hE.keep HA.out)
            have B1 := Lib.hid (hE.keep HB.out)
            have R1 := Lib.hid (hE.keep HR.out)
            have G1 := Lib.hid (HF.out.trans hE (fun _ h => h.elim))
            clear hg hne hE
            go_wp2_with (with_reducible refine wpList_store_int rfl 3 (.tmp 34) (.tmp 33) rfl (w.heap.size + 1 + 1 + 1) s rfl .i64 ((c : Int) + (pr : Int)) rfl Try.i3 108 _ M1.out hsz ?k0)
            case k0 =>
            intro wa M0 E0
            have M2 := Lib.hid (M0.trans (by rw [show (c : Int) + (pr : Int) = ((c + pr : Nat) : Int) by omega, HSET.out]))
            have A2 := Lib.hid ((E0.block _ (lt_of_block A1.out) (by omega)).trans A1.out)
            have B2 := Lib.hid ((E0.block _ (lt_of_block B1.out) (by omega)).trans B1.out)
            have R2 := Lib.hid ((E0.block _ (lt_of_block R1.out) (by omega)).trans R1.out)
            have G2 := Lib.hid (G1.out.trans E0 (fun i hi => Or.inr (by omega)))
            clear M0 E0 M1 A1 B1 R1 G1 hsz e1 e2 e2' e3 e4 e5 e6
            go_wp2_with fail
            go_roundw
            case rel => exact ⟨m + 1, _, by omega, by go_num, HD2, M2.out, A2.out, B2.out, R2.out, G2.out⟩
            case measure => simp [intOf]; omega
        · as_aux_lemma =>
          obtain rfl : m = 16 := by omega
          have HC2 := Lib.hid (show (∀ j, j < 32 → D j ≤ (n + 1) * 16 * 4294836225) ∧ val 65536 D 32 = (X % 65536 ^ (n + 1)) * Y from ⟨fun j hj => by rw [show (n + 1) * 16 = n * 16 + 16 from Nat.succ_mul n 16]; exact hD.out.1 j hj, by rw [hD.out.2, mul_next X Y n (by rw [b16]; exact HXY.out.2)]⟩)
          have HM := Lib.hid hM
          have HA := Lib.hid hA
          have HB := Lib.hid hB
          have HR := Lib.hid hR
          have HF := Lib.hid hF
          clear hM hA hB hR hF hD
          rw [show ((16 : Nat) : Int) = 16 from rfl]
          go_wp2_with fail
          go_roundw
          case rel => exact ⟨n + 1, D, by omega, by go_num, HC2, HM.out, HA.out, HB.out, HR.out, HF.out⟩
          case measure => simp [intOf]; omega
    · as_aux_lemma =>
      obtain rfl : n = 16 := by omega
      have hfold := fold32 C (X * Y) (by rw [hC.out.2, Nat.mod_eq_of_lt (by rw [b16]; exact HXY.out.1)])
      have hbd : ∀ j, j < 32 → C j ≤ 1099478073600 := fun j hj => hC.out.1 j hj
      have TI := fun W : World => tidy_any (fun j => C j + 38 * C (j + 16)) (fun j hj => by have h1 := hbd j (by omega); have h2 := hbd (j + 16) (by omega); show C j + 38 * C (j + 16) < _; omega) W
      rw [hfold] at TI
      generalize hRR : X * Y % p25519 = R at *
      have HRR := Lib.hid hRR
      clear hRR
      have HTI := Lib.hid TI
      have HBD := Lib.hid hbd
      have N0 := heap_alloc_new wr (.cells #[.int .i64 0, .int .i64 0, .int .i64 0, .int .i64 0, .int .i64 0, .int .i64 0, .int .i64 0, .int .i64 0, .int .i64 0, .int .i64 0, .int .i64 0, .int .i64 0, .int .i64 0, .int .i64 0, .int .i64 0, .int .i64 0] 26)
      rw [show (#[.int .i64 0, .int .i64 0, .int .i64 0, .int .i64 0, .int .i64 0, .int .i64 0, .int .i64 0, .int .i64 0, .int .i64 0, .int .i64 0, .int .i64 0, .int .i64 0, .int .i64 0, .int .i64 0, .int .i64 0, .int .i64 0] : Array Value) = iq 16 (fun j => if j < 0 then C j + 38 * C (j + 16) else 0) from rfl] at N0
      have M1 := (Below.heap_alloc wr (.cells (iq 16 (fun j => if j < 0 then C j + 38 * C (j + 16) else 0)) 26) _ (lt_of_block hM)).trans hM
      have R1 := (Below.heap_alloc wr (.cells (iq 16 (fun j => if j < 0 then C j + 38 * C (j + 16) else 0)) 26) _ (lt_of_block hR)).trans hR
      have F1 := hF.alloc (.cells (iq 16 (fun j => if j < 0 then C j + 38 * C (j + 16) else 0)) 26)
      have zl := lt_of_block hM
      have HN0 := Lib.hid N0
      have HM1 := Lib.hid M1
      have HR1 := Lib.hid R1
      have HF1 := Lib.hid F1
      clear hfold TI hbd hC hM hA hB hR hF N0 M1 R1 F1
      rw [show ((16 : Nat) : Int) = 16 from rfl]
      go_wp2_with fail
      rw [show (#[.int .i64 0, .int .i64 0, .int .i64 0, .int .i64 0, .int .i64 0, .int .i64 0, .int .i64 0, .int .i64 0, .int .i64 0, .int .i64 0, .int .i64 0, .int .i64 0, .int .i64 0, .int .i64 0, .int .i64 0, .int .i64 0] : Array Value) = iq 16 (fun j => if j < 0 then C j + 38 * C (j + 16) else 0) from rfl]
      have hfw : w.heap.size + 1 + 1 + 1 < wr.heap.size := zl
      generalize wr.heap.size = bn at *
      go_loopw [9] (fun i wi => ∃ k : Nat, k ≤ 16 ∧ i = .int .i64 k ∧ wi.heap[bn]? = some (.cells (iq 16 (fun j => if j < k then C j + 38 * C (j + 16) else 0)) 26 (0, 0)) ∧ wi.heap[w.heap.size + 1 + 1 + 1]? = some (.cells (iq 32 C) 108 (0, 0)) ∧ wi.heap[w.heap.size + 1 + 1]? = some (.cells #[.int .i64 0, .int .i64 0, .int .i64 0, .int .i64 0, .int .i64 0, .int .i64 0, .int .i64 0, .int .i64 0, .int .i64 0, .int .i64 0, .int .i64 0, .int .i64 0, .int .i64 0, .int .i64 0, .int .i64 0, .int .i64 0] 26 (0, 0)) ∧ Fr (fun _ => False) w wi) (fun i _ => 16 - (intOf i).toNat)
      case atStart => exact ⟨0, by omega, by simp, HN0.out, HM1.out, HR1.out, HF1.out⟩
      case round =>
        clear HN0 HM1 HR1 HF1
        obtain ⟨k, hk, rfl, hN, hM, hR, hF⟩ := hrel
        by_cases h16 : k < 16
        · have k0 : (0 : Int) ≤ (k : Int) := by omega
          have k1 : (k : Int) < 16 := by omega
          obtain ⟨s, hs⟩ : ∃ s, s = k + 16 := ⟨_, rfl⟩
          have s32 : s < 32 := by omega
          have hx := HBD.out k (by omega)
          have hy := HBD.out s s32
          have g0 : (iq 32 C)[k]? = some (.int .i64 (C k : Int)) := iq_get 32 C k (by omega)
          have g1 : (iq 32 C)[s]? = some (.int .i64 (C s : Int)) := iq_get 32 C s s32
          have hst := step_set 16 (fun j => C j + 38 * C (j + 16)) (fun _ => 0) k (C k + 38 * C s) h16 (by rw [hs])
          have hsz : k < (iq 16 (fun j => if j < k then C j + 38 * C (j + 16) else 0)).size := by rw [iq_size]; exact h16
          generalize C k = x at *
          generalize C s = y at *
          have e1 : IntKind.i64.wrap (38 * (y : Int)) = 38 * (y : Int) := IntWalk.i64_in _ (by omega)
          have e2 : IntKind.i64.wrap ((x : Int) + 38 * (y : Int)) = (x : Int) + 38 * (y : Int) := IntWalk.i64_in _ (by omega)
          have e4 : (k : Int) + 16 = (s : Int) := by omega
          have e5 : IntKind.i64.wrap ((k : Int) + 16) = (s : Int) := by rw [e4]; exact IntWalk.i64_in _ (by omega)
          have e6 : IntKind.i64.wrap (s : Int) = (s : Int) := IntWalk.i64_in _ (by omega)
          have s0 : (0 : Int) ≤ (s : Int) := by omega
          have s1 : (s : Int) < 32 := by omega
          have x9 : (x : Int) ≤ 1099478073600 := by omega
          have y9 : (y : Int) ≤ 1099478073600 := by omega
          have HST := Lib.hid hst
          have HN := Lib.hid hN
          have HM := Lib.hid hM
          have HR := Lib.hid hR
          have HF := Lib.hid hF
          clear hst hN hM hR hF hs hx hy
          go_wp2_with fail
          refine wp_region_tail 11 [] (by kernel_rfl) (by kernel_rfl) mk_nil ?_
          apply Exists.intro
          refine ⟨?wk, ?fin⟩
          case wk =>
            intro γ
            have c0 := fun y : Wg γ => y.cell HM.out k g0
            have c1 := fun y : Wg γ => y.cell HM.out s g1
            simp only [List.take_succ_cons, List.take_zero]
            repeat (any_goals (first | go_big_quiet_step (fail) | quiet_step (fail)))
            exact wpQuiet_nil rfl
          case fin =>
            intro gs wx hE hg hne
            simp only [putAll, List.drop_succ_cons, List.drop_zero, List.length_nil, Nat.add_zero]
            have N1 := Lib.hid (hE.keep HN.out)
            have M1 := Lib.hid (hE.keep HM.out)
            have R1 := Lib.hid (hE.keep HR.out)
            have G1 := Lib.hid (HF.out.trans hE (fun _ h => h.elim))
            clear hg hne hE
            go_wp2_with (with_reducible refine wpList_store_int rfl 3 (.tmp 49) (.tmp 48) rfl bn k rfl .i64 ((x : Int) + 38 * (y : Int)) rfl Try.i3 26 _ N1.out hsz ?k0)
            case k0 =>
            intro wa M0 E0
            have N2 := Lib.hid (M0.trans (by rw [show (x : Int) + 38 * (y : Int) = ((x + 38 * y : Nat) : Int) by omega, HST.out]))
            have M2 := Lib.hid ((E0.block _ (lt_of_block M1.out) (by omega)).trans M1.out)
            have R2 := Lib.hid ((E0.block _ (lt_of_block R1.out) (by omega)).trans R1.out)
            have G2 := Lib.hid (G1.out.trans E0 (fun i hi => Or.inr (by omega)))
            clear M0 E0 M1 N1 R1 G1 hsz e1 e2 e4 e5 e6
            go_wp2_with fail
            go_roundw
            case rel => exact ⟨k + 1, by omega, by go_num, N2.out, M2.out, R2.out, G2.out⟩
            case measure => simp [intOf]; omega
        · as_aux_lemma =>
          obtain rfl : k = 16 := by omega
          rw [show iq 16 (fun j => if j < 16 then C j + 38 * C (j + 16) else 0) = iq 16 (fun j => C j + 38 * C (j + 16)) from iq_congr (fun j hj => by rw [if_pos hj])] at hN
          have TI := HTI.out
          have s1 := Try.sizeV (f := fun j => C j + 38 * C (j + 16))
          have s2 : (Try.prog.info? 26).map (·.size) = some (nd R).size := Try.sizeV
          have o2 : (nd R).all (·.oneCell') = true := iq_one 16 _
          have z2 : (#[.int .i64 0, .int .i64 0, .int .i64 0, .int .i64 0, .int .i64 0, .int .i64 0, .int .i64 0, .int .i64 0, .int .i64 0, .int .i64 0, .int .i64 0, .int .i64 0, .int .i64 0, .int .i64 0, .int .i64 0, .int .i64 0] : Array Value).size = (nd R).size := by unfold nd; rw [iq_size]; rfl
          generalize iq 16 (fun j => C j + 38 * C (j + 16)) = S at *
          clear hM HTI HBD
          rw [show ((16 : Nat) : Int) = 16 from rfl]
          go_wp2_with (with_reducible refine wpList_load_row rfl 26 (.tmp 8) rfl bn rfl 26 S (0, 0) _ hN Try.underlying26 rfl s1 ?_)
          refine (TI _).mono ?_
          rintro e w1 ⟨rfl, F1⟩
          have R3 := F1.keep hR
          have G3 := hF.trans F1 (fun _ h => h.elim)
          clear hN hR hF F1
          go_wp2_with (with_reducible refine wpList_store_row rfl 26 (.tmp 4) (.tmp 51) rfl (w.heap.size + 1 + 1) (nd R) rfl rfl 26 #[.int .i64 0, .int .i64 0, .int .i64 0, .int .i64 0, .int .i64 0, .int .i64 0, .int .i64 0, .int .i64 0, .int .i64 0, .int .i64 0, .int .i64 0, .int .i64 0, .int .i64 0, .int .i64 0, .int .i64 0, .int .i64 0] R3 s2 z2 o2 ?_)
          refine bodyPost_ret (results_cell_row rfl _ _ (w.heap.size + 1 + 1) 26 (nd R) (0, 0) _ rfl (setRow_heap _ _ _ _ _ _ R3) Try.underlying26 rfl s2) rfl ?_
          exact ⟨by rw [HRR.out], G3.trans (Fr.setRow (S := fun k => k = w.heap.size + 1 + 1) (Fr.refl _ _) rfl _) (fun i hi => Or.inr (by omega))⟩
end Go.Proofs.Ytahnlnflcgehaaa
namespace Go.Proofs.Ytahnlnflcgehaaa
open Go.RowKit
set_option linter.unusedVariables false

theorem Try.size4f {a b c d : Value} : (Try.prog.info? 100).map (·.size) = some (#[a, b, c, d] : Array Value).size := by
  show _ = some 4
  kernel_rfl
theorem Try.size4e {a b c d : Value} : (Try.prog.info? 24).map (·.size) = some (#[a, b, c, d] : Array Value).size := by
  show _ = some 4
  kernel_rfl
theorem results_tmp_cell {P : Program} {fn : Func} {p t : Tmp} {ty : TypeId} (h : fn.results = #[.tmp t, .cell p ty]) (tmps : Array Value) (w : World) (g : Nat) (ct : TypeId) (cs : Array Value) (fr : Nat × Nat) (d : TypeDesc)
    (hp : tmps.getD p undef = .pointer (some ⟨g, 0, none⟩)) (hg : w.heap[g]? = some (.cells cs ct fr))
    (hu : P.underlying ty = some d) (hd : (match d with | .struct _ | .array _ _ => true | _ => false) = true) (hi : (P.info? ty).map (·.size) = some cs.size) :
    (results fn tmps).run P w = .ok (.tuple #[tmps.getD t undef, .agg cs]) w := by
  have hp' : tmps[p]?.getD undef = .pointer (some ⟨g, 0, none⟩) := by simpa using hp
  simp [results, h, hp', asAddr, run_loadVar_row w g ct ty cs fr d hg hu hd hi]
set_option maxRecDepth 100000 in
theorem fparts_any (X : Nat) (hX : X < 115792089237316195423570985008687907853269984665640564039457584007913129639936) (w : World) :
    Calls Try.prog 78 #[.agg (nc X)] w fun e w' => e = .returned (.agg (nc X)) ∧ Fr (fun _ => False) w w' := by
  obtain ⟨x0, x1, x2, x3, _, _, _, _, _, ex⟩ := nc_open (X) (hX)
  rw [ex] at ⊢
  clear ex
  go_enter Try.func78, Try.ntmps78
  go_wp2
  refine bodyPost_ret (results_cell_row rfl _ _ (w.heap.size + 1) 100 #[.int .u64 (x0 : Int), .int .u64 (x1 : Int), .int .u64 (x2 : Int), .int .u64 (x3 : Int)] (0, 0) _ rfl (heap_alloc2_new w _ _) Try.underlying100 rfl Try.size4f) rfl ?_
  exact ⟨rfl, ((Fr.refl _ w).alloc _).alloc _⟩
set_option maxRecDepth 100000 in
theorem felem_any (X : Nat) (hX : X < 115792089237316195423570985008687907853269984665640564039457584007913129639936) (w : World) :
    Calls Try.prog 76 #[.agg (nc X)] w fun e w' => e = .returned (.agg (nc X)) ∧ Fr (fun _ => False) w w' := by
  obtain ⟨x0, x1, x2, x3, _, _, _, _, _, ex⟩ := nc_open (X) (hX)
  rw [ex] at ⊢
  clear ex
  go_enter Try.func76, Try.ntmps76
  go_wp2
  refine bodyPost_ret (results_cell_row rfl _ _ (w.heap.size + 1) 24 #[.int .u64 (x0 : Int), .int .u64 (x1 : Int), .int .u64 (x2 : Int), .int .u64 (x3 : Int)] (0, 0) _ rfl (heap_alloc2_new w _ _) Try.underlying24 rfl Try.size4e) rfl ?_
  exact ⟨rfl, ((Fr.refl _ w).alloc _).alloc _⟩
set_option maxRecDepth 100000 in
theorem fsum_any (X Y : Nat) (hX : X < 115792089237316195423570985008687907853269984665640564039457584007913129639936) (hY : Y < 115792089237316195423570985008687907853269984665640564039457584007913129639936) (w : World) :
    Calls Try.prog 80 #[.agg (nc X), .agg (nc Y)] w fun e w' => e = .returned (.tuple #[.agg (nc ((X + Y) % 115792089237316195423570985008687907853269984665640564039457584007913129639936)), .int .u64 (((X + Y) / 115792089237316195423570985008687907853269984665640564039457584007913129639936 : Nat) : Int)]) ∧ Fr (fun _ => False) w w' := by
  obtain ⟨x0, x1, x2, x3, hx0, hx1, hx2, hx3, hx, ex⟩ := nc_open X hX
  obtain ⟨y0, y1, y2, y3, hy0, hy1, hy2, hy3, hy, ey⟩ := nc_open Y hY
  rw [ex, ey]
  have hc : ∀ a b c : Nat, a < 18446744073709551616 → b < 18446744073709551616 → c ≤ 1 → (a + b + c) / 18446744073709551616 ≤ 1 := fun a b c _ _ _ => by omega
  have r0 := fun (W : World) => run_A x0 y0 0 (by omega) W
  have l1 := hc x0 y0 0 hx0 hy0 (by omega)
  obtain ⟨s0, e0⟩ : ∃ s, s = (x0 + y0 + 0) % 18446744073709551616 := ⟨_, rfl⟩
  obtain ⟨c1, d1⟩ : ∃ s, s = (x0 + y0 + 0) / 18446744073709551616 := ⟨_, rfl⟩
  rw [← e0, ← d1, show ((0 : Nat) : Int) = 0 from rfl] at r0
  rw [← d1] at l1
  have r1 := fun (W : World) => run_A x1 y1 c1 l1 W
  have l2 := hc x1 y1 c1 hx1 hy1 l1
  obtain ⟨s1, e1⟩ : ∃ s, s = (x1 + y1 + c1) % 18446744073709551616 := ⟨_, rfl⟩
  obtain ⟨c2, d2⟩ : ∃ s, s = (x1 + y1 + c1) / 18446744073709551616 := ⟨_, rfl⟩
  rw [← e1, ← d2] at r1
  rw [← d2] at l2
  have r2 := fun (W : World) => run_A x2 y2 c2 l2 W
  have l3 := hc x2 y2 c2 hx2 hy2 l2
  obtain ⟨s2, e2⟩ : ∃ s, s = (x2 + y2 + c2) % 18446744073709551616 := ⟨_, rfl⟩
  obtain ⟨c3, d3⟩ : ∃ s, s = (x2 + y2 + c2) / 18446744073709551616 := ⟨_, rfl⟩
  rw [← e2, ← d3] at r2
  rw [← d3] at l3
  have r3 := fun (W : World) => run_A x3 y3 c3 l3 W
  obtain ⟨s3, e3⟩ : ∃ s, s = (x3 + y3 + c3) % 18446744073709551616 := ⟨_, rfl⟩
  obtain ⟨c4, d4⟩ : ∃ s, s = (x3 + y3 + c3) / 18446744073709551616 := ⟨_, rfl⟩
  rw [← e3, ← d4] at r3
  have R1 : nc ((X + Y) % 115792089237316195423570985008687907853269984665640564039457584007913129639936) = #[.int .u64 (s0 : Int), .int .u64 (s1 : Int), .int .u64 (s2 : Int), .int .u64 (s3 : Int)] := by
    rw [nc_of s0 s1 s2 s3 (by omega) (by omega) (by omega) (by omega)]; congr 1; rw [hx, hy]; unfold nv; omega
  have R2 : (X + Y) / 115792089237316195423570985008687907853269984665640564039457584007913129639936 = c4 := by rw [hx, hy]; unfold nv; omega
  rw [R1, R2]
  clear R1 R2 e0 d1 e1 d2 e2 d3 e3 d4 l1 l2 l3 hc ex ey hx hy
  go_enter Try.func80, Try.ntmps80
  go_wp2
  refine bodyPost_ret (results_cell_tmp rfl _ _ (w.heap.size + 1 + 1) 100 #[.int .u64 (s0 : Int), .int .u64 (s1 : Int), .int .u64 (s2 : Int), .int .u64 (s3 : Int)] (0, 0) _ rfl (heap_at _ _ _ _ (by simp)) Try.underlying100 rfl Try.size4f) rfl ?_
  exact ⟨rfl, (((Fr.refl _ w).alloc _).alloc _).alloc _⟩
set_option maxRecDepth 100000 in
theorem fdiff_any (X Y : Nat) (hX : X < 115792089237316195423570985008687907853269984665640564039457584007913129639936) (hY : Y < 115792089237316195423570985008687907853269984665640564039457584007913129639936) (w : World) :
    Calls Try.prog 82 #[.agg (nc X), .agg (nc Y)] w fun e w' => e = .returned (.tuple #[.agg (nc ((X + 115792089237316195423570985008687907853269984665640564039457584007913129639936 - Y) % 115792089237316195423570985008687907853269984665640564039457584007913129639936)), .int .u64 ((if X < Y then 1 else 0 : Nat) : Int)]) ∧ Fr (fun _ => False) w w' := by
  obtain ⟨x0, x1, x2, x3, hx0, hx1, hx2, hx3, hx, ex⟩ := nc_open X hX
  obtain ⟨y0, y1, y2, y3, hy0, hy1, hy2, hy3, hy, ey⟩ := nc_open Y hY
  rw [ex, ey]
  have r0 := fun (W : World) => run_S x0 y0 0 (by omega) W
  obtain ⟨s0, e0⟩ : ∃ s, s = (x0 + 18446744073709551616 - y0 - 0) % 18446744073709551616 := ⟨_, rfl⟩
  obtain ⟨c1, d1⟩ : ∃ s, s = (if x0 < y0 + 0 then 1 else 0) := ⟨_, rfl⟩
  rw [← e0, ← d1, show ((0 : Nat) : Int) = 0 from rfl] at r0
  have l1 : c1 ≤ 1 := by rw [d1]; split <;> omega
  have f0 : s0 + y0 + 0 = x0 + 18446744073709551616 * c1 := by rw [e0, d1]; split <;> omega
  have r1 := fun (W : World) => run_S x1 y1 c1 (by omega) W
  obtain ⟨s1, e1⟩ : ∃ s, s = (x1 + 18446744073709551616 - y1 - c1) % 18446744073709551616 := ⟨_, rfl⟩
  obtain ⟨c2, d2⟩ : ∃ s, s = (if x1 < y1 + c1 then 1 else 0) := ⟨_, rfl⟩
  rw [← e1, ← d2] at r1
  have l2 : c2 ≤ 1 := by rw [d2]; split <;> omega
  have f1 : s1 + y1 + c1 = x1 + 18446744073709551616 * c2 := by rw [e1, d2]; split <;> omega
  have r2 := fun (W : World) => run_S x2 y2 c2 (by omega) W
  obtain ⟨s2, e2⟩ : ∃ s, s = (x2 + 18446744073709551616 - y2 - c2) % 18446744073709551616 := ⟨_, rfl⟩
  obtain ⟨c3, d3⟩ : ∃ s, s = (if x2 < y2 + c2 then 1 else 0) := ⟨_, rfl⟩
  rw [← e2, ← d3] at r2
  have l3 : c3 ≤ 1 := by rw [d3]; split <;> omega
  have f2 : s2 + y2 + c2 = x2 + 18446744073709551616 * c3 := by rw [e2, d3]; split <;> omega
  have r3 := fun (W : World) => run_S x3 y3 c3 (by omega) W
  obtain ⟨s3, e3⟩ : ∃ s, s = (x3 + 18446744073709551616 - y3 - c3) % 18446744073709551616 := ⟨_, rfl⟩
  obtain ⟨c4, d4⟩ : ∃ s, s = (if x3 < y3 + c3 then 1 else 0) := ⟨_, rfl⟩
  rw [← e3, ← d4] at r3
  have l4 : c4 ≤ 1 := by rw [d4]; split <;> omega
  have f3 : s3 + y3 + c3 = x3 + 18446744073709551616 * c4 := by rw [e3, d4]; split <;> omega
  have R1 : nc ((X + 115792089237316195423570985008687907853269984665640564039457584007913129639936 - Y) % 115792089237316195423570985008687907853269984665640564039457584007913129639936) = #[.int .u64 (s0 : Int), .int .u64 (s1 : Int), .int .u64 (s2 : Int), .int .u64 (s3 : Int)] := by
    rw [nc_of s0 s1 s2 s3 (by omega) (by omega) (by omega) (by omega)]; congr 1; rw [hx, hy]; unfold nv; clear r0 r1 r2 r3 ex ey hx hy d1 d2 d3 d4 hX hY
    have : s0 < 18446744073709551616 := by omega
    have : s1 < 18446744073709551616 := by omega
    have : s2 < 18446744073709551616 := by omega
    have : s3 < 18446744073709551616 := by omega
    clear e0 e1 e2 e3
    omega
  have R2 : (if X < Y then 1 else 0) = c4 := by
    rw [hx, hy]; unfold nv
    have : s0 < 18446744073709551616 := by omega
    have : s1 < 18446744073709551616 := by omega
    have : s2 < 18446744073709551616 := by omega
    have : s3 < 18446744073709551616 := by omega
    clear r0 r1 r2 r3 ex ey hx hy e0 e1 e2 e3 R1 d1 d2 d3 d4 hX hY
    split <;> omega
  rw [R1, R2]
  clear R1 R2 e0 d1 e1 d2 e2 d3 e3 d4 l1 l2 l3 l4 ex ey hx hy f0 f1 f2 f3
  go_enter Try.func82, Try.ntmps82
  go_wp2
  refine bodyPost_ret (results_cell_tmp rfl _ _ (w.heap.size + 1 + 1) 100 #[.int .u64 (s0 : Int), .int .u64 (s1 : Int), .int .u64 (s2 : Int), .int .u64 (s3 : Int)] (0, 0) _ rfl (heap_at _ _ _ _ (by simp)) Try.underlying100 rfl Try.size4f) rfl ?_
  exact ⟨rfl, (((Fr.refl _ w).alloc _).alloc _).alloc _⟩

theorem step_bd (n x y v : Nat) (hn : n < 18446744073709551616) (hx : x < 18446744073709551616) (hy : y < 18446744073709551616) (hv : v < 18446744073709551616) : n * x + y + v < 340282366920938463463374607431768211456 := by
  have : n * x ≤ 18446744073709551615 * 18446744073709551615 := Nat.mul_le_mul (by omega) (by omega)
  omega
set_option maxRecDepth 100000 in
theorem fstep_any (n x y v : Nat) (hn : n < 18446744073709551616) (hx : x < 18446744073709551616) (hy : y < 18446744073709551616) (hv : v < 18446744073709551616) (w : World) :
    Calls Try.prog 117 #[.int .u64 (n : Int), .int .u64 (x : Int), .int .u64 (y : Int), .int .u64 (v : Int)] w fun e w' => e = .returned (.tuple #[.int .u64 (((n * x + y + v) % 18446744073709551616 : Nat) : Int), .int .u64 (((n * x + y + v) / 18446744073709551616 : Nat) : Int)]) ∧ w' = w := by
  have MU := fun (W : World) => mul64_any n x hn hx W
  have bd := step_bd n x y v hn hx hy hv
  generalize n * x = m at *
  obtain ⟨h, eh⟩ : ∃ s, s = m / 18446744073709551616 := ⟨_, rfl⟩
  obtain ⟨l, el⟩ : ∃ s, s = m % 18446744073709551616 := ⟨_, rfl⟩
  rw [← eh, ← el] at MU
  have r0 := fun (W : World) => run_A l y 0 (by omega) W
  obtain ⟨s0, e0⟩ : ∃ s, s = (l + y + 0) % 18446744073709551616 := ⟨_, rfl⟩
  obtain ⟨c1, d1⟩ : ∃ s, s = (l + y + 0) / 18446744073709551616 := ⟨_, rfl⟩
  rw [← e0, ← d1, show ((0 : Nat) : Int) = 0 from rfl] at r0
  have r1 := fun (W : World) => run_A s0 v 0 (by omega) W
  obtain ⟨s1, e1⟩ : ∃ s, s = (s0 + v + 0) % 18446744073709551616 := ⟨_, rfl⟩
  obtain ⟨c2, d2⟩ : ∃ s, s = (s0 + v + 0) / 18446744073709551616 := ⟨_, rfl⟩
  rw [← e1, ← d2, show ((0 : Nat) : Int) = 0 from rfl] at r1
  have w1 : IntKind.u64.wrap ((h : Int) + (c1 : Int)) = (h : Int) + (c1 : Int) := by rw [IntKind.wrap_u64]; omega
  have w2 : IntKind.u64.wrap ((h : Int) + (c1 : Int) + (c2 : Int)) = (((m + y + v) / 18446744073709551616 : Nat) : Int) := by rw [IntKind.wrap_u64]; omega
  have R1 : (m + y + v) % 18446744073709551616 = s1 := by omega
  rw [R1]
  generalize (m + y + v) / 18446744073709551616 = R at *
  clear R1 bd e0 d1 e1 d2 eh el
  go_enter Try.func117, Try.ntmps117
  go_wp2_with fail
  refine (MU _).mono ?_
  rintro e w' ⟨rfl, rfl⟩
  go_wp2
  go_ret2
  exact ⟨rfl, rfl⟩
theorem nv_mul (n a b c d : Nat) : n * nv a b c d = n * a + 18446744073709551616 * (n * b) + 340282366920938463463374607431768211456 * (n * c) + 6277101735386680763835789423207666416102355444464034512896 * (n * d) := by
  unfold nv
  simp only [Nat.mul_add, Nat.mul_left_comm n]
theorem line_bd (n X Y : Nat) (hn : n < 18446744073709551616) (hX : X < 115792089237316195423570985008687907853269984665640564039457584007913129639936) (hY : Y < 115792089237316195423570985008687907853269984665640564039457584007913129639936) : n * X + Y < 18446744073709551616 * 115792089237316195423570985008687907853269984665640564039457584007913129639936 := by
  have : n * X ≤ 18446744073709551615 * X := Nat.mul_le_mul_right X (by omega)
  omega
set_option maxRecDepth 100000 in
theorem fline_any (n X Y : Nat) (hn : n < 18446744073709551616) (hX : X < 115792089237316195423570985008687907853269984665640564039457584007913129639936) (hY : Y < 115792089237316195423570985008687907853269984665640564039457584007913129639936) (w : World) :
    Calls Try.prog 111 #[.int .u64 (n : Int), .agg (nc X), .agg (nc Y)] w fun e w' => e = .returned (.tuple #[.int .u64 (((n * X + Y) % 18446744073709551616 : Nat) : Int), .agg (nc ((n * X + Y) / 18446744073709551616))]) ∧ Fr (fun _ => False) w w' := by
  have hbd := line_bd n X Y hn hX hY
  obtain ⟨x0, x1, x2, x3, hx0, hx1, hx2, hx3, hx, ex⟩ := nc_open X hX
  obtain ⟨y0, y1, y2, y3, hy0, hy1, hy2, hy3, hy, ey⟩ := nc_open Y hY
  rw [ex, ey]
  have r0 := fun (W : World) => fstep_any n x0 y0 0 hn hx0 hy0 (by omega) W
  have b0 := step_bd n x0 y0 0 hn hx0 hy0 (by omega)
  obtain ⟨s0, e0⟩ : ∃ s, s = (n * x0 + y0 + 0) % 18446744073709551616 := ⟨_, rfl⟩
  obtain ⟨c1, d1⟩ : ∃ s, s = (n * x0 + y0 + 0) / 18446744073709551616 := ⟨_, rfl⟩
  rw [← e0, ← d1, show ((0 : Nat) : Int) = 0 from rfl] at r0
  have l1 : c1 < 18446744073709551616 := by omega
  have r1 := fun (W : World) => fstep_any n x1 y1 c1 hn hx1 hy1 (by omega) W
  have b1 := step_bd n x1 y1 c1 hn hx1 hy1 (by omega)
  obtain ⟨s1, e1⟩ : ∃ s, s = (n * x1 + y1 + c1) % 18446744073709551616 := ⟨_, rfl⟩
  obtain ⟨c2, d2⟩ : ∃ s, s = (n * x1 + y1 + c1) / 18446744073709551616 := ⟨_, rfl⟩
  rw [← e1, ← d2] at r1
  have l2 : c2 < 18446744073709551616 := by omega
  have r2 := fun (W : World) => fstep_any n x2 y2 c2 hn hx2 hy2 (by omega) W
  have b2 := step_bd n x2 y2 c2 hn hx2 hy2 (by omega)
  obtain ⟨s2, e2⟩ : ∃ s, s = (n * x2 + y2 + c2) % 18446744073709551616 := ⟨_, rfl⟩
  obtain ⟨c3, d3⟩ : ∃ s, s = (n * x2 + y2 + c2) / 18446744073709551616 := ⟨_, rfl⟩
  rw [← e2, ← d3] at r2
  have l3 : c3 < 18446744073709551616 := by omega
  have r3 := fun (W : World) => fstep_any n x3 y3 c3 hn hx3 hy3 (by omega) W
  have b3 := step_bd n x3 y3 c3 hn hx3 hy3 (by omega)
  obtain ⟨s3, e3⟩ : ∃ s, s = (n * x3 + y3 + c3) % 18446744073709551616 := ⟨_, rfl⟩
  obtain ⟨c4, d4⟩ : ∃ s, s = (n * x3 + y3 + c3) / 18446744073709551616 := ⟨_, rfl⟩
  rw [← e3, ← d4] at r3
  have l4 : c4 < 18446744073709551616 := by omega
  have E : n * X + Y = s0 + 18446744073709551616 * nv s1 s2 s3 c4 := by
    rw [hx, hy, nv_mul]; unfold nv
    clear r0 r1 r2 r3 ex ey hx hy hbd
    generalize n * x0 = m0 at *
    generalize n * x1 = m1 at *
    generalize n * x2 = m2 at *
    generalize n * x3 = m3 at *
    omega
  have R1 : (n * X + Y) % 18446744073709551616 = s0 := by rw [E]; omega
  have R2 : nc ((n * X + Y) / 18446744073709551616) = #[.int .u64 (s1 : Int), .int .u64 (s2 : Int), .int .u64 (s3 : Int), .int .u64 (c4 : Int)] := by
    rw [nc_of s1 s2 s3 c4 (by omega) (by omega) (by omega) (by omega)]; congr 1; rw [E]; omega
  rw [R1, R2]
  clear R1 R2 E e0 d1 e1 d2 e2 d3 e3 d4 l1 l2 l3 l4 b0 b1 b2 b3 ex ey hx hy hbd
  go_enter Try.func111, Try.ntmps111
  go_wp2_with fail
  refine (r0 _).mono ?_
  rintro e w' ⟨rfl, rfl⟩
  go_wp2_with fail
  refine (r1 _).mono ?_
  rintro e w' ⟨rfl, rfl⟩
  go_wp2_with fail
  refine (r2 _).mono ?_
  rintro e w' ⟨rfl, rfl⟩
  go_wp2_with fail
  refine (r3 _).mono ?_
  rintro e w' ⟨rfl, rfl⟩
  go_wp2
  go_region
  all_goals
    go_wp2
    refine bodyPost_ret (results_tmp_cell rfl _ _ (w.heap.size + 1 + 1) 100 #[.int .u64 (s1 : Int), .int .u64 (s2 : Int), .int .u64 (s3 : Int), .int .u64 (c4 : Int)] (0, 0) _ rfl (heap_at _ _ _ _ (by simp)) Try.underlying100 rfl Try.size4f) rfl ?_
    first | exact ⟨rfl, (((Fr.refl _ w).alloc _).alloc _).alloc _⟩ | exact ⟨rfl, ((((Fr.refl _ w).alloc _).alloc _).alloc _).drew⟩
end Go.Proofs.Ytahnlnflcgehaaa
namespace Go.Proofs.Ytahnlnflcgehaaa
open Go.RowKit Pri
set_option linter.unusedVariables false

theorem andNot63 (x : Nat) (hx : x < 18446744073709551616) : bits .andNot .u64 (x : Int) 9223372036854775808 = ((x % 9223372036854775808 : Nat) : Int) := by
  have h1 : (BitVec.ofInt 64 (x : Int)).toNat = x := by
    rw [BitVec.ofInt_natCast, BitVec.toNat_ofNat]; exact Nat.mod_eq_of_lt (by omega)
  show IntKind.u64.wrap ((BitVec.ofInt 64 (x : Int) &&& ~~~ (BitVec.ofInt 64 9223372036854775808)).toNat : Int) = _
  rw [BitVec.toNat_and, h1, show (~~~ (BitVec.ofInt 64 9223372036854775808)).toNat = 2 ^ 63 - 1 from rfl, Nat.and_two_pow_sub_one_eq_mod, IntKind.wrap_u64]
  omega
theorem top_num (a b c d : Nat) (ha : a < 18446744073709551616) (hb : b < 18446744073709551616) (hc : c < 18446744073709551616) (hd : d < 18446744073709551616) (h : 9223372036854775808 ≤ d) : nv a b c d - 57896044618658097711785492504343953926634992332820282019728792003956564819968 = nv a b c (d % 9223372036854775808) := by
  unfold nv; omega
theorem P_val : p25519 = 57896044618658097711785492504343953926634992332820282019728792003956564819949 := rfl
theorem rest_num (X : Nat) (hX : X < 115792089237316195423570985008687907853269984665640564039457584007913129639936) : let S := X % 57896044618658097711785492504343953926634992332820282019728792003956564819968 + 19 * (X / 57896044618658097711785492504343953926634992332820282019728792003956564819968); S + 19 < 115792089237316195423570985008687907853269984665640564039457584007913129639936 ∧ S < 115792089237316195423570985008687907853269984665640564039457584007913129639936 ∧
    (57896044618658097711785492504343953926634992332820282019728792003956564819968 ≤ S + 19 → S + 19 - 57896044618658097711785492504343953926634992332820282019728792003956564819968 = X % p25519) ∧ (¬ 57896044618658097711785492504343953926634992332820282019728792003956564819968 ≤ S + 19 → S = X % p25519) := by
  intro S
  have hS : S = X % 57896044618658097711785492504343953926634992332820282019728792003956564819968 + 19 * (X / 57896044618658097711785492504343953926634992332820282019728792003956564819968) := rfl
  clear_value S
  rw [P_val]
  refine ⟨by omega, by omega, fun _ => by omega, fun _ => by omega⟩
theorem nc0_ (n : Nat) (h : n < 18446744073709551616) : nc n = #[.int .u64 (n : Int), .int .u64 0, .int .u64 0, .int .u64 0] := by
  have := nc_of n 0 0 0 h (by decide) (by decide) (by decide)
  rw [show nv n 0 0 0 = n by simp [nv]] at this
  exact this.symm
set_option maxRecDepth 100000 in
set_option maxHeartbeats 1600000 in
theorem frest_any (X : Nat) (hX : X < 115792089237316195423570985008687907853269984665640564039457584007913129639936) (w : World) :
    Calls Try.prog 77 #[.agg (nc X)] w fun e w' => e = .returned (.agg (nc (X % p25519))) ∧ Fr (fun _ => False) w w' := by
  obtain ⟨q1, q2, q3, q4⟩ := rest_num X hX
  have ht1 : X / 57896044618658097711785492504343953926634992332820282019728792003956564819968 ≤ 1 := by omega
  have hA : X % 57896044618658097711785492504343953926634992332820282019728792003956564819968 < 115792089237316195423570985008687907853269984665640564039457584007913129639936 := by omega
  obtain ⟨x0, x1, x2, x3, hx0, hx1, hx2, hx3, hx, ex⟩ := nc_open X hX
  have et : X / 57896044618658097711785492504343953926634992332820282019728792003956564819968 = x3 / 9223372036854775808 := by rw [hx]; unfold nv; omega
  have eA : nc (X % 57896044618658097711785492504343953926634992332820282019728792003956564819968) = #[.int .u64 (x0 : Int), .int .u64 (x1 : Int), .int .u64 (x2 : Int), .int .u64 ((x3 % 9223372036854775808 : Nat) : Int)] := by
    rw [nc_of x0 x1 x2 (x3 % 9223372036854775808) hx0 hx1 hx2 (by omega)]; congr 1; rw [hx]; unfold nv; omega
  have d1 : (x3 : Int) / 9223372036854775808 = ((x3 / 9223372036854775808 : Nat) : Int) := by omega
  have d2 := andNot63 x3 hx3
  rw [← et] at d1
  clear et
  have SU := fun (W : World) => fsum_any (X % 57896044618658097711785492504343953926634992332820282019728792003956564819968) (19 * (X / 57896044618658097711785492504343953926634992332820282019728792003956564819968)) hA (by omega) W
  rw [Nat.mod_eq_of_lt q2, Nat.div_eq_of_lt q2, eA, nc0_ (19 * (X / 57896044618658097711785492504343953926634992332820282019728792003956564819968)) (by omega)] at SU
  have SV := fun (W : World) => fsum_any (X % 57896044618658097711785492504343953926634992332820282019728792003956564819968 + 19 * (X / 57896044618658097711785492504343953926634992332820282019728792003956564819968)) 19 q2 (by decide) W
  rw [Nat.mod_eq_of_lt q1, Nat.div_eq_of_lt q1, nc0_ 19 (by decide)] at SV
  have w1 : IntKind.u64.wrap (19 * ((X / 57896044618658097711785492504343953926634992332820282019728792003956564819968 : Nat) : Int)) = ((19 * (X / 57896044618658097711785492504343953926634992332820282019728792003956564819968) : Nat) : Int) := by rw [IntKind.wrap_u64]; omega
  have w2 : 19 * ((X / 57896044618658097711785492504343953926634992332820282019728792003956564819968 : Nat) : Int) = ((19 * (X / 57896044618658097711785492504343953926634992332820282019728792003956564819968) : Nat) : Int) := by omega
  have t0 : 0 ≤ ((X / 57896044618658097711785492504343953926634992332820282019728792003956564819968 : Nat) : Int) := by omega
  have t1 : ((X / 57896044618658097711785492504343953926634992332820282019728792003956564819968 : Nat) : Int) ≤ 1 := by omega
  rw [ex]
  generalize X % 57896044618658097711785492504343953926634992332820282019728792003956564819968 + 19 * (X / 57896044618658097711785492504343953926634992332820282019728792003956564819968) = S at *
  generalize 19 * (X / 57896044618658097711785492504343953926634992332820282019728792003956564819968) = u at *
  generalize X / 57896044618658097711785492504343953926634992332820282019728792003956564819968 = t at *
  generalize x3 % 9223372036854775808 = y3 at *
  obtain ⟨s0, s1, s2, s3, hs0, hs1, hs2, hs3, hs, es⟩ := nc_open S q2
  obtain ⟨o0, o1, o2, o3, ho0, ho1, ho2, ho3, ho, eo⟩ := nc_open (S + 19) q1
  rw [es] at SU SV
  rw [eo] at SV
  rw [show ((0 : Nat) : Int) = 0 from rfl] at SU SV
  rw [show ((19 : Nat) : Int) = 19 from rfl] at SV
  have hge : (57896044618658097711785492504343953926634992332820282019728792003956564819968 ≤ S + 19) ↔ 9223372036854775808 ≤ o3 := by
    have h9 := ho
    unfold nv at h9
    clear SU SV hs es ex eA hx
    constructor <;> intro h <;> omega
  have d3 := andNot63 o3 ho3
  have eR : 9223372036854775808 ≤ o3 → nc (S + 19 - 57896044618658097711785492504343953926634992332820282019728792003956564819968) = #[.int .u64 (o0 : Int), .int .u64 (o1 : Int), .int .u64 (o2 : Int), .int .u64 ((o3 % 9223372036854775808 : Nat) : Int)] := fun h => by
    rw [nc_of o0 o1 o2 (o3 % 9223372036854775808) ho0 ho1 ho2 (Nat.lt_of_le_of_lt (Nat.mod_le _ _) ho3)]; refine congrArg nc ?_; rw [ho]; exact top_num o0 o1 o2 o3 ho0 ho1 ho2 ho3 h
  have HG := Lib.hid hge
  have HR := Lib.hid eR
  have HQ := Lib.hid (And.intro q3 q4)
  have HES := Lib.hid es
  clear hge eR q1 q2 q3 q4 es eo hs ho hX hA eA ex hx ht1
  generalize o3 % 9223372036854775808 = r3 at *
  have walk : ∀ (D : Bool) (R : Array Value), decide (9223372036854775808 ≤ (o3 : Int)) = D → (if D then #[.int .u64 (o0 : Int), .int .u64 (o1 : Int), .int .u64 (o2 : Int), .int .u64 (r3 : Int)] else #[.int .u64 (s0 : Int), .int .u64 (s1 : Int), .int .u64 (s2 : Int), .int .u64 (s3 : Int)]) = R →
      Calls Try.prog 77 #[.agg #[.int .u64 (x0 : Int), .int .u64 (x1 : Int), .int .u64 (x2 : Int), .int .u64 (x3 : Int)]] w fun e w' => e = .returned (.agg R) ∧ Fr (fun _ => False) w w' := by
    intro D R hD hR
    cases D with
    | true =>
      have HR := Lib.hid (show #[.int .u64 (o0 : Int), .int .u64 (o1 : Int), .int .u64 (o2 : Int), .int .u64 (r3 : Int)] = R from hR)
      clear hR
      go_enter Try.func77, Try.ntmps77
      go_wp2_with fail
      refine (SU _).mono ?_
      rintro e w1 ⟨rfl, F1⟩
      have Z1 := (F1.block w.heap.size (by simp; omega) (fun h => h)).trans (heap_alloc2_old w _ _)
      have B1 := (F1.block (w.heap.size + 1) (by simp) (fun h => h)).trans (heap_alloc2_new w _ _)
      have G1 : Fr (fun _ => False) w w1 := (((Fr.refl _ w).alloc _).alloc _).trans F1 (fun _ h => h.elim)
      obtain ⟨c0, c1, c2, c3, c4, c5, c6, c7⟩ := blk4 Z1
      have Z2 := set4 Z1 (.int .u64 (s0 : Int)) (.int .u64 (s1 : Int)) (.int .u64 (s2 : Int)) (.int .u64 (s3 : Int))
      have B2 := keep_set (keep_set (keep_set (keep_set B1 (a := ⟨w.heap.size, 0, none⟩) (by show ¬ _ = w.heap.size; omega) (.int .u64 (s0 : Int))) (a := ⟨w.heap.size, 1, none⟩) (by show ¬ _ = w.heap.size; omega) (.int .u64 (s1 : Int))) (a := ⟨w.heap.size, 2, none⟩) (by show ¬ _ = w.heap.size; omega) (.int .u64 (s2 : Int))) (a := ⟨w.heap.size, 3, none⟩) (by show ¬ _ = w.heap.size; omega) (.int .u64 (s3 : Int))
      have G2 : Fr (fun _ => False) w _ := (((G1.setCell (p := ⟨w.heap.size, 0, none⟩) (Or.inr (Nat.le_refl _)) (.int .u64 (s0 : Int))).setCell (p := ⟨w.heap.size, 1, none⟩) (Or.inr (Nat.le_refl _)) (.int .u64 (s1 : Int))).setCell (p := ⟨w.heap.size, 2, none⟩) (Or.inr (Nat.le_refl _)) (.int .u64 (s2 : Int))).setCell (p := ⟨w.heap.size, 3, none⟩) (Or.inr (Nat.le_refl _)) (.int .u64 (s3 : Int))
      have HZ := Lib.hid Z2
      have HB := Lib.hid B2
      have HG := Lib.hid G2
      clear F1 SU Z1 B1 G1 Z2 B2 G2
      go_wp2_with fail
      refine (SV _).mono ?_
      rintro e w2 ⟨rfl, F2⟩
      have Z3 := (F2.block _ (lt_of_block HZ.out) (fun h => h)).trans HZ.out
      have B3 := (F2.block _ (lt_of_block HB.out) (fun h => h)).trans HB.out
      have G3 := HG.out.trans F2 (fun _ h => h.elim)
      have zl := lt_of_block B3
      have zl0 : w.heap.size < w2.heap.size := by omega
      clear F2 SV HZ HB HG c0 c1 c2 c3 c4 c5 c6 c7
      obtain ⟨c0, c1, c2, c3, c4, c5, c6, c7⟩ := blk4 Z3
      obtain ⟨b0, b1, b2, b3, b4, b5, b6, b7⟩ := blk4 B3
      have HB := Lib.hid B3
      have HG := Lib.hid G3
      clear Z3 B3 G3
      go_wp2_with fail
      have S4 := set4 HB.out (.int .u64 (o0 : Int)) (.int .u64 (o1 : Int)) (.int .u64 (o2 : Int)) (.int .u64 (r3 : Int))
      refine bodyPost_ret (results_cell_row rfl _ _ (w.heap.size + 1) 100 #[.int .u64 (o0 : Int), .int .u64 (o1 : Int), .int .u64 (o2 : Int), .int .u64 (r3 : Int)] (0, 0) _ rfl ((Below.heap_alloc _ _ _ (lt_of_block S4)).trans S4) Try.underlying100 rfl Try.size4f) rfl ?_
      exact ⟨by rw [HR.out], ((((HG.out.setCell (Or.inr (by show _ ≤ _ + 1; omega)) _).setCell (Or.inr (by show _ ≤ _ + 1; omega)) _).setCell (Or.inr (by show _ ≤ _ + 1; omega)) _).setCell (Or.inr (by show _ ≤ _ + 1; omega)) _).alloc _⟩
    | false =>
      have HR := Lib.hid (show #[.int .u64 (s0 : Int), .int .u64 (s1 : Int), .int .u64 (s2 : Int), .int .u64 (s3 : Int)] = R from hR)
      clear hR
      go_enter Try.func77, Try.ntmps77
      go_wp2_with fail
      refine (SU _).mono ?_
      rintro e w1 ⟨rfl, F1⟩
      have Z1 := (F1.block w.heap.size (by simp; omega) (fun h => h)).trans (heap_alloc2_old w _ _)
      have B1 := (F1.block (w.heap.size + 1) (by simp) (fun h => h)).trans (heap_alloc2_new w _ _)
      have G1 : Fr (fun _ => False) w w1 := (((Fr.refl _ w).alloc _).alloc _).trans F1 (fun _ h => h.elim)
      obtain ⟨c0, c1, c2, c3, c4, c5, c6, c7⟩ := blk4 Z1
      have Z2 := set4 Z1 (.int .u64 (s0 : Int)) (.int .u64 (s1 : Int)) (.int .u64 (s2 : Int)) (.int .u64 (s3 : Int))
      have B2 := keep_set (keep_set (keep_set (keep_set B1 (a := ⟨w.heap.size, 0, none⟩) (by show ¬ _ = w.heap.size; omega) (.int .u64 (s0 : Int))) (a := ⟨w.heap.size, 1, none⟩) (by show ¬ _ = w.heap.size; omega) (.int .u64 (s1 : Int))) (a := ⟨w.heap.size, 2, none⟩) (by show ¬ _ = w.heap.size; omega) (.int .u64 (s2 : Int))) (a := ⟨w.heap.size, 3, none⟩) (by show ¬ _ = w.heap.size; omega) (.int .u64 (s3 : Int))
      have G2 : Fr (fun _ => False) w _ := (((G1.setCell (p := ⟨w.heap.size, 0, none⟩) (Or.inr (Nat.le_refl _)) (.int .u64 (s0 : Int))).setCell (p := ⟨w.heap.size, 1, none⟩) (Or.inr (Nat.le_refl _)) (.int .u64 (s1 : Int))).setCell (p := ⟨w.heap.size, 2, none⟩) (Or.inr (Nat.le_refl _)) (.int .u64 (s2 : Int))).setCell (p := ⟨w.heap.size, 3, none⟩) (Or.inr (Nat.le_refl _)) (.int .u64 (s3 : Int))
      have HZ := Lib.hid Z2
      have HB := Lib.hid B2
      have HG := Lib.hid G2
      clear F1 SU Z1 B1 G1 Z2 B2 G2
      go_wp2_with fail
      refine (SV _).mono ?_
      rintro e w2 ⟨rfl, F2⟩
      have Z3 := (F2.block _ (lt_of_block HZ.out) (fun h => h)).trans HZ.out
      have B3 := (F2.block _ (lt_of_block HB.out) (fun h => h)).trans HB.out
      have G3 := HG.out.trans F2 (fun _ h => h.elim)
      have zl := lt_of_block B3
      have zl0 : w.heap.size < w2.heap.size := by omega
      clear F2 SV HZ HB HG c0 c1 c2 c3 c4 c5 c6 c7
      obtain ⟨c0, c1, c2, c3, c4, c5, c6, c7⟩ := blk4 Z3
      obtain ⟨b0, b1, b2, b3, b4, b5, b6, b7⟩ := blk4 B3
      have HB := Lib.hid B3
      have HG := Lib.hid G3
      clear Z3 B3 G3
      go_wp2_with fail
      have S4 := set4 HB.out (.int .u64 (s0 : Int)) (.int .u64 (s1 : Int)) (.int .u64 (s2 : Int)) (.int .u64 (s3 : Int))
      refine bodyPost_ret (results_cell_row rfl _ _ (w.heap.size + 1) 100 #[.int .u64 (s0 : Int), .int .u64 (s1 : Int), .int .u64 (s2 : Int), .int .u64 (s3 : Int)] (0, 0) _ rfl ((Below.heap_alloc _ _ _ (lt_of_block S4)).trans S4) Try.underlying100 rfl Try.size4f) rfl ?_
      exact ⟨by rw [HR.out], ((((HG.out.setCell (Or.inr (by show _ ≤ _ + 1; omega)) _).setCell (Or.inr (by show _ ≤ _ + 1; omega)) _).setCell (Or.inr (by show _ ≤ _ + 1; omega)) _).setCell (Or.inr (by show _ ≤ _ + 1; omega)) _).alloc _⟩
  by_cases hc : 9223372036854775808 ≤ o3
  · have h1 := HQ.out.1 (HG.out.2 hc)
    rw [← h1, HR.out hc]
    exact walk true _ (by simp; omega) rfl
  · have h1 := HQ.out.2 (fun h => hc (HG.out.1 h))
    rw [← h1, HES.out]
    exact walk false _ (by simp; omega) rfl
end Go.Proofs.Ytahnlnflcgehaaa
namespace Go.Proofs.Ytahnlnflcgehaaa
open Go.RowKit Pri
set_option linter.unusedVariables false

theorem fold_num (X v : Nat) (hX : X < 115792089237316195423570985008687907853269984665640564039457584007913129639936) (hv : v ≤ 38) : let S := X + 38 * v; (S / 115792089237316195423570985008687907853269984665640564039457584007913129639936 ≤ 1) ∧ (S % 115792089237316195423570985008687907853269984665640564039457584007913129639936 + 38 * (S / 115792089237316195423570985008687907853269984665640564039457584007913129639936) < 115792089237316195423570985008687907853269984665640564039457584007913129639936) ∧ (S % 115792089237316195423570985008687907853269984665640564039457584007913129639936 + 38 * (S / 115792089237316195423570985008687907853269984665640564039457584007913129639936)) % p25519 = (X + 115792089237316195423570985008687907853269984665640564039457584007913129639936 * v) % p25519 ∧ (S / 115792089237316195423570985008687907853269984665640564039457584007913129639936 = 1 → S % 115792089237316195423570985008687907853269984665640564039457584007913129639936 < 2000) := by
  intro S
  have hS : S = X + 38 * v := rfl
  clear_value S
  rw [P_val]
  refine ⟨by omega, by omega, by omega, fun h => by omega⟩
theorem add_low (a b c d k : Nat) (ha : a + 38 * k < 18446744073709551616) (hb : b < 18446744073709551616) (hc : c < 18446744073709551616) (hd : d < 18446744073709551616) :
    nc (nv a b c d + 38 * k) = #[.int .u64 ((a + 38 * k : Nat) : Int), .int .u64 (b : Int), .int .u64 (c : Int), .int .u64 (d : Int)] := by
  rw [nc_of _ b c d ha hb hc hd]
  refine congrArg nc ?_
  unfold nv; omega
theorem low_small (a b c d k : Nat) (ha : a < 18446744073709551616) (hk : k ≤ 1) (h : k = 1 → nv a b c d < 2000) : a + 38 * k < 18446744073709551616 := by
  unfold nv at h
  rcases Nat.lt_or_ge k 1 with c | c
  · omega
  · have := h (by omega); omega
set_option maxRecDepth 100000 in
set_option maxHeartbeats 1600000 in
theorem ffolded_any (X v : Nat) (hX : X < 115792089237316195423570985008687907853269984665640564039457584007913129639936) (hv : v ≤ 38) (w : World) :
    Calls Try.prog 79 #[.agg (nc X), .int .u64 (v : Int)] w fun e w' => e = .returned (.agg (nc ((X + 115792089237316195423570985008687907853269984665640564039457584007913129639936 * v) % p25519))) ∧ Fr (fun _ => False) w w' := by
  obtain ⟨q1, q2, q3, q4⟩ := fold_num X v hX hv
  rw [← q3]
  have SU := fun (W : World) => fsum_any X (38 * v) hX (by omega) W
  rw [nc0_ (38 * v) (by omega)] at SU
  have RE := fun (W : World) => frest_any ((X + 38 * v) % 115792089237316195423570985008687907853269984665640564039457584007913129639936 + 38 * ((X + 38 * v) / 115792089237316195423570985008687907853269984665640564039457584007913129639936)) q2 W
  have hS : (X + 38 * v) % 115792089237316195423570985008687907853269984665640564039457584007913129639936 < 115792089237316195423570985008687907853269984665640564039457584007913129639936 := Nat.mod_lt _ (by decide)
  have w1 : IntKind.u64.wrap (38 * (v : Int)) = ((38 * v : Nat) : Int) := by rw [IntKind.wrap_u64]; omega
  have w2 : 38 * (v : Int) = ((38 * v : Nat) : Int) := by omega
  have w1' : IntKind.u64.wrap ((38 * v : Nat) : Int) = ((38 * v : Nat) : Int) := by rw [IntKind.wrap_u64]; omega
  generalize (X + 38 * v) / 115792089237316195423570985008687907853269984665640564039457584007913129639936 = k at *
  generalize (X + 38 * v) % 115792089237316195423570985008687907853269984665640564039457584007913129639936 = S at *
  generalize 38 * v = u at *
  obtain ⟨x0, x1, x2, x3, hx0, hx1, hx2, hx3, hx, ex⟩ := nc_open X hX
  obtain ⟨s0, s1, s2, s3, hs0, hs1, hs2, hs3, hs, es⟩ := nc_open S hS
  have hlow := low_small s0 s1 s2 s3 k hs0 q1 (fun h => by rw [← hs]; exact q4 h)
  have e2 := add_low s0 s1 s2 s3 k hlow hs1 hs2 hs3
  rw [← hs] at e2
  rw [es, ex] at SU
  rw [e2] at RE
  rw [ex]
  have w3 : IntKind.u64.wrap (38 * (k : Int)) = 38 * (k : Int) := by rw [IntKind.wrap_u64]; omega
  have w4 : IntKind.u64.wrap ((s0 : Int) + 38 * (k : Int)) = ((s0 + 38 * k : Nat) : Int) := by rw [IntKind.wrap_u64]; omega
  have w5 : (s0 : Int) + 38 * (k : Int) = ((s0 + 38 * k : Nat) : Int) := by omega
  have w4' : IntKind.u64.wrap ((s0 + 38 * k : Nat) : Int) = ((s0 + 38 * k : Nat) : Int) := by rw [IntKind.wrap_u64]; omega
  generalize s0 + 38 * k = r0 at *
  have hR : (S + 38 * k) % p25519 < 115792089237316195423570985008687907853269984665640564039457584007913129639936 := Nat.lt_trans (Nat.mod_lt _ p_pos) (by decide +kernel)
  generalize (S + 38 * k) % p25519 = R at *
  obtain ⟨t0, t1, t2, t3, _, _, _, _, _, et⟩ := nc_open R hR
  rw [et] at RE ⊢
  clear q1 q2 q3 q4 hX hx ex hs es hlow e2 hS hR et hv
  have k0 : (0 : Int) ≤ (k : Int) := by omega
  go_enter Try.func79, Try.ntmps79
  go_wp2_with fail
  refine (SU _).mono ?_
  rintro e w1 ⟨rfl, F1⟩
  have Z1 := (F1.block w.heap.size (by simp; omega) (fun h => h)).trans (heap_alloc2_old w _ _)
  have B1 := (F1.block (w.heap.size + 1) (by simp) (fun h => h)).trans (heap_alloc2_new w _ _)
  have G1 : Fr (fun _ => False) w w1 := (((Fr.refl _ w).alloc _).alloc _).trans F1 (fun _ h => h.elim)
  obtain ⟨c0, c1, c2, c3, c4, c5, c6, c7⟩ := blk4 Z1
  have Z2 := set4 Z1 (.int .u64 (s0 : Int)) (.int .u64 (s1 : Int)) (.int .u64 (s2 : Int)) (.int .u64 (s3 : Int))
  have Z3 := block_setCell Z2 0 (.int .u64 (r0 : Int))
  have K : ∀ (a : Nat) (W : World), W.heap[w.heap.size + 1]? = some (.cells #[.int .u64 0, .int .u64 0, .int .u64 0, .int .u64 0] 100 (0, 0)) → ∀ u : Value, (W.setCell ⟨w.heap.size, a, none⟩ u).heap[w.heap.size + 1]? = some (.cells #[.int .u64 0, .int .u64 0, .int .u64 0, .int .u64 0] 100 (0, 0)) := fun a W h u => keep_set h (by show ¬ _ = w.heap.size; omega) u
  have B3 := K 0 _ (K 3 _ (K 2 _ (K 1 _ (K 0 _ B1 (.int .u64 (s0 : Int))) (.int .u64 (s1 : Int))) (.int .u64 (s2 : Int))) (.int .u64 (s3 : Int))) (.int .u64 (r0 : Int))
  have J : ∀ (a : Nat) (W : World), Fr (fun _ => False) w W → ∀ u : Value, Fr (fun _ => False) w (W.setCell ⟨w.heap.size, a, none⟩ u) := fun a W h u => h.setCell (Or.inr (Nat.le_refl _)) u
  have G3 := J 0 _ (J 3 _ (J 2 _ (J 1 _ (J 0 _ G1 (.int .u64 (s0 : Int))) (.int .u64 (s1 : Int))) (.int .u64 (s2 : Int))) (.int .u64 (s3 : Int))) (.int .u64 (r0 : Int))
  have HB := Lib.hid B3
  have HG := Lib.hid G3
  have HZ := Lib.hid Z3
  clear F1 SU Z1 B1 G1 Z2 Z3 B3 G3 K J
  go_wp2_with fail
  refine (RE _).mono ?_
  rintro e w2 ⟨rfl, F2⟩
  have B4 := (F2.block _ (lt_of_block HB.out) (fun h => h)).trans HB.out
  have G4 := HG.out.trans F2 (fun _ h => h.elim)
  clear F2 RE HB HG HZ
  obtain ⟨b0, b1, b2, b3, b4, b5, b6, b7⟩ := blk4 B4
  have S4 := Lib.hid (set4 B4 (.int .u64 (t0 : Int)) (.int .u64 (t1 : Int)) (.int .u64 (t2 : Int)) (.int .u64 (t3 : Int)))
  have HG := Lib.hid G4
  clear B4 G4
  go_wp2_with fail
  refine bodyPost_ret (results_cell_row rfl _ _ (w.heap.size + 1) 100 #[.int .u64 (t0 : Int), .int .u64 (t1 : Int), .int .u64 (t2 : Int), .int .u64 (t3 : Int)] (0, 0) _ rfl S4.out Try.underlying100 rfl Try.size4f) rfl ?_
  exact ⟨rfl, (((HG.out.setCell (Or.inr (by show _ ≤ _ + 1; omega)) _).setCell (Or.inr (by show _ ≤ _ + 1; omega)) _).setCell (Or.inr (by show _ ≤ _ + 1; omega)) _).setCell (Or.inr (by show _ ≤ _ + 1; omega)) _⟩
end Go.Proofs.Ytahnlnflcgehaaa
namespace Go.Proofs.Ytahnlnflcgehaaa
open Go.RowKit Pri
set_option linter.unusedVariables false

theorem keep4 {w : World} {b g : Nat} {o : Obj} (h : w.heap[b]? = some o) (hne : ¬ b = g) (u0 u1 u2 u3 : Value) : ((((w.setCell ⟨g, 0, none⟩ u0).setCell ⟨g, 1, none⟩ u1).setCell ⟨g, 2, none⟩ u2).setCell ⟨g, 3, none⟩ u3).heap[b]? = some o :=
  keep_set (keep_set (keep_set (keep_set h hne u0) hne u1) hne u2) hne u3
theorem Fr.set4 {w W : World} {g : Nat} (h : Fr (fun _ => False) w W) (hg : w.heap.size ≤ g) (u0 u1 u2 u3 : Value) : Fr (fun _ => False) w ((((W.setCell ⟨g, 0, none⟩ u0).setCell ⟨g, 1, none⟩ u1).setCell ⟨g, 2, none⟩ u2).setCell ⟨g, 3, none⟩ u3) :=
  (((h.setCell (Or.inr hg) u0).setCell (Or.inr hg) u1).setCell (Or.inr hg) u2).setCell (Or.inr hg) u3
theorem prod_num (x0 x1 x2 x3 Y : Nat) : nv x0 x1 x2 x3 * Y = x0 * Y + 18446744073709551616 * (x1 * Y) + 340282366920938463463374607431768211456 * (x2 * Y) + 6277101735386680763835789423207666416102355444464034512896 * (x3 * Y) := by
  unfold nv
  simp only [Nat.add_mul, Nat.mul_assoc]
/-- The steps of a product. -/
theorem prod_steps (m0 m1 m2 m3 H1 H2 H3 H4 a b c d : Nat) (h1 : H1 = (m0 + 0) / 18446744073709551616) (h2 : H2 = (m1 + H1) / 18446744073709551616) (h3 : H3 = (m2 + H2) / 18446744073709551616) (h4 : H4 = (m3 + H3) / 18446744073709551616)
    (ha : a = (m0 + 0) % 18446744073709551616) (hb : b = (m1 + H1) % 18446744073709551616) (hc : c = (m2 + H2) % 18446744073709551616) (hd : d = (m3 + H3) % 18446744073709551616) :
    m0 + 18446744073709551616 * m1 + 340282366920938463463374607431768211456 * m2 + 6277101735386680763835789423207666416102355444464034512896 * m3 = nv a b c d + 115792089237316195423570985008687907853269984665640564039457584007913129639936 * H4 := by
  unfold nv; omega
theorem prod_end (L H g e : Nat) (hL : L < 115792089237316195423570985008687907853269984665640564039457584007913129639936) (hH : H < 115792089237316195423570985008687907853269984665640564039457584007913129639936) (hg : g = (38 * H + L) / 18446744073709551616) (he : e = (38 * H + L) % 18446744073709551616) (g0 g1 g2 g3 : Nat) (b0 : g0 < 18446744073709551616) (b1 : g1 < 18446744073709551616) (b2 : g2 < 18446744073709551616) (b3 : g3 < 18446744073709551616) (hn : g = nv g0 g1 g2 g3) :
    g3 ≤ 38 ∧ (nv e g0 g1 g2 + 115792089237316195423570985008687907853269984665640564039457584007913129639936 * g3) % p25519 = (L + 115792089237316195423570985008687907853269984665640564039457584007913129639936 * H) % p25519 := by
  have : nv e g0 g1 g2 + 115792089237316195423570985008687907853269984665640564039457584007913129639936 * g3 = 38 * H + L := by
    unfold nv at *; omega
  rw [this, P_val]
  unfold nv at *
  refine ⟨by omega, by omega⟩
theorem line_hi (n X Y : Nat) (hn : n < 18446744073709551616) (hX : X < 115792089237316195423570985008687907853269984665640564039457584007913129639936) (hY : Y < 115792089237316195423570985008687907853269984665640564039457584007913129639936) : (n * X + Y) / 18446744073709551616 < 115792089237316195423570985008687907853269984665640564039457584007913129639936 := by
  have := line_bd n X Y hn hX hY
  omega
set_option maxRecDepth 100000 in
set_option maxHeartbeats 1000000 in
theorem fproduct_any (X Y : Nat) (hX : X < 115792089237316195423570985008687907853269984665640564039457584007913129639936) (hY : Y < 115792089237316195423570985008687907853269984665640564039457584007913129639936) (w : World) :
    Calls Try.prog 84 #[.agg (nc X), .agg (nc Y)] w fun e w' => e = .returned (.agg (nc (X * Y % p25519))) ∧ Fr (fun _ => False) w w' := by
  obtain ⟨x0, x1, x2, x3, hx0, hx1, hx2, hx3, hx, ex⟩ := nc_open X hX
  have hP := prod_num x0 x1 x2 x3 Y
  rw [← hx] at hP
  have l0 := line_hi x0 Y 0 hx0 hY (by decide)
  have L0 := fun (W : World) => fline_any x0 Y 0 hx0 hY (by decide) W
  obtain ⟨H1, e1⟩ : ∃ s, s = (x0 * Y + 0) / 18446744073709551616 := ⟨_, rfl⟩
  obtain ⟨a, f1⟩ : ∃ s, s = (x0 * Y + 0) % 18446744073709551616 := ⟨_, rfl⟩
  have k0 : a < 18446744073709551616 := by rw [f1]; exact Nat.mod_lt _ (by decide)
  rw [← e1, ← f1] at L0
  have b1 : H1 < 115792089237316195423570985008687907853269984665640564039457584007913129639936 := by rw [e1]; exact l0
  have l1 := line_hi x1 Y H1 hx1 hY b1
  have L1 := fun (W : World) => fline_any x1 Y H1 hx1 hY b1 W
  obtain ⟨H2, e2⟩ : ∃ s, s = (x1 * Y + H1) / 18446744073709551616 := ⟨_, rfl⟩
  obtain ⟨b, f2⟩ : ∃ s, s = (x1 * Y + H1) % 18446744073709551616 := ⟨_, rfl⟩
  have k1 : b < 18446744073709551616 := by rw [f2]; exact Nat.mod_lt _ (by decide)
  rw [← e2, ← f2] at L1
  have b2 : H2 < 115792089237316195423570985008687907853269984665640564039457584007913129639936 := by rw [e2]; exact l1
  have l2 := line_hi x2 Y H2 hx2 hY b2
  have L2 := fun (W : World) => fline_any x2 Y H2 hx2 hY b2 W
  obtain ⟨H3, e3⟩ : ∃ s, s = (x2 * Y + H2) / 18446744073709551616 := ⟨_, rfl⟩
  obtain ⟨c, f3⟩ : ∃ s, s = (x2 * Y + H2) % 18446744073709551616 := ⟨_, rfl⟩
  have k2 : c < 18446744073709551616 := by rw [f3]; exact Nat.mod_lt _ (by decide)
  rw [← e3, ← f3] at L2
  have b3 : H3 < 115792089237316195423570985008687907853269984665640564039457584007913129639936 := by rw [e3]; exact l2
  have l3 := line_hi x3 Y H3 hx3 hY b3
  have L3 := fun (W : World) => fline_any x3 Y H3 hx3 hY b3 W
  obtain ⟨H4, e4⟩ : ∃ s, s = (x3 * Y + H3) / 18446744073709551616 := ⟨_, rfl⟩
  obtain ⟨d, f4⟩ : ∃ s, s = (x3 * Y + H3) % 18446744073709551616 := ⟨_, rfl⟩
  have k3 : d < 18446744073709551616 := by rw [f4]; exact Nat.mod_lt _ (by decide)
  rw [← e4, ← f4] at L3
  have b4 : H4 < 115792089237316195423570985008687907853269984665640564039457584007913129639936 := by rw [e4]; exact l3
  have hst := prod_steps _ _ _ _ H1 H2 H3 H4 a b c d e1 e2 e3 e4 f1 f2 f3 f4
  rw [← hP] at hst
  have nl := nv_lt a b c d k0 k1 k2 k3
  have L4 := fun (W : World) => fline_any 38 H4 (nv a b c d) (by decide) b4 nl W
  have l4 := line_hi 38 H4 (nv a b c d) (by decide) b4 nl
  obtain ⟨H5, e5⟩ : ∃ s, s = (38 * H4 + nv a b c d) / 18446744073709551616 := ⟨_, rfl⟩
  obtain ⟨e, f5⟩ : ∃ s, s = (38 * H4 + nv a b c d) % 18446744073709551616 := ⟨_, rfl⟩
  have k4 : e < 18446744073709551616 := by rw [f5]; exact Nat.mod_lt _ (by decide)
  rw [← e5, ← f5] at L4
  rw [← nc_of a b c d k0 k1 k2 k3] at L4
  have b5 : H5 < 115792089237316195423570985008687907853269984665640564039457584007913129639936 := by rw [e5]; exact l4
  obtain ⟨r0, r1, r2, r3, hr0, hr1, hr2, hr3, hr, er⟩ := nc_open H5 b5
  obtain ⟨p1, p2⟩ := prod_end (nv a b c d) H4 H5 e nl b4 e5 f5 r0 r1 r2 r3 hr0 hr1 hr2 hr3 hr
  have FL := fun (W : World) => ffolded_any (nv e r0 r1 r2) r3 (nv_lt _ _ _ _ k4 hr0 hr1 hr2) p1 W
  rw [p2, ← hst, ← nc_of e r0 r1 r2 k4 hr0 hr1 hr2] at FL
  rw [er] at L4
  have hR : X * Y % p25519 < 115792089237316195423570985008687907853269984665640564039457584007913129639936 := Nat.lt_trans (Nat.mod_lt _ p_pos) (by decide +kernel)
  generalize X * Y % p25519 = R at *
  obtain ⟨t0, t1, t2, t3, _, _, _, _, _, et⟩ := nc_open R hR
  rw [et] at FL ⊢
  obtain ⟨y0, y1, y2, y3, _, _, _, _, _, ey⟩ := nc_open Y hY
  rw [ex, ey]
  rw [ey] at L0 L1 L2 L3
  obtain ⟨h0, h1, h2, h3, _, _, _, _, _, eh⟩ := nc_open H1 b1
  obtain ⟨i0, i1, i2, i3, _, _, _, _, _, ei⟩ := nc_open H2 b2
  obtain ⟨j0, j1, j2, j3, _, _, _, _, _, ej⟩ := nc_open H3 b3
  obtain ⟨m0, m1, m2, m3, _, _, _, _, _, em⟩ := nc_open H4 b4
  rw [eh] at L0 L1
  rw [ei] at L1 L2
  rw [ej] at L2 L3
  rw [em] at L3 L4
  rw [show nc 0 = #[.int .u64 0, .int .u64 0, .int .u64 0, .int .u64 0] from rfl] at L0
  rw [show ((38 : Nat) : Int) = 38 from rfl] at L4
  clear hP hst nl p1 p2 e1 e2 e3 e4 e5 f1 f2 f3 f4 f5 l0 l1 l2 l3 l4 b1 b2 b3 b4 b5 k0 k1 k2 k3 k4 hr et ex ey eh ei ej em er hX hY hR hx
  go_enter Try.func84, Try.ntmps84
  go_wp2_with fail
  refine (L0 _).mono ?_
  rintro e w1 ⟨rfl, F1⟩
  have X1 := F1.keep ((Below.heap_alloc ((w.alloc (.cells #[.int .u64 (x0 : Int), .int .u64 (x1 : Int), .int .u64 (x2 : Int), .int .u64 (x3 : Int)] 100)).alloc (.cells #[.int .u64 (y0 : Int), .int .u64 (y1 : Int), .int .u64 (y2 : Int), .int .u64 (y3 : Int)] 100)) (.cells #[.int .u64 0, .int .u64 0, .int .u64 0, .int .u64 0] 100) _ (by simp; omega)).trans (heap_alloc2_old w _ _))
  have Y1 := F1.keep ((Below.heap_alloc ((w.alloc (.cells #[.int .u64 (x0 : Int), .int .u64 (x1 : Int), .int .u64 (x2 : Int), .int .u64 (x3 : Int)] 100)).alloc (.cells #[.int .u64 (y0 : Int), .int .u64 (y1 : Int), .int .u64 (y2 : Int), .int .u64 (y3 : Int)] 100)) (.cells #[.int .u64 0, .int .u64 0, .int .u64 0, .int .u64 0] 100) _ (by simp)).trans (heap_alloc2_new w _ _))
  have R1 := F1.keep (heap_at ((w.alloc (.cells #[.int .u64 (x0 : Int), .int .u64 (x1 : Int), .int .u64 (x2 : Int), .int .u64 (x3 : Int)] 100)).alloc (.cells #[.int .u64 (y0 : Int), .int .u64 (y1 : Int), .int .u64 (y2 : Int), .int .u64 (y3 : Int)] 100)) #[.int .u64 0, .int .u64 0, .int .u64 0, .int .u64 0] 100 (w.heap.size + 1 + 1) (by simp))
  have G1 : Fr (fun _ => False) w w1 := ((((Fr.refl _ w).alloc _).alloc _).alloc _).trans F1 (fun _ h => h.elim)
  have zl := lt_of_block R1
  have zl0 : w.heap.size < w1.heap.size := by omega
  have zl1 : w.heap.size + 1 < w1.heap.size := by omega
  clear F1 L0
  obtain ⟨c0, c1, c2, c3, _, _, _, _⟩ := blk4 X1
  obtain ⟨d0, d1, d2, d3, _, _, _, _⟩ := blk4 Y1
  have HX := Lib.hid ((Below.heap_alloc w1 (.cells #[.int .u64 (h0 : Int), .int .u64 (h1 : Int), .int .u64 (h2 : Int), .int .u64 (h3 : Int)] 100) _ zl0).trans X1)
  have HY := Lib.hid ((Below.heap_alloc w1 (.cells #[.int .u64 (h0 : Int), .int .u64 (h1 : Int), .int .u64 (h2 : Int), .int .u64 (h3 : Int)] 100) _ zl1).trans Y1)
  have HR := Lib.hid ((Below.heap_alloc w1 (.cells #[.int .u64 (h0 : Int), .int .u64 (h1 : Int), .int .u64 (h2 : Int), .int .u64 (h3 : Int)] 100) _ zl).trans R1)
  have HH := Lib.hid (heap_alloc_new w1 (.cells #[.int .u64 (h0 : Int), .int .u64 (h1 : Int), .int .u64 (h2 : Int), .int .u64 (h3 : Int)] 100))
  have HG := Lib.hid (G1.alloc (.cells #[.int .u64 (h0 : Int), .int .u64 (h1 : Int), .int .u64 (h2 : Int), .int .u64 (h3 : Int)] 100))
  have HZ := Lib.hid (And.intro zl G1.size)
  clear X1 Y1 R1 G1
  go_wp2_with fail
  refine (L1 _).mono ?_
  rintro e w2 ⟨rfl, F2⟩
  have X2 := F2.keep HX.out
  have Y2 := F2.keep HY.out
  have R2 := F2.keep HR.out
  have H2 := F2.keep HH.out
  have G2 := HG.out.trans F2 (fun _ h => h.elim)
  clear HX HY HR HH HG L1 F2
  have hw : w.heap.size ≤ w1.heap.size := by omega
  generalize w1.heap.size = g at *
  have n0 : ¬ w.heap.size = g := by omega
  have n1 : ¬ w.heap.size + 1 = g := by omega
  have n2 : ¬ w.heap.size + 1 + 1 = g := by omega
  have n3 : w.heap.size ≤ g := hw
  clear zl zl0 zl1 hw HZ
  obtain ⟨c0, c1, c2, c3, _, _, _, _⟩ := blk4 X2
  obtain ⟨d0, d1, d2, d3, _, _, _, _⟩ := blk4 Y2
  obtain ⟨e0, e1, e2, e3, e4, e5, e6, e7⟩ := blk4 H2
  have HX := Lib.hid (keep4 X2 n0 (.int .u64 (i0 : Int)) (.int .u64 (i1 : Int)) (.int .u64 (i2 : Int)) (.int .u64 (i3 : Int)))
  have HY := Lib.hid (keep4 Y2 n1 (.int .u64 (i0 : Int)) (.int .u64 (i1 : Int)) (.int .u64 (i2 : Int)) (.int .u64 (i3 : Int)))
  have HR := Lib.hid (keep4 R2 n2 (.int .u64 (i0 : Int)) (.int .u64 (i1 : Int)) (.int .u64 (i2 : Int)) (.int .u64 (i3 : Int)))
  have HH := Lib.hid (set4 H2 (.int .u64 (i0 : Int)) (.int .u64 (i1 : Int)) (.int .u64 (i2 : Int)) (.int .u64 (i3 : Int)))
  have HG := Lib.hid (G2.set4 n3 (.int .u64 (i0 : Int)) (.int .u64 (i1 : Int)) (.int .u64 (i2 : Int)) (.int .u64 (i3 : Int)))
  clear X2 Y2 R2 H2 G2
  go_wp2_with fail
  clear c0 c1 c2 c3 d0 d1 d2 d3 e0 e1 e2 e3 e4 e5 e6 e7
  refine (L2 _).mono ?_
  rintro e w3 ⟨rfl, F3⟩
  have X3 := F3.keep HX.out
  have Y3 := F3.keep HY.out
  have R3 := F3.keep HR.out
  have H3 := F3.keep HH.out
  have G3 := HG.out.trans F3 (fun _ h => h.elim)
  clear HX HY HR HH HG L2 F3
  obtain ⟨c0, c1, c2, c3, _, _, _, _⟩ := blk4 X3
  obtain ⟨d0, d1, d2, d3, _, _, _, _⟩ := blk4 Y3
  obtain ⟨e0, e1, e2, e3, e4, e5, e6, e7⟩ := blk4 H3
  have HX := Lib.hid (keep4 X3 n0 (.int .u64 (j0 : Int)) (.int .u64 (j1 : Int)) (.int .u64 (j2 : Int)) (.int .u64 (j3 : Int)))
  have HY := Lib.hid (keep4 Y3 n1 (.int .u64 (j0 : Int)) (.int .u64 (j1 : Int)) (.int .u64 (j2 : Int)) (.int .u64 (j3 : Int)))
  have HR := Lib.hid (keep4 R3 n2 (.int .u64 (j0 : Int)) (.int .u64 (j1 : Int)) (.int .u64 (j2 : Int)) (.int .u64 (j3 : Int)))
  have HH := Lib.hid (set4 H3 (.int .u64 (j0 : Int)) (.int .u64 (j1 : Int)) (.int .u64 (j2 : Int)) (.int .u64 (j3 : Int)))
  have HG := Lib.hid (G3.set4 n3 (.int .u64 (j0 : Int)) (.int .u64 (j1 : Int)) (.int .u64 (j2 : Int)) (.int .u64 (j3 : Int)))
  clear X3 Y3 R3 H3 G3
  go_wp2_with fail
  clear c0 c1 c2 c3 d0 d1 d2 d3 e0 e1 e2 e3 e4 e5 e6 e7
  refine (L3 _).mono ?_
  rintro e w4 ⟨rfl, F4⟩
  have X4 := F4.keep HX.out
  have Y4 := F4.keep HY.out
  have R4 := F4.keep HR.out
  have H4 := F4.keep HH.out
  have G4 := HG.out.trans F4 (fun _ h => h.elim)
  clear HX HY HR HH HG L3 F4
  obtain ⟨c0, c1, c2, c3, _, _, _, _⟩ := blk4 X4
  obtain ⟨d0, d1, d2, d3, _, _, _, _⟩ := blk4 Y4
  obtain ⟨e0, e1, e2, e3, e4, e5, e6, e7⟩ := blk4 H4
  have HX := Lib.hid (keep4 X4 n0 (.int .u64 (m0 : Int)) (.int .u64 (m1 : Int)) (.int .u64 (m2 : Int)) (.int .u64 (m3 : Int)))
  have HY := Lib.hid (keep4 Y4 n1 (.int .u64 (m0 : Int)) (.int .u64 (m1 : Int)) (.int .u64 (m2 : Int)) (.int .u64 (m3 : Int)))
  have HR := Lib.hid (keep4 R4 n2 (.int .u64 (m0 : Int)) (.int .u64 (m1 : Int)) (.int .u64 (m2 : Int)) (.int .u64 (m3 : Int)))
  have HH := Lib.hid (set4 H4 (.int .u64 (m0 : Int)) (.int .u64 (m1 : Int)) (.int .u64 (m2 : Int)) (.int .u64 (m3 : Int)))
  have HG := Lib.hid (G4.set4 n3 (.int .u64 (m0 : Int)) (.int .u64 (m1 : Int)) (.int .u64 (m2 : Int)) (.int .u64 (m3 : Int)))
  clear X4 Y4 R4 H4 G4
  go_wp2_with fail
  clear c0 c1 c2 c3 d0 d1 d2 d3 e0 e1 e2 e3 e4 e5 e6 e7
  refine (L4 _).mono ?_
  rintro e w5 ⟨rfl, F5⟩
  have X5 := F5.keep HX.out
  have Y5 := F5.keep HY.out
  have R5 := F5.keep HR.out
  have H5 := F5.keep HH.out
  have G5 := HG.out.trans F5 (fun _ h => h.elim)
  clear HX HY HR HH HG L4 F5
  obtain ⟨c0, c1, c2, c3, _, _, _, _⟩ := blk4 X5
  obtain ⟨d0, d1, d2, d3, _, _, _, _⟩ := blk4 Y5
  obtain ⟨e0, e1, e2, e3, e4, e5, e6, e7⟩ := blk4 H5
  have HX := Lib.hid (keep4 X5 n0 (.int .u64 (r0 : Int)) (.int .u64 (r1 : Int)) (.int .u64 (r2 : Int)) (.int .u64 (r3 : Int)))
  have HY := Lib.hid (keep4 Y5 n1 (.int .u64 (r0 : Int)) (.int .u64 (r1 : Int)) (.int .u64 (r2 : Int)) (.int .u64 (r3 : Int)))
  have HR := Lib.hid (keep4 R5 n2 (.int .u64 (r0 : Int)) (.int .u64 (r1 : Int)) (.int .u64 (r2 : Int)) (.int .u64 (r3 : Int)))
  have HH := Lib.hid (set4 H5 (.int .u64 (r0 : Int)) (.int .u64 (r1 : Int)) (.int .u64 (r2 : Int)) (.int .u64 (r3 : Int)))
  have HG := Lib.hid (G5.set4 n3 (.int .u64 (r0 : Int)) (.int .u64 (r1 : Int)) (.int .u64 (r2 : Int)) (.int .u64 (r3 : Int)))
  clear X5 Y5 R5 H5 G5
  go_wp2_with fail
  clear c0 c1 c2 c3 d0 d1 d2 d3 e0 e1 e2 e3 e4 e5 e6 e7
  refine (FL _).mono ?_
  rintro e w6 ⟨rfl, F6⟩
  have R6 := F6.keep HR.out
  have G6 := HG.out.trans F6 (fun _ h => h.elim)
  clear HX HY HR HH HG FL F6
  obtain ⟨e0, e1, e2, e3, e4, e5, e6, e7⟩ := blk4 R6
  have HR := Lib.hid (set4 R6 (.int .u64 (t0 : Int)) (.int .u64 (t1 : Int)) (.int .u64 (t2 : Int)) (.int .u64 (t3 : Int)))
  have HG := Lib.hid (G6.set4 (g := w.heap.size + 1 + 1) (by omega) (.int .u64 (t0 : Int)) (.int .u64 (t1 : Int)) (.int .u64 (t2 : Int)) (.int .u64 (t3 : Int)))
  clear R6 G6
  go_wp2_with fail
  refine bodyPost_ret (results_cell_row rfl _ _ (w.heap.size + 1 + 1) 100 #[.int .u64 (t0 : Int), .int .u64 (t1 : Int), .int .u64 (t2 : Int), .int .u64 (t3 : Int)] (0, 0) _ rfl HR.out Try.underlying100 rfl Try.size4f) rfl ?_
  exact ⟨rfl, HG.out⟩
end Go.Proofs.Ytahnlnflcgehaaa
namespace Go.Proofs.Ytahnlnflcgehaaa
open Go.RowKit Pri
set_option linter.unusedVariables false

set_option maxRecDepth 100000 in
set_option maxHeartbeats 1600000 in
theorem fadd_op (A B R S : Array Value) (c : Int) (w : World)
    (PA : ∀ W : World, Calls Try.prog 78 #[.agg A] W fun e w' => e = .returned (.agg A) ∧ Fr (fun _ => False) W w')
    (PB : ∀ W : World, Calls Try.prog 78 #[.agg B] W fun e w' => e = .returned (.agg B) ∧ Fr (fun _ => False) W w')
    (SU : ∀ W : World, Calls Try.prog 80 #[.agg A, .agg B] W fun e w' => e = .returned (.tuple #[.agg S, .int .u64 c]) ∧ Fr (fun _ => False) W w')
    (FL : ∀ W : World, Calls Try.prog 79 #[.agg S, .int .u64 c] W fun e w' => e = .returned (.agg R) ∧ Fr (fun _ => False) W w')
    (EL : ∀ W : World, Calls Try.prog 76 #[.agg R] W fun e w' => e = .returned (.agg R) ∧ Fr (fun _ => False) W w')
    (zA : A.size = 4) (zB : B.size = 4) (zR : R.size = 4) (oneR : R.all (·.oneCell') = true) :
    Calls Try.prog 18 #[.agg A, .agg B] w fun e w' => e = .returned (.agg R) ∧ Fr (fun _ => False) w w' := by
  have sA : (Try.prog.info? 24).map (·.size) = some A.size := by rw [zA]; kernel_rfl
  have sB : (Try.prog.info? 24).map (·.size) = some B.size := by rw [zB]; kernel_rfl
  have sR : (Try.prog.info? 24).map (·.size) = some R.size := by rw [zR]; kernel_rfl
  have zR' : (#[.int .u64 0, .int .u64 0, .int .u64 0, .int .u64 0] : Array Value).size = R.size := by rw [zR]; rfl
  have HA := Lib.hid ((Below.heap_alloc ((w.alloc (.cells A 24)).alloc (.cells B 24)) (.cells #[.int .u64 0, .int .u64 0, .int .u64 0, .int .u64 0] 24) _ (by simp; omega)).trans (heap_alloc2_old w _ _))
  have HB := Lib.hid ((Below.heap_alloc ((w.alloc (.cells A 24)).alloc (.cells B 24)) (.cells #[.int .u64 0, .int .u64 0, .int .u64 0, .int .u64 0] 24) _ (by simp)).trans (heap_alloc2_new w _ _))
  have HR := Lib.hid (heap_at ((w.alloc (.cells A 24)).alloc (.cells B 24)) #[.int .u64 0, .int .u64 0, .int .u64 0, .int .u64 0] 24 (w.heap.size + 1 + 1) (by simp))
  have HF := Lib.hid (((((Fr.refl (fun _ => False) w).alloc (.cells A 24)).alloc (.cells B 24)).alloc (.cells #[.int .u64 0, .int .u64 0, .int .u64 0, .int .u64 0] 24)))
  clear zA zB zR
  go_enter Try.func18, Try.ntmps18
  go_wp2_with fail
  refine wp_region_tail 9 [] (by kernel_rfl) (by kernel_rfl) mk_nil ?_
  apply Exists.intro
  refine ⟨?wk, ?fin⟩
  case wk =>
    intro γ
    simp only [List.take_succ_cons, List.take_zero]
    repeat (any_goals (first | (go_big_quiet_want; (with_reducible refine quiet_load_rowg 24 (.tmp 2) rfl w.heap.size rfl 24 A (0, 0) _ HA.out Try.underlying24 rfl sA ?_); simp only [Act.put, List.setIfInBounds_toArray, List.set_cons_zero, List.set_cons_succ]; go_big_quiet_on) | (go_big_quiet_want; (with_reducible refine quiet_load_rowg 24 (.tmp 3) rfl (w.heap.size + 1) rfl 24 B (0, 0) _ HB.out Try.underlying24 rfl sB ?_); simp only [Act.put, List.setIfInBounds_toArray, List.set_cons_zero, List.set_cons_succ]; go_big_quiet_on) | go_big_quiet_step (((first | (go_at_call 78; with_reducible exact Calls.keepg (PA _)) | (go_at_call 78; with_reducible exact Calls.keepg (PB _)) | (go_at_call 80; with_reducible exact Calls.keepg (SU _)) | (go_at_call 79; with_reducible exact Calls.keepg (FL _)) | (go_at_call 76; with_reducible exact Calls.keepg (EL _))))) | quiet_step (((first | (go_at_call 78; with_reducible exact Calls.keepg (PA _)) | (go_at_call 78; with_reducible exact Calls.keepg (PB _)) | (go_at_call 80; with_reducible exact Calls.keepg (SU _)) | (go_at_call 79; with_reducible exact Calls.keepg (FL _)) | (go_at_call 76; with_reducible exact Calls.keepg (EL _)))))))
    exact wpQuiet_nil rfl
  case fin =>
    intro gs wx hF hg hne
    simp only [putAll, List.drop_succ_cons, List.drop_zero, List.length_nil, Nat.add_zero]
    have R1 := hF.keep HR.out
    have G1 := HF.out.trans hF (fun _ h => h.elim)
    clear hg hne hF
    go_wp2_with (with_reducible refine wpList_store_row rfl 24 (.tmp 4) (.tmp 13) rfl (w.heap.size + 1 + 1) R rfl rfl 24 #[.int .u64 0, .int .u64 0, .int .u64 0, .int .u64 0] R1 sR zR' oneR ?_)
    refine bodyPost_ret (results_cell_row rfl _ _ (w.heap.size + 1 + 1) 24 R (0, 0) _ rfl (setRow_heap _ _ _ _ _ _ R1) Try.underlying24 rfl sR) rfl ?_
    exact ⟨rfl, G1.trans (Fr.setRow (S := fun k => k = w.heap.size + 1 + 1) (Fr.refl _ _) rfl _) (fun i hi => Or.inr (by omega))⟩
set_option maxRecDepth 100000 in
set_option maxHeartbeats 1600000 in
theorem fmul_op (A B R  : Array Value) (c : Int) (w : World)
    (PA : ∀ W : World, Calls Try.prog 78 #[.agg A] W fun e w' => e = .returned (.agg A) ∧ Fr (fun _ => False) W w')
    (PB : ∀ W : World, Calls Try.prog 78 #[.agg B] W fun e w' => e = .returned (.agg B) ∧ Fr (fun _ => False) W w')
    (PR : ∀ W : World, Calls Try.prog 84 #[.agg A, .agg B] W fun e w' => e = .returned (.agg R) ∧ Fr (fun _ => False) W w')
    (EL : ∀ W : World, Calls Try.prog 76 #[.agg R] W fun e w' => e = .returned (.agg R) ∧ Fr (fun _ => False) W w')
    (zA : A.size = 4) (zB : B.size = 4) (zR : R.size = 4) (oneR : R.all (·.oneCell') = true) :
    Calls Try.prog 22 #[.agg A, .agg B] w fun e w' => e = .returned (.agg R) ∧ Fr (fun _ => False) w w' := by
  have sA : (Try.prog.info? 24).map (·.size) = some A.size := by rw [zA]; kernel_rfl
  have sB : (Try.prog.info? 24).map (·.size) = some B.size := by rw [zB]; kernel_rfl
  have sR : (Try.prog.info? 24).map (·.size) = some R.size := by rw [zR]; kernel_rfl
  have zR' : (#[.int .u64 0, .int .u64 0, .int .u64 0, .int .u64 0] : Array Value).size = R.size := by rw [zR]; rfl
  have HA := Lib.hid ((Below.heap_alloc ((w.alloc (.cells A 24)).alloc (.cells B 24)) (.cells #[.int .u64 0, .int .u64 0, .int .u64 0, .int .u64 0] 24) _ (by simp; omega)).trans (heap_alloc2_old w _ _))
  have HB := Lib.hid ((Below.heap_alloc ((w.alloc (.cells A 24)).alloc (.cells B 24)) (.cells #[.int .u64 0, .int .u64 0, .int .u64 0, .int .u64 0] 24) _ (by simp)).trans (heap_alloc2_new w _ _))
  have HR := Lib.hid (heap_at ((w.alloc (.cells A 24)).alloc (.cells B 24)) #[.int .u64 0, .int .u64 0, .int .u64 0, .int .u64 0] 24 (w.heap.size + 1 + 1) (by simp))
  have HF := Lib.hid (((((Fr.refl (fun _ => False) w).alloc (.cells A 24)).alloc (.cells B 24)).alloc (.cells #[.int .u64 0, .int .u64 0, .int .u64 0, .int .u64 0] 24)))
  clear zA zB zR
  go_enter Try.func22, Try.ntmps22
  go_wp2_with fail
  refine wp_region_tail 6 [] (by kernel_rfl) (by kernel_rfl) mk_nil ?_
  apply Exists.intro
  refine ⟨?wk, ?fin⟩
  case wk =>
    intro γ
    simp only [List.take_succ_cons, List.take_zero]
    repeat (any_goals (first | (go_big_quiet_want; (with_reducible refine quiet_load_rowg 24 (.tmp 2) rfl w.heap.size rfl 24 A (0, 0) _ HA.out Try.underlying24 rfl sA ?_); simp only [Act.put, List.setIfInBounds_toArray, List.set_cons_zero, List.set_cons_succ]; go_big_quiet_on) | (go_big_quiet_want; (with_reducible refine quiet_load_rowg 24 (.tmp 3) rfl (w.heap.size + 1) rfl 24 B (0, 0) _ HB.out Try.underlying24 rfl sB ?_); simp only [Act.put, List.setIfInBounds_toArray, List.set_cons_zero, List.set_cons_succ]; go_big_quiet_on) | go_big_quiet_step (((first | (go_at_call 78; with_reducible exact Calls.keepg (PA _)) | (go_at_call 78; with_reducible exact Calls.keepg (PB _)) | (go_at_call 84; with_reducible exact Calls.keepg (PR _)) | (go_at_call 76; with_reducible exact Calls.keepg (EL _))))) | quiet_step (((first | (go_at_call 78; with_reducible exact Calls.keepg (PA _)) | (go_at_call 78; with_reducible exact Calls.keepg (PB _)) | (go_at_call 84; with_reducible exact Calls.keepg (PR _)) | (go_at_call 76; with_reducible exact Calls.keepg (EL _)))))))
    exact wpQuiet_nil rfl
  case fin =>
    intro gs wx hF hg hne
    simp only [putAll, List.drop_succ_cons, List.drop_zero, List.length_nil, Nat.add_zero]
    have R1 := hF.keep HR.out
    have G1 := HF.out.trans hF (fun _ h => h.elim)
    clear hg hne hF
    go_wp2_with (with_reducible refine wpList_store_row rfl 24 (.tmp 4) (.tmp 10) rfl (w.heap.size + 1 + 1) R rfl rfl 24 #[.int .u64 0, .int .u64 0, .int .u64 0, .int .u64 0] R1 sR zR' oneR ?_)
    refine bodyPost_ret (results_cell_row rfl _ _ (w.heap.size + 1 + 1) 24 R (0, 0) _ rfl (setRow_heap _ _ _ _ _ _ R1) Try.underlying24 rfl sR) rfl ?_
    exact ⟨rfl, G1.trans (Fr.setRow (S := fun k => k = w.heap.size + 1 + 1) (Fr.refl _ _) rfl _) (fun i hi => Or.inr (by omega))⟩
theorem nc_size (X : Nat) : (nc X).size = 4 := rfl
theorem mod_p_lt (X : Nat) : X % p25519 < 115792089237316195423570985008687907853269984665640564039457584007913129639936 := Nat.lt_trans (Nat.mod_lt _ p_pos) (by decide +kernel)
theorem fadd_any (X Y : Nat) (hX : X < 115792089237316195423570985008687907853269984665640564039457584007913129639936) (hY : Y < 115792089237316195423570985008687907853269984665640564039457584007913129639936) (w : World) :
    Calls Try.prog 18 #[.agg (nc X), .agg (nc Y)] w fun e w' => e = .returned (.agg (nc ((X + Y) % p25519))) ∧ Fr (fun _ => False) w w' := by
  have hm : (X + Y) % 115792089237316195423570985008687907853269984665640564039457584007913129639936 < 115792089237316195423570985008687907853269984665640564039457584007913129639936 := Nat.mod_lt _ (by decide)
  have hd : (X + Y) / 115792089237316195423570985008687907853269984665640564039457584007913129639936 ≤ 38 := by omega
  have e : ((X + Y) % 115792089237316195423570985008687907853269984665640564039457584007913129639936 + 115792089237316195423570985008687907853269984665640564039457584007913129639936 * ((X + Y) / 115792089237316195423570985008687907853269984665640564039457584007913129639936)) % p25519 = (X + Y) % p25519 := by rw [Nat.mod_add_div]
  exact fadd_op (nc X) (nc Y) (nc ((X + Y) % p25519)) (nc ((X + Y) % 115792089237316195423570985008687907853269984665640564039457584007913129639936)) _ w (fparts_any X hX) (fparts_any Y hY) (fsum_any X Y hX hY) (fun W => by have := ffolded_any _ _ hm hd W; rwa [e] at this) (felem_any _ (mod_p_lt _)) rfl rfl rfl (nc_one _)
theorem fmul_any (X Y : Nat) (hX : X < 115792089237316195423570985008687907853269984665640564039457584007913129639936) (hY : Y < 115792089237316195423570985008687907853269984665640564039457584007913129639936) (w : World) :
    Calls Try.prog 22 #[.agg (nc X), .agg (nc Y)] w fun e w' => e = .returned (.agg (nc (X * Y % p25519))) ∧ Fr (fun _ => False) w w' :=
  fmul_op (nc X) (nc Y) (nc (X * Y % p25519)) 0 w (fparts_any X hX) (fparts_any Y hY) (fproduct_any X Y hX hY) (felem_any _ (mod_p_lt _)) rfl rfl rfl (nc_one _)
set_option maxRecDepth 100000 in
theorem frest_op (A R : Array Value) (w : World)
    (PA : ∀ W : World, Calls Try.prog 78 #[.agg A] W fun e w' => e = .returned (.agg A) ∧ Fr (fun _ => False) W w')
    (RE : ∀ W : World, Calls Try.prog 77 #[.agg A] W fun e w' => e = .returned (.agg R) ∧ Fr (fun _ => False) W w')
    (EL : ∀ W : World, Calls Try.prog 76 #[.agg R] W fun e w' => e = .returned (.agg R) ∧ Fr (fun _ => False) W w')
    (zA : A.size = 4) (zR : R.size = 4) (oneR : R.all (·.oneCell') = true) :
    Calls Try.prog 17 #[.agg A] w fun e w' => e = .returned (.agg R) ∧ Fr (fun _ => False) w w' := by
  have sA : (Try.prog.info? 24).map (·.size) = some A.size := by rw [zA]; kernel_rfl
  have sR : (Try.prog.info? 24).map (·.size) = some R.size := by rw [zR]; kernel_rfl
  have zR' : (#[.int .u64 0, .int .u64 0, .int .u64 0, .int .u64 0] : Array Value).size = R.size := by rw [zR]; rfl
  have A0 := heap_alloc2_old w (.cells A 24) (.cells #[.int .u64 0, .int .u64 0, .int .u64 0, .int .u64 0] 24)
  have R0 := heap_alloc2_new w (.cells A 24) (.cells #[.int .u64 0, .int .u64 0, .int .u64 0, .int .u64 0] 24)
  have F0 := (((Fr.refl (fun _ => False) w).alloc (.cells A 24)).alloc (.cells #[.int .u64 0, .int .u64 0, .int .u64 0, .int .u64 0] 24))
  clear zA zR
  go_enter Try.func17, Try.ntmps17
  go_wp2_with (with_reducible refine wpList_load_row rfl 24 (.tmp 1) rfl w.heap.size rfl 24 A (0, 0) _ A0 Try.underlying24 rfl sA ?_)
  refine (PA _).mono ?_
  rintro e w1 ⟨rfl, F1⟩
  go_wp2_with fail
  refine (RE _).mono ?_
  rintro e w2 ⟨rfl, F2⟩
  go_wp2_with fail
  refine (EL _).mono ?_
  rintro e w3 ⟨rfl, F3⟩
  have R3 := F3.keep (F2.keep (F1.keep R0))
  have G3 := ((F0.trans F1 (fun _ h => h.elim)).trans F2 (fun _ h => h.elim)).trans F3 (fun _ h => h.elim)
  clear A0 R0 F0 F1 F2 F3
  go_wp2_with (with_reducible refine wpList_store_row rfl 24 (.tmp 2) (.tmp 6) rfl (w.heap.size + 1) R rfl rfl 24 #[.int .u64 0, .int .u64 0, .int .u64 0, .int .u64 0] R3 sR zR' oneR ?_)
  refine bodyPost_ret (results_cell_row rfl _ _ (w.heap.size + 1) 24 R (0, 0) _ rfl (setRow_heap _ _ _ _ _ _ R3) Try.underlying24 rfl sR) rfl ?_
  exact ⟨rfl, G3.trans (Fr.setRow (S := fun k => k = w.heap.size + 1) (Fr.refl _ _) rfl _) (fun i hi => Or.inr (by omega))⟩
theorem fRest_any (X : Nat) (hX : X < 115792089237316195423570985008687907853269984665640564039457584007913129639936) (w : World) :
    Calls Try.prog 17 #[.agg (nc X)] w fun e w' => e = .returned (.agg (nc (X % p25519))) ∧ Fr (fun _ => False) w w' :=
  frest_op (nc X) (nc (X % p25519)) w (fparts_any X hX) (frest_any X hX) (felem_any _ (mod_p_lt _)) rfl rfl (nc_one _)
end Go.Proofs.Ytahnlnflcgehaaa
namespace Go.Proofs.Ytahnlnflcgehaaa
open Go.RowKit Pri
set_option linter.unusedVariables false

theorem Try.allocF : ∀ w, (Instr.alloc 100 true (.tuple #[])).run Try.prog w = .ok (.pointer (some ⟨w.heap.size, 0, none⟩)) (w.alloc (.cells #[.int .u64 0, .int .u64 0, .int .u64 0, .int .u64 0] 100)) := fun w => by kernel_rfl
theorem nc_p : nc p25519 = #[.int .u64 18446744073709551597, .int .u64 18446744073709551615, .int .u64 18446744073709551615, .int .u64 9223372036854775807] := by
  have := nc_of 18446744073709551597 18446744073709551615 18446744073709551615 9223372036854775807 (by decide) (by decide) (by decide) (by decide)
  rw [show nv 18446744073709551597 18446744073709551615 18446744073709551615 9223372036854775807 = p25519 from by decide +kernel] at this
  exact this.symm
set_option maxRecDepth 100000 in
theorem fprime_any (w : World) : Calls Try.prog 83 #[] w fun e w' => e = .returned (.agg (nc p25519)) ∧ Fr (fun _ => False) w w' := by
  rw [nc_p]
  go_enter Try.func83, Try.ntmps83
  go_wp2
  refine bodyPost_ret (results_cell_row rfl _ _ w.heap.size 24 _ (0, 0) _ rfl (heap_alloc_new w _) Try.underlying24 rfl Try.size4e) rfl ?_
  exact ⟨rfl, (Fr.refl _ w).alloc _⟩
set_option maxRecDepth 100000 in
theorem fsmall_any (n : Nat) (hn : n < 18446744073709551616) (w : World) : Calls Try.prog 32 #[.int .u64 (n : Int)] w fun e w' => e = .returned (.agg (nc n)) ∧ Fr (fun _ => False) w w' := by
  rw [nc0_ n hn]
  go_enter Try.func32, Try.ntmps32
  go_wp2
  refine bodyPost_ret (results_cell_row rfl _ _ w.heap.size 24 _ (0, 0) _ rfl (heap_alloc_new w _) Try.underlying24 rfl Try.size4e) rfl ?_
  exact ⟨rfl, (Fr.refl _ w).alloc _⟩
set_option maxRecDepth 100000 in
set_option maxHeartbeats 1600000 in
theorem fsub_op1 (A B A2 B2 D Pm R : Array Value) (c : Int) (w : World)
    (PA : ∀ W : World, Calls Try.prog 78 #[.agg A] W fun e w' => e = .returned (.agg A) ∧ Fr (fun _ => False) W w')
    (PB : ∀ W : World, Calls Try.prog 78 #[.agg B] W fun e w' => e = .returned (.agg B) ∧ Fr (fun _ => False) W w')
    (RA : ∀ W : World, Calls Try.prog 77 #[.agg A] W fun e w' => e = .returned (.agg A2) ∧ Fr (fun _ => False) W w')
    (RB : ∀ W : World, Calls Try.prog 77 #[.agg B] W fun e w' => e = .returned (.agg B2) ∧ Fr (fun _ => False) W w')
    (DI : ∀ W : World, Calls Try.prog 82 #[.agg A2, .agg B2] W fun e w' => e = .returned (.tuple #[.agg D, .int .u64 1]) ∧ Fr (fun _ => False) W w')
    (PM : ∀ W : World, Calls Try.prog 83 #[] W fun e w' => e = .returned (.agg Pm) ∧ Fr (fun _ => False) W w')
    (PP : ∀ W : World, Calls Try.prog 78 #[.agg Pm] W fun e w' => e = .returned (.agg Pm) ∧ Fr (fun _ => False) W w')
    (SU : ∀ W : World, Calls Try.prog 80 #[.agg D, .agg Pm] W fun e w' => e = .returned (.tuple #[.agg R, .int .u64 c]) ∧ Fr (fun _ => False) W w')
    (EL : ∀ W : World, Calls Try.prog 76 #[.agg R] W fun e w' => e = .returned (.agg R) ∧ Fr (fun _ => False) W w')
    (zA : A.size = 4) (zB : B.size = 4) (zR : R.size = 4) (oneR : R.all (·.oneCell') = true) (zD : D.size = 4) (oneD : D.all (·.oneCell') = true) :
    Calls Try.prog 20 #[.agg A, .agg B] w fun e w' => e = .returned (.agg R) ∧ Fr (fun _ => False) w w' := by
  have sA : (Try.prog.info? 24).map (·.size) = some A.size := by rw [zA]; kernel_rfl
  have sB : (Try.prog.info? 24).map (·.size) = some B.size := by rw [zB]; kernel_rfl
  have sR : (Try.prog.info? 24).map (·.size) = some R.size := by rw [zR]; kernel_rfl
  have zR' : (#[.int .u64 0, .int .u64 0, .int .u64 0, .int .u64 0] : Array Value).size = R.size := by rw [zR]; rfl
  have sD : (Try.prog.info? 100).map (·.size) = some D.size := by rw [zD]; kernel_rfl
  have sDe : (Try.prog.info? 24).map (·.size) = some D.size := by rw [zD]; kernel_rfl
  have sRf : (Try.prog.info? 100).map (·.size) = some R.size := by rw [zR]; kernel_rfl
  have zD' : (#[.int .u64 0, .int .u64 0, .int .u64 0, .int .u64 0] : Array Value).size = D.size := by rw [zD]; rfl
  have zDR : D.size = R.size := by rw [zR, zD]
  have HA := Lib.hid ((Below.heap_alloc ((w.alloc (.cells A 24)).alloc (.cells B 24)) (.cells #[.int .u64 0, .int .u64 0, .int .u64 0, .int .u64 0] 24) _ (by simp; omega)).trans (heap_alloc2_old w _ _))
  have HB := Lib.hid ((Below.heap_alloc ((w.alloc (.cells A 24)).alloc (.cells B 24)) (.cells #[.int .u64 0, .int .u64 0, .int .u64 0, .int .u64 0] 24) _ (by simp)).trans (heap_alloc2_new w _ _))
  have HR := Lib.hid (heap_at ((w.alloc (.cells A 24)).alloc (.cells B 24)) #[.int .u64 0, .int .u64 0, .int .u64 0, .int .u64 0] 24 (w.heap.size + 1 + 1) (by simp))
  have HF := Lib.hid (((((Fr.refl (fun _ => False) w).alloc (.cells A 24)).alloc (.cells B 24)).alloc (.cells #[.int .u64 0, .int .u64 0, .int .u64 0, .int .u64 0] 24)))
  clear zA zB zR zD
  go_enter Try.func20, Try.ntmps20
  go_wp2_with fail
  refine wp_region_late 10 [9] [(5, .cells #[.int .u64 0, .int .u64 0, .int .u64 0, .int .u64 0] 100)] (fun _ _ _ _ _ _ h => h) (by kernel_rfl) (by kernel_rfl) (mk_one ⟨_, rfl, makes_alloc _ _ _ _ _ _ Try.allocF⟩) ?_
  apply Exists.intro
  refine ⟨?wk, ?fin⟩
  case wk =>
    intro γ
    simp only [List.take_succ_cons, List.take_zero]
    repeat (any_goals (first | (go_big_quiet_want; (with_reducible refine quiet_load_rowg 24 (.tmp 2) rfl w.heap.size rfl 24 A (0, 0) _ HA.out Try.underlying24 rfl sA ?_); simp only [Act.put, List.setIfInBounds_toArray, List.set_cons_zero, List.set_cons_succ]; go_big_quiet_on) | (go_big_quiet_want; (with_reducible refine quiet_load_rowg 24 (.tmp 3) rfl (w.heap.size + 1) rfl 24 B (0, 0) _ HB.out Try.underlying24 rfl sB ?_); simp only [Act.put, List.setIfInBounds_toArray, List.set_cons_zero, List.set_cons_succ]; go_big_quiet_on) | go_big_quiet_step (((first | (go_at_call 78; with_reducible exact Calls.keepg (PA _)) | (go_at_call 78; with_reducible exact Calls.keepg (PB _)) | (go_at_call 77; with_reducible exact Calls.keepg (RA _)) | (go_at_call 77; with_reducible exact Calls.keepg (RB _)) | (go_at_call 82; with_reducible exact Calls.keepg (DI _))))) | quiet_step (((first | (go_at_call 78; with_reducible exact Calls.keepg (PA _)) | (go_at_call 78; with_reducible exact Calls.keepg (PB _)) | (go_at_call 77; with_reducible exact Calls.keepg (RA _)) | (go_at_call 77; with_reducible exact Calls.keepg (RB _)) | (go_at_call 82; with_reducible exact Calls.keepg (DI _)))))))
    exact wpQuiet_nil rfl
  case fin =>
    intro gs wx hF hg hne
    obtain ⟨l5, h5⟩ := hg 0 _ rfl
    simp only [putAll, List.drop_succ_cons, List.drop_zero, List.length_nil, List.length_cons, Nat.zero_add]
    simp only [Act.put, List.setIfInBounds_toArray, List.set_cons_zero, List.set_cons_succ]
    generalize gs 0 = g at *
    have R1 := hF.keep HR.out
    have G1 := HF.out.trans hF (fun _ h => h.elim)
    have l6 : w.heap.size + 1 + 1 < g := Nat.lt_of_lt_of_le (lt_of_block HR.out) l5
    clear hg hne hF l5
    have D2 := setRow_heap _ _ _ D _ _ h5
    have R2 := (setRow_other wx g (w.heap.size + 1 + 1) D (by omega)).trans R1
    have G2 : Fr (fun _ => False) w (wx.setRow g D) := G1.trans (Fr.setRow (S := fun k => k = g) (Fr.refl _ _) rfl D) (fun i hi => Or.inr (by omega))
    go_wp2_with (first
      | (with_reducible refine wpList_store_row rfl 100 (.tmp 5) (.tmp 15) rfl g D rfl rfl 100 #[.int .u64 0, .int .u64 0, .int .u64 0, .int .u64 0] h5 sD zD' oneD ?_))
    clear h5 R1 G1
    generalize wx.setRow g D = w2 at *
    refine wp_region_late 7 [6] [] (fun _ _ _ _ _ _ h => h) (by kernel_rfl) (by kernel_rfl) mk_nil ?_
    apply Exists.intro
    refine ⟨?wk2, ?fin2⟩
    case wk2 =>
      intro γ
      simp only [List.take_succ_cons, List.take_zero]
      repeat (any_goals (first | (go_big_quiet_want; (with_reducible refine quiet_load_rowg 100 (.tmp 5) rfl g rfl 100 D (0, 0) _ D2 Try.underlying100 rfl sD ?_); simp only [Act.put, List.setIfInBounds_toArray, List.set_cons_zero, List.set_cons_succ]; go_big_quiet_on) | go_big_quiet_step (((first | (go_at_call 83; with_reducible exact Calls.keepg (PM _)) | (go_at_call 78; with_reducible exact Calls.keepg (PP _)) | (go_at_call 80; with_reducible exact Calls.keepg (SU _))))) | quiet_step (((first | (go_at_call 83; with_reducible exact Calls.keepg (PM _)) | (go_at_call 78; with_reducible exact Calls.keepg (PP _)) | (go_at_call 80; with_reducible exact Calls.keepg (SU _)))))))
      exact wpQuiet_nil rfl
    case fin2 =>
      intro gs w3 hF hg hne
      simp only [putAll, List.drop_succ_cons, List.drop_zero, List.length_nil, Nat.add_zero]
      have D3 := hF.keep D2
      have R3 := hF.keep R2
      have G3 := G2.trans hF (fun _ h => h.elim)
      clear hg hne hF D2 R2 G2
      have D4 := setRow_heap _ _ _ R _ _ D3
      have R4 := (setRow_other w3 g (w.heap.size + 1 + 1) R (by omega)).trans R3
      have G4 : Fr (fun _ => False) w (w3.setRow g R) := G3.trans (Fr.setRow (S := fun k => k = g) (Fr.refl _ _) rfl R) (fun i hi => Or.inr (by omega))
      go_wp2_with (first
        | (with_reducible refine wpList_store_row rfl 100 (.tmp 5) (.tmp 24) rfl g R rfl rfl 100 D D3 sRf zDR oneR ?_)
        | (with_reducible refine wpList_load_row rfl 100 (.tmp 5) rfl g rfl 100 R (0, 0) _ D4 Try.underlying100 rfl sRf ?_))
      refine (EL _).mono ?_
      rintro e w5 ⟨rfl, F5⟩
      have R5 := F5.keep R4
      have G5 := G4.trans F5 (fun _ h => h.elim)
      clear D3 R3 G3 D4 R4 G4 F5
      go_wp2_with (with_reducible refine wpList_store_row rfl 24 (.tmp 4) (.tmp 27) rfl (w.heap.size + 1 + 1) R rfl rfl 24 #[.int .u64 0, .int .u64 0, .int .u64 0, .int .u64 0] R5 sR zR' oneR ?_)
      refine bodyPost_ret (results_cell_row rfl _ _ (w.heap.size + 1 + 1) 24 R (0, 0) _ rfl (setRow_heap _ _ _ _ _ _ R5) Try.underlying24 rfl sR) rfl ?_
      exact ⟨rfl, G5.trans (Fr.setRow (S := fun k => k = w.heap.size + 1 + 1) (Fr.refl _ _) rfl _) (fun i hi => Or.inr (by omega))⟩
set_option maxRecDepth 100000 in
set_option maxHeartbeats 1600000 in
theorem fsub_op0 (A B A2 B2 D Pm R : Array Value) (c : Int) (w : World)
    (PA : ∀ W : World, Calls Try.prog 78 #[.agg A] W fun e w' => e = .returned (.agg A) ∧ Fr (fun _ => False) W w')
    (PB : ∀ W : World, Calls Try.prog 78 #[.agg B] W fun e w' => e = .returned (.agg B) ∧ Fr (fun _ => False) W w')
    (RA : ∀ W : World, Calls Try.prog 77 #[.agg A] W fun e w' => e = .returned (.agg A2) ∧ Fr (fun _ => False) W w')
    (RB : ∀ W : World, Calls Try.prog 77 #[.agg B] W fun e w' => e = .returned (.agg B2) ∧ Fr (fun _ => False) W w')
    (DI : ∀ W : World, Calls Try.prog 82 #[.agg A2, .agg B2] W fun e w' => e = .returned (.tuple #[.agg D, .int .u64 0]) ∧ Fr (fun _ => False) W w')
    (EL : ∀ W : World, Calls Try.prog 76 #[.agg D] W fun e w' => e = .returned (.agg D) ∧ Fr (fun _ => False) W w')
    (zA : A.size = 4) (zB : B.size = 4) (zR : R.size = 4) (oneR : R.all (·.oneCell') = true) (zD : D.size = 4) (oneD : D.all (·.oneCell') = true) :
    Calls Try.prog 20 #[.agg A, .agg B] w fun e w' => e = .returned (.agg D) ∧ Fr (fun _ => False) w w' := by
  have sA : (Try.prog.info? 24).map (·.size) = some A.size := by rw [zA]; kernel_rfl
  have sB : (Try.prog.info? 24).map (·.size) = some B.size := by rw [zB]; kernel_rfl
  have sR : (Try.prog.info? 24).map (·.size) = some R.size := by rw [zR]; kernel_rfl
  have zR' : (#[.int .u64 0, .int .u64 0, .int .u64 0, .int .u64 0] : Array Value).size = R.size := by rw [zR]; rfl
  have sD : (Try.prog.info? 100).map (·.size) = some D.size := by rw [zD]; kernel_rfl
  have sDe : (Try.prog.info? 24).map (·.size) = some D.size := by rw [zD]; kernel_rfl
  have sRf : (Try.prog.info? 100).map (·.size) = some R.size := by rw [zR]; kernel_rfl
  have zD' : (#[.int .u64 0, .int .u64 0, .int .u64 0, .int .u64 0] : Array Value).size = D.size := by rw [zD]; rfl
  have zDR : D.size = R.size := by rw [zR, zD]
  have HA := Lib.hid ((Below.heap_alloc ((w.alloc (.cells A 24)).alloc (.cells B 24)) (.cells #[.int .u64 0, .int .u64 0, .int .u64 0, .int .u64 0] 24) _ (by simp; omega)).trans (heap_alloc2_old w _ _))
  have HB := Lib.hid ((Below.heap_alloc ((w.alloc (.cells A 24)).alloc (.cells B 24)) (.cells #[.int .u64 0, .int .u64 0, .int .u64 0, .int .u64 0] 24) _ (by simp)).trans (heap_alloc2_new w _ _))
  have HR := Lib.hid (heap_at ((w.alloc (.cells A 24)).alloc (.cells B 24)) #[.int .u64 0, .int .u64 0, .int .u64 0, .int .u64 0] 24 (w.heap.size + 1 + 1) (by simp))
  have HF := Lib.hid (((((Fr.refl (fun _ => False) w).alloc (.cells A 24)).alloc (.cells B 24)).alloc (.cells #[.int .u64 0, .int .u64 0, .int .u64 0, .int .u64 0] 24)))
  clear zA zB zR zD
  go_enter Try.func20, Try.ntmps20
  go_wp2_with fail
  refine wp_region_late 10 [9] [(5, .cells #[.int .u64 0, .int .u64 0, .int .u64 0, .int .u64 0] 100)] (fun _ _ _ _ _ _ h => h) (by kernel_rfl) (by kernel_rfl) (mk_one ⟨_, rfl, makes_alloc _ _ _ _ _ _ Try.allocF⟩) ?_
  apply Exists.intro
  refine ⟨?wk, ?fin⟩
  case wk =>
    intro γ
    simp only [List.take_succ_cons, List.take_zero]
    repeat (any_goals (first | (go_big_quiet_want; (with_reducible refine quiet_load_rowg 24 (.tmp 2) rfl w.heap.size rfl 24 A (0, 0) _ HA.out Try.underlying24 rfl sA ?_); simp only [Act.put, List.setIfInBounds_toArray, List.set_cons_zero, List.set_cons_succ]; go_big_quiet_on) | (go_big_quiet_want; (with_reducible refine quiet_load_rowg 24 (.tmp 3) rfl (w.heap.size + 1) rfl 24 B (0, 0) _ HB.out Try.underlying24 rfl sB ?_); simp only [Act.put, List.setIfInBounds_toArray, List.set_cons_zero, List.set_cons_succ]; go_big_quiet_on) | go_big_quiet_step (((first | (go_at_call 78; with_reducible exact Calls.keepg (PA _)) | (go_at_call 78; with_reducible exact Calls.keepg (PB _)) | (go_at_call 77; with_reducible exact Calls.keepg (RA _)) | (go_at_call 77; with_reducible exact Calls.keepg (RB _)) | (go_at_call 82; with_reducible exact Calls.keepg (DI _))))) | quiet_step (((first | (go_at_call 78; with_reducible exact Calls.keepg (PA _)) | (go_at_call 78; with_reducible exact Calls.keepg (PB _)) | (go_at_call 77; with_reducible exact Calls.keepg (RA _)) | (go_at_call 77; with_reducible exact Calls.keepg (RB _)) | (go_at_call 82; with_reducible exact Calls.keepg (DI _)))))))
    exact wpQuiet_nil rfl
  case fin =>
    intro gs wx hF hg hne
    obtain ⟨l5, h5⟩ := hg 0 _ rfl
    simp only [putAll, List.drop_succ_cons, List.drop_zero, List.length_nil, List.length_cons, Nat.zero_add]
    simp only [Act.put, List.setIfInBounds_toArray, List.set_cons_zero, List.set_cons_succ]
    generalize gs 0 = g at *
    have R1 := hF.keep HR.out
    have G1 := HF.out.trans hF (fun _ h => h.elim)
    have l6 : w.heap.size + 1 + 1 < g := Nat.lt_of_lt_of_le (lt_of_block HR.out) l5
    clear hg hne hF l5
    have D2 := setRow_heap _ _ _ D _ _ h5
    have R2 := (setRow_other wx g (w.heap.size + 1 + 1) D (by omega)).trans R1
    have G2 : Fr (fun _ => False) w (wx.setRow g D) := G1.trans (Fr.setRow (S := fun k => k = g) (Fr.refl _ _) rfl D) (fun i hi => Or.inr (by omega))
    go_wp2_with (first
      | (with_reducible refine wpList_store_row rfl 100 (.tmp 5) (.tmp 15) rfl g D rfl rfl 100 #[.int .u64 0, .int .u64 0, .int .u64 0, .int .u64 0] h5 sD zD' oneD ?_)
      | (with_reducible refine wpList_load_row rfl 100 (.tmp 5) rfl g rfl 100 D (0, 0) _ D2 Try.underlying100 rfl sD ?_))
    clear h5 R1 G1
    generalize wx.setRow g D = w2 at *
    refine (EL _).mono ?_
    rintro e w5 ⟨rfl, F5⟩
    have R5 := F5.keep R2
    have G5 := G2.trans F5 (fun _ h => h.elim)
    clear D2 R2 G2 F5
    go_wp2_with (with_reducible refine wpList_store_row rfl 24 (.tmp 4) (.tmp 27) rfl (w.heap.size + 1 + 1) D rfl rfl 24 #[.int .u64 0, .int .u64 0, .int .u64 0, .int .u64 0] R5 sDe zD' oneD ?_)
    refine bodyPost_ret (results_cell_row rfl _ _ (w.heap.size + 1 + 1) 24 D (0, 0) _ rfl (setRow_heap _ _ _ _ _ _ R5) Try.underlying24 rfl sDe) rfl ?_
    exact ⟨rfl, G5.trans (Fr.setRow (S := fun k => k = w.heap.size + 1 + 1) (Fr.refl _ _) rfl _) (fun i hi => Or.inr (by omega))⟩

theorem sub_num (x y : Nat) (hx : x < p25519) (hy : y < p25519) : (x < y → ((x + 115792089237316195423570985008687907853269984665640564039457584007913129639936 - y) % 115792089237316195423570985008687907853269984665640564039457584007913129639936 + p25519) % 115792089237316195423570985008687907853269984665640564039457584007913129639936 = (x + (p25519 - y)) % p25519) ∧ (¬ x < y → (x + 115792089237316195423570985008687907853269984665640564039457584007913129639936 - y) % 115792089237316195423570985008687907853269984665640564039457584007913129639936 = (x + (p25519 - y)) % p25519) := by
  rw [P_val] at *
  refine ⟨fun h => by omega, fun h => by omega⟩
theorem p_lt : p25519 < 115792089237316195423570985008687907853269984665640564039457584007913129639936 := by decide +kernel
theorem fsub_any (X Y : Nat) (hX : X < 115792089237316195423570985008687907853269984665640564039457584007913129639936) (hY : Y < 115792089237316195423570985008687907853269984665640564039457584007913129639936) (w : World) :
    Calls Try.prog 20 #[.agg (nc X), .agg (nc Y)] w fun e w' => e = .returned (.agg (nc ((X % p25519 + (p25519 - Y % p25519)) % p25519))) ∧ Fr (fun _ => False) w w' := by
  obtain ⟨h1, h2⟩ := sub_num (X % p25519) (Y % p25519) (Nat.mod_lt _ p_pos) (Nat.mod_lt _ p_pos)
  have DI := fun W => fdiff_any (X % p25519) (Y % p25519) (mod_p_lt X) (mod_p_lt Y) W
  have hD : (X % p25519 + 115792089237316195423570985008687907853269984665640564039457584007913129639936 - Y % p25519) % 115792089237316195423570985008687907853269984665640564039457584007913129639936 < 115792089237316195423570985008687907853269984665640564039457584007913129639936 := Nat.mod_lt _ (by decide)
  by_cases c : X % p25519 < Y % p25519
  · simp only [if_pos c] at DI
    rw [← h1 c]
    exact fsub_op1 (nc X) (nc Y) (nc (X % p25519)) (nc (Y % p25519)) (nc ((X % p25519 + 115792089237316195423570985008687907853269984665640564039457584007913129639936 - Y % p25519) % 115792089237316195423570985008687907853269984665640564039457584007913129639936)) (nc p25519) _ _ w (fparts_any X hX) (fparts_any Y hY) (frest_any X hX) (frest_any Y hY) DI fprime_any (fparts_any _ p_lt)
      (fsum_any _ _ hD p_lt) (felem_any _ (Nat.mod_lt _ (by decide))) rfl rfl rfl (nc_one _) rfl (nc_one _)
  · simp only [if_neg c] at DI
    rw [← h2 c]
    exact fsub_op0 (nc X) (nc Y) (nc (X % p25519)) (nc (Y % p25519)) (nc ((X % p25519 + 115792089237316195423570985008687907853269984665640564039457584007913129639936 - Y % p25519) % 115792089237316195423570985008687907853269984665640564039457584007913129639936)) (nc 0) (nc 0) 0 w (fparts_any X hX) (fparts_any Y hY) (frest_any X hX) (frest_any Y hY) DI
      (felem_any _ hD) rfl rfl rfl (nc_one _) rfl (nc_one _)
set_option maxRecDepth 100000 in
theorem fneg_op (A R : Array Value) (w : World)
    (SB : ∀ W : World, Calls Try.prog 20 #[.agg #[.int .u64 0, .int .u64 0, .int .u64 0, .int .u64 0], .agg A] W fun e w' => e = .returned (.agg R) ∧ Fr (fun _ => False) W w')
    (zA : A.size = 4) (zR : R.size = 4) (oneR : R.all (·.oneCell') = true) :
    Calls Try.prog 24 #[.agg A] w fun e w' => e = .returned (.agg R) ∧ Fr (fun _ => False) w w' := by
  have sA : (Try.prog.info? 24).map (·.size) = some A.size := by rw [zA]; kernel_rfl
  have sR : (Try.prog.info? 24).map (·.size) = some R.size := by rw [zR]; kernel_rfl
  have zR' : (#[.int .u64 0, .int .u64 0, .int .u64 0, .int .u64 0] : Array Value).size = R.size := by rw [zR]; rfl
  have A0 := heap_alloc2_old w (.cells A 24) (.cells #[.int .u64 0, .int .u64 0, .int .u64 0, .int .u64 0] 24)
  have R0 := heap_alloc2_new w (.cells A 24) (.cells #[.int .u64 0, .int .u64 0, .int .u64 0, .int .u64 0] 24)
  have F0 := (((Fr.refl (fun _ => False) w).alloc (.cells A 24)).alloc (.cells #[.int .u64 0, .int .u64 0, .int .u64 0, .int .u64 0] 24))
  clear zA zR
  go_enter Try.func24, Try.ntmps24
  go_wp2_with (with_reducible refine wpList_load_row rfl 24 (.tmp 1) rfl w.heap.size rfl 24 A (0, 0) _ A0 Try.underlying24 rfl sA ?_)
  refine (SB _).mono ?_
  rintro e w1 ⟨rfl, F1⟩
  have R3 := F1.keep R0
  have G3 := F0.trans F1 (fun _ h => h.elim)
  clear A0 R0 F0 F1
  go_wp2_with (with_reducible refine wpList_store_row rfl 24 (.tmp 2) (.tmp 5) rfl (w.heap.size + 1) R rfl rfl 24 #[.int .u64 0, .int .u64 0, .int .u64 0, .int .u64 0] R3 sR zR' oneR ?_)
  refine bodyPost_ret (results_cell_row rfl _ _ (w.heap.size + 1) 24 R (0, 0) _ rfl (setRow_heap _ _ _ _ _ _ R3) Try.underlying24 rfl sR) rfl ?_
  exact ⟨rfl, G3.trans (Fr.setRow (S := fun k => k = w.heap.size + 1) (Fr.refl _ _) rfl _) (fun i hi => Or.inr (by omega))⟩
theorem fneg_any (X : Nat) (hX : X < 115792089237316195423570985008687907853269984665640564039457584007913129639936) (w : World) :
    Calls Try.prog 24 #[.agg (nc X)] w fun e w' => e = .returned (.agg (nc ((p25519 - X % p25519) % p25519))) ∧ Fr (fun _ => False) w w' := by
  have SB := fun W => fsub_any 0 X (by decide) hX W
  rw [Nat.zero_mod, Nat.zero_add] at SB
  exact fneg_op (nc X) _ w SB rfl rfl (nc_one _)
end Go.Proofs.Ytahnlnflcgehaaa
namespace Go.Proofs.Ytahnlnflcgehaaa
open Go.RowKit Pri
set_option linter.unusedVariables false

theorem Try.guardElem : Try.prog.eqGuardType Try.prog.depth 24 = false := by kernel_rfl
theorem eql_elem (X Y : Nat) (hX : X < 115792089237316195423570985008687907853269984665640564039457584007913129639936) (hY : Y < 115792089237316195423570985008687907853269984665640564039457584007913129639936) (w : World) : (binOp .eql 24 (.agg (nc X)) (.agg (nc Y))).run Try.prog w = .ok (.bool (decide (X = Y))) w := by
  obtain ⟨a, b, c, d, _, _, _, _, hx, ex⟩ := nc_open X hX
  obtain ⟨x, y, z, t, _, _, _, _, hy, ey⟩ := nc_open Y hY
  rw [ex, ey]
  refine (eql_ints w 24 22 4 .u64 Try.underlying24 Try.underlying22 Try.sizeW [a, b, c, d] [x, y, z, t] rfl rfl).trans ?_
  have e : (([(a : Int), b, c, d] : List Int) == [(x : Int), y, z, t]) = decide (X = Y) := by
    by_cases h : X = Y
    · rw [decide_eq_true h]
      have : a = x ∧ b = y ∧ c = z ∧ d = t := by unfold nv at hx hy; omega
      obtain ⟨rfl, rfl, rfl, rfl⟩ := this
      simp
    · rw [decide_eq_false h]
      have : ¬ (a = x ∧ b = y ∧ c = z ∧ d = t) := fun ⟨h1, h2, h3, h4⟩ => h (by rw [hx, hy, h1, h2, h3, h4])
      rw [beq_eq_false_iff_ne]
      intro hc
      simp only [List.cons.injEq, and_true] at hc
      exact this ⟨by omega, by omega, by omega, by omega⟩
  rw [e]
set_option maxRecDepth 100000 in
set_option maxHeartbeats 1600000 in
theorem fsame_op (A B A2 B2 : Array Value) (D : Bool) (w : World)
    (RA : ∀ W : World, Calls Try.prog 17 #[.agg A] W fun e w' => e = .returned (.agg A2) ∧ Fr (fun _ => False) W w')
    (RB : ∀ W : World, Calls Try.prog 17 #[.agg B] W fun e w' => e = .returned (.agg B2) ∧ Fr (fun _ => False) W w')
    (EQ : ∀ W : World, (binOp .eql 24 (.agg A2) (.agg B2)).run Try.prog W = .ok (.bool D) W) (zA : A.size = 4) (zB : B.size = 4) :
    Calls Try.prog 26 #[.agg A, .agg B] w fun e w' => e = .returned (.bool D) ∧ Fr (fun _ => False) w w' := by
  have sA : (Try.prog.info? 24).map (·.size) = some A.size := by rw [zA]; kernel_rfl
  have sB : (Try.prog.info? 24).map (·.size) = some B.size := by rw [zB]; kernel_rfl
  have HA := Lib.hid (heap_alloc2_old w (.cells A 24) (.cells B 24))
  have HB := Lib.hid (heap_alloc2_new w (.cells A 24) (.cells B 24))
  have HF := Lib.hid (((Fr.refl (fun _ => False) w).alloc (.cells A 24)).alloc (.cells B 24))
  have EG := Try.guardElem
  clear zA zB
  go_enter Try.func26, Try.ntmps26
  go_wp2_with fail
  refine wp_region_keep (by kernel_rfl) (by kernel_rfl) ?_
  repeat (any_goals (first | (go_big_quiet_want; (with_reducible refine quiet_load_row 24 (.tmp 2) rfl w.heap.size rfl 24 A (0, 0) _ HA.out Try.underlying24 rfl sA ?_); simp only [Act.put, List.setIfInBounds_toArray, List.set_cons_zero, List.set_cons_succ]; go_big_quiet_on) | (go_big_quiet_want; (with_reducible refine quiet_load_row 24 (.tmp 3) rfl (w.heap.size + 1) rfl 24 B (0, 0) _ HB.out Try.underlying24 rfl sB ?_); simp only [Act.put, List.setIfInBounds_toArray, List.set_cons_zero, List.set_cons_succ]; go_big_quiet_on) | go_big_quiet_step (((first | (go_at_call 17; with_reducible exact Calls.keep (RA _)) | (go_at_call 17; with_reducible exact Calls.keep (RB _))))) | quiet_step (((first | (go_at_call 17; with_reducible exact Calls.keep (RA _)) | (go_at_call 17; with_reducible exact Calls.keep (RB _)))))))
  refine wpQuiet_nil ?_
  intro _ hw'
  obtain ⟨y, rfl⟩ := hw'
  go_wp2
  go_ret
  exact ⟨rfl, HF.out.trans y.h (fun _ h => h.elim)⟩
theorem fsame_any (X Y : Nat) (hX : X < 115792089237316195423570985008687907853269984665640564039457584007913129639936) (hY : Y < 115792089237316195423570985008687907853269984665640564039457584007913129639936) (w : World) :
    Calls Try.prog 26 #[.agg (nc X), .agg (nc Y)] w fun e w' => e = .returned (.bool (decide (X % p25519 = Y % p25519))) ∧ Fr (fun _ => False) w w' :=
  fsame_op (nc X) (nc Y) _ _ _ w (fRest_any X hX) (fRest_any Y hY) (eql_elem _ _ (mod_p_lt X) (mod_p_lt Y)) rfl rfl
set_option maxRecDepth 100000 in
set_option maxHeartbeats 1600000 in
theorem fodd_any (X : Nat) (hX : X < 115792089237316195423570985008687907853269984665640564039457584007913129639936) (w : World) :
    Calls Try.prog 27 #[.agg (nc X)] w fun e w' => e = .returned (.bool (decide (X % p25519 % 2 = 1))) ∧ Fr (fun _ => False) w w' := by
  have RX := fun W => fRest_any X hX W
  have hR := mod_p_lt X
  generalize X % p25519 = R at *
  obtain ⟨r0, r1, r2, r3, h0, h1, h2, h3, hr, er⟩ := nc_open R hR
  have hb := bit_and r0 h0
  have hd : decide (R % 2 = 1) = decide (r0 % 2 = 1) := by
    have : R % 2 = r0 % 2 := by rw [hr]; unfold nv; omega
    rw [this]
  rw [hd]
  rw [er] at RX
  have A0 := heap_alloc_new w (.cells (nc X) 24)
  have zX : (Try.prog.info? 24).map (·.size) = some (nc X).size := by show _ = some 4; kernel_rfl
  have hd2 : decide (r0 % 2 = 1) = ((((r0 % 2 : Nat) : Int)) == 1) := by
    rcases Nat.mod_two_eq_zero_or_one r0 with c | c <;> rw [c] <;> rfl
  rw [hd2]
  generalize r0 % 2 = b at *
  have HX := Lib.hid (rfl : nc X = nc X)
  generalize hNX : nc X = A at *
  have HN := Lib.hid hNX
  have i0 : ∀ W, (Instr.index 24 (.agg #[.int .u64 (r0 : Int), .int .u64 (r1 : Int), .int .u64 (r2 : Int), .int .u64 (r3 : Int)]) (.int .i64 0)).run Try.prog W = .ok (.int .u64 (r0 : Int)) W := fun _ => by kernel_rfl
  clear hd hd2 er hr hR hX HX hNX
  go_enter Try.func27, Try.ntmps27
  go_wp2_with (with_reducible refine wpList_load_row rfl 24 (.tmp 1) rfl w.heap.size rfl 24 A (0, 0) _ A0 Try.underlying24 rfl zX ?_)
  refine (RX _).mono ?_
  rintro e w1 ⟨rfl, F1⟩
  go_wp2
  go_ret
  exact ⟨rfl, ((Fr.refl _ w).alloc _).trans F1 (fun _ h => h.elim)⟩
end Go.Proofs.Ytahnlnflcgehaaa
namespace Go.Proofs.Ytahnlnflcgehaaa
open Go.RowKit Pri
set_option linter.unusedVariables false

/-- X's n-th power, modulo 2^255 - 19. -/
def pwr (X n : Nat) : Nat := X ^ n % p25519
theorem pwr_zero (X : Nat) : pwr X 0 = 1 := by unfold pwr; rw [Nat.pow_zero]; exact one_mod_p
theorem pwr_succ (X n : Nat) : pwr X n * X % p25519 = pwr X (n + 1) := by unfold pwr; rw [Nat.pow_succ, Nat.mod_mul_mod]
theorem pwr_add (X m n : Nat) : pwr X m * pwr X n % p25519 = pwr X (m + n) := by unfold pwr; rw [Nat.pow_add, ← Nat.mul_mod]
theorem pwr_lt (X n : Nat) : pwr X n < 115792089237316195423570985008687907853269984665640564039457584007913129639936 := mod_p_lt _
/-- Sixteen numbers' words. -/
def rows (v : Nat → Nat) : Array Value := uq 64 (fun j => dig 18446744073709551616 (v (j / 4)) (j % 4))
theorem rows_size (v : Nat → Nat) : (rows v).size = 64 := uq_size _ _
theorem rows_one (v : Nat → Nat) : (rows v).all (·.oneCell') = true := uq_one _ _
theorem rows_congr {v u : Nat → Nat} (h : ∀ i, i < 16 → v i = u i) : rows v = rows u := uq_congr (fun j hj => by rw [h (j / 4) (by omega)])
theorem rows_range {w : World} {b : Nat} {v : Nat → Nat} {t : TypeId} {fr : Nat × Nat} (h : w.heap[b]? = some (.cells (rows v) t fr)) (i : Nat) (hi : i < 16) : w.rangeAt b (4 * i) (nc (v i)).toList := fun j u hj => by
  have hj4 : j < 4 := by have := (List.getElem?_eq_some_iff.1 hj).1; simpa [nc] using this
  rw [cell_of_block h]
  unfold rows
  rw [uq_get 64 _ (4 * i + j) (by omega), show (4 * i + j) / 4 = i by omega, show (4 * i + j) % 4 = j by omega]
  have e : (nc (v i))[j]? = some (.int .u64 (dig 18446744073709551616 (v i) j : Int)) := by rw [nc_uq]; exact uq_get 4 _ j hj4
  rw [← e]
  simpa using hj
theorem rows_set {w : World} {b : Nat} {v : Nat → Nat} {t : TypeId} (h : w.heap[b]? = some (.cells (rows v) t (0, 0))) (i X : Nat) (hi : i < 16) :
    (w.setCells b (4 * i) (nc X).toList).heap[b]? = some (.cells (rows (fun j => if j = i then X else v j)) t (0, 0)) := by
  rw [nc_uq]
  have e : (uq 4 (dig 18446744073709551616 X)).toList = [.int .u64 (dig 18446744073709551616 X 0 : Int), .int .u64 (dig 18446744073709551616 X 1 : Int), .int .u64 (dig 18446744073709551616 X 2 : Int), .int .u64 (dig 18446744073709551616 X 3 : Int)] := rfl
  rw [e]
  show ((((w.setCell ⟨b, 4 * i, none⟩ _).setCell ⟨b, 4 * i + 1, none⟩ _).setCell ⟨b, 4 * i + 1 + 1, none⟩ _).setCell ⟨b, 4 * i + 1 + 1 + 1, none⟩ _).heap[b]? = _
  rw [block_setCell (block_setCell (block_setCell (block_setCell h _ _) _ _) _ _) _ _]
  unfold rows
  rw [uq_set 64 _ _ _ (by omega), uq_set 64 _ _ _ (by omega), uq_set 64 _ _ _ (by omega), uq_set 64 _ _ _ (by omega)]
  congr 3
  funext j
  show _ = dig 18446744073709551616 (if j / 4 = i then X else v (j / 4)) (j % 4)
  by_cases c : j / 4 = i
  · rw [if_pos c]
    have : j = 4 * i ∨ j = 4 * i + 1 ∨ j = 4 * i + 1 + 1 ∨ j = 4 * i + 1 + 1 + 1 := by omega
    rcases this with h | h | h | h
    · rw [if_neg (by omega), if_neg (by omega), if_neg (by omega), if_pos h, show j % 4 = 0 by omega]
    · rw [if_neg (by omega), if_neg (by omega), if_pos h, show j % 4 = 1 by omega]
    · rw [if_neg (by omega), if_pos h, show j % 4 = 2 by omega]
    · rw [if_pos h, show j % 4 = 3 by omega]
  · rw [if_neg c, if_neg (by omega), if_neg (by omega), if_neg (by omega), if_neg (by omega)]
theorem Fr.setCells {S : Nat → Prop} {a : World} {b : Nat} (hb : S b) : ∀ (vs : List Value) (o : Nat) (w : World), Fr S a w → Fr S a (w.setCells b o vs)
  | [], _, _, h => h
  | v :: r, o, w, h => Fr.setCells hb r (o + 1) _ (h.setCell (Or.inl hb) v)
theorem rows_there {w : World} {b : Nat} {v : Nat → Nat} {t : TypeId} (h : w.heap[b]? = some (.cells (rows v) t (0, 0))) (i : Nat) (hi : i < 16) : w.there b (4 * i) 4 := fun j hj => by
  refine ⟨?_, free_of_block h _⟩
  rw [cell_of_block h]
  unfold rows
  rw [uq_get 64 _ _ (by omega)]; rfl
section
variable {Pg : Program}
theorem wpList_store_rows {ops : Array Oper} {rest : List Oper} {op : Oper} {a : Act} {w : World} {Q : Exit → Act → World → Prop} (hgd : op.guard = none) (ty : TypeId) (x y : Operand) (ho : op.op = .store ty x y)
    (b o i : Nat) (hoi : o = 4 * i) (hi16 : i < 16) (X : Nat) (hx : a.eval x = .pointer (some ⟨b, o, none⟩)) (hy : a.eval y = .agg (nc X)) (hi : (Pg.info? ty).map (·.size) = some 4)
    (v : Nat → Nat) (t : TypeId) (hg : w.heap[b]? = some (.cells (rows v) t (0, 0)))
    (h : ∀ w2 : World, w2.heap[b]? = some (.cells (rows (fun j => if j = i then X else v j)) t (0, 0)) → Fr (fun k => k = b) w w2 → wpList Pg ops Q rest (a.put op.dst undef) w2) : wpList Pg ops Q (op :: rest) a w := by
  subst hoi
  exact wpList_store_mid hgd ty x y ho b (4 * i) (nc X) hx hy (rows_there hg i hi16) (by rw [hi]; rfl) (nc_one X) (h _ (rows_set hg i X hi16) (Fr.setCells (S := fun k => k = b) rfl _ _ _ (Fr.refl _ w)))
theorem quiet_load_rowsg {K : Act → Prop} {a : Act} {op : Oper} {W0 : World} {γ : Gd W0} (ty : TypeId) (x : Operand) (ho : op.op = .load ty x) (b o i : Nat) (hoi : o = 4 * i) (hi16 : i < 16) (hx : a.eval x = .pointer (some ⟨b, o, none⟩))
    (v : Nat → Nat) (t : TypeId) (fr : Nat × Nat) (d : TypeDesc) (hg : W0.heap[b]? = some (.cells (rows v) t fr)) (hu : Pg.underlying ty = some d) (hd : d.isRow = true) (hi : (Pg.info? ty).map (·.size) = some 4)
    (hk : K (a.put op.dst (.agg (nc (v i))))) : op.quiet Pg a (fun w' => ∃ y : Wg γ, w' = y.w) K :=
  ⟨.agg (nc (v i)), fun w' ⟨y, e⟩ => by
    subst e
    subst hoi
    have hr := run_loadAt_mid (P := Pg) y.w b (4 * i) ty (nc (v i)).toList d (rows_range (y.blk hg) i hi16) hu hd (by rw [hi]; rfl)
    unfold Oper.quietAt execOp
    simp only [ho, hx, Sem.run_bind, hr, Result.andThen_ok, Sem.run_pure, Oper.quietUpon, Array.toArray_toList]
    exact ⟨trivial, trivial⟩, hk⟩
end
end Go.Proofs.Ytahnlnflcgehaaa
namespace Go.Proofs.Ytahnlnflcgehaaa
open Go.RowKit Pri
set_option linter.unusedVariables false

theorem rows_start : (#[.int .u64 1, .int .u64 0, .int .u64 0, .int .u64 0, .int .u64 0, .int .u64 0, .int .u64 0, .int .u64 0, .int .u64 0, .int .u64 0, .int .u64 0, .int .u64 0, .int .u64 0, .int .u64 0, .int .u64 0, .int .u64 0, .int .u64 0, .int .u64 0, .int .u64 0, .int .u64 0, .int .u64 0, .int .u64 0, .int .u64 0, .int .u64 0, .int .u64 0, .int .u64 0, .int .u64 0, .int .u64 0, .int .u64 0, .int .u64 0, .int .u64 0, .int .u64 0, .int .u64 0, .int .u64 0, .int .u64 0, .int .u64 0, .int .u64 0, .int .u64 0, .int .u64 0, .int .u64 0, .int .u64 0, .int .u64 0, .int .u64 0, .int .u64 0, .int .u64 0, .int .u64 0, .int .u64 0, .int .u64 0, .int .u64 0, .int .u64 0, .int .u64 0, .int .u64 0, .int .u64 0, .int .u64 0, .int .u64 0, .int .u64 0, .int .u64 0, .int .u64 0, .int .u64 0, .int .u64 0, .int .u64 0, .int .u64 0, .int .u64 0, .int .u64 0] : Array Value) = rows (fun j => if j = 0 then 1 else 0) := by kernel_rfl
theorem wpList_build_as {Pg : Program} {ops : Array Oper} {rest : List Oper} {o : Oper} {a : Act} {w : World} {Q : Exit → Act → World → Prop} (hg : o.guard = none) (t : TypeId) (parts : Array (Nat × Operand)) (ho : o.op = .build t parts)
    (cs : Array Value) (hb : Pg.built t (parts.map fun (i, x) => (i, a.eval x)).toList = some cs) (h : wpList Pg ops Q rest (a.put o.dst (.agg cs)) w) : wpList Pg ops Q (o :: rest) a w :=
  wpList_build hg t parts ho (by rw [hb]; rfl) (by rw [hb]; exact h)
theorem Try.built1 : Try.prog.built 109 [(0, .agg #[.int .u64 1, .int .u64 0, .int .u64 0, .int .u64 0])] = some (rows (fun j => if j = 0 then 1 else 0)) := by rw [← rows_start]; kernel_rfl
theorem Try.alloc64 : ∀ w, (Instr.alloc 109 true (.tuple #[])).run Try.prog w = .ok (.pointer (some ⟨w.heap.size, 0, none⟩)) (w.alloc (.cells #[.int .u64 0, .int .u64 0, .int .u64 0, .int .u64 0, .int .u64 0, .int .u64 0, .int .u64 0, .int .u64 0, .int .u64 0, .int .u64 0, .int .u64 0, .int .u64 0, .int .u64 0, .int .u64 0, .int .u64 0, .int .u64 0, .int .u64 0, .int .u64 0, .int .u64 0, .int .u64 0, .int .u64 0, .int .u64 0, .int .u64 0, .int .u64 0, .int .u64 0, .int .u64 0, .int .u64 0, .int .u64 0, .int .u64 0, .int .u64 0, .int .u64 0, .int .u64 0, .int .u64 0, .int .u64 0, .int .u64 0, .int .u64 0, .int .u64 0, .int .u64 0, .int .u64 0, .int .u64 0, .int .u64 0, .int .u64 0, .int .u64 0, .int .u64 0, .int .u64 0, .int .u64 0, .int .u64 0, .int .u64 0, .int .u64 0, .int .u64 0, .int .u64 0, .int .u64 0, .int .u64 0, .int .u64 0, .int .u64 0, .int .u64 0, .int .u64 0, .int .u64 0, .int .u64 0, .int .u64 0, .int .u64 0, .int .u64 0, .int .u64 0, .int .u64 0] 109)) := fun w => by kernel_rfl
theorem Try.info4 : (Try.prog.info? 24).map (·.size) = some 4 := by kernel_rfl
theorem Try.info64 : (Try.prog.info? 109).map (·.size) = some 64 := by kernel_rfl
set_option maxRecDepth 100000 in
set_option maxHeartbeats 3200000 in
theorem ffirst_any (X : Nat) (hX : X < 115792089237316195423570985008687907853269984665640564039457584007913129639936) (w : World) :
    Calls Try.prog 85 #[.agg (nc X)] w fun e w' => e = .returned (.agg (rows (pwr X))) ∧ Fr (fun _ => False) w w' := by
  have SM := fun W => fsmall_any 1 (by decide) W
  rw [nc0_ 1 (by decide), show ((1 : Nat) : Int) = 1 from rfl] at SM
  have MU := fun m W => fmul_any (pwr X m) X (pwr_lt X m) hX W
  have HM := Lib.hid MU
  have sX : (Try.prog.info? 24).map (·.size) = some (nc X).size := by show _ = some 4; kernel_rfl
  have A0 := heap_alloc2_old w (.cells (nc X) 24) (.cells #[.int .u64 0, .int .u64 0, .int .u64 0, .int .u64 0, .int .u64 0, .int .u64 0, .int .u64 0, .int .u64 0, .int .u64 0, .int .u64 0, .int .u64 0, .int .u64 0, .int .u64 0, .int .u64 0, .int .u64 0, .int .u64 0, .int .u64 0, .int .u64 0, .int .u64 0, .int .u64 0, .int .u64 0, .int .u64 0, .int .u64 0, .int .u64 0, .int .u64 0, .int .u64 0, .int .u64 0, .int .u64 0, .int .u64 0, .int .u64 0, .int .u64 0, .int .u64 0, .int .u64 0, .int .u64 0, .int .u64 0, .int .u64 0, .int .u64 0, .int .u64 0, .int .u64 0, .int .u64 0, .int .u64 0, .int .u64 0, .int .u64 0, .int .u64 0, .int .u64 0, .int .u64 0, .int .u64 0, .int .u64 0, .int .u64 0, .int .u64 0, .int .u64 0, .int .u64 0, .int .u64 0, .int .u64 0, .int .u64 0, .int .u64 0, .int .u64 0, .int .u64 0, .int .u64 0, .int .u64 0, .int .u64 0, .int .u64 0, .int .u64 0, .int .u64 0] 109)
  have R0 := heap_alloc2_new w (.cells (nc X) 24) (.cells #[.int .u64 0, .int .u64 0, .int .u64 0, .int .u64 0, .int .u64 0, .int .u64 0, .int .u64 0, .int .u64 0, .int .u64 0, .int .u64 0, .int .u64 0, .int .u64 0, .int .u64 0, .int .u64 0, .int .u64 0, .int .u64 0, .int .u64 0, .int .u64 0, .int .u64 0, .int .u64 0, .int .u64 0, .int .u64 0, .int .u64 0, .int .u64 0, .int .u64 0, .int .u64 0, .int .u64 0, .int .u64 0, .int .u64 0, .int .u64 0, .int .u64 0, .int .u64 0, .int .u64 0, .int .u64 0, .int .u64 0, .int .u64 0, .int .u64 0, .int .u64 0, .int .u64 0, .int .u64 0, .int .u64 0, .int .u64 0, .int .u64 0, .int .u64 0, .int .u64 0, .int .u64 0, .int .u64 0, .int .u64 0, .int .u64 0, .int .u64 0, .int .u64 0, .int .u64 0, .int .u64 0, .int .u64 0, .int .u64 0, .int .u64 0, .int .u64 0, .int .u64 0, .int .u64 0, .int .u64 0, .int .u64 0, .int .u64 0, .int .u64 0, .int .u64 0] 109)
  have F0 := (((Fr.refl (fun _ => False) w).alloc (.cells (nc X) 24)).alloc (.cells #[.int .u64 0, .int .u64 0, .int .u64 0, .int .u64 0, .int .u64 0, .int .u64 0, .int .u64 0, .int .u64 0, .int .u64 0, .int .u64 0, .int .u64 0, .int .u64 0, .int .u64 0, .int .u64 0, .int .u64 0, .int .u64 0, .int .u64 0, .int .u64 0, .int .u64 0, .int .u64 0, .int .u64 0, .int .u64 0, .int .u64 0, .int .u64 0, .int .u64 0, .int .u64 0, .int .u64 0, .int .u64 0, .int .u64 0, .int .u64 0, .int .u64 0, .int .u64 0, .int .u64 0, .int .u64 0, .int .u64 0, .int .u64 0, .int .u64 0, .int .u64 0, .int .u64 0, .int .u64 0, .int .u64 0, .int .u64 0, .int .u64 0, .int .u64 0, .int .u64 0, .int .u64 0, .int .u64 0, .int .u64 0, .int .u64 0, .int .u64 0, .int .u64 0, .int .u64 0, .int .u64 0, .int .u64 0, .int .u64 0, .int .u64 0, .int .u64 0, .int .u64 0, .int .u64 0, .int .u64 0, .int .u64 0, .int .u64 0, .int .u64 0, .int .u64 0] 109))
  clear MU hX
  go_enter Try.func85, Try.ntmps85
  go_wp2_with fail
  refine (SM _).mono ?_
  rintro e w1 ⟨rfl, F1⟩
  have A1 := F1.keep A0
  have R1 := F1.keep R0
  have G1 := F0.trans F1 (fun _ h => h.elim)
  clear A0 R0 F0 F1 SM
  have hB := Try.built1
  have s64 : (Try.prog.info? 109).map (·.size) = some (rows (fun j => if j = 0 then 1 else 0)).size := by rw [rows_size]; kernel_rfl
  have z64 : (#[.int .u64 0, .int .u64 0, .int .u64 0, .int .u64 0, .int .u64 0, .int .u64 0, .int .u64 0, .int .u64 0, .int .u64 0, .int .u64 0, .int .u64 0, .int .u64 0, .int .u64 0, .int .u64 0, .int .u64 0, .int .u64 0, .int .u64 0, .int .u64 0, .int .u64 0, .int .u64 0, .int .u64 0, .int .u64 0, .int .u64 0, .int .u64 0, .int .u64 0, .int .u64 0, .int .u64 0, .int .u64 0, .int .u64 0, .int .u64 0, .int .u64 0, .int .u64 0, .int .u64 0, .int .u64 0, .int .u64 0, .int .u64 0, .int .u64 0, .int .u64 0, .int .u64 0, .int .u64 0, .int .u64 0, .int .u64 0, .int .u64 0, .int .u64 0, .int .u64 0, .int .u64 0, .int .u64 0, .int .u64 0, .int .u64 0, .int .u64 0, .int .u64 0, .int .u64 0, .int .u64 0, .int .u64 0, .int .u64 0, .int .u64 0, .int .u64 0, .int .u64 0, .int .u64 0, .int .u64 0, .int .u64 0, .int .u64 0, .int .u64 0, .int .u64 0] : Array Value).size = (rows (fun j => if j = 0 then 1 else 0)).size := by rw [rows_size]; rfl
  have o64 := rows_one (fun j => if j = 0 then 1 else 0)
  have K0 := heap_alloc_new w1 (.cells #[.int .u64 0, .int .u64 0, .int .u64 0, .int .u64 0, .int .u64 0, .int .u64 0, .int .u64 0, .int .u64 0, .int .u64 0, .int .u64 0, .int .u64 0, .int .u64 0, .int .u64 0, .int .u64 0, .int .u64 0, .int .u64 0, .int .u64 0, .int .u64 0, .int .u64 0, .int .u64 0, .int .u64 0, .int .u64 0, .int .u64 0, .int .u64 0, .int .u64 0, .int .u64 0, .int .u64 0, .int .u64 0, .int .u64 0, .int .u64 0, .int .u64 0, .int .u64 0, .int .u64 0, .int .u64 0, .int .u64 0, .int .u64 0, .int .u64 0, .int .u64 0, .int .u64 0, .int .u64 0, .int .u64 0, .int .u64 0, .int .u64 0, .int .u64 0, .int .u64 0, .int .u64 0, .int .u64 0, .int .u64 0, .int .u64 0, .int .u64 0, .int .u64 0, .int .u64 0, .int .u64 0, .int .u64 0, .int .u64 0, .int .u64 0, .int .u64 0, .int .u64 0, .int .u64 0, .int .u64 0, .int .u64 0, .int .u64 0, .int .u64 0, .int .u64 0] 109)
  go_wp2_with (first
    | (with_reducible refine wpList_build_as rfl 109 #[(0, .tmp 5)] rfl (rows (fun j => if j = 0 then 1 else 0)) (by exact hB) ?_)
    | (with_reducible refine wpList_store_row rfl 109 (.tmp 3) (.tmp 6) rfl w1.heap.size (rows (fun j => if j = 0 then 1 else 0)) rfl rfl 109 _ K0 s64 z64 o64 ?_))
  have zl := lt_of_block R1
  have F2 : Fr (fun _ => False) w1 ((w1.alloc (.cells #[.int .u64 0, .int .u64 0, .int .u64 0, .int .u64 0, .int .u64 0, .int .u64 0, .int .u64 0, .int .u64 0, .int .u64 0, .int .u64 0, .int .u64 0, .int .u64 0, .int .u64 0, .int .u64 0, .int .u64 0, .int .u64 0, .int .u64 0, .int .u64 0, .int .u64 0, .int .u64 0, .int .u64 0, .int .u64 0, .int .u64 0, .int .u64 0, .int .u64 0, .int .u64 0, .int .u64 0, .int .u64 0, .int .u64 0, .int .u64 0, .int .u64 0, .int .u64 0, .int .u64 0, .int .u64 0, .int .u64 0, .int .u64 0, .int .u64 0, .int .u64 0, .int .u64 0, .int .u64 0, .int .u64 0, .int .u64 0, .int .u64 0, .int .u64 0, .int .u64 0, .int .u64 0, .int .u64 0, .int .u64 0, .int .u64 0, .int .u64 0, .int .u64 0, .int .u64 0, .int .u64 0, .int .u64 0, .int .u64 0, .int .u64 0, .int .u64 0, .int .u64 0, .int .u64 0, .int .u64 0, .int .u64 0, .int .u64 0, .int .u64 0, .int .u64 0] 109)).setRow w1.heap.size (rows (fun j => if j = 0 then 1 else 0))) := ((Fr.refl _ w1).alloc _).trans (Fr.setRow (S := fun k => k = w1.heap.size) (Fr.refl _ _) rfl _) (fun i hi => Or.inr (by omega))
  have A2 := F2.keep A1
  have R2 := F2.keep R1
  have K2 := setRow_heap _ _ _ (rows (fun j => if j = 0 then 1 else 0)) _ _ K0
  have G2 := G1.trans F2 (fun _ h => h.elim)
  clear F2 A1 R1 G1 hB s64 z64 o64 K0
  generalize hg3 : w1.heap.size = g at *
  generalize (w1.alloc (.cells #[.int .u64 0, .int .u64 0, .int .u64 0, .int .u64 0, .int .u64 0, .int .u64 0, .int .u64 0, .int .u64 0, .int .u64 0, .int .u64 0, .int .u64 0, .int .u64 0, .int .u64 0, .int .u64 0, .int .u64 0, .int .u64 0, .int .u64 0, .int .u64 0, .int .u64 0, .int .u64 0, .int .u64 0, .int .u64 0, .int .u64 0, .int .u64 0, .int .u64 0, .int .u64 0, .int .u64 0, .int .u64 0, .int .u64 0, .int .u64 0, .int .u64 0, .int .u64 0, .int .u64 0, .int .u64 0, .int .u64 0, .int .u64 0, .int .u64 0, .int .u64 0, .int .u64 0, .int .u64 0, .int .u64 0, .int .u64 0, .int .u64 0, .int .u64 0, .int .u64 0, .int .u64 0, .int .u64 0, .int .u64 0, .int .u64 0, .int .u64 0, .int .u64 0, .int .u64 0, .int .u64 0, .int .u64 0, .int .u64 0, .int .u64 0, .int .u64 0, .int .u64 0, .int .u64 0, .int .u64 0, .int .u64 0, .int .u64 0, .int .u64 0, .int .u64 0] 109)).setRow g (rows (fun j => if j = 0 then 1 else 0)) = w2 at *
  have hgw : w.heap.size + 1 < g := zl
  clear hg3 zl
  have K2' : w2.heap[g]? = some (.cells (rows (fun j => if j < 1 then pwr X j else 0)) 109 (0, 0)) := K2.trans (congrArg (fun a => some (Obj.cells a 109 (0, 0))) (rows_congr (fun j _ => by
    by_cases c : j = 0
    · subst c; rw [if_pos rfl, if_pos (by omega), pwr_zero]
    · rw [if_neg c, if_neg (by omega)])))
  clear K2
  go_loopw [4] (fun i wr => ∃ n : Nat, 1 ≤ n ∧ n ≤ 16 ∧ i = .int .i64 n ∧ wr.heap[g]? = some (.cells (rows (fun j => if j < n then pwr X j else 0)) 109 (0, 0)) ∧ wr.heap[w.heap.size]? = some (.cells (nc X) 24 (0, 0)) ∧ wr.heap[w.heap.size + 1]? = some (.cells #[.int .u64 0, .int .u64 0, .int .u64 0, .int .u64 0, .int .u64 0, .int .u64 0, .int .u64 0, .int .u64 0, .int .u64 0, .int .u64 0, .int .u64 0, .int .u64 0, .int .u64 0, .int .u64 0, .int .u64 0, .int .u64 0, .int .u64 0, .int .u64 0, .int .u64 0, .int .u64 0, .int .u64 0, .int .u64 0, .int .u64 0, .int .u64 0, .int .u64 0, .int .u64 0, .int .u64 0, .int .u64 0, .int .u64 0, .int .u64 0, .int .u64 0, .int .u64 0, .int .u64 0, .int .u64 0, .int .u64 0, .int .u64 0, .int .u64 0, .int .u64 0, .int .u64 0, .int .u64 0, .int .u64 0, .int .u64 0, .int .u64 0, .int .u64 0, .int .u64 0, .int .u64 0, .int .u64 0, .int .u64 0, .int .u64 0, .int .u64 0, .int .u64 0, .int .u64 0, .int .u64 0, .int .u64 0, .int .u64 0, .int .u64 0, .int .u64 0, .int .u64 0, .int .u64 0, .int .u64 0, .int .u64 0, .int .u64 0, .int .u64 0, .int .u64 0] 109 (0, 0)) ∧ Fr (fun _ => False) w wr) (fun i _ => 16 - (intOf i).toNat)
  case atStart => exact ⟨1, by omega, by omega, by simp, K2', A2, R2, G2⟩
  case round =>
    clear K2' A2 R2 G2
    obtain ⟨n, h1, hn, rfl, hK, hA, hR, hF⟩ := hrel
    by_cases h16 : n < 16
    · as_aux_lemma =>
      obtain ⟨m, rfl⟩ : ∃ m, n = m + 1 := ⟨n - 1, by omega⟩
      have MU := fun W => HM.out m W
      rw [pwr_succ] at MU
      have m0 : (0 : Int) ≤ (m : Int) := by omega
      have m1 : (m : Int) < 15 := by omega
      have e1 : ((m + 1 : Nat) : Int) = (m : Int) + 1 := by omega
      have e2 : IntKind.i64.wrap ((m : Int) + 1 - 1) = (m : Int) := by rw [show (m : Int) + 1 - 1 = (m : Int) by omega]; exact IntWalk.i64_in _ (by omega)
      have e3 : (m : Int) + 1 - 1 = (m : Int) := by omega
      have hK1 := Lib.hid hK
      have HA := Lib.hid hA
      have HR := Lib.hid hR
      have HF := Lib.hid hF
      have hm16 : m < 16 := by omega
      have hm17 : m + 1 < 16 := by omega
      have hv : (fun j => if j < m + 1 then pwr X j else 0) m = pwr X m := by show (if m < m + 1 then _ else _) = _; rw [if_pos (by omega)]
      have HV := Lib.hid hv
      clear hK hA hR hF hv HM
      rw [e1]
      go_wp2_with fail
      have cz := rows_size (fun j => if j < m + 1 then pwr X j else 0)
      refine wp_region_tail 8 [] (by kernel_rfl) (by kernel_rfl) mk_nil ?_
      apply Exists.intro
      refine ⟨?wk, ?fin⟩
      case wk =>
        intro γ
        simp only [List.take_succ_cons, List.take_zero]
        repeat (any_goals (first | (go_big_quiet_want; (with_reducible refine quiet_load_rowsg 24 (.tmp 14) rfl g (m * 4) m (Nat.mul_comm _ _) hm16 rfl (fun j => if j < m + 1 then pwr X j else 0) 109 (0, 0) _ hK1.out Try.underlying24 rfl Try.info4 ?_); simp only [Act.put, List.setIfInBounds_toArray, List.set_cons_zero, List.set_cons_succ]; rw [HV.out]; go_big_quiet_on) | (go_big_quiet_want; (with_reducible refine quiet_load_rowg 24 (.tmp 1) rfl w.heap.size rfl 24 (nc X) (0, 0) _ HA.out Try.underlying24 rfl sX ?_); simp only [Act.put, List.setIfInBounds_toArray, List.set_cons_zero, List.set_cons_succ]; go_big_quiet_on) | go_big_quiet_step (((first | (go_at_call 22; with_reducible exact Calls.keepg (MU _))))) | quiet_step (((first | (go_at_call 22; with_reducible exact Calls.keepg (MU _)))))))
        exact wpQuiet_nil rfl
      case fin =>
        intro gs wx hF hg hne
        simp only [putAll, List.drop_succ_cons, List.drop_zero, List.length_nil, Nat.add_zero]
        have K3 := hF.keep hK1.out
        have A3 := hF.keep HA.out
        have R3 := hF.keep HR.out
        have G3 := HF.out.trans hF (fun _ h => h.elim)
        clear hg hne hF
        clear hK1 HA HR HF
        go_wp2_with (with_reducible refine wpList_store_rows rfl 24 (.tmp 18) (.tmp 17) rfl g ((m + 1) * 4) (m + 1) (Nat.mul_comm _ _) hm17 (pwr X (m + 1)) rfl rfl Try.info4 _ 109 K3 ?_)
        intro w5 K5 F5
        have A5 := F5.block w.heap.size (lt_of_block A3) (by show w.heap.size ≠ g; omega) 
        have R5 := F5.block (w.heap.size + 1) (lt_of_block R3) (by show w.heap.size + 1 ≠ g; omega)
        replace A5 := A5.trans A3
        replace R5 := R5.trans R3
        have G5 := G3.trans F5 (fun i hi => Or.inr (by have : i = g := hi; omega))
        have K6 : w5.heap[g]? = some (.cells (rows (fun j => if j < m + 1 + 1 then pwr X j else 0)) 109 (0, 0)) := K5.trans (congrArg (fun a => some (Obj.cells a 109 (0, 0))) (rows_congr (fun j _ => by
          show (if j = m + 1 then _ else if j < m + 1 then _ else _) = _
          by_cases c : j = m + 1
          · subst c; rw [if_pos rfl, if_pos (by omega)]
          · rw [if_neg c]
            by_cases d : j < m + 1
            · rw [if_pos d, if_pos (by omega)]
            · rw [if_neg d, if_neg (by omega)])))
        clear K5 K3 A3 R3 G3 F5
        go_wp2_with fail
        go_roundw
        case rel => exact ⟨m + 1 + 1, by omega, by omega, by go_num, K6, A5, R5, G5⟩
        case measure => simp [intOf]; omega
    · obtain rfl : n = 16 := by omega
      have e16 : (rows (fun j => if j < 16 then pwr X j else 0)) = rows (pwr X) := rows_congr (fun j hj => by rw [if_pos hj])
      rw [e16] at hK
      have s64 : (Try.prog.info? 109).map (·.size) = some (rows (pwr X)).size := by rw [rows_size]; kernel_rfl
      have z64 : (#[.int .u64 0, .int .u64 0, .int .u64 0, .int .u64 0, .int .u64 0, .int .u64 0, .int .u64 0, .int .u64 0, .int .u64 0, .int .u64 0, .int .u64 0, .int .u64 0, .int .u64 0, .int .u64 0, .int .u64 0, .int .u64 0, .int .u64 0, .int .u64 0, .int .u64 0, .int .u64 0, .int .u64 0, .int .u64 0, .int .u64 0, .int .u64 0, .int .u64 0, .int .u64 0, .int .u64 0, .int .u64 0, .int .u64 0, .int .u64 0, .int .u64 0, .int .u64 0, .int .u64 0, .int .u64 0, .int .u64 0, .int .u64 0, .int .u64 0, .int .u64 0, .int .u64 0, .int .u64 0, .int .u64 0, .int .u64 0, .int .u64 0, .int .u64 0, .int .u64 0, .int .u64 0, .int .u64 0, .int .u64 0, .int .u64 0, .int .u64 0, .int .u64 0, .int .u64 0, .int .u64 0, .int .u64 0, .int .u64 0, .int .u64 0, .int .u64 0, .int .u64 0, .int .u64 0, .int .u64 0, .int .u64 0, .int .u64 0, .int .u64 0, .int .u64 0] : Array Value).size = (rows (pwr X)).size := by rw [rows_size]; rfl
      have o64 := rows_one (pwr X)
      clear e16 HM hA
      rw [show ((16 : Nat) : Int) = 16 from rfl]
      go_wp2_with (first
        | (with_reducible refine wpList_load_row rfl 109 (.tmp 3) rfl g rfl 109 (rows (pwr X)) (0, 0) _ hK Try.underlying109 rfl s64 ?_)
        | (with_reducible refine wpList_store_row rfl 109 (.tmp 2) (.tmp 19) rfl (w.heap.size + 1) (rows (pwr X)) rfl rfl 109 #[.int .u64 0, .int .u64 0, .int .u64 0, .int .u64 0, .int .u64 0, .int .u64 0, .int .u64 0, .int .u64 0, .int .u64 0, .int .u64 0, .int .u64 0, .int .u64 0, .int .u64 0, .int .u64 0, .int .u64 0, .int .u64 0, .int .u64 0, .int .u64 0, .int .u64 0, .int .u64 0, .int .u64 0, .int .u64 0, .int .u64 0, .int .u64 0, .int .u64 0, .int .u64 0, .int .u64 0, .int .u64 0, .int .u64 0, .int .u64 0, .int .u64 0, .int .u64 0, .int .u64 0, .int .u64 0, .int .u64 0, .int .u64 0, .int .u64 0, .int .u64 0, .int .u64 0, .int .u64 0, .int .u64 0, .int .u64 0, .int .u64 0, .int .u64 0, .int .u64 0, .int .u64 0, .int .u64 0, .int .u64 0, .int .u64 0, .int .u64 0, .int .u64 0, .int .u64 0, .int .u64 0, .int .u64 0, .int .u64 0, .int .u64 0, .int .u64 0, .int .u64 0, .int .u64 0, .int .u64 0, .int .u64 0, .int .u64 0, .int .u64 0, .int .u64 0] hR s64 z64 o64 ?_))
      refine bodyPost_ret (results_cell_row rfl _ _ (w.heap.size + 1) 109 (rows (pwr X)) (0, 0) _ rfl (setRow_heap _ _ _ _ _ _ hR) Try.underlying109 rfl s64) rfl ?_
      exact ⟨rfl, hF.trans (Fr.setRow (S := fun k => k = w.heap.size + 1) (Fr.refl _ _) rfl _) (fun i hi => Or.inr (by have : i = w.heap.size + 1 := hi; omega))⟩
end Go.Proofs.Ytahnlnflcgehaaa
namespace Go.Proofs.Ytahnlnflcgehaaa
open Go.RowKit Pri
set_option linter.unusedVariables false

theorem nib_dig (Y m : Nat) : dig 18446744073709551616 Y (m / 16) / 2 ^ (m % 16 * 4) % 16 = Y / 16 ^ m % 16 := by
  unfold dig
  have h64 : m % 16 < 16 := Nat.mod_lt _ (by decide)
  obtain ⟨k, hk⟩ : ∃ k, 64 = m % 16 * 4 + 4 + k := ⟨64 - (m % 16 * 4) - 4, by omega⟩
  have e1 : (18446744073709551616 : Nat) ^ (m / 16) = 2 ^ (64 * (m / 16)) := by rw [show (18446744073709551616 : Nat) = 2 ^ 64 from rfl, ← Nat.pow_mul]
  have e2 : ∀ z : Nat, z % 18446744073709551616 / 2 ^ (m % 16 * 4) % 16 = z / 2 ^ (m % 16 * 4) % 16 := fun z => by
    rw [show (18446744073709551616 : Nat) = 2 ^ (m % 16 * 4) * 16 * 2 ^ k by rw [show (16 : Nat) = 2 ^ 4 from rfl, ← Nat.pow_add, ← Nat.pow_add, ← show 64 = m % 2 ^ 4 * 4 + 4 + k from hk], Nat.mul_assoc, Nat.mod_mul_right_div_self, Nat.mod_mul_right_mod]
  have e3 : (16 : Nat) ^ m = 2 ^ (4 * m) := by rw [show (16 : Nat) = 2 ^ 4 from rfl, ← Nat.pow_mul]
  rw [e2, e1, Nat.div_div_eq_div_mul, ← Nat.pow_add, show 64 * (m / 16) + m % 16 * 4 = 4 * m by omega, e3]
theorem nib_and (z : Nat) (hz : z < 18446744073709551616) : bits .and .u64 (z : Int) 15 = ((z % 16 : Nat) : Int) := by
  rw [show (15 : Int) = ((15 : Nat) : Int) from rfl, (bits_u64_N z 15 hz (by decide)).2.1, show (15 : Nat) = 2 ^ 4 - 1 from rfl, Nat.and_two_pow_sub_one_eq_mod]
theorem pwr_dbl (X e : Nat) : pwr X e * pwr X e % p25519 = pwr X (e * 2) := by rw [pwr_add, Nat.mul_two]
theorem pwr_nib (X M m : Nat) : pwr X (M / 16 ^ (m + 1) * 2 ^ 4) * pwr X (M / 16 ^ m % 16) % p25519 = pwr X (M / 16 ^ m) := by
  rw [pwr_add, Nat.pow_succ, ← Nat.div_div_eq_div_mul]
  congr 1
  omega
theorem div_top (M : Nat) (hM : M < 115792089237316195423570985008687907853269984665640564039457584007913129639936) : M / 16 ^ 64 = 0 := Nat.div_eq_of_lt (Nat.lt_of_lt_of_le hM (by decide +kernel))
set_option maxRecDepth 100000 in
set_option maxHeartbeats 3200000 in
theorem fpow_any (X M : Nat) (hX : X < 115792089237316195423570985008687907853269984665640564039457584007913129639936) (hM : M < 115792089237316195423570985008687907853269984665640564039457584007913129639936) (w : World) :
    Calls Try.prog 34 #[.agg (nc X), .agg (nc M)] w fun e w' => e = .returned (.agg (nc (pwr X M))) ∧ Fr (fun _ => False) w w' := by
  have SM := fun W => fsmall_any 1 (by decide) W
  rw [show ((1 : Nat) : Int) = 1 from rfl] at SM
  have FI := fun W => ffirst_any X hX W
  have MU := Lib.hid (fun a b W => fmul_any (pwr X a) (pwr X b) (pwr_lt X a) (pwr_lt X b) W)
  have D0 := div_top M hM
  have sN : ∀ Y, (Try.prog.info? 24).map (·.size) = some (nc Y).size := fun Y => by show _ = some 4; kernel_rfl
  have sX := sN X
  have s1 := sN 1
  have s64 : (Try.prog.info? 109).map (·.size) = some (rows (pwr X)).size := by rw [rows_size]; kernel_rfl
  have z64 : (#[.int .u64 0, .int .u64 0, .int .u64 0, .int .u64 0, .int .u64 0, .int .u64 0, .int .u64 0, .int .u64 0, .int .u64 0, .int .u64 0, .int .u64 0, .int .u64 0, .int .u64 0, .int .u64 0, .int .u64 0, .int .u64 0, .int .u64 0, .int .u64 0, .int .u64 0, .int .u64 0, .int .u64 0, .int .u64 0, .int .u64 0, .int .u64 0, .int .u64 0, .int .u64 0, .int .u64 0, .int .u64 0, .int .u64 0, .int .u64 0, .int .u64 0, .int .u64 0, .int .u64 0, .int .u64 0, .int .u64 0, .int .u64 0, .int .u64 0, .int .u64 0, .int .u64 0, .int .u64 0, .int .u64 0, .int .u64 0, .int .u64 0, .int .u64 0, .int .u64 0, .int .u64 0, .int .u64 0, .int .u64 0, .int .u64 0, .int .u64 0, .int .u64 0, .int .u64 0, .int .u64 0, .int .u64 0, .int .u64 0, .int .u64 0, .int .u64 0, .int .u64 0, .int .u64 0, .int .u64 0, .int .u64 0, .int .u64 0, .int .u64 0, .int .u64 0] : Array Value).size = (rows (pwr X)).size := by rw [rows_size]; rfl
  have o64 := rows_one (pwr X)
  have zz1 : (#[.int .u64 0, .int .u64 0, .int .u64 0, .int .u64 0] : Array Value).size = (nc 1).size := rfl
  have o1 := nc_one 1
  have S0 := ((w.alloc (.cells (nc X) 24)).alloc (.cells (nc M) 23))
  have HX := Lib.hid ((Below.heap_alloc ((w.alloc (.cells (nc X) 24)).alloc (.cells (nc M) 23)) (.cells #[.int .u64 0, .int .u64 0, .int .u64 0, .int .u64 0] 24) _ (by simp; omega)).trans (heap_alloc2_old w _ _))
  have HM := Lib.hid ((Below.heap_alloc ((w.alloc (.cells (nc X) 24)).alloc (.cells (nc M) 23)) (.cells #[.int .u64 0, .int .u64 0, .int .u64 0, .int .u64 0] 24) _ (by simp)).trans (heap_alloc2_new w _ _))
  have HR := Lib.hid (heap_at ((w.alloc (.cells (nc X) 24)).alloc (.cells (nc M) 23)) #[.int .u64 0, .int .u64 0, .int .u64 0, .int .u64 0] 24 (w.heap.size + 1 + 1) (by simp))
  have HF := Lib.hid (((((Fr.refl (fun _ => False) w).alloc (.cells (nc X) 24)).alloc (.cells (nc M) 23)).alloc (.cells #[.int .u64 0, .int .u64 0, .int .u64 0, .int .u64 0] 24)))
  clear hX hM S0
  go_enter Try.func34, Try.ntmps34
  go_wp2_with (with_reducible refine wpList_load_row rfl 24 (.tmp 2) rfl w.heap.size rfl 24 (nc X) (0, 0) _ HX.out Try.underlying24 rfl sX ?_)
  refine (FI _).mono ?_
  rintro e w1 ⟨rfl, F1⟩
  have M1 := F1.keep HM.out
  have R1 := F1.keep HR.out
  have G1 := HF.out.trans F1 (fun _ h => h.elim)
  have K0 := heap_alloc_new w1 (.cells #[.int .u64 0, .int .u64 0, .int .u64 0, .int .u64 0, .int .u64 0, .int .u64 0, .int .u64 0, .int .u64 0, .int .u64 0, .int .u64 0, .int .u64 0, .int .u64 0, .int .u64 0, .int .u64 0, .int .u64 0, .int .u64 0, .int .u64 0, .int .u64 0, .int .u64 0, .int .u64 0, .int .u64 0, .int .u64 0, .int .u64 0, .int .u64 0, .int .u64 0, .int .u64 0, .int .u64 0, .int .u64 0, .int .u64 0, .int .u64 0, .int .u64 0, .int .u64 0, .int .u64 0, .int .u64 0, .int .u64 0, .int .u64 0, .int .u64 0, .int .u64 0, .int .u64 0, .int .u64 0, .int .u64 0, .int .u64 0, .int .u64 0, .int .u64 0, .int .u64 0, .int .u64 0, .int .u64 0, .int .u64 0, .int .u64 0, .int .u64 0, .int .u64 0, .int .u64 0, .int .u64 0, .int .u64 0, .int .u64 0, .int .u64 0, .int .u64 0, .int .u64 0, .int .u64 0, .int .u64 0, .int .u64 0, .int .u64 0, .int .u64 0, .int .u64 0] 109)
  clear HX HM HR HF F1 FI
  go_wp2_with (with_reducible refine wpList_store_row rfl 109 (.tmp 5) (.tmp 9) rfl w1.heap.size (rows (pwr X)) rfl rfl 109 _ K0 s64 z64 o64 ?_)
  have zl := lt_of_block R1
  have F2 : Fr (fun _ => False) w1 ((w1.alloc (.cells #[.int .u64 0, .int .u64 0, .int .u64 0, .int .u64 0, .int .u64 0, .int .u64 0, .int .u64 0, .int .u64 0, .int .u64 0, .int .u64 0, .int .u64 0, .int .u64 0, .int .u64 0, .int .u64 0, .int .u64 0, .int .u64 0, .int .u64 0, .int .u64 0, .int .u64 0, .int .u64 0, .int .u64 0, .int .u64 0, .int .u64 0, .int .u64 0, .int .u64 0, .int .u64 0, .int .u64 0, .int .u64 0, .int .u64 0, .int .u64 0, .int .u64 0, .int .u64 0, .int .u64 0, .int .u64 0, .int .u64 0, .int .u64 0, .int .u64 0, .int .u64 0, .int .u64 0, .int .u64 0, .int .u64 0, .int .u64 0, .int .u64 0, .int .u64 0, .int .u64 0, .int .u64 0, .int .u64 0, .int .u64 0, .int .u64 0, .int .u64 0, .int .u64 0, .int .u64 0, .int .u64 0, .int .u64 0, .int .u64 0, .int .u64 0, .int .u64 0, .int .u64 0, .int .u64 0, .int .u64 0, .int .u64 0, .int .u64 0, .int .u64 0, .int .u64 0] 109)).setRow w1.heap.size (rows (pwr X))) := ((Fr.refl _ w1).alloc _).trans (Fr.setRow (S := fun k => k = w1.heap.size) (Fr.refl _ _) rfl _) (fun i hi => Or.inr (by have : i = w1.heap.size := hi; omega))
  have M2 := F2.keep M1
  have R2 := F2.keep R1
  have P2 := setRow_heap _ _ _ (rows (pwr X)) _ _ K0
  have G2 := G1.trans F2 (fun _ h => h.elim)
  clear F2 M1 R1 G1 s64 z64 o64 K0
  generalize hg3 : w1.heap.size = g at *
  generalize (w1.alloc (.cells #[.int .u64 0, .int .u64 0, .int .u64 0, .int .u64 0, .int .u64 0, .int .u64 0, .int .u64 0, .int .u64 0, .int .u64 0, .int .u64 0, .int .u64 0, .int .u64 0, .int .u64 0, .int .u64 0, .int .u64 0, .int .u64 0, .int .u64 0, .int .u64 0, .int .u64 0, .int .u64 0, .int .u64 0, .int .u64 0, .int .u64 0, .int .u64 0, .int .u64 0, .int .u64 0, .int .u64 0, .int .u64 0, .int .u64 0, .int .u64 0, .int .u64 0, .int .u64 0, .int .u64 0, .int .u64 0, .int .u64 0, .int .u64 0, .int .u64 0, .int .u64 0, .int .u64 0, .int .u64 0, .int .u64 0, .int .u64 0, .int .u64 0, .int .u64 0, .int .u64 0, .int .u64 0, .int .u64 0, .int .u64 0, .int .u64 0, .int .u64 0, .int .u64 0, .int .u64 0, .int .u64 0, .int .u64 0, .int .u64 0, .int .u64 0, .int .u64 0, .int .u64 0, .int .u64 0, .int .u64 0, .int .u64 0, .int .u64 0, .int .u64 0, .int .u64 0] 109)).setRow g (rows (pwr X)) = w2 at *
  have hgw : w.heap.size + 1 + 1 < g := zl
  clear hg3 zl
  refine (SM _).mono ?_
  rintro e w3 ⟨rfl, F3⟩
  have M3 := F3.keep M2
  have R3 := F3.keep R2
  have P3 := F3.keep P2
  have G3 := G2.trans F3 (fun _ h => h.elim)
  have K0 := heap_alloc_new w3 (.cells #[.int .u64 0, .int .u64 0, .int .u64 0, .int .u64 0] 24)
  clear M2 R2 P2 G2 F3 SM
  go_wp2_with (with_reducible refine wpList_store_row rfl 24 (.tmp 6) (.tmp 10) rfl w3.heap.size (nc 1) rfl rfl 24 _ K0 s1 zz1 o1 ?_)
  have zl := lt_of_block P3
  have zr := lt_of_block R3
  have F4 : Fr (fun _ => False) w3 ((w3.alloc (.cells #[.int .u64 0, .int .u64 0, .int .u64 0, .int .u64 0] 24)).setRow w3.heap.size (nc 1)) := ((Fr.refl _ w3).alloc _).trans (Fr.setRow (S := fun k => k = w3.heap.size) (Fr.refl _ _) rfl _) (fun i hi => Or.inr (by have : i = w3.heap.size := hi; omega))
  have M4 := F4.keep M3
  have R4 := F4.keep R3
  have P4 := F4.keep P3
  have Q4 := setRow_heap _ _ _ (nc 1) _ _ K0
  have G4 := G3.trans F4 (fun _ h => h.elim)
  clear F4 M3 R3 P3 G3 s1 zz1 o1 K0
  generalize hg3 : w3.heap.size = q at *
  generalize (w3.alloc (.cells #[.int .u64 0, .int .u64 0, .int .u64 0, .int .u64 0] 24)).setRow q (nc 1) = w4 at *
  have hqg : g < q := zl
  clear hg3 zl zr
  rw [show nc 1 = nc (pwr X (M / 16 ^ 64)) by rw [D0, pwr_zero]] at Q4
  clear D0
  go_loopw [7] (fun i wr => ∃ n : Nat, n ≤ 64 ∧ i = .int .i64 ((n : Int) - 1) ∧ wr.heap[q]? = some (.cells (nc (pwr X (M / 16 ^ n))) 24 (0, 0)) ∧ wr.heap[g]? = some (.cells (rows (pwr X)) 109 (0, 0)) ∧ wr.heap[w.heap.size + 1]? = some (.cells (nc M) 23 (0, 0)) ∧ wr.heap[w.heap.size + 1 + 1]? = some (.cells #[.int .u64 0, .int .u64 0, .int .u64 0, .int .u64 0] 24 (0, 0)) ∧ Fr (fun _ => False) w wr) (fun i _ => (intOf i + 1).toNat)
  case atStart => exact ⟨64, by omega, by simp, Q4, P4, M4, R4, G4⟩
  case round =>
    clear Q4 P4 M4 R4 G4
    obtain ⟨n, hn, rfl, hQ, hP, hM, hR, hF⟩ := hrel
    by_cases h0 : n = 0
    · subst h0
      rw [Nat.pow_zero, Nat.div_one] at hQ
      have sR := sN (pwr X M)
      have zR' : (#[.int .u64 0, .int .u64 0, .int .u64 0, .int .u64 0] : Array Value).size = (nc (pwr X M)).size := rfl
      have oR := nc_one (pwr X M)
      clear hP hM sN MU sX
      rw [show ((0 : Nat) : Int) - 1 = -1 from rfl]
      go_wp2_with (first
        | (with_reducible refine wpList_load_row rfl 24 (.tmp 6) rfl q rfl 24 (nc (pwr X M)) (0, 0) _ hQ Try.underlying24 rfl sR ?_)
        | (with_reducible refine wpList_store_row rfl 24 (.tmp 4) (.tmp 34) rfl (w.heap.size + 1 + 1) (nc (pwr X M)) rfl rfl 24 #[.int .u64 0, .int .u64 0, .int .u64 0, .int .u64 0] hR sR zR' oR ?_))
      refine bodyPost_ret (results_cell_row rfl _ _ (w.heap.size + 1 + 1) 24 (nc (pwr X M)) (0, 0) _ rfl (setRow_heap _ _ _ _ _ _ hR) Try.underlying24 rfl sR) rfl ?_
      exact ⟨rfl, hF.trans (Fr.setRow (S := fun k => k = w.heap.size + 1 + 1) (Fr.refl _ _) rfl _) (fun i hi => Or.inr (by have : i = w.heap.size + 1 + 1 := hi; omega))⟩
    · obtain ⟨m, rfl⟩ : ∃ m, n = m + 1 := ⟨n - 1, by omega⟩
      rw [show ((m + 1 : Nat) : Int) - 1 = (m : Int) by omega]
      have ma : (0 : Int) ≤ (m : Int) := by omega
      have hm64 : m < 64 := by omega
      rw [show M / 16 ^ (m + 1) = M / 16 ^ (m + 1) * 2 ^ 0 by rw [Nat.pow_zero, Nat.mul_one]] at hQ
      have HN := Lib.hid (pwr_nib X M m)
      obtain ⟨N, hN⟩ : ∃ N, N = M / 16 ^ (m + 1) := ⟨_, rfl⟩
      rw [← hN] at hQ HN
      have hm1 : m + 1 ≤ 64 := hn
      clear h0 hN hn
      go_wp2_with fail
      go_loopw [15] (fun k wr => ∃ c : Nat, c ≤ 4 ∧ k = .int .i64 (c : Int) ∧ wr.heap[q]? = some (.cells (nc (pwr X (N * 2 ^ c))) 24 (0, 0)) ∧ wr.heap[g]? = some (.cells (rows (pwr X)) 109 (0, 0)) ∧ wr.heap[w.heap.size + 1]? = some (.cells (nc M) 23 (0, 0)) ∧ wr.heap[w.heap.size + 1 + 1]? = some (.cells #[.int .u64 0, .int .u64 0, .int .u64 0, .int .u64 0] 24 (0, 0)) ∧ Fr (fun _ => False) w wr) (fun k _ => 4 - (intOf k).toNat)
      case atStart => exact ⟨0, by omega, by simp, hQ, hP, hM, hR, hF⟩
      case round =>
        clear hQ hP hM hR hF
        obtain ⟨c, hc, rfl, hQ, hP, hM, hR, hF⟩ := hrel
        by_cases c4 : c < 4
        · have ca : (0 : Int) ≤ (c : Int) := by omega
          have cb : (c : Int) < 4 := by omega
          have MV := fun W => MU.out (N * 2 ^ c) (N * 2 ^ c) W
          rw [pwr_dbl, Nat.mul_assoc, ← Nat.pow_succ] at MV
          have sQ := sN (pwr X (N * 2 ^ c))
          have sQ2 := sN (pwr X (N * 2 ^ (c + 1)))
          have zQ : (nc (pwr X (N * 2 ^ c))).size = (nc (pwr X (N * 2 ^ (c + 1)))).size := rfl
          have oQ := nc_one (pwr X (N * 2 ^ (c + 1)))
          have HP := Lib.hid hP
          have HM := Lib.hid hM
          have HR := Lib.hid hR
          have HF := Lib.hid hF
          have HQ := Lib.hid hQ
          clear hP hM hR hF hQ sN sX MU HN
          go_wp2_with (with_reducible refine wpList_load_row rfl 24 (.tmp 6) rfl q rfl 24 (nc (pwr X (N * 2 ^ c))) (0, 0) _ HQ.out Try.underlying24 rfl sQ ?_)
          refine (MV _).mono ?_
          rintro e w5 ⟨rfl, F5⟩
          have Q5 := F5.keep HQ.out
          have P5 := F5.keep HP.out
          have M5 := F5.keep HM.out
          have R5 := F5.keep HR.out
          have G5 := HF.out.trans F5 (fun _ h => h.elim)
          clear HQ HP HM HR HF F5 MV
          go_wp2_with (with_reducible refine wpList_store_row rfl 24 (.tmp 6) (.tmp 19) rfl q (nc (pwr X (N * 2 ^ (c + 1)))) rfl rfl 24 (nc (pwr X (N * 2 ^ c))) Q5 sQ2 zQ oQ ?_)
          have F6 : Fr (fun k => k = q) w5 (w5.setRow q (nc (pwr X (N * 2 ^ (c + 1))))) := Fr.setRow (S := fun k => k = q) (Fr.refl _ _) rfl _
          go_roundw
          case rel => exact ⟨c + 1, by omega, by go_num, setRow_heap _ _ _ _ _ _ Q5, (F6.block g (lt_of_block P5) (by show g ≠ q; omega)).trans P5, (F6.block _ (lt_of_block M5) (by show w.heap.size + 1 ≠ q; omega)).trans M5, (F6.block _ (lt_of_block R5) (by show w.heap.size + 1 + 1 ≠ q; omega)).trans R5, G5.trans F6 (fun i hi => Or.inr (by have : i = q := hi; omega))⟩
          case measure => simp [intOf]; omega
        · obtain rfl : c = 4 := by omega
          have hN := HN.out
          have hz := dig_lt 18446744073709551616 M (m / 16) (by decide)
          have hnib := nib_dig M m
          have cB : (nc M)[m / 16]? = some (.int .u64 (dig 18446744073709551616 M (m / 16) : Int)) := by rw [nc_uq]; exact uq_get 4 _ _ (by omega)
          have hd4 : m / 16 < 4 := by omega
          have hr16 : m % 16 < 16 := by omega
          have hq : ((m : Int)).tdiv 16 = ((m / 16 : Nat) : Int) := by rw [Int.tdiv_eq_ediv_of_nonneg (by omega)]; omega
          have hr : ((m : Int)).tmod 16 = ((m % 16 : Nat) : Int) := by rw [Int.tmod_eq_emod_of_nonneg (by omega)]; omega
          generalize dig 18446744073709551616 M (m / 16) = z at cB hnib hz
          generalize m / 16 = d at hq hd4 cB
          obtain ⟨u, hu⟩ : ∃ u, u = m % 16 * 4 := ⟨_, rfl⟩
          rw [← hu] at hnib
          generalize m % 16 = r at hr hr16 hu
          have hmul : (r : Int) * 4 = (u : Int) := by omega
          have da : (0 : Int) ≤ (d : Int) := by omega
          have db : (d : Int) < 4 := by omega
          have ra : (0 : Int) ≤ (r : Int) := by omega
          have rb : (r : Int) < 16 := by omega
          have ua : (0 : Int) ≤ (u : Int) := by omega
          have ub : (u : Int) < 64 := by omega
          have hsh : (z : Int) / 2 ^ u = ((z / 2 ^ u : Nat) : Int) := by simp
          have hba := nib_and (z / 2 ^ u) (Nat.lt_of_le_of_lt (Nat.div_le_self _ _) hz)
          obtain ⟨V, hV⟩ : ∃ V, V = M / 16 ^ m := ⟨_, rfl⟩
          rw [← hV] at hN hnib
          rw [hnib] at hba
          generalize z / 2 ^ u = y at hsh hba
          have ht : V % 16 < 16 := Nat.mod_lt _ (by decide)
          have HO := Lib.hid hV
          clear hV
          have MV := fun W => MU.out (N * 2 ^ 4) (V % 16) W
          rw [hN] at MV
          generalize V % 16 = t at *
          have ta : (0 : Int) ≤ (t : Int) := by omega
          have tb : (t : Int) < 16 := by omega
          have sQ := sN (pwr X (N * 2 ^ 4))
          have sV := sN (pwr X V)
          have zQ : (nc (pwr X (N * 2 ^ 4))).size = (nc (pwr X V)).size := rfl
          have oV := nc_one (pwr X V)
          have HP := Lib.hid hP
          have HM := Lib.hid hM
          have HR := Lib.hid hR
          have HF := Lib.hid hF
          have HQ := Lib.hid hQ
          clear hP hM hR hF hQ sN sX MU HN hu hnib hN hz
          rw [show ((4 : Nat) : Int) = 4 from rfl]
          go_wp2_with fail
          refine wp_region_tail 13 [] (by kernel_rfl) (by kernel_rfl) mk_nil ?_
          apply Exists.intro
          refine ⟨?wk, ?fin⟩
          case wk =>
            intro γ
            have fz : ∀ y : Wg γ, y.w.cell? ⟨w.heap.size + 1, d, none⟩ = some (.int .u64 (z : Int)) := fun y => y.cell HM.out d cB
            simp only [List.take_succ_cons, List.take_zero]
            repeat (any_goals (first | (go_big_quiet_want; (with_reducible refine quiet_load_rowg 24 (.tmp 6) rfl q rfl 24 (nc (pwr X (N * 2 ^ 4))) (0, 0) _ HQ.out Try.underlying24 rfl sQ ?_); simp only [Act.put, List.setIfInBounds_toArray, List.set_cons_zero, List.set_cons_succ]; go_big_quiet_on) | (go_big_quiet_want; (with_reducible refine quiet_load_rowsg 24 (.tmp 31) rfl g (t * 4) t (Nat.mul_comm _ _) ht rfl (pwr X) 109 (0, 0) _ HP.out Try.underlying24 rfl Try.info4 ?_); simp only [Act.put, List.setIfInBounds_toArray, List.set_cons_zero, List.set_cons_succ]; go_big_quiet_on) | go_big_quiet_step (((first | (go_at_call 22; with_reducible exact Calls.keepg (MV _))))) | quiet_step (((first | (go_at_call 22; with_reducible exact Calls.keepg (MV _)))))))
            exact wpQuiet_nil rfl
          case fin =>
            intro gs wx hF hg hne
            simp only [putAll, List.drop_succ_cons, List.drop_zero, List.length_nil, Nat.add_zero]
            have Q5 := hF.keep HQ.out
            have P5 := hF.keep HP.out
            have M5 := hF.keep HM.out
            have R5 := hF.keep HR.out
            have G5 := HF.out.trans hF (fun _ h => h.elim)
            clear hg hne hF HQ HP HM HR HF MV
            go_wp2_with (with_reducible refine wpList_store_row rfl 24 (.tmp 6) (.tmp 33) rfl q (nc (pwr X V)) rfl rfl 24 (nc (pwr X (N * 2 ^ 4))) Q5 sV zQ oV ?_)
            have F6 : Fr (fun k => k = q) wx (wx.setRow q (nc (pwr X V))) := Fr.setRow (S := fun k => k = q) (Fr.refl _ _) rfl _
            go_roundw
            case rel => exact ⟨m, by omega, rfl, (setRow_heap _ _ _ _ _ _ Q5).trans (by rw [HO.out]), (F6.block g (lt_of_block P5) (by show g ≠ q; omega)).trans P5, (F6.block _ (lt_of_block M5) (by show w.heap.size + 1 ≠ q; omega)).trans M5, (F6.block _ (lt_of_block R5) (by show w.heap.size + 1 + 1 ≠ q; omega)).trans R5, G5.trans F6 (fun i hi => Or.inr (by have : i = q := hi; omega))⟩
            case measure => simp [intOf]
end Go.Proofs.Ytahnlnflcgehaaa
namespace Go.Proofs.Ytahnlnflcgehaaa
open Go.RowKit Pri
set_option linter.unusedVariables false

theorem nc_p2 : nc (p25519 - 2) = #[.int .u64 18446744073709551595, .int .u64 18446744073709551615, .int .u64 18446744073709551615, .int .u64 9223372036854775807] := by
  have := nc_of 18446744073709551595 18446744073709551615 18446744073709551615 9223372036854775807 (by decide) (by decide) (by decide) (by decide)
  rw [show nv 18446744073709551595 18446744073709551615 18446744073709551615 9223372036854775807 = p25519 - 2 from by decide +kernel] at this
  exact this.symm
theorem nc_p1 : nc (p25519 - 1) = #[.int .u64 18446744073709551596, .int .u64 18446744073709551615, .int .u64 18446744073709551615, .int .u64 9223372036854775807] := by
  have := nc_of 18446744073709551596 18446744073709551615 18446744073709551615 9223372036854775807 (by decide) (by decide) (by decide) (by decide)
  rw [show nv 18446744073709551596 18446744073709551615 18446744073709551615 9223372036854775807 = p25519 - 1 from by decide +kernel] at this
  exact this.symm
theorem nc_p_cell : (nc p25519)[0]? = some (.int .u64 18446744073709551597) := by rw [nc_p]; rfl
theorem nc_p_set : (nc p25519).setIfInBounds 0 (.int .u64 18446744073709551595) = nc (p25519 - 2) := by rw [nc_p, nc_p2]; rfl
theorem p2_lt : p25519 - 2 < 115792089237316195423570985008687907853269984665640564039457584007913129639936 := Nat.lt_of_le_of_lt (Nat.sub_le _ _) p_lt
set_option maxRecDepth 100000 in
set_option maxHeartbeats 3200000 in
theorem finv_op (A NP NQ NR : Array Value) (w : World)
    (PR : ∀ W : World, Calls Try.prog 83 #[] W fun e w' => e = .returned (.agg NP) ∧ Fr (fun _ => False) W w')
    (PO : ∀ W : World, Calls Try.prog 34 #[.agg A, .agg NQ] W fun e w' => e = .returned (.agg NR) ∧ Fr (fun _ => False) W w')
    (zA : A.size = 4) (z1 : NP.size = 4) (z2 : NQ.size = 4) (z3 : NR.size = 4) (oP : NP.all (·.oneCell') = true) (oR : NR.all (·.oneCell') = true)
    (ncel : NP[0]? = some (.int .u64 18446744073709551597)) (nset : NP.setIfInBounds 0 (.int .u64 18446744073709551595) = NQ) :
    Calls Try.prog 33 #[.agg A] w fun e w' => e = .returned (.agg NR) ∧ Fr (fun _ => False) w w' := by
  have sX : (Try.prog.info? 24).map (·.size) = some A.size := by rw [zA]; kernel_rfl
  have sP : (Try.prog.info? 24).map (·.size) = some NP.size := by rw [z1]; kernel_rfl
  have sP2 : (Try.prog.info? 24).map (·.size) = some NQ.size := by rw [z2]; kernel_rfl
  have sR : (Try.prog.info? 24).map (·.size) = some NR.size := by rw [z3]; kernel_rfl
  have zP : (#[.int .u64 0, .int .u64 0, .int .u64 0, .int .u64 0] : Array Value).size = NP.size := by rw [z1]; rfl
  have zR : (#[.int .u64 0, .int .u64 0, .int .u64 0, .int .u64 0] : Array Value).size = NR.size := by rw [z3]; rfl
  have A0 := heap_alloc2_old w (.cells (A) 24) (.cells #[.int .u64 0, .int .u64 0, .int .u64 0, .int .u64 0] 24)
  have R0 := heap_alloc2_new w (.cells (A) 24) (.cells #[.int .u64 0, .int .u64 0, .int .u64 0, .int .u64 0] 24)
  have F0 := (((Fr.refl (fun _ => False) w).alloc (.cells (A) 24)).alloc (.cells #[.int .u64 0, .int .u64 0, .int .u64 0, .int .u64 0] 24))
  clear zA z1 z2 z3
  go_enter Try.func33, Try.ntmps33
  go_wp2_with fail
  refine (PR _).mono ?_
  rintro e w1 ⟨rfl, F1⟩
  have A1 := F1.keep A0
  have R1 := F1.keep R0
  have G1 := F0.trans F1 (fun _ h => h.elim)
  have K0 := heap_alloc_new w1 (.cells #[.int .u64 0, .int .u64 0, .int .u64 0, .int .u64 0] 24)
  clear A0 R0 F0 F1 PR
  have zl := lt_of_block R1
  have F2 : Fr (fun _ => False) w1 ((w1.alloc (.cells #[.int .u64 0, .int .u64 0, .int .u64 0, .int .u64 0] 24)).setRow w1.heap.size NP) := ((Fr.refl _ w1).alloc _).trans (Fr.setRow (S := fun k => k = w1.heap.size) (Fr.refl _ _) rfl _) (fun i hi => Or.inr (by have : i = w1.heap.size := hi; omega))
  have A2 := F2.keep A1
  have R2 := F2.keep R1
  have K2 := setRow_heap _ _ _ NP _ _ K0
  have G2 := G1.trans F2 (fun _ h => h.elim)
  have c0 := (cell_of_block K2 0).trans ncel
  have f0 := free_of_block K2 0
  have K3 := block_setCell K2 0 (.int .u64 18446744073709551595)
  rw [nset] at K3
  have F3 : Fr (fun k => k = w1.heap.size) ((w1.alloc (.cells #[.int .u64 0, .int .u64 0, .int .u64 0, .int .u64 0] 24)).setRow w1.heap.size NP) (((w1.alloc (.cells #[.int .u64 0, .int .u64 0, .int .u64 0, .int .u64 0] 24)).setRow w1.heap.size NP).setCell ⟨w1.heap.size, 0, none⟩ (.int .u64 18446744073709551595)) := Fr.setCell (S := fun k => k = w1.heap.size) (p := ⟨w1.heap.size, 0, none⟩) (Fr.refl (fun k => k = w1.heap.size) _) (Or.inl rfl) _
  have A3 := (F3.block _ (lt_of_block A2) (by show w.heap.size ≠ w1.heap.size; omega)).trans A2
  have R3 := (F3.block _ (lt_of_block R2) (by show w.heap.size + 1 ≠ w1.heap.size; omega)).trans R2
  have G3 := G2.trans F3 (fun i hi => Or.inr (by have : i = w1.heap.size := hi; omega))
  have HK := Lib.hid K3
  have HA := Lib.hid A3
  have HR := Lib.hid R3
  have HG := Lib.hid G3
  clear K2 K3 A1 A2 A3 R1 R2 R3 G1 G2 G3 F2 F3
  go_wp2_with (first
    | (with_reducible refine wpList_store_row rfl 24 (.tmp 3) (.tmp 4) rfl w1.heap.size NP rfl rfl 24 _ K0 sP zP oP ?_)
    | (with_reducible refine wpList_load_row rfl 24 (.tmp 1) rfl w.heap.size rfl 24 A (0, 0) _ HA.out Try.underlying24 rfl sX ?_)
    | (with_reducible refine wpList_load_row rfl 24 (.tmp 3) rfl w1.heap.size rfl 24 NQ (0, 0) _ HK.out Try.underlying24 rfl sP2 ?_))
  refine (PO _).mono ?_
  rintro e w5 ⟨rfl, F5⟩
  have R5 := F5.keep HR.out
  have G5 := HG.out.trans F5 (fun _ h => h.elim)
  clear HK HA HR HG F5 PO c0 f0 K0 sP zP oP zl
  go_wp2_with (with_reducible refine wpList_store_row rfl 24 (.tmp 2) (.tmp 11) rfl (w.heap.size + 1) NR rfl rfl 24 #[.int .u64 0, .int .u64 0, .int .u64 0, .int .u64 0] R5 sR zR oR ?_)
  refine bodyPost_ret (results_cell_row rfl _ _ (w.heap.size + 1) 24 NR (0, 0) _ rfl (setRow_heap _ _ _ _ _ _ R5) Try.underlying24 rfl sR) rfl ?_
  exact ⟨rfl, G5.trans (Fr.setRow (S := fun k => k = w.heap.size + 1) (Fr.refl _ _) rfl _) (fun i hi => Or.inr (by have : i = w.heap.size + 1 := hi; omega))⟩
theorem finv_any (X : Nat) (hX : X < 115792089237316195423570985008687907853269984665640564039457584007913129639936) (w : World) :
    Calls Try.prog 33 #[.agg (nc X)] w fun e w' => e = .returned (.agg (nc (pwr X (p25519 - 2)))) ∧ Fr (fun _ => False) w w' :=
  finv_op (nc X) (nc p25519) (nc (p25519 - 2)) (nc (pwr X (p25519 - 2))) w fprime_any (fun W => fpow_any X (p25519 - 2) hX p2_lt W) (nc_size _) (nc_size _) (nc_size _) (nc_size _) (nc_one _) (nc_one _) nc_p_cell nc_p_set
theorem half_gen (n m : Nat) (hn : n + 1 = m) (h : 2 ^ m % p25519 = 1) : 2 * pwr 2 n % p25519 = 1 := by
  subst hn
  unfold pwr
  rw [Nat.mul_mod_mod, ← Nat.pow_succ']; exact h
theorem half_inv : 2 * pwr 2 (p25519 - 2) % p25519 = 1 := half_gen (p25519 - 2) (p25519 - 1) (by decide +kernel) gen_p.2.1
set_option maxRecDepth 100000 in
set_option maxHeartbeats 3200000 in
theorem halves_any (w : World) : Calls Try.prog 15 #[] w fun e w' => e = .returned (.bool true) ∧ Fr (fun _ => False) w w' := by
  have SM := fun W => fsmall_any 2 (by decide) W
  have SN := fun W => fsmall_any 3 (by decide) W
  rw [show ((2 : Nat) : Int) = 2 from rfl] at SM
  rw [show ((3 : Nat) : Int) = 3 from rfl] at SN
  have IN := fun W => finv_any 2 (by decide) W
  have MU := fun W => fmul_any 2 (pwr 2 (p25519 - 2)) (by decide) (pwr_lt _ _) W
  rw [half_inv] at MU
  have SB := fun W => fsub_any 2 3 (by decide) (by decide) W
  rw [show (2 % p25519 + (p25519 - 3 % p25519)) % p25519 = p25519 - 1 by decide +kernel] at SB
  have EQ := fun W => eql_elem 1 1 (by decide) (by decide) W
  rw [decide_eq_true rfl] at EQ
  have n1 : nc 1 = #[.int .u64 1, .int .u64 0, .int .u64 0, .int .u64 0] := by rw [nc0_ 1 (by decide)]; rfl
  have i3 : ∀ W, (Instr.index 24 (.agg (nc (p25519 - 1))) (.int .i64 3)).run Try.prog W = .ok (.int .u64 9223372036854775807) W := fun _ => by rw [nc_p1]; kernel_rfl
  generalize nc (p25519 - 1) = NP at *
  generalize nc (pwr 2 (p25519 - 2)) = NI at *
  generalize nc 2 = N2 at *
  generalize nc 3 = N3 at *
  rw [n1] at EQ MU
  have EG := Try.guardElem
  clear n1
  go_enter Try.func15, Try.ntmps15
  go_wp2_with fail
  refine (SM _).mono ?_
  rintro e w1 ⟨rfl, F1⟩
  go_wp2_with fail
  refine (SM _).mono ?_
  rintro e w2 ⟨rfl, F2⟩
  go_wp2_with fail
  refine (IN _).mono ?_
  rintro e w3 ⟨rfl, F3⟩
  go_wp2_with fail
  refine (MU _).mono ?_
  rintro e w4 ⟨rfl, F4⟩
  go_wp2_with fail
  refine (SM _).mono ?_
  rintro e w5 ⟨rfl, F5⟩
  go_wp2_with fail
  refine (SN _).mono ?_
  rintro e w6 ⟨rfl, F6⟩
  go_wp2_with fail
  refine (SB _).mono ?_
  rintro e w7 ⟨rfl, F7⟩
  go_wp2_with fail
  go_ret
  exact ⟨rfl, ((((((F1.trans F2 (fun _ h => h.elim)).trans F3 (fun _ h => h.elim)).trans F4 (fun _ h => h.elim)).trans F5 (fun _ h => h.elim)).trans F6 (fun _ h => h.elim)).trans F7 (fun _ h => h.elim))⟩
end Go.Proofs.Ytahnlnflcgehaaa

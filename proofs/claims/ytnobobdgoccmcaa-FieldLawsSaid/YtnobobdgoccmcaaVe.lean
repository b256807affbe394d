/-
  The contract of Neg of package custumalref05.
-/
import Derived.Test.YtnobobdgoccmcaaVc
import Derived.Test.YtnobobdgoccmcaaSc
namespace Go.Proofs.Ytnobobdgoccmcaa
open Go.RowKit Pri
set_option linter.unusedVariables false

/-- What stands in the opposite's parts behind k steps. -/
def npart (X k j : Nat) : Int := if j < k then (dig 65536 (p25519 + 65536 ^ 16 - X) j : Int) else 0
theorem npart_step (X k : Nat) (hk : k < 16) (z : Int) (hz : z = (dig 65536 (p25519 + 65536 ^ 16 - X) k : Int)) : (zq 16 (npart X k)).setIfInBounds k (.int .i64 z) = zq 16 (npart X (k + 1)) := by
  rw [zq_set 16 _ k _ hk]
  refine zq_congr (fun j hj => ?_)
  unfold npart
  by_cases e : j = k
  · subst e; rw [if_pos rfl, if_pos (show j < j + 1 by omega), hz]
  · rw [if_neg e]
    by_cases e2 : j < k
    · rw [if_pos e2, if_pos (show j < k + 1 by omega)]
    · rw [if_neg e2, if_neg (show ¬ j < k + 1 by omega)]
theorem npart_end (X : Nat) (h : X ≤ p25519) : zq 16 (npart X 16) = nd (p25519 - X) := by
  refine zq_congr (fun j hj => ?_)
  unfold npart
  rw [if_pos hj, show p25519 + 65536 ^ 16 - X = (p25519 - X) + 65536 ^ 16 by omega, ← dig_of_mod 65536 _ 16 j hj, Nat.add_mod_right, dig_of_mod 65536 _ 16 j hj]
theorem nstep (X k : Nat) (hk : k < 16) (hX : X < 65536 ^ 16) : ∃ x l : Nat, x < 65536 ∧ l ≤ 1 ∧ x = dig 65536 X k ∧ l = lck 65536 p25519 X k ∧
    (((pdg k : Int) - x - l < 0 ∧ lck 65536 p25519 X (k + 1) = 1 ∧ (dig 65536 (p25519 + 65536 ^ 16 - X) k : Int) = (pdg k : Int) - x - l + 65536) ∨
     (¬ (pdg k : Int) - x - l < 0 ∧ lck 65536 p25519 X (k + 1) = 0 ∧ (dig 65536 (p25519 + 65536 ^ 16 - X) k : Int) = (pdg k : Int) - x - l)) := by
  have h1 := dig_sub 65536 p25519 X 16 k (by decide) hk (Nat.le_trans (Nat.le_of_lt hX) (Nat.le_add_left _ _))
  have h2 := lck_succ 65536 p25519 X k (by decide)
  have h3 := dig_lt 65536 X k (by decide)
  have h4 := lck_le 65536 p25519 X k
  rw [pdg_dig k hk] at h1 h2
  have h5 : pdg k < 65536 := by unfold pdg; split; omega; split <;> omega
  refine ⟨_, _, h3, h4, rfl, rfl, ?_⟩
  generalize dig 65536 X k = x at *
  generalize lck 65536 p25519 X k = l at *
  generalize pdg k = q at *
  rw [h1, h2]
  by_cases c : q < x + l
  · rw [if_pos c]; left; refine ⟨by omega, rfl, by omega⟩
  · rw [if_neg c]; right; refine ⟨by omega, rfl, by omega⟩
set_option maxRecDepth 100000 in
set_option maxHeartbeats 6400000 in
theorem neg5_any (X : Nat) (hX : X ≤ p25519) (w : World) :
    Calls Try.prog 25 #[.agg (nd X)] w fun e w' => e = .returned (.agg (nd ((p25519 - X) % p25519))) ∧ Fr (fun _ => False) w w' := by
  have TI := fun W : World => tidy_any (dig 65536 (p25519 - X)) (fun j _ => by have := dig_lt 65536 (p25519 - X) j (by decide); omega) W
  rw [val_dig, Nat.mod_eq_of_lt (Nat.lt_of_le_of_lt (Nat.sub_le _ _) p_b16)] at TI
  have hXb : X < 65536 ^ 16 := Nat.lt_of_le_of_lt hX p_b16
  have hend := npart_end X hX
  have hT : iq 16 (dig 65536 (p25519 - X)) = nd (p25519 - X) := rfl
  rw [hT, ← hend] at TI
  have HXB := Lib.hid hXb
  clear hXb hend hT hX
  generalize (p25519 - X) % p25519 = R at *
  have A0 := (Below.heap_alloc ((w.alloc (.cells (nd X) 26)).alloc (.cells #[.int .i64 0, .int .i64 0, .int .i64 0, .int .i64 0, .int .i64 0, .int .i64 0, .int .i64 0, .int .i64 0, .int .i64 0, .int .i64 0, .int .i64 0, .int .i64 0, .int .i64 0, .int .i64 0, .int .i64 0, .int .i64 0] 26)) (.cells #[.int .i64 0, .int .i64 0, .int .i64 0, .int .i64 0, .int .i64 0, .int .i64 0, .int .i64 0, .int .i64 0, .int .i64 0, .int .i64 0, .int .i64 0, .int .i64 0, .int .i64 0, .int .i64 0, .int .i64 0, .int .i64 0] 26) _ (by simp; omega)).trans (heap_alloc2_old w _ _)
  have R0 := (Below.heap_alloc ((w.alloc (.cells (nd X) 26)).alloc (.cells #[.int .i64 0, .int .i64 0, .int .i64 0, .int .i64 0, .int .i64 0, .int .i64 0, .int .i64 0, .int .i64 0, .int .i64 0, .int .i64 0, .int .i64 0, .int .i64 0, .int .i64 0, .int .i64 0, .int .i64 0, .int .i64 0] 26)) (.cells #[.int .i64 0, .int .i64 0, .int .i64 0, .int .i64 0, .int .i64 0, .int .i64 0, .int .i64 0, .int .i64 0, .int .i64 0, .int .i64 0, .int .i64 0, .int .i64 0, .int .i64 0, .int .i64 0, .int .i64 0, .int .i64 0] 26) _ (by simp)).trans (heap_alloc2_new w _ _)
  have N0 := heap_at ((w.alloc (.cells (nd X) 26)).alloc (.cells #[.int .i64 0, .int .i64 0, .int .i64 0, .int .i64 0, .int .i64 0, .int .i64 0, .int .i64 0, .int .i64 0, .int .i64 0, .int .i64 0, .int .i64 0, .int .i64 0, .int .i64 0, .int .i64 0, .int .i64 0, .int .i64 0] 26)) #[.int .i64 0, .int .i64 0, .int .i64 0, .int .i64 0, .int .i64 0, .int .i64 0, .int .i64 0, .int .i64 0, .int .i64 0, .int .i64 0, .int .i64 0, .int .i64 0, .int .i64 0, .int .i64 0, .int .i64 0, .int .i64 0] 26 (w.heap.size + 1 + 1) (by simp)
  have N0' : (((w.alloc (.cells (nd X) 26)).alloc (.cells #[.int .i64 0, .int .i64 0, .int .i64 0, .int .i64 0, .int .i64 0, .int .i64 0, .int .i64 0, .int .i64 0, .int .i64 0, .int .i64 0, .int .i64 0, .int .i64 0, .int .i64 0, .int .i64 0, .int .i64 0, .int .i64 0] 26)).alloc (.cells #[.int .i64 0, .int .i64 0, .int .i64 0, .int .i64 0, .int .i64 0, .int .i64 0, .int .i64 0, .int .i64 0, .int .i64 0, .int .i64 0, .int .i64 0, .int .i64 0, .int .i64 0, .int .i64 0, .int .i64 0, .int .i64 0] 26)).heap[w.heap.size + 1 + 1]? = some (.cells (zq 16 (npart X 0)) 26 (0, 0)) := N0.trans (by congr 2)
  have F0 := ((((Fr.refl (fun _ => False) w).alloc (.cells (nd X) 26)).alloc (.cells #[.int .i64 0, .int .i64 0, .int .i64 0, .int .i64 0, .int .i64 0, .int .i64 0, .int .i64 0, .int .i64 0, .int .i64 0, .int .i64 0, .int .i64 0, .int .i64 0, .int .i64 0, .int .i64 0, .int .i64 0, .int .i64 0] 26)).alloc (.cells #[.int .i64 0, .int .i64 0, .int .i64 0, .int .i64 0, .int .i64 0, .int .i64 0, .int .i64 0, .int .i64 0, .int .i64 0, .int .i64 0, .int .i64 0, .int .i64 0, .int .i64 0, .int .i64 0, .int .i64 0, .int .i64 0] 26))
  clear N0
  go_enter Try.func25, Try.ntmps25
  go_wp2_with fail
  go_loopw [4, 5, 6] (fun u i _ wr => ∃ k : Nat, k ≤ 16 ∧ i = .int .i64 k ∧ u = .int .i64 (lck 65536 p25519 X k : Nat) ∧ wr.heap[w.heap.size + 1 + 1]? = some (.cells (zq 16 (npart X k)) 26 (0, 0)) ∧ wr.heap[w.heap.size]? = some (.cells (nd X) 26 (0, 0)) ∧ wr.heap[w.heap.size + 1]? = some (.cells #[.int .i64 0, .int .i64 0, .int .i64 0, .int .i64 0, .int .i64 0, .int .i64 0, .int .i64 0, .int .i64 0, .int .i64 0, .int .i64 0, .int .i64 0, .int .i64 0, .int .i64 0, .int .i64 0, .int .i64 0, .int .i64 0] 26 (0, 0)) ∧ Fr (fun _ => False) w wr) (fun _ i _ _ => 16 - (intOf i).toNat)
  case atStart => exact ⟨0, by omega, by simp, by simp [lck_zero], N0', A0, R0, F0⟩
  case round =>
    clear N0' A0 R0 F0
    obtain ⟨k, hk, rfl, rfl, hM, hA, hB, hF⟩ := hrel
    by_cases h16 : k < 16
    · obtain ⟨x, l, hx, hl, ex, el, hz⟩ := nstep X k h16 HXB.out
      have c0 := cell_of_block hA k
      rw [show (nd X)[k]? = some (.int .i64 (dig 65536 X k : Int)) from iq_get 16 _ k h16, ← ex] at c0
      have q0 : (0 : Int) ≤ (k : Int) := by omega
      have q1 : (k : Int) < 16 := by omega
      have x9 : (x : Int) < 65536 := by omega
      have l9 : (l : Int) ≤ 1 := by omega
      rw [← el]
      rcases hz with ⟨h1, h2, h3⟩ | ⟨h1, h2, h3⟩
      · as_aux_lemma =>
        have HL := Lib.hid h2
        have HD := Lib.hid h3
        have HX1 := Lib.hid ex
        have HM := Lib.hid hM
        have HA := Lib.hid hA
        have HB := Lib.hid hB
        have HF := Lib.hid hF
        clear h2 h3 el ex hM hA hB hF
        by_cases k0 : k = 0
        · subst k0
          have hp : pdg 0 = 65517 := by rfl
          rw [hp] at h1
          have hz2 : ((65517 : Int) - (x : Int) - (l : Int)) + 65536 = (dig 65536 (p25519 + 65536 ^ 16 - X) 0 : Int) := by rw [HD.out, hp]; omega
          clear hp
          have w1 : IntKind.i64.wrap ((65517 : Int) - (x : Int)) = (65517 : Int) - (x : Int) := IntWalk.i64_in _ (by omega)
          have w2 : IntKind.i64.wrap ((65517 : Int) - (x : Int) - (l : Int)) = ((65517 : Int) - (x : Int) - (l : Int)) := IntWalk.i64_in _ (by omega)
          have w3 : IntKind.i64.wrap (((65517 : Int) - (x : Int) - (l : Int)) + 65536) = ((65517 : Int) - (x : Int) - (l : Int)) + 65536 := IntWalk.i64_in _ (by omega)
          have d1 : decide (((65517 : Int) - (x : Int) - (l : Int)) < 0) = true := decide_eq_true h1
          have hst : ∀ w9 : World, w9.heap[w.heap.size + 1 + 1]? = some (.cells ((zq 16 (npart X 0)).setIfInBounds 0 (.int .i64 (((65517 : Int) - (x : Int) - (l : Int)) + 65536))) 26 (0, 0)) → w9.heap[w.heap.size + 1 + 1]? = some (.cells (zq 16 (npart X (0 + 1))) 26 (0, 0)) := fun w9 h9 => by rw [npart_step X 0 (by omega) _ hz2] at h9; exact h9
          have HST := Lib.hid hst
          clear hst hz2 HD HX1 h1
          rw [show ((0 : Nat) : Int) = 0 from rfl] at *
          have hsz : 0 < (zq 16 (npart X 0)).size := by rw [zq_size]; omega
          go_wp2_with (with_reducible refine wpList_store_int rfl 3 (.tmp 23) (.tmp 22) rfl (w.heap.size + 1 + 1) 0 rfl .i64 (((65517 : Int) - (x : Int) - (l : Int))) rfl Try.i3 26 _ HM.out hsz ?k0)
          case k0 =>
          intro wa M0 F0
          have c1 : wa.cell? ⟨w.heap.size + 1 + 1, 0, none⟩ = some (Value.int .i64 (((65517 : Int) - (x : Int) - (l : Int)))) := by rw [cell_of_block M0, Array.getElem?_setIfInBounds_self_of_lt]; first | exact hsz | (simp only [Array.size_setIfInBounds]; exact hsz)
          have HM0 := Lib.hid M0
          have HF0 := Lib.hid F0
          clear M0 F0 c0
          go_wp2_with (with_reducible refine wpList_store_int rfl 3 (.tmp 33) (.tmp 32) rfl (w.heap.size + 1 + 1) 0 rfl .i64 (((65517 : Int) - (x : Int) - (l : Int)) + 65536) rfl Try.i3 26 _ HM0.out (by first | exact hsz | (simp only [Array.size_setIfInBounds]; exact hsz)) ?k1)
          case k1 =>
          intro wb M1 F1
          have c2 : wb.cell? ⟨w.heap.size + 1 + 1, 0, none⟩ = some (Value.int .i64 (((65517 : Int) - (x : Int) - (l : Int)) + 65536)) := by rw [cell_of_block M1, Array.getElem?_setIfInBounds_self_of_lt]; first | exact hsz | (simp only [Array.size_setIfInBounds]; exact hsz)
          have HM1 := Lib.hid M1
          have HF1 := Lib.hid F1
          clear M1 F1 c1
          clear c2
          go_wp2_with fail
          go_roundw
          case rel => exact ⟨0 + 1, by omega, by first | go_num | rfl, by rw [HL.out]; rfl, HST.out _ (by have := HM1.out; (try simp only [Array.setIfInBounds_setIfInBounds] at this); exact this), ((HF1.out.block _ (lt_of_block ((HF0.out.block _ (lt_of_block HA.out) (by omega)).trans HA.out)) (by omega)).trans ((HF0.out.block _ (lt_of_block HA.out) (by omega)).trans HA.out)), ((HF1.out.block _ (lt_of_block ((HF0.out.block _ (lt_of_block HB.out) (by omega)).trans HB.out)) (by omega)).trans ((HF0.out.block _ (lt_of_block HB.out) (by omega)).trans HB.out)), ((HF.out.trans HF0.out (fun i hi => Or.inr (by omega))).trans HF1.out (fun i hi => Or.inr (by omega)))⟩
          case measure => simp [intOf] <;> omega
        · by_cases k15 : k = 15
          · subst k15
            have hp : pdg 15 = 32767 := by rfl
            rw [hp] at h1
            have hz2 : ((32767 : Int) - (x : Int) - (l : Int)) + 65536 = (dig 65536 (p25519 + 65536 ^ 16 - X) 15 : Int) := by rw [HD.out, hp]; omega
            clear hp
            have w1 : IntKind.i64.wrap ((32767 : Int) - (x : Int)) = (32767 : Int) - (x : Int) := IntWalk.i64_in _ (by omega)
            have w2 : IntKind.i64.wrap ((32767 : Int) - (x : Int) - (l : Int)) = ((32767 : Int) - (x : Int) - (l : Int)) := IntWalk.i64_in _ (by omega)
            have w3 : IntKind.i64.wrap (((32767 : Int) - (x : Int) - (l : Int)) + 65536) = ((32767 : Int) - (x : Int) - (l : Int)) + 65536 := IntWalk.i64_in _ (by omega)
            have d1 : decide (((32767 : Int) - (x : Int) - (l : Int)) < 0) = true := decide_eq_true h1
            have hst : ∀ w9 : World, w9.heap[w.heap.size + 1 + 1]? = some (.cells ((zq 16 (npart X 15)).setIfInBounds 15 (.int .i64 (((32767 : Int) - (x : Int) - (l : Int)) + 65536))) 26 (0, 0)) → w9.heap[w.heap.size + 1 + 1]? = some (.cells (zq 16 (npart X (15 + 1))) 26 (0, 0)) := fun w9 h9 => by rw [npart_step X 15 (by omega) _ hz2] at h9; exact h9
            have HST := Lib.hid hst
            clear hst hz2 HD HX1 h1
            rw [show ((15 : Nat) : Int) = 15 from rfl] at *
            have hsz : 15 < (zq 16 (npart X 15)).size := by rw [zq_size]; omega
            go_wp2_with (with_reducible refine wpList_store_int rfl 3 (.tmp 23) (.tmp 22) rfl (w.heap.size + 1 + 1) 15 rfl .i64 (((32767 : Int) - (x : Int) - (l : Int))) rfl Try.i3 26 _ HM.out hsz ?k0)
            case k0 =>
            intro wa M0 F0
            have c1 : wa.cell? ⟨w.heap.size + 1 + 1, 15, none⟩ = some (Value.int .i64 (((32767 : Int) - (x : Int) - (l : Int)))) := by rw [cell_of_block M0, Array.getElem?_setIfInBounds_self_of_lt]; first | exact hsz | (simp only [Array.size_setIfInBounds]; exact hsz)
            have HM0 := Lib.hid M0
            have HF0 := Lib.hid F0
            clear M0 F0 c0
            go_wp2_with (with_reducible refine wpList_store_int rfl 3 (.tmp 33) (.tmp 32) rfl (w.heap.size + 1 + 1) 15 rfl .i64 (((32767 : Int) - (x : Int) - (l : Int)) + 65536) rfl Try.i3 26 _ HM0.out (by first | exact hsz | (simp only [Array.size_setIfInBounds]; exact hsz)) ?k1)
            case k1 =>
            intro wb M1 F1
            have c2 : wb.cell? ⟨w.heap.size + 1 + 1, 15, none⟩ = some (Value.int .i64 (((32767 : Int) - (x : Int) - (l : Int)) + 65536)) := by rw [cell_of_block M1, Array.getElem?_setIfInBounds_self_of_lt]; first | exact hsz | (simp only [Array.size_setIfInBounds]; exact hsz)
            have HM1 := Lib.hid M1
            have HF1 := Lib.hid F1
            clear M1 F1 c1
            clear c2
            go_wp2_with fail
            go_roundw
            case rel => exact ⟨15 + 1, by omega, by first | go_num | rfl, by rw [HL.out]; rfl, HST.out _ (by have := HM1.out; (try simp only [Array.setIfInBounds_setIfInBounds] at this); exact this), ((HF1.out.block _ (lt_of_block ((HF0.out.block _ (lt_of_block HA.out) (by omega)).trans HA.out)) (by omega)).trans ((HF0.out.block _ (lt_of_block HA.out) (by omega)).trans HA.out)), ((HF1.out.block _ (lt_of_block ((HF0.out.block _ (lt_of_block HB.out) (by omega)).trans HB.out)) (by omega)).trans ((HF0.out.block _ (lt_of_block HB.out) (by omega)).trans HB.out)), ((HF.out.trans HF0.out (fun i hi => Or.inr (by omega))).trans HF1.out (fun i hi => Or.inr (by omega)))⟩
            case measure => simp [intOf] <;> omega
          · have hp : pdg k = 65535 := by unfold pdg; rw [if_neg k0, if_neg k15]
            have t3 : ((k : Int) == 15) = false := by rw [beq_eq_false_iff_ne]; omega
            have t3' : (k == 15) = false := by rw [beq_eq_false_iff_ne]; exact k15
            have t4 : ((k : Int) == 0) = false := by rw [beq_eq_false_iff_ne]; omega
            have t4' : (k == 0) = false := by rw [beq_eq_false_iff_ne]; exact k0
            rw [hp] at h1
            have hz2 : ((65535 : Int) - (x : Int) - (l : Int)) + 65536 = (dig 65536 (p25519 + 65536 ^ 16 - X) k : Int) := by rw [HD.out, hp]; omega
            clear hp
            have w1 : IntKind.i64.wrap ((65535 : Int) - (x : Int)) = (65535 : Int) - (x : Int) := IntWalk.i64_in _ (by omega)
            have w2 : IntKind.i64.wrap ((65535 : Int) - (x : Int) - (l : Int)) = ((65535 : Int) - (x : Int) - (l : Int)) := IntWalk.i64_in _ (by omega)
            have w3 : IntKind.i64.wrap (((65535 : Int) - (x : Int) - (l : Int)) + 65536) = ((65535 : Int) - (x : Int) - (l : Int)) + 65536 := IntWalk.i64_in _ (by omega)
            have d1 : decide (((65535 : Int) - (x : Int) - (l : Int)) < 0) = true := decide_eq_true h1
            have hst : ∀ w9 : World, w9.heap[w.heap.size + 1 + 1]? = some (.cells ((zq 16 (npart X k)).setIfInBounds k (.int .i64 (((65535 : Int) - (x : Int) - (l : Int)) + 65536))) 26 (0, 0)) → w9.heap[w.heap.size + 1 + 1]? = some (.cells (zq 16 (npart X (k + 1))) 26 (0, 0)) := fun w9 h9 => by rw [npart_step X k (by omega) _ hz2] at h9; exact h9
            have HST := Lib.hid hst
            clear hst hz2 HD HX1 h1
            have hsz : k < (zq 16 (npart X k)).size := by rw [zq_size]; omega
            go_wp2_with (with_reducible refine wpList_store_int rfl 3 (.tmp 23) (.tmp 22) rfl (w.heap.size + 1 + 1) k rfl .i64 (((65535 : Int) - (x : Int) - (l : Int))) rfl Try.i3 26 _ HM.out hsz ?k0)
            case k0 =>
            intro wa M0 F0
            have c1 : wa.cell? ⟨w.heap.size + 1 + 1, k, none⟩ = some (Value.int .i64 (((65535 : Int) - (x : Int) - (l : Int)))) := by rw [cell_of_block M0, Array.getElem?_setIfInBounds_self_of_lt]; first | exact hsz | (simp only [Array.size_setIfInBounds]; exact hsz)
            have HM0 := Lib.hid M0
            have HF0 := Lib.hid F0
            clear M0 F0 c0
            go_wp2_with (with_reducible refine wpList_store_int rfl 3 (.tmp 33) (.tmp 32) rfl (w.heap.size + 1 + 1) k rfl .i64 (((65535 : Int) - (x : Int) - (l : Int)) + 65536) rfl Try.i3 26 _ HM0.out (by first | exact hsz | (simp only [Array.size_setIfInBounds]; exact hsz)) ?k1)
            case k1 =>
            intro wb M1 F1
            have c2 : wb.cell? ⟨w.heap.size + 1 + 1, k, none⟩ = some (Value.int .i64 (((65535 : Int) - (x : Int) - (l : Int)) + 65536)) := by rw [cell_of_block M1, Array.getElem?_setIfInBounds_self_of_lt]; first | exact hsz | (simp only [Array.size_setIfInBounds]; exact hsz)
            have HM1 := Lib.hid M1
            have HF1 := Lib.hid F1
            clear M1 F1 c1
            clear c2
            go_wp2_with fail
            go_roundw
            case rel => exact ⟨k + 1, by omega, by first | go_num | rfl, by rw [HL.out]; rfl, HST.out _ (by have := HM1.out; (try simp only [Array.setIfInBounds_setIfInBounds] at this); exact this), ((HF1.out.block _ (lt_of_block ((HF0.out.block _ (lt_of_block HA.out) (by omega)).trans HA.out)) (by omega)).trans ((HF0.out.block _ (lt_of_block HA.out) (by omega)).trans HA.out)), ((HF1.out.block _ (lt_of_block ((HF0.out.block _ (lt_of_block HB.out) (by omega)).trans HB.out)) (by omega)).trans ((HF0.out.block _ (lt_of_block HB.out) (by omega)).trans HB.out)), ((HF.out.trans HF0.out (fun i hi => Or.inr (by omega))).trans HF1.out (fun i hi => Or.inr (by omega)))⟩
            case measure => simp [intOf] <;> omega
      · as_aux_lemma =>
        have HL := Lib.hid h2
        have HD := Lib.hid h3
        have HX1 := Lib.hid ex
        have HM := Lib.hid hM
        have HA := Lib.hid hA
        have HB := Lib.hid hB
        have HF := Lib.hid hF
        clear h2 h3 el ex hM hA hB hF
        by_cases k0 : k = 0
        · subst k0
          have hp : pdg 0 = 65517 := by rfl
          rw [hp] at h1
          have hz2 : ((65517 : Int) - (x : Int) - (l : Int)) = (dig 65536 (p25519 + 65536 ^ 16 - X) 0 : Int) := by rw [HD.out, hp]; omega
          clear hp
          have w1 : IntKind.i64.wrap ((65517 : Int) - (x : Int)) = (65517 : Int) - (x : Int) := IntWalk.i64_in _ (by omega)
          have w2 : IntKind.i64.wrap ((65517 : Int) - (x : Int) - (l : Int)) = ((65517 : Int) - (x : Int) - (l : Int)) := IntWalk.i64_in _ (by omega)
          have d1 : decide (((65517 : Int) - (x : Int) - (l : Int)) < 0) = false := decide_eq_false h1
          have hst : ∀ w9 : World, w9.heap[w.heap.size + 1 + 1]? = some (.cells ((zq 16 (npart X 0)).setIfInBounds 0 (.int .i64 (((65517 : Int) - (x : Int) - (l : Int))))) 26 (0, 0)) → w9.heap[w.heap.size + 1 + 1]? = some (.cells (zq 16 (npart X (0 + 1))) 26 (0, 0)) := fun w9 h9 => by rw [npart_step X 0 (by omega) _ hz2] at h9; exact h9
          have HST := Lib.hid hst
          clear hst hz2 HD HX1 h1
          rw [show ((0 : Nat) : Int) = 0 from rfl] at *
          have hsz : 0 < (zq 16 (npart X 0)).size := by rw [zq_size]; omega
          go_wp2_with (with_reducible refine wpList_store_int rfl 3 (.tmp 23) (.tmp 22) rfl (w.heap.size + 1 + 1) 0 rfl .i64 (((65517 : Int) - (x : Int) - (l : Int))) rfl Try.i3 26 _ HM.out hsz ?k0)
          case k0 =>
          intro wa M0 F0
          have c1 : wa.cell? ⟨w.heap.size + 1 + 1, 0, none⟩ = some (Value.int .i64 (((65517 : Int) - (x : Int) - (l : Int)))) := by rw [cell_of_block M0, Array.getElem?_setIfInBounds_self_of_lt]; first | exact hsz | (simp only [Array.size_setIfInBounds]; exact hsz)
          have HM0 := Lib.hid M0
          have HF0 := Lib.hid F0
          clear M0 F0 c0
          go_wp2_with fail
          go_roundw
          case rel => exact ⟨0 + 1, by omega, by first | go_num | rfl, by rw [HL.out]; rfl, HST.out _ HM0.out, ((HF0.out.block _ (lt_of_block HA.out) (by omega)).trans HA.out), ((HF0.out.block _ (lt_of_block HB.out) (by omega)).trans HB.out), (HF.out.trans HF0.out (fun i hi => Or.inr (by omega)))⟩
          case measure => simp [intOf] <;> omega
        · by_cases k15 : k = 15
          · subst k15
            have hp : pdg 15 = 32767 := by rfl
            rw [hp] at h1
            have hz2 : ((32767 : Int) - (x : Int) - (l : Int)) = (dig 65536 (p25519 + 65536 ^ 16 - X) 15 : Int) := by rw [HD.out, hp]; omega
            clear hp
            have w1 : IntKind.i64.wrap ((32767 : Int) - (x : Int)) = (32767 : Int) - (x : Int) := IntWalk.i64_in _ (by omega)
            have w2 : IntKind.i64.wrap ((32767 : Int) - (x : Int) - (l : Int)) = ((32767 : Int) - (x : Int) - (l : Int)) := IntWalk.i64_in _ (by omega)
            have d1 : decide (((32767 : Int) - (x : Int) - (l : Int)) < 0) = false := decide_eq_false h1
            have hst : ∀ w9 : World, w9.heap[w.heap.size + 1 + 1]? = some (.cells ((zq 16 (npart X 15)).setIfInBounds 15 (.int .i64 (((32767 : Int) - (x : Int) - (l : Int))))) 26 (0, 0)) → w9.heap[w.heap.size + 1 + 1]? = some (.cells (zq 16 (npart X (15 + 1))) 26 (0, 0)) := fun w9 h9 => by rw [npart_step X 15 (by omega) _ hz2] at h9; exact h9
            have HST := Lib.hid hst
            clear hst hz2 HD HX1 h1
            rw [show ((15 : Nat) : Int) = 15 from rfl] at *
            have hsz : 15 < (zq 16 (npart X 15)).size := by rw [zq_size]; omega
            go_wp2_with (with_reducible refine wpList_store_int rfl 3 (.tmp 23) (.tmp 22) rfl (w.heap.size + 1 + 1) 15 rfl .i64 (((32767 : Int) - (x : Int) - (l : Int))) rfl Try.i3 26 _ HM.out hsz ?k0)
            case k0 =>
            intro wa M0 F0
            have c1 : wa.cell? ⟨w.heap.size + 1 + 1, 15, none⟩ = some (Value.int .i64 (((32767 : Int) - (x : Int) - (l : Int)))) := by rw [cell_of_block M0, Array.getElem?_setIfInBounds_self_of_lt]; first | exact hsz | (simp only [Array.size_setIfInBounds]; exact hsz)
            have HM0 := Lib.hid M0
            have HF0 := Lib.hid F0
            clear M0 F0 c0
            go_wp2_with fail
            go_roundw
            case rel => exact ⟨15 + 1, by omega, by first | go_num | rfl, by rw [HL.out]; rfl, HST.out _ HM0.out, ((HF0.out.block _ (lt_of_block HA.out) (by omega)).trans HA.out), ((HF0.out.block _ (lt_of_block HB.out) (by omega)).trans HB.out), (HF.out.trans HF0.out (fun i hi => Or.inr (by omega)))⟩
            case measure => simp [intOf] <;> omega
          · have hp : pdg k = 65535 := by unfold pdg; rw [if_neg k0, if_neg k15]
            have t3 : ((k : Int) == 15) = false := by rw [beq_eq_false_iff_ne]; omega
            have t3' : (k == 15) = false := by rw [beq_eq_false_iff_ne]; exact k15
            have t4 : ((k : Int) == 0) = false := by rw [beq_eq_false_iff_ne]; omega
            have t4' : (k == 0) = false := by rw [beq_eq_false_iff_ne]; exact k0
            rw [hp] at h1
            have hz2 : ((65535 : Int) - (x : Int) - (l : Int)) = (dig 65536 (p25519 + 65536 ^ 16 - X) k : Int) := by rw [HD.out, hp]; omega
            clear hp
            have w1 : IntKind.i64.wrap ((65535 : Int) - (x : Int)) = (65535 : Int) - (x : Int) := IntWalk.i64_in _ (by omega)
            have w2 : IntKind.i64.wrap ((65535 : Int) - (x : Int) - (l : Int)) = ((65535 : Int) - (x : Int) - (l : Int)) := IntWalk.i64_in _ (by omega)
            have d1 : decide (((65535 : Int) - (x : Int) - (l : Int)) < 0) = false := decide_eq_false h1
            have hst : ∀ w9 : World, w9.heap[w.heap.size + 1 + 1]? = some (.cells ((zq 16 (npart X k)).setIfInBounds k (.int .i64 (((65535 : Int) - (x : Int) - (l : Int))))) 26 (0, 0)) → w9.heap[w.heap.size + 1 + 1]? = some (.cells (zq 16 (npart X (k + 1))) 26 (0, 0)) := fun w9 h9 => by rw [npart_step X k (by omega) _ hz2] at h9; exact h9
            have HST := Lib.hid hst
            clear hst hz2 HD HX1 h1
            have hsz : k < (zq 16 (npart X k)).size := by rw [zq_size]; omega
            go_wp2_with (with_reducible refine wpList_store_int rfl 3 (.tmp 23) (.tmp 22) rfl (w.heap.size + 1 + 1) k rfl .i64 (((65535 : Int) - (x : Int) - (l : Int))) rfl Try.i3 26 _ HM.out hsz ?k0)
            case k0 =>
            intro wa M0 F0
            have c1 : wa.cell? ⟨w.heap.size + 1 + 1, k, none⟩ = some (Value.int .i64 (((65535 : Int) - (x : Int) - (l : Int)))) := by rw [cell_of_block M0, Array.getElem?_setIfInBounds_self_of_lt]; first | exact hsz | (simp only [Array.size_setIfInBounds]; exact hsz)
            have HM0 := Lib.hid M0
            have HF0 := Lib.hid F0
            clear M0 F0 c0
            go_wp2_with fail
            go_roundw
            case rel => exact ⟨k + 1, by omega, by first | go_num | rfl, by rw [HL.out]; rfl, HST.out _ HM0.out, ((HF0.out.block _ (lt_of_block HA.out) (by omega)).trans HA.out), ((HF0.out.block _ (lt_of_block HB.out) (by omega)).trans HB.out), (HF.out.trans HF0.out (fun i hi => Or.inr (by omega)))⟩
            case measure => simp [intOf] <;> omega
    · as_aux_lemma =>
      obtain rfl : k = 16 := by omega
      have s1 : (Try.prog.info? 26).map (·.size) = some (zq 16 (npart X 16)).size := by rw [zq_size]; kernel_rfl
      have s2 : (Try.prog.info? 26).map (·.size) = some (nd R).size := Try.sizeV
      have o2 : (nd R).all (·.oneCell') = true := iq_one 16 _
      have z2 : (#[.int .i64 0, .int .i64 0, .int .i64 0, .int .i64 0, .int .i64 0, .int .i64 0, .int .i64 0, .int .i64 0, .int .i64 0, .int .i64 0, .int .i64 0, .int .i64 0, .int .i64 0, .int .i64 0, .int .i64 0, .int .i64 0] : Array Value).size = (nd R).size := by unfold nd; rw [iq_size]; rfl
      generalize zq 16 (npart X 16) = S at *
      generalize lck 65536 p25519 X 16 = l at *
      rw [show ((16 : Nat) : Int) = 16 from rfl]
      go_wp2_with (with_reducible refine wpList_load_row rfl 26 (.tmp 3) rfl (w.heap.size + 1 + 1) rfl 26 S (0, 0) _ hM Try.underlying26 rfl s1 ?_)
      refine (TI _).mono ?_
      rintro e w1 ⟨rfl, F1⟩
      have R3 := F1.keep hB
      have G3 := hF.trans F1 (fun _ h => h.elim)
      clear hA hB hM hF F1
      go_wp2_with (with_reducible refine wpList_store_row rfl 26 (.tmp 2) (.tmp 35) rfl (w.heap.size + 1) (nd R) rfl rfl 26 #[.int .i64 0, .int .i64 0, .int .i64 0, .int .i64 0, .int .i64 0, .int .i64 0, .int .i64 0, .int .i64 0, .int .i64 0, .int .i64 0, .int .i64 0, .int .i64 0, .int .i64 0, .int .i64 0, .int .i64 0, .int .i64 0] R3 s2 z2 o2 ?_)
      refine bodyPost_ret (results_cell_row rfl _ _ (w.heap.size + 1) 26 (nd R) (0, 0) _ rfl (setRow_heap _ _ _ _ _ _ R3) Try.underlying26 rfl s2) rfl ?_
      exact ⟨rfl, G3.trans (Fr.setRow (S := fun k => k = w.heap.size + 1) (Fr.refl _ _) rfl _) (fun i hi => Or.inr (by omega))⟩
end Go.Proofs.Ytnobobdgoccmcaa


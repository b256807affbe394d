/-
  The contract of Pow of package field.
-/
import Derived.Test.YtnobobdgoccmcaaFi
namespace Go.Proofs.Ytnobobdgoccmcaa
open Go.RowKit Pri
set_option linter.unusedVariables false

theorem nib_dig (Y m : Nat) : dig 18446744073709551616 Y (m / 16) / 2 ^ (m % 16 * 4) % 16 = Y / 16 ^ m % 16 := by
  unfold dig
  have h64 : m % 16 < 16 := Nat.mod_lt _ (by decide)
  obtain ⟨k, hk⟩ : ∃ k, 64 = m % 16 * 4 + 4 + k := ⟨64 - (m % 16 * 4) - 4, by omega⟩
  have e1 : (18446744073709551616 : Nat) ^ (m / 16) = 2 ^ (64 * (m / 16)) := by rw [show (18446744073709551616 : Nat) = 2 ^ 64 from rfl, ← Nat.pow_mul]
  have e2 : ∀ z : Nat, z % 18446744073709551616 / 2 ^ (m % 16 * 4) % 16 = z / 2 ^ (m % 16 * 4) % 16 := fun z => by
    rw [show (18446744073709551616 : Nat) = 2 ^ (m % 16 * 4) * 16 * 2 ^ k by rw [show (16 : Nat) = 2 ^ 4 from rfl, ← Nat.pow_add, ← Nat.pow_add, ← show 64 = m % 2 ^ 4 * 4 + 4 + k from hk], Nat.mul_assoc, Nat.mod_mul_right_div_self, Nat.mod_mul_right_mod]
  have e3 : (16 : Nat) ^ m = 2 ^ (4 * m) := by rw [show (16 : Nat) = 2 ^ 4 from rfl, ← Nat.pow_mul]
  rw [e2, e1, Nat.div_div_eq_div_mul, ← Nat.pow_add, show 64 * (m / 16) + m % 16 * 4 = 4 * m by omega, e3]
theorem nib_and (z : Nat) (hz : z < 18446744073709551616) : bits .and .u64 (z : Int) 15 = ((z % 16 : Nat) : Int) := by
  rw [show (15 : Int) = ((15 : Nat) : Int) from rfl, (bits_u64_N z 15 hz (by decide)).2.1, show (15 : Nat) = 2 ^ 4 - 1 from rfl, Nat.and_two_pow_sub_one_eq_mod]
theorem pwr_dbl (X e : Nat) : pwr X e * pwr X e % p25519 = pwr X (e * 2) := by rw [pwr_add, Nat.mul_two]
theorem pwr_nib (X M m : Nat) : pwr X (M / 16 ^ (m + 1) * 2 ^ 4) * pwr X (M / 16 ^ m % 16) % p25519 = pwr X (M / 16 ^ m) := by
  rw [pwr_add, Nat.pow_succ, ← Nat.div_div_eq_div_mul]
  congr 1
  omega
theorem div_top (M : Nat) (hM : M < 115792089237316195423570985008687907853269984665640564039457584007913129639936) : M / 16 ^ 64 = 0 := Nat.div_eq_of_lt (Nat.lt_of_lt_of_le hM (by decide +kernel))
set_option maxRecDepth 100000 in
set_option maxHeartbeats 3200000 in
theorem fpow_any (X M : Nat) (hX : X < 115792089237316195423570985008687907853269984665640564039457584007913129639936) (hM : M < 115792089237316195423570985008687907853269984665640564039457584007913129639936) (w : World) :
    Calls Try.prog 34 #[.agg (nc X), .agg (nc M)] w fun e w' => e = .returned (.agg (nc (pwr X M))) ∧ Fr (fun _ => False) w w' := by
  have SM := fun W => fsmall_any 1 (by decide) W
  rw [show ((1 : Nat) : Int) = 1 from rfl] at SM
  have FI := fun W => ffirst_any X hX W
  have MU := Lib.hid (fun a b W => fmul_any (pwr X a) (pwr X b) (pwr_lt X a) (pwr_lt X b) W)
  have D0 := div_top M hM
  have sN : ∀ Y, (Try.prog.info? 24).map (·.size) = some (nc Y).size := fun Y => by show _ = some 4; kernel_rfl
  have sX := sN X
  have s1 := sN 1
  have s64 : (Try.prog.info? 109).map (·.size) = some (rows (pwr X)).size := by rw [rows_size]; kernel_rfl
  have z64 : (#[.int .u64 0, .int .u64 0, .int .u64 0, .int .u64 0, .int .u64 0, .int .u64 0, .int .u64 0, .int .u64 0, .int .u64 0, .int .u64 0, .int .u64 0, .int .u64 0, .int .u64 0, .int .u64 0, .int .u64 0, .int .u64 0, .int .u64 0, .int .u64 0, .int .u64 0, .int .u64 0, .int .u64 0, .int .u64 0, .int .u64 0, .int .u64 0, .int .u64 0, .int .u64 0, .int .u64 0, .int .u64 0, .int .u64 0, .int .u64 0, .int .u64 0, .int .u64 0, .int .u64 0, .int .u64 0, .int .u64 0, .int .u64 0, .int .u64 0, .int .u64 0, .int .u64 0, .int .u64 0, .int .u64 0, .int .u64 0, .int .u64 0, .int .u64 0, .int .u64 0, .int .u64 0, .int .u64 0, .int .u64 0, .int .u64 0, .int .u64 0, .int .u64 0, .int .u64 0, .int .u64 0, .int .u64 0, .int .u64 0, .int .u64 0, .int .u64 0, .int .u64 0, .int .u64 0, .int .u64 0, .int .u64 0, .int .u64 0, .int .u64 0, .int .u64 0] : Array Value).size = (rows (pwr X)).size := by rw [rows_size]; rfl
  have o64 := rows_one (pwr X)
  have zz1 : (#[.int .u64 0, .int .u64 0, .int .u64 0, .int .u64 0] : Array Value).size = (nc 1).size := rfl
  have o1 := nc_one 1
  have S0 := ((w.alloc (.cells (nc X) 24)).alloc (.cells (nc M) 23))
  have HX := Lib.hid ((Below.heap_alloc ((w.alloc (.cells (nc X) 24)).alloc (.cells (nc M) 23)) (.cells #[.int .u64 0, .int .u64 0, .int .u64 0, .int .u64 0] 24) _ (by simp; omega)).trans (heap_alloc2_old w _ _))
  have HM := Lib.hid ((Below.heap_alloc ((w.alloc (.cells (nc X) 24)).alloc (.cells (nc M) 23)) (.cells #[.int .u64 0, .int .u64 0, .int .u64 0, .int .u64 0] 24) _ (by simp)).trans (heap_alloc2_new w _ _))
  have HR := Lib.hid (heap_at ((w.alloc (.cells (nc X) 24)).alloc (.cells (nc M) 23)) #[.int .u64 0, .int .u64 0, .int .u64 0, .int .u64 0] 24 (w.heap.size + 1 + 1) (by simp))
  have HF := Lib.hid (((((Fr.refl (fun _ => False) w).alloc (.cells (nc X) 24)).alloc (.cells (nc M) 23)).alloc (.cells #[.int .u64 0, .int .u64 0, .int .u64 0, .int .u64 0] 24)))
  clear hX hM S0
  go_enter Try.func34, Try.ntmps34
  go_wp2_with (with_reducible refine wpList_load_row rfl 24 (.tmp 2) rfl w.heap.size rfl 24 (nc X) (0, 0) _ HX.out Try.underlying24 rfl sX ?_)
  refine (FI _).mono ?_
  rintro e w1 ⟨rfl, F1⟩
  have M1 := F1.keep HM.out
  have R1 := F1.keep HR.out
  have G1 := HF.out.trans F1 (fun _ h => h.elim)
  have K0 := heap_alloc_new w1 (.cells #[.int .u64 0, .int .u64 0, .int .u64 0, .int .u64 0, .int .u64 0, .int .u64 0, .int .u64 0, .int .u64 0, .int .u64 0, .int .u64 0, .int .u64 0, .int .u64 0, .int .u64 0, .int .u64 0, .int .u64 0, .int .u64 0, .int .u64 0, .int .u64 0, .int .u64 0, .int .u64 0, .int .u64 0, .int .u64 0, .int .u64 0, .int .u64 0, .int .u64 0, .int .u64 0, .int .u64 0, .int .u64 0, .int .u64 0, .int .u64 0, .int .u64 0, .int .u64 0, .int .u64 0, .int .u64 0, .int .u64 0, .int .u64 0, .int .u64 0, .int .u64 0, .int .u64 0, .int .u64 0, .int .u64 0, .int .u64 0, .int .u64 0, .int .u64 0, .int .u64 0, .int .u64 0, .int .u64 0, .int .u64 0, .int .u64 0, .int .u64 0, .int .u64 0, .int .u64 0, .int .u64 0, .int .u64 0, .int .u64 0, .int .u64 0, .int .u64 0, .int .u64 0, .int .u64 0, .int .u64 0, .int .u64 0, .int .u64 0, .int .u64 0, .int .u64 0] 109)
  clear HX HM HR HF F1 FI
  go_wp2_with (with_reducible refine wpList_store_row rfl 109 (.tmp 5) (.tmp 9) rfl w1.heap.size (rows (pwr X)) rfl rfl 109 _ K0 s64 z64 o64 ?_)
  have zl := lt_of_block R1
  have F2 : Fr (fun _ => False) w1 ((w1.alloc (.cells #[.int .u64 0, .int .u64 0, .int .u64 0, .int .u64 0, .int .u64 0, .int .u64 0, .int .u64 0, .int .u64 0, .int .u64 0, .int .u64 0, .int .u64 0, .int .u64 0, .int .u64 0, .int .u64 0, .int .u64 0, .int .u64 0, .int .u64 0, .int .u64 0, .int .u64 0, .int .u64 0, .int .u64 0, .int .u64 0, .int .u64 0, .int .u64 0, .int .u64 0, .int .u64 0, .int .u64 0, .int .u64 0, .int .u64 0, .int .u64 0, .int .u64 0, .int .u64 0, .int .u64 0, .int .u64 0, .int .u64 0, .int .u64 0, .int .u64 0, .int .u64 0, .int .u64 0, .int .u64 0, .int .u64 0, .int .u64 0, .int .u64 0, .int .u64 0, .int .u64 0, .int .u64 0, .int .u64 0, .int .u64 0, .int .u64 0, .int .u64 0, .int .u64 0, .int .u64 0, .int .u64 0, .int .u64 0, .int .u64 0, .int .u64 0, .int .u64 0, .int .u64 0, .int .u64 0, .int .u64 0, .int .u64 0, .int .u64 0, .int .u64 0, .int .u64 0] 109)).setRow w1.heap.size (rows (pwr X))) := ((Fr.refl _ w1).alloc _).trans (Fr.setRow (S := fun k => k = w1.heap.size) (Fr.refl _ _) rfl _) (fun i hi => Or.inr (by have : i = w1.heap.size := hi; omega))
  have M2 := F2.keep M1
  have R2 := F2.keep R1
  have P2 := setRow_heap _ _ _ (rows (pwr X)) _ _ K0
  have G2 := G1.trans F2 (fun _ h => h.elim)
  clear F2 M1 R1 G1 s64 z64 o64 K0
  generalize hg3 : w1.heap.size = g at *
  generalize (w1.alloc (.cells #[.int .u64 0, .int .u64 0, .int .u64 0, .int .u64 0, .int .u64 0, .int .u64 0, .int .u64 0, .int .u64 0, .int .u64 0, .int .u64 0, .int .u64 0, .int .u64 0, .int .u64 0, .int .u64 0, .int .u64 0, .int .u64 0, .int .u64 0, .int .u64 0, .int .u64 0, .int .u64 0, .int .u64 0, .int .u64 0, .int .u64 0, .int .u64 0, .int .u64 0, .int .u64 0, .int .u64 0, .int .u64 0, .int .u64 0, .int .u64 0, .int .u64 0, .int .u64 0, .int .u64 0, .int .u64 0, .int .u64 0, .int .u64 0, .int .u64 0, .int .u64 0, .int .u64 0, .int .u64 0, .int .u64 0, .int .u64 0, .int .u64 0, .int .u64 0, .int .u64 0, .int .u64 0, .int .u64 0, .int .u64 0, .int .u64 0, .int .u64 0, .int .u64 0, .int .u64 0, .int .u64 0, .int .u64 0, .int .u64 0, .int .u64 0, .int .u64 0, .int .u64 0, .int .u64 0, .int .u64 0, .int .u64 0, .int .u64 0, .int .u64 0, .int .u64 0] 109)).setRow g (rows (pwr X)) = w2 at *
  have hgw : w.heap.size + 1 + 1 < g := zl
  clear hg3 zl
  refine (SM _).mono ?_
  rintro e w3 ⟨rfl, F3⟩
  have M3 := F3.keep M2
  have R3 := F3.keep R2
  have P3 := F3.keep P2
  have G3 := G2.trans F3 (fun _ h => h.elim)
  have K0 := heap_alloc_new w3 (.cells #[.int .u64 0, .int .u64 0, .int .u64 0, .int .u64 0] 24)
  clear M2 R2 P2 G2 F3 SM
  go_wp2_with (with_reducible refine wpList_store_row rfl 24 (.tmp 6) (.tmp 10) rfl w3.heap.size (nc 1) rfl rfl 24 _ K0 s1 zz1 o1 ?_)
  have zl := lt_of_block P3
  have zr := lt_of_block R3
  have F4 : Fr (fun _ => False) w3 ((w3.alloc (.cells #[.int .u64 0, .int .u64 0, .int .u64 0, .int .u64 0] 24)).setRow w3.heap.size (nc 1)) := ((Fr.refl _ w3).alloc _).trans (Fr.setRow (S := fun k => k = w3.heap.size) (Fr.refl _ _) rfl _) (fun i hi => Or.inr (by have : i = w3.heap.size := hi; omega))
  have M4 := F4.keep M3
  have R4 := F4.keep R3
  have P4 := F4.keep P3
  have Q4 := setRow_heap _ _ _ (nc 1) _ _ K0
  have G4 := G3.trans F4 (fun _ h => h.elim)
  clear F4 M3 R3 P3 G3 s1 zz1 o1 K0
  generalize hg3 : w3.heap.size = q at *
  generalize (w3.alloc (.cells #[.int .u64 0, .int .u64 0, .int .u64 0, .int .u64 0] 24)).setRow q (nc 1) = w4 at *
  have hqg : g < q := zl
  clear hg3 zl zr
  rw [show nc 1 = nc (pwr X (M / 16 ^ 64)) by rw [D0, pwr_zero]] at Q4
  clear D0
  go_loopw [7] (fun i wr => ∃ n : Nat, n ≤ 64 ∧ i = .int .i64 ((n : Int) - 1) ∧ wr.heap[q]? = some (.cells (nc (pwr X (M / 16 ^ n))) 24 (0, 0)) ∧ wr.heap[g]? = some (.cells (rows (pwr X)) 109 (0, 0)) ∧ wr.heap[w.heap.size + 1]? = some (.cells (nc M) 23 (0, 0)) ∧ wr.heap[w.heap.size + 1 + 1]? = some (.cells #[.int .u64 0, .int .u64 0, .int .u64 0, .int .u64 0] 24 (0, 0)) ∧ Fr (fun _ => False) w wr) (fun i _ => (intOf i + 1).toNat)
  case atStart => exact ⟨64, by omega, by simp, Q4, P4, M4, R4, G4⟩
  case round =>
    clear Q4 P4 M4 R4 G4
    obtain ⟨n, hn, rfl, hQ, hP, hM, hR, hF⟩ := hrel
    by_cases h0 : n = 0
    · subst h0
      rw [Nat.pow_zero, Nat.div_one] at hQ
      have sR := sN (pwr X M)
      have zR' : (#[.int .u64 0, .int .u64 0, .int .u64 0, .int .u64 0] : Array Value).size = (nc (pwr X M)).size := rfl
      have oR := nc_one (pwr X M)
      clear hP hM sN MU sX
      rw [show ((0 : Nat) : Int) - 1 = -1 from rfl]
      go_wp2_with (first
        | (with_reducible refine wpList_load_row rfl 24 (.tmp 6) rfl q rfl 24 (nc (pwr X M)) (0, 0) _ hQ Try.underlying24 rfl sR ?_)
        | (with_reducible refine wpList_store_row rfl 24 (.tmp 4) (.tmp 34) rfl (w.heap.size + 1 + 1) (nc (pwr X M)) rfl rfl 24 #[.int .u64 0, .int .u64 0, .int .u64 0, .int .u64 0] hR sR zR' oR ?_))
      refine bodyPost_ret (results_cell_row rfl _ _ (w.heap.size + 1 + 1) 24 (nc (pwr X M)) (0, 0) _ rfl (setRow_heap _ _ _ _ _ _ hR) Try.underlying24 rfl sR) rfl ?_
      exact ⟨rfl, hF.trans (Fr.setRow (S := fun k => k = w.heap.size + 1 + 1) (Fr.refl _ _) rfl _) (fun i hi => Or.inr (by have : i = w.heap.size + 1 + 1 := hi; omega))⟩
    · obtain ⟨m, rfl⟩ : ∃ m, n = m + 1 := ⟨n - 1, by omega⟩
      rw [show ((m + 1 : Nat) : Int) - 1 = (m : Int) by omega]
      have ma : (0 : Int) ≤ (m : Int) := by omega
      have hm64 : m < 64 := by omega
      rw [show M / 16 ^ (m + 1) = M / 16 ^ (m + 1) * 2 ^ 0 by rw [Nat.pow_zero, Nat.mul_one]] at hQ
      have HN := Lib.hid (pwr_nib X M m)
      obtain ⟨N, hN⟩ : ∃ N, N = M / 16 ^ (m + 1) := ⟨_, rfl⟩
      rw [← hN] at hQ HN
      have hm1 : m + 1 ≤ 64 := hn
      clear h0 hN hn
      go_wp2_with fail
      go_loopw [15] (fun k wr => ∃ c : Nat, c ≤ 4 ∧ k = .int .i64 (c : Int) ∧ wr.heap[q]? = some (.cells (nc (pwr X (N * 2 ^ c))) 24 (0, 0)) ∧ wr.heap[g]? = some (.cells (rows (pwr X)) 109 (0, 0)) ∧ wr.heap[w.heap.size + 1]? = some (.cells (nc M) 23 (0, 0)) ∧ wr.heap[w.heap.size + 1 + 1]? = some (.cells #[.int .u64 0, .int .u64 0, .int .u64 0, .int .u64 0] 24 (0, 0)) ∧ Fr (fun _ => False) w wr) (fun k _ => 4 - (intOf k).toNat)
      case atStart => exact ⟨0, by omega, by simp, hQ, hP, hM, hR, hF⟩
      case round =>
        clear hQ hP hM hR hF
        obtain ⟨c, hc, rfl, hQ, hP, hM, hR, hF⟩ := hrel
        by_cases c4 : c < 4
        · have ca : (0 : Int) ≤ (c : Int) := by omega
          have cb : (c : Int) < 4 := by omega
          have MV := fun W => MU.out (N * 2 ^ c) (N * 2 ^ c) W
          rw [pwr_dbl, Nat.mul_assoc, ← Nat.pow_succ] at MV
          have sQ := sN (pwr X (N * 2 ^ c))
          have sQ2 := sN (pwr X (N * 2 ^ (c + 1)))
          have zQ : (nc (pwr X (N * 2 ^ c))).size = (nc (pwr X (N * 2 ^ (c + 1)))).size := rfl
          have oQ := nc_one (pwr X (N * 2 ^ (c + 1)))
          have HP := Lib.hid hP
          have HM := Lib.hid hM
          have HR := Lib.hid hR
          have HF := Lib.hid hF
          have HQ := Lib.hid hQ
          clear hP hM hR hF hQ sN sX MU HN
          go_wp2_with (with_reducible refine wpList_load_row rfl 24 (.tmp 6) rfl q rfl 24 (nc (pwr X (N * 2 ^ c))) (0, 0) _ HQ.out Try.underlying24 rfl sQ ?_)
          refine (MV _).mono ?_
          rintro e w5 ⟨rfl, F5⟩
          have Q5 := F5.keep HQ.out
          have P5 := F5.keep HP.out
          have M5 := F5.keep HM.out
          have R5 := F5.keep HR.out
          have G5 := HF.out.trans F5 (fun _ h => h.elim)
          clear HQ HP HM HR HF F5 MV
          go_wp2_with (with_reducible refine wpList_store_row rfl 24 (.tmp 6) (.tmp 19) rfl q (nc (pwr X (N * 2 ^ (c + 1)))) rfl rfl 24 (nc (pwr X (N * 2 ^ c))) Q5 sQ2 zQ oQ ?_)
          have F6 : Fr (fun k => k = q) w5 (w5.setRow q (nc (pwr X (N * 2 ^ (c + 1))))) := Fr.setRow (S := fun k => k = q) (Fr.refl _ _) rfl _
          go_roundw
          case rel => exact ⟨c + 1, by omega, by go_num, setRow_heap _ _ _ _ _ _ Q5, (F6.block g (lt_of_block P5) (by show g ≠ q; omega)).trans P5, (F6.block _ (lt_of_block M5) (by show w.heap.size + 1 ≠ q; omega)).trans M5, (F6.block _ (lt_of_block R5) (by show w.heap.size + 1 + 1 ≠ q; omega)).trans R5, G5.trans F6 (fun i hi => Or.inr (by have : i = q := hi; omega))⟩
          case measure => simp [intOf]; omega
        · obtain rfl : c = 4 := by omega
          have hN := HN.out
          have hz := dig_lt 18446744073709551616 M (m / 16) (by decide)
          have hnib := nib_dig M m
          have cB : (nc M)[m / 16]? = some (.int .u64 (dig 18446744073709551616 M (m / 16) : Int)) := by rw [nc_uq]; exact uq_get 4 _ _ (by omega)
          have hd4 : m / 16 < 4 := by omega
          have hr16 : m % 16 < 16 := by omega
          have hq : ((m : Int)).tdiv 16 = ((m / 16 : Nat) : Int) := by rw [Int.tdiv_eq_ediv_of_nonneg (by omega)]; omega
          have hr : ((m : Int)).tmod 16 = ((m % 16 : Nat) : Int) := by rw [Int.tmod_eq_emod_of_nonneg (by omega)]; omega
          generalize dig 18446744073709551616 M (m / 16) = z at cB hnib hz
          generalize m / 16 = d at hq hd4 cB
          obtain ⟨u, hu⟩ : ∃ u, u = m % 16 * 4 := ⟨_, rfl⟩
          rw [← hu] at hnib
          generalize m % 16 = r at hr hr16 hu
          have hmul : (r : Int) * 4 = (u : Int) := by omega
          have da : (0 : Int) ≤ (d : Int) := by omega
          have db : (d : Int) < 4 := by omega
          have ra : (0 : Int) ≤ (r : Int) := by omega
          have rb : (r : Int) < 16 := by omega
          have ua : (0 : Int) ≤ (u : Int) := by omega
          have ub : (u : Int) < 64 := by omega
          have hsh : (z : Int) / 2 ^ u = ((z / 2 ^ u : Nat) : Int) := by simp
          have hba := nib_and (z / 2 ^ u) (Nat.lt_of_le_of_lt (Nat.div_le_self _ _) hz)
          obtain ⟨V, hV⟩ : ∃ V, V = M / 16 ^ m := ⟨_, rfl⟩
          rw [← hV] at hN hnib
          rw [hnib] at hba
          generalize z / 2 ^ u = y at hsh hba
          have ht : V % 16 < 16 := Nat.mod_lt _ (by decide)
          have HO := Lib.hid hV
          clear hV
          have MV := fun W => MU.out (N * 2 ^ 4) (V % 16) W
          rw [hN] at MV
          generalize V % 16 = t at *
          have ta : (0 : Int) ≤ (t : Int) := by omega
          have tb : (t : Int) < 16 := by omega
          have sQ := sN (pwr X (N * 2 ^ 4))
          have sV := sN (pwr X V)
          have zQ : (nc (pwr X (N * 2 ^ 4))).size = (nc (pwr X V)).size := rfl
          have oV := nc_one (pwr X V)
          have HP := Lib.hid hP
          have HM := Lib.hid hM
          have HR := Lib.hid hR
          have HF := Lib.hid hF
          have HQ := Lib.hid hQ
          clear hP hM hR hF hQ sN sX MU HN hu hnib hN hz
          rw [show ((4 : Nat) : Int) = 4 from rfl]
          go_wp2_with fail
          refine wp_region_tail 13 [] (by kernel_rfl) (by kernel_rfl) mk_nil ?_
          apply Exists.intro
          refine ⟨?wk, ?fin⟩
          case wk =>
            intro γ
            have fz : ∀ y : Wg γ, y.w.cell? ⟨w.heap.size + 1, d, none⟩ = some (.int .u64 (z : Int)) := fun y => y.cell HM.out d cB
            simp only [List.take_succ_cons, List.take_zero]
            repeat (any_goals (first | (go_big_quiet_want; (with_reducible refine quiet_load_rowg 24 (.tmp 6) rfl q rfl 24 (nc (pwr X (N * 2 ^ 4))) (0, 0) _ HQ.out Try.underlying24 rfl sQ ?_); simp only [Act.put, List.setIfInBounds_toArray, List.set_cons_zero, List.set_cons_succ]; go_big_quiet_on) | (go_big_quiet_want; (with_reducible refine quiet_load_rowsg 24 (.tmp 31) rfl g (t * 4) t (Nat.mul_comm _ _) ht rfl (pwr X) 109 (0, 0) _ HP.out Try.underlying24 rfl Try.info4 ?_); simp only [Act.put, List.setIfInBounds_toArray, List.set_cons_zero, List.set_cons_succ]; go_big_quiet_on) | go_big_quiet_step (((first | (go_at_call 22; with_reducible exact Calls.keepg (MV _))))) | quiet_step (((first | (go_at_call 22; with_reducible exact Calls.keepg (MV _)))))))
            exact wpQuiet_nil rfl
          case fin =>
            intro gs wx hF hg hne
            simp only [putAll, List.drop_succ_cons, List.drop_zero, List.length_nil, Nat.add_zero]
            have Q5 := hF.keep HQ.out
            have P5 := hF.keep HP.out
            have M5 := hF.keep HM.out
            have R5 := hF.keep HR.out
            have G5 := HF.out.trans hF (fun _ h => h.elim)
            clear hg hne hF HQ HP HM HR HF MV
            go_wp2_with (with_reducible refine wpList_store_row rfl 24 (.tmp 6) (.tmp 33) rfl q (nc (pwr X V)) rfl rfl 24 (nc (pwr X (N * 2 ^ 4))) Q5 sV zQ oV ?_)
            have F6 : Fr (fun k => k = q) wx (wx.setRow q (nc (pwr X V))) := Fr.setRow (S := fun k => k = q) (Fr.refl _ _) rfl _
            go_roundw
            case rel => exact ⟨m, by omega, rfl, (setRow_heap _ _ _ _ _ _ Q5).trans (by rw [HO.out]), (F6.block g (lt_of_block P5) (by show g ≠ q; omega)).trans P5, (F6.block _ (lt_of_block M5) (by show w.heap.size + 1 ≠ q; omega)).trans M5, (F6.block _ (lt_of_block R5) (by show w.heap.size + 1 + 1 ≠ q; omega)).trans R5, G5.trans F6 (fun i hi => Or.inr (by have : i = q := hi; omega))⟩
            case measure => simp [intOf]
end Go.Proofs.Ytnobobdgoccmcaa


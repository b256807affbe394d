/-
  The law EdwardsLaws at all its contracts.
-/
import Derived.Test.YtnobobdgoccmcaaJi
namespace Go.Proofs.Ytnobobdgoccmcaa
open Go.RowKit Pri
set_option linter.unusedVariables false
set_option linter.unusedSimpArgs false

theorem bl_zero : (bv (bl 32 0)).toArray = #[.int .u8 0, .int .u8 0, .int .u8 0, .int .u8 0, .int .u8 0, .int .u8 0, .int .u8 0, .int .u8 0, .int .u8 0, .int .u8 0, .int .u8 0, .int .u8 0, .int .u8 0, .int .u8 0, .int .u8 0, .int .u8 0, .int .u8 0, .int .u8 0, .int .u8 0, .int .u8 0, .int .u8 0, .int .u8 0, .int .u8 0, .int .u8 0, .int .u8 0, .int .u8 0, .int .u8 0, .int .u8 0, .int .u8 0, .int .u8 0, .int .u8 0, .int .u8 0] := by kernel_rfl
theorem bl_eight : (bv (bl 32 8)).toArray = #[.int .u8 8, .int .u8 0, .int .u8 0, .int .u8 0, .int .u8 0, .int .u8 0, .int .u8 0, .int .u8 0, .int .u8 0, .int .u8 0, .int .u8 0, .int .u8 0, .int .u8 0, .int .u8 0, .int .u8 0, .int .u8 0, .int .u8 0, .int .u8 0, .int .u8 0, .int .u8 0, .int .u8 0, .int .u8 0, .int .u8 0, .int .u8 0, .int .u8 0, .int .u8 0, .int .u8 0, .int .u8 0, .int .u8 0, .int .u8 0, .int .u8 0, .int .u8 0] := by kernel_rfl
/-- What is carried behind k bytes of a sum. -/
def carried (N M k : Nat) : Nat := (N % 256 ^ k + M % 256 ^ k) / 256 ^ k
theorem carried_le (N M k : Nat) : carried N M k ≤ 1 := by
  have h1 := Nat.mod_lt N (Nat.pow_pos (n := k) (show 0 < 256 by decide))
  have h2 := Nat.mod_lt M (Nat.pow_pos (n := k) (show 0 < 256 by decide))
  unfold carried
  have : (N % 256 ^ k + M % 256 ^ k) / 256 ^ k < 2 := (Nat.div_lt_iff_lt_mul (Nat.pow_pos (by decide))).2 (by omega)
  omega
theorem carried_succ (N M k : Nat) : carried N M (k + 1) = (N / 256 ^ k % 256 + M / 256 ^ k % 256 + carried N M k) / 256 := by
  unfold carried
  rw [Nat.pow_succ, Nat.mod_mul, Nat.mod_mul, ← Nat.div_div_eq_div_mul]
  congr 1
  rw [show N % 256 ^ k + 256 ^ k * (N / 256 ^ k % 256) + (M % 256 ^ k + 256 ^ k * (M / 256 ^ k % 256)) = (N % 256 ^ k + M % 256 ^ k) + 256 ^ k * (N / 256 ^ k % 256 + M / 256 ^ k % 256) by rw [Nat.mul_add]; omega, Nat.add_mul_div_left _ _ (Nat.pow_pos (by decide)), Nat.add_comm]
theorem carried_byte (N M k : Nat) : (N + M) / 256 ^ k % 256 = (N / 256 ^ k % 256 + M / 256 ^ k % 256 + carried N M k) % 256 := by
  have e : N + M = (N % 256 ^ k + M % 256 ^ k) + 256 ^ k * (N / 256 ^ k + M / 256 ^ k) := by
    have h1 := Nat.mod_add_div N (256 ^ k)
    have h2 := Nat.mod_add_div M (256 ^ k)
    rw [Nat.mul_add]; omega
  have h : (N + M) / 256 ^ k = carried N M k + (N / 256 ^ k + M / 256 ^ k) := by
    conv => lhs; rw [e]
    rw [Nat.add_mul_div_left _ _ (Nat.pow_pos (by decide))]; rfl
  rw [h]; omega
theorem low_mod (X k j : Nat) : X % 256 ^ k / 256 ^ j % 256 = if j < k then X / 256 ^ j % 256 else 0 := by
  by_cases h : j < k
  · obtain ⟨m, rfl⟩ : ∃ m, k = j + 1 + m := ⟨k - (j + 1), by omega⟩
    rw [if_pos h, Nat.pow_add, Nat.pow_succ, Nat.mul_assoc, Nat.mod_mul_right_div_self, Nat.mod_mul_right_mod]
  · rw [if_neg h, Nat.div_eq_of_lt (Nat.lt_of_lt_of_le (Nat.mod_lt _ (Nat.pow_pos (by decide))) (Nat.pow_le_pow_right (n := 256) (by decide) (by omega)))]
theorem sum_step (N M k : Nat) (hk : k < 32) : ((bv (bl 32 ((N + M) % 256 ^ k))).toArray).setIfInBounds k (.int .u8 (((N / 256 ^ k % 256 + M / 256 ^ k % 256 + carried N M k) % 256 : Nat) : Int)) = (bv (bl 32 ((N + M) % 256 ^ (k + 1)))).toArray :=
  cells_u8 _ _ k _ hk (by rw [low_mod, if_pos (by omega), carried_byte]) (fun j hj hne => by
    rw [low_mod, low_mod]
    by_cases c : j < k
    · rw [if_pos c, if_pos (by omega)]
    · rw [if_neg c, if_neg (by omega)])
theorem sub_add (P Q : Fp × Fp) (hP : Cv.On cC P) (hQ : Cv.On cC Q) : Cv.add cC (Cv.add cC P Q) (Cv.neg P) = Q := by
  rw [Cv.add_comm cC P Q, Cv.add_assoc cC hQ hP (Cv.on_neg cC hP), Cv.add_neg cC hP, Cv.add_zero]
theorem yes_same (P : Fp × Fp) : Ans Try.prog 51 #[.agg (pv P), .agg (pv P)] (.bool true) := same_pv P P true ⟨fun _ => rfl, fun _ => rfl⟩
set_option maxRecDepth 100000 in
theorem laws7_any (l m : List UInt8) (hl : l.length = 32) (hm : m.length = 32) (w : World) :
    Calls Try.prog 11 #[.agg (bv l).toArray, .agg (bv m).toArray] w fun e w' => e = .returned (.bool true) ∧ Fr (fun _ => False) w w' := by
  obtain ⟨N0, lN, rfl⟩ := of_bytes l hl
  obtain ⟨M0, lM, rfl⟩ := of_bytes m hm
  obtain ⟨N, hN⟩ : ∃ N, N = N0 % 57896044618658097711785492504343953926634992332820282019728792003956564819968 := ⟨_, rfl⟩
  obtain ⟨M, hM⟩ : ∃ M, M = M0 % 57896044618658097711785492504343953926634992332820282019728792003956564819968 := ⟨_, rfl⟩
  have hNb : N < 57896044618658097711785492504343953926634992332820282019728792003956564819968 := by rw [hN]; exact Nat.mod_lt _ (by decide)
  have hMb : M < 57896044618658097711785492504343953926634992332820282019728792003956564819968 := by rw [hM]; exact Nat.mod_lt _ (by decide)
  have sn := clear_top N0 lN
  have sm := clear_top M0 lM
  rw [← hN] at sn
  rw [← hM] at sm
  have oP := Cv.on_times cC bB_on N
  have oQ := Cv.on_times cC bB_on M
  have AD := padd_pv _ _ oP oQ
  rw [← Cv.times_add cC bB_on] at AD
  have AE := padd_pv _ _ oQ oP
  rw [Cv.add_comm cC (Cv.times cC bB M) (Cv.times cC bB N), ← Cv.times_add cC bB_on] at AE
  have AF := padd_pv (Cv.times cC bB (N + M)) (Cv.neg (Cv.times cC bB N)) (Cv.on_times cC bB_on _) (Cv.on_neg cC oP)
  rw [show Cv.add cC (Cv.times cC bB (N + M)) (Cv.neg (Cv.times cC bB N)) = Cv.times cC bB M by rw [Cv.times_add cC bB_on]; exact sub_add _ _ oP oQ] at AF
  have T8 := ptimes_pv (Cv.times cC bB N) oP 8 (by decide)
  rw [bl_eight] at T8
  refine laws7_op (N0 / 256 ^ 31 % 256) (M0 / 256 ^ 31 % 256) _ _ (fun k => N / 256 ^ k % 256) (fun k => M / 256 ^ k % 256) (carried N M) (pv bB) (pv (Cv.times cC bB N)) (pv (Cv.times cC bB M)) (pv (Cv.times cC bB (N + M))) _ _ _ _ _ _ (bv (bl 32 (N + M))).toArray w bases_any base_pv
    (ptimes_pv bB bB_on N (by omega)) (ptimes_pv bB bB_on M (by omega)) AD (ptimes_pv bB bB_on (N + M) (by omega)) (yes_same _) AE (pneg_pv _) AF (yes_same _) T8 (peight_pv _ oP) (yes_same _)
    (bl_cell N0 31 (by decide)) (bl_cell M0 31 (by decide)) (and_127 _ (Nat.mod_lt _ (by decide))) (and_127 _ (Nat.mod_lt _ (by decide))) sn sm (fun k => (bv (bl 32 ((N + M) % 256 ^ k))).toArray) ?_ ?_ (fun k hk => bl_cell N k hk) (fun k hk => bl_cell M k hk) ?_ ?_ (sz_pv _) (sz_pv _) (sz_bl _) (sz_bl _)
  · show (bv (bl 32 ((N + M) % 256 ^ 0))).toArray = _
    rw [Nat.pow_zero, Nat.mod_one]; exact bl_zero
  · show (bv (bl 32 ((N + M) % 256 ^ 32))).toArray = _
    rw [Nat.mod_eq_of_lt (show N + M < 256 ^ 32 by rw [p256h]; omega)]
  · unfold carried; rw [Nat.pow_zero, Nat.mod_one, Nat.mod_one]
  · intro k hk
    exact ⟨Nat.mod_lt _ (by decide), Nat.mod_lt _ (by decide), carried_le N M k, carried_succ N M k, sum_step N M k hk⟩
end Go.Proofs.Ytnobobdgoccmcaa

/-
  The law FieldPowers at all its contracts.
-/
import Derived.Test.YtnobobdgoccmcaaFq
namespace Go.Proofs.Ytnobobdgoccmcaa
open Go.RowKit Pri
set_option linter.unusedVariables false

theorem pwr_rest (X n : Nat) : pwr (X % p25519) n = pwr X n := by unfold pwr; rw [← Nat.pow_mod]
theorem one_of_rest (X k : Nat) (h : (X % p25519) ^ k % p25519 = 1) : X ^ k % p25519 = 1 := by rw [Nat.pow_mod]; exact h
theorem inv_gen (X n m : Nat) (hn : n + 1 = m) (h : X ^ m % p25519 = 1) : X * pwr X n % p25519 = 1 := by
  subst hn
  unfold pwr
  rw [Nat.mul_mod_mod, ← Nat.pow_succ']; exact h
theorem inv_one (X : Nat) (h : X % p25519 ≠ 0) : X * pwr X (p25519 - 2) % p25519 = 1 :=
  inv_gen X (p25519 - 2) (p25519 - 1) (by decide +kernel) (one_of_rest X (p25519 - 1) (p_fermat (X % p25519) (Nat.pos_of_ne_zero h) (Nat.mod_lt _ p_pos)))
theorem inv_nought (X n : Nat) (h : X % p25519 = 0) : X * n % p25519 = 0 := by rw [Nat.mul_mod, h, Nat.zero_mul, Nat.zero_mod]
theorem nd_lit0 : (#[.int .i64 0, .int .i64 0, .int .i64 0, .int .i64 0, .int .i64 0, .int .i64 0, .int .i64 0, .int .i64 0, .int .i64 0, .int .i64 0, .int .i64 0, .int .i64 0, .int .i64 0, .int .i64 0, .int .i64 0, .int .i64 0] : Array Value) = nd 0 := by kernel_rfl
theorem nc_lit0 : (#[.int .u64 0, .int .u64 0, .int .u64 0, .int .u64 0] : Array Value) = nc 0 := by kernel_rfl
theorem nc_lit1 : (#[.int .u64 1, .int .u64 0, .int .u64 0, .int .u64 0] : Array Value) = nc 1 := by kernel_rfl
theorem em_any (X n : Nat) (h0 : X % p25519 = 0 → n = 0) (h1 : X % p25519 ≠ 0 → n = 1) (W : World) : (binOp .eql 24 (.agg (nc n)) (.agg (if decide (X % p25519 = 0) = true then #[.int .u64 0, .int .u64 0, .int .u64 0, .int .u64 0] else #[.int .u64 1, .int .u64 0, .int .u64 0, .int .u64 0]))).run Try.prog W = .ok (.bool true) W := by
  by_cases h : X % p25519 = 0
  · rw [if_pos (decide_eq_true h), h0 h, nc_lit0]
    have := eql_elem 0 0 (by decide) (by decide) W
    rwa [decide_eq_true rfl] at this
  · rw [if_neg (by rw [decide_eq_true_iff]; exact h), h1 h, nc_lit1]
    have := eql_elem 1 1 (by decide) (by decide) W
    rwa [decide_eq_true rfl] at this
set_option maxRecDepth 100000 in
theorem fpows_any (X M : Nat) (hX : X < 115792089237316195423570985008687907853269984665640564039457584007913129639936) (hM : M < 115792089237316195423570985008687907853269984665640564039457584007913129639936) (w : World) :
    Calls Try.prog 5 #[.agg (nc X), .agg (nc M)] w fun e w' => e = .returned (.bool true) ∧ Fr (fun _ => False) w w' := by
  have hXp := mod_p_lt X
  refine fpowsl (nc X) (nc M) (nd (X % p25519)) (nc (pwr X (p25519 - 2))) (nc (pwr X M)) (nd (pwr X M)) #[] (nd (pwr X (p25519 - 2))) (nc (X * pwr X (p25519 - 2) % p25519)) (decide (X % p25519 = 0)) w ?OFA ?IN ?HV ?PO ?PE ?S1 ?IE ?S2 ?MU ?EQ ?EM (nc_size _) (nc_size _) (nd_size _) (nc_size _) (iq_one 16 _) (nc_one _)
  case OFA => intro W; exact lof5_any X hX W
  case IN => intro W; exact finv_any X hX W
  case HV => intro W; exact halves_any W
  case PO => intro W; exact fpow_any X M hX hM W
  case PE => intro W; have := pow5_any (X % p25519) M hXp hM W; rwa [pwr_rest] at this
  case S1 => intro W; exact same5_any _ (pwr_lt X M) W
  case IE => intro W; have := inv5_any (X % p25519) hXp W; rwa [pwr_rest] at this
  case S2 => intro W; exact same5_any _ (pwr_lt X _) W
  case MU => intro W; exact fmul_any X (pwr X (p25519 - 2)) hX (pwr_lt X _) W
  case EQ => intro W; have := eql_nd5 (X % p25519) 0 hXp (by decide) W; rwa [← nd_lit0] at this
  case EM => intro W; exact em_any X _ (fun h => inv_nought X _ h) (fun h => inv_one X h) W
end Go.Proofs.Ytnobobdgoccmcaa


/-
  The law FieldSums at all its contracts.
-/
import Derived.Test.YtokpaejkdkjloaaFl
namespace Go.Proofs.Ytokpaejkdkjloaa
open Go.RowKit Pri
set_option linter.unusedVariables false

theorem odd_bool (n : Nat) : decide (n % 2 = 1) = (((n % 2 : Nat) : Int) == 1) := by
  rcases Nat.mod_two_eq_zero_or_one n with c | c <;> rw [c] <;> rfl
set_option maxRecDepth 100000 in
theorem fsums_any (X Y : Nat) (hX : X < 115792089237316195423570985008687907853269984665640564039457584007913129639936) (hY : Y < 115792089237316195423570985008687907853269984665640564039457584007913129639936) (w : World) :
    Calls Try.prog 3 #[.agg (nc X), .agg (nc Y)] w fun e w' => e = .returned (.bool true) ∧ Fr (fun _ => False) w w' := by
  have hXp := mod_p_lt X
  have hYp := mod_p_lt Y
  have hYl : Y % p25519 ≤ p25519 := Nat.le_of_lt (Nat.mod_lt _ p_pos)
  have hXl : X % p25519 ≤ p25519 := Nat.le_of_lt (Nat.mod_lt _ p_pos)
  refine fsumsl (nc X) (nc Y) (nd (X % p25519)) (nd (Y % p25519)) (nc (X % p25519)) #[] (nc ((X + Y) % p25519)) (nd ((X + Y) % p25519)) (nc ((X % p25519 + (p25519 - Y % p25519)) % p25519)) (nd ((X % p25519 + (p25519 - Y % p25519)) % p25519)) (nc (X * Y % p25519)) (nd (X * Y % p25519)) (nc ((p25519 - X % p25519) % p25519)) (nd ((p25519 - X % p25519) % p25519)) (decide (X % p25519 = Y % p25519)) (dig 65536 (X % p25519) 0) (X % p25519 % 2) w ?OFA ?OFB ?HV ?RE ?S1 ?AD ?AE ?S2 ?SU ?SE ?S3 ?MU ?MF ?S4 ?NE ?NG ?S5 ?SA ?OD ?EQ ?c0 ?hb (nc_size _) (nc_size _) (nd_size _) (nd_size _) (iq_one 16 _) (iq_one 16 _)
  case OFA => intro W; exact lof5_any X hX W
  case OFB => intro W; exact lof5_any Y hY W
  case HV => intro W; exact halves_any W
  case RE => intro W; exact fRest_any X hX W
  case S1 => intro W; exact same5_any _ hXp W
  case AD => intro W; exact fadd_any X Y hX hY W
  case AE => intro W; have := add5_any (X % p25519) (Y % p25519) hXp hYp W; rwa [← Nat.add_mod] at this
  case S2 => intro W; exact same5_any _ (mod_p_lt _) W
  case SU => intro W; exact fsub_any X Y hX hY W
  case SE => intro W; have := sub5_any (X % p25519) (Y % p25519) hXp hYl W; rwa [Nat.add_mod_mod] at this
  case S3 => intro W; exact same5_any _ (mod_p_lt _) W
  case MU => intro W; exact fmul_any X Y hX hY W
  case MF => intro W; have := mul5_any (X % p25519) (Y % p25519) hXp hYp W; rwa [← Nat.mul_mod] at this
  case S4 => intro W; exact same5_any _ (mod_p_lt _) W
  case NE => intro W; exact fneg_any X hX W
  case NG => intro W; exact neg5_any (X % p25519) hXl W
  case S5 => intro W; exact same5_any _ (mod_p_lt _) W
  case SA => intro W; exact fsame_any X Y hX hY W
  case OD => intro W; have := fodd_any X hX W; rwa [odd_bool] at this
  case EQ => intro W; exact eql_nd5 _ _ hXp hYp W
  case c0 => exact iq_get 16 _ 0 (by decide)
  case hb =>
    rw [Int.tmod_eq_emod_of_nonneg (by omega)]
    unfold dig
    rw [Nat.pow_zero, Nat.div_one]
    omega
end Go.Proofs.Ytokpaejkdkjloaa

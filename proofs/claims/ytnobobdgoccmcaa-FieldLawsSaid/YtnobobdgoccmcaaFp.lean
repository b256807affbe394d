/-
  Plain facts on the numbers modulo 2^255 - 19: all but nought can be divided by; the curve's number; which numbers have roots.
-/
import Derived.Test.YtnobobdgoccmcaaPr
import Derived.Test.YtnobobdgoccmcaaCv
namespace Go.Proofs.Ytnobobdgoccmcaa
open Lean.Grind Pri

theorem p_def : p25519 = 57896044618658097711785492504343953926634992332820282019728792003956564819949 := rfl
theorem p_pos : 0 < p25519 := by decide +kernel
instance : NeZero p25519 := ⟨by have := p_pos; omega⟩
theorem one_mod_p : 1 % p25519 = 1 := by decide +kernel
abbrev Fp := Fin p25519
/-- A number, modulo 2^255 - 19. -/
def fv (n : Nat) : Fp := Fin.ofNat p25519 n
theorem fv_val (n : Nat) : (fv n).val = n % p25519 := rfl
theorem fv_of_val (x : Fp) : fv x.val = x := by apply Fin.ext; rw [fv_val]; exact Nat.mod_eq_of_lt x.isLt
theorem fv_eq {a b : Nat} : fv a = fv b ↔ a % p25519 = b % p25519 := ⟨fun h => by rw [← fv_val, h, fv_val], fun h => Fin.ext h⟩
theorem fv_mod (a : Nat) : fv (a % p25519) = fv a := fv_eq.2 (Nat.mod_mod _ _)
theorem fv_add (a b : Nat) : fv (a + b) = fv a + fv b := by apply Fin.ext; rw [Fin.val_add, fv_val, fv_val, fv_val, ← Nat.add_mod]
theorem fv_mul (a b : Nat) : fv (a * b) = fv a * fv b := by apply Fin.ext; rw [Fin.val_mul, fv_val, fv_val, fv_val, ← Nat.mul_mod]
theorem fv_zero : fv 0 = 0 := by apply Fin.ext; rfl
theorem fv_one : fv 1 = 1 := by apply Fin.ext; rfl
theorem fv_neg (a : Nat) (h : a ≤ p25519) : fv (p25519 - a) = - fv a := by
  have : fv (p25519 - a) + fv a = 0 := by
    rw [← fv_add, Nat.sub_add_cancel h, ← fv_zero]; exact fv_eq.2 (by rw [Nat.mod_self, Nat.zero_mod])
  grind
theorem fv_ne {a : Nat} (h : a % p25519 ≠ 0) : fv a ≠ 0 := fun e => h (by have := congrArg Fin.val e; rw [fv_val] at this; exact this)
def finv (x : Fp) : Fp := fv (x.val ^ (p25519 - 2))
theorem finv_mul (x : Fp) (h : x ≠ 0) : x * finv x = 1 := by
  have h0 : 0 < x.val := Nat.pos_of_ne_zero fun e => h (Fin.ext e)
  have hf := p_fermat x.val h0 x.isLt
  have e : x * finv x = fv (x.val ^ (p25519 - 1)) := by
    unfold finv
    rw [show p25519 - 1 = (p25519 - 2) + 1 from by have := gen_p.1; omega, Nat.pow_succ, fv_mul, fv_of_val, Fin.mul_comm]
  rw [e, ← fv_one]
  exact fv_eq.2 (by rw [hf, one_mod_p])
theorem fv_zero_pow (n : Nat) (hn : n ≠ 0) : fv ((0 : Fp).val ^ n) = 0 := by
  rw [show (0 : Fp).val = 0 from rfl, Nat.zero_pow (Nat.pos_of_ne_zero hn), fv_zero]
theorem p_sub_two : p25519 - 2 ≠ 0 := by decide +kernel
theorem finv_zero : finv 0 = 0 := fv_zero_pow _ p_sub_two

/-- The curve's number. -/
def dD : Nat := 37095705934669439343138083508754565189542113879843219016388785533085940283555
def iI : Nat := 19681161376707505956807079304988542015446066515923890162744021073123829784752
theorem d_euler : (p25519 - dD) ^ ((p25519 - 1) / 2) % p25519 = p25519 - 1 := by
  have h := pwm_eq p25519 260 (p25519 - dD) ((p25519 - 1) / 2) 1 (by decide +kernel)
  rw [Nat.one_mul] at h
  rw [← h]
  decide +kernel
theorem half_p : 2 * ((p25519 - 1) / 2) = p25519 - 1 := by decide +kernel
theorem dD_none (x : Fp) : x * x ≠ - fv dD := by
  intro h
  rw [← fv_neg dD (by decide +kernel)] at h
  have h0 : x ≠ 0 := by
    intro e
    rw [e] at h
    exact fv_ne (a := p25519 - dD) (by decide +kernel) (by rw [← h]; grind)
  have h1 : 0 < x.val := Nat.pos_of_ne_zero fun e => h0 (Fin.ext e)
  have hf := p_fermat x.val h1 x.isLt
  have e : x.val * x.val % p25519 = (p25519 - dD) % p25519 := by
    have := congrArg Fin.val h
    rwa [Fin.val_mul, fv_val] at this
  have : (p25519 - dD) ^ ((p25519 - 1) / 2) % p25519 = 1 := by
    rw [Nat.pow_mod, ← e, ← Nat.pow_mod, ← Nat.pow_two, ← Nat.pow_mul, half_p, hf]
  rw [d_euler] at this
  exact absurd this (by decide +kernel)

/-- The curve. -/
def cC : Cv.Fit Fp where
  d := fv dD
  inv := finv
  i := fv iI
  half := fv ((p25519 + 1) / 2)
  inv_mul := finv_mul
  root := by
    rw [← fv_mul, ← fv_one, ← fv_neg 1 (by decide +kernel)]
    exact fv_eq.2 (by decide +kernel)
  two := by
    rw [← fv_add, ← fv_one]
    exact fv_eq.2 (by decide +kernel)
  none := dD_none
  one := by rw [← fv_one]; exact fv_ne (by rw [one_mod_p]; decide)
end Go.Proofs.Ytnobobdgoccmcaa


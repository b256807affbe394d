/-
  Numbers in parts to a base that may be larger than the base: what they tell, and what one round of carrying makes of them. It speaks of no program.
-/
import Derived.Test.YtnobobdgoccmcaaDg
import Derived.Test.YtnobobdgoccmcaaFp
namespace Go.Proofs.Ytnobobdgoccmcaa
open Pri
set_option linter.unusedVariables false

/-- What n parts tell. -/
def val (B : Nat) (g : Nat → Nat) : Nat → Nat
  | 0 => 0
  | n + 1 => val B g n + g n * B ^ n
/-- What is carried behind n parts. -/
def ov (B : Nat) (g : Nat → Nat) (n : Nat) : Nat := val B g n / B ^ n
theorem ov_zero (B : Nat) (g : Nat → Nat) : ov B g 0 = 0 := by simp [ov, val]
theorem ov_succ (B : Nat) (g : Nat → Nat) (n : Nat) (hB : 0 < B) : ov B g (n + 1) = (g n + ov B g n) / B := by
  have hp : 0 < B ^ n := Nat.pow_pos hB
  unfold ov
  show (val B g n + g n * B ^ n) / B ^ (n + 1) = _
  rw [Nat.pow_succ, ← Nat.div_div_eq_div_mul, Nat.add_mul_div_right _ _ hp, Nat.add_comm]
theorem val_split (B : Nat) (g : Nat → Nat) (k : Nat) : ∀ m, ∃ q, val B g (k + m) = val B g k + B ^ k * q
  | 0 => ⟨0, by simp⟩
  | m + 1 => by
    obtain ⟨q, h⟩ := val_split B g k m
    refine ⟨q + g (k + m) * B ^ m, ?_⟩
    show val B g (k + m) + g (k + m) * B ^ (k + m) = _
    rw [h, Nat.mul_add, Nat.pow_add, Nat.mul_left_comm (g (k + m)), Nat.add_assoc]
theorem dig_val (B : Nat) (g : Nat → Nat) (n k : Nat) (hB : 0 < B) (hk : k < n) : dig B (val B g n) k = (g k + ov B g k) % B := by
  obtain ⟨m, rfl⟩ : ∃ m, n = k + 1 + m := ⟨n - (k + 1), by omega⟩
  obtain ⟨q, h⟩ := val_split B g (k + 1) m
  have hp : 0 < B ^ k := Nat.pow_pos hB
  unfold dig
  rw [h, Nat.pow_succ, Nat.mul_assoc, Nat.add_mul_div_left _ _ hp, Nat.add_mul_mod_self_left]
  show (val B g k + g k * B ^ k) / B ^ k % B = _
  rw [Nat.add_mul_div_right _ _ hp, Nat.add_comm]
  rfl
theorem val_dig (B X : Nat) : ∀ n, val B (dig B X) n = X % B ^ n
  | 0 => by simp [val, Nat.mod_one]
  | n + 1 => by
    show val B (dig B X) n + dig B X n * B ^ n = _
    rw [val_dig B X n, dig_mod, Nat.mul_comm]
theorem val_congr (B : Nat) {f g : Nat → Nat} : ∀ n, (∀ j, j < n → f j = g j) → val B f n = val B g n
  | 0, _ => rfl
  | n + 1, h => by
    show val B f n + f n * B ^ n = val B g n + g n * B ^ n
    rw [val_congr B n (fun j hj => h j (by omega)), h n (by omega)]
theorem val_bound (B c : Nat) (g : Nat → Nat) (hB : 0 < B) (hg : ∀ j, g j ≤ c * (B - 1)) : ∀ n, val B g n ≤ c * (B ^ n - 1)
  | 0 => by simp [val]
  | n + 1 => by
    have ih := val_bound B c g hB hg n
    have hp : 0 < B ^ n := Nat.pow_pos hB
    show val B g n + g n * B ^ n ≤ _
    have h1 : g n * B ^ n ≤ c * (B - 1) * B ^ n := Nat.mul_le_mul_right _ (hg n)
    have h2 : c * (B ^ n - 1) + c * (B - 1) * B ^ n = c * (B ^ (n + 1) - 1) := by
      rw [Nat.mul_assoc, ← Nat.mul_add]
      congr 1
      rw [Nat.pow_succ, Nat.sub_mul, Nat.one_mul, Nat.mul_comm B]
      have : B ^ n ≤ B ^ n * B := Nat.le_mul_of_pos_right _ hB
      omega
    omega

/-- One round over sixteen parts of 16 bits: what is beyond comes back 38 times. -/
def rnd (V : Nat) : Nat := V % 115792089237316195423570985008687907853269984665640564039457584007913129639936 + 38 * (V / 115792089237316195423570985008687907853269984665640564039457584007913129639936)
def rpart (g : Nat → Nat) (j : Nat) : Nat := dig 65536 (val 65536 g 16) j + if j = 0 then 38 * ov 65536 g 16 else 0
theorem b16 : (65536 : Nat) ^ 16 = 115792089237316195423570985008687907853269984665640564039457584007913129639936 := by decide
theorem val_add0 (g : Nat → Nat) (x : Nat) : ∀ n, 0 < n → val 65536 (fun j => g j + if j = 0 then x else 0) n = val 65536 g n + x
  | 1, _ => by simp [val]
  | n + 2, _ => by
    have ih := val_add0 g x (n + 1) (by omega)
    show val 65536 _ (n + 1) + (g (n + 1) + if n + 1 = 0 then x else 0) * 65536 ^ (n + 1) = val 65536 g (n + 1) + g (n + 1) * 65536 ^ (n + 1) + x
    rw [if_neg (show ¬ n + 1 = 0 by omega), Nat.add_zero (g (n + 1)), ih]
    omega
theorem val_rpart (g : Nat → Nat) : val 65536 (rpart g) 16 = rnd (val 65536 g 16) := by
  unfold rpart
  rw [val_add0 _ _ 16 (by decide), val_dig]
  unfold rnd ov
  rw [b16]
theorem p_val : p25519 = 57896044618658097711785492504343953926634992332820282019728792003956564819949 := rfl
theorem rnd_mod (V : Nat) : rnd V % p25519 = V % p25519 := by
  unfold rnd
  rw [p_val]
  omega
/-- What sixteen parts must keep to. -/
theorem rnd3_lt (V : Nat) (h : V < 1125899906842624 * 115792089237316195423570985008687907853269984665640564039457584007913129639936) : rnd (rnd (rnd V)) < 115792089237316195423570985008687907853269984665640564039457584007913129639936 ∧ (∀ W, W = rnd (rnd V) → W < 115792089237316195423570985008687907853269984665640564039457584007913129639936 + 100) := by
  have e1 : rnd V < 115792089237316195423570985008687907853269984665640564039457584007913129639936 + 38 * 1125899906842624 := by unfold rnd; omega
  generalize rnd V = V1 at *
  have e2 : rnd V1 < 115792089237316195423570985008687907853269984665640564039457584007913129639936 ∨ rnd V1 < 1152921504606846976 := by unfold rnd; omega
  generalize rnd V1 = V2 at *
  refine ⟨by unfold rnd; omega, fun W hW => by omega⟩
/-- Behind three rounds each part is a digit. -/
theorem rpart_small (g : Nat → Nat) (h : val 65536 g 16 < 115792089237316195423570985008687907853269984665640564039457584007913129639936) (j : Nat) (hj : j < 16) : rpart g j = dig 65536 (val 65536 g 16) j := by
  have e : ov 65536 g 16 = 0 := by
    unfold ov
    rw [b16]
    exact Nat.div_eq_of_lt h
  unfold rpart
  rw [e, Nat.mul_zero, ite_self, Nat.add_zero]
theorem rnd3_dig (g : Nat → Nat) (h : val 65536 g 16 < 1125899906842624 * 115792089237316195423570985008687907853269984665640564039457584007913129639936) (j : Nat) (hj : j < 16) :
    rpart (rpart (rpart g)) j = dig 65536 (rnd (rnd (rnd (val 65536 g 16)))) j := by
  by_cases c : rnd (rnd (val 65536 g 16)) < 115792089237316195423570985008687907853269984665640564039457584007913129639936
  · rw [rpart_small _ (by rw [val_rpart, val_rpart]; exact c) j hj, val_rpart, val_rpart]
    congr 1
    generalize rnd (rnd (val 65536 g 16)) = V at *
    unfold rnd; omega
  · -- the second round never goes beyond
    exfalso
    have e1 : rnd (val 65536 g 16) < 115792089237316195423570985008687907853269984665640564039457584007913129639936 + 38 * 1125899906842624 := by unfold rnd; omega
    generalize rnd (val 65536 g 16) = V1 at *
    unfold rnd at c
    omega
end Go.Proofs.Ytnobobdgoccmcaa


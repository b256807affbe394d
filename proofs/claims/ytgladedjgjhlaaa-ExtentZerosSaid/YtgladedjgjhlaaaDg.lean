/-
  Digits of a number to a base: sums and differences digit by digit. It speaks of no program.
-/
import Derived.KernelRfl
namespace Go.Proofs.Ytgladedjgjhlaaa

/-- Digit k of X to the base B. -/
def dig (B X k : Nat) : Nat := X / B ^ k % B
theorem dig_lt (B X k : Nat) (hB : 0 < B) : dig B X k < B := Nat.mod_lt _ hB
theorem dig_mod (B X k : Nat) : X % B ^ (k + 1) = X % B ^ k + B ^ k * dig B X k := Nat.mod_pow_succ
/-- What is carried behind k digits. -/
def cry (B X Y k : Nat) : Nat := (X % B ^ k + Y % B ^ k) / B ^ k
theorem cry_zero (B X Y : Nat) : cry B X Y 0 = 0 := by simp [cry, Nat.mod_one]
theorem cry_le (B X Y k : Nat) (hB : 0 < B) : cry B X Y k ≤ 1 := by
  have hp : 0 < B ^ k := Nat.pow_pos hB
  have h1 := Nat.mod_lt X hp
  have h2 := Nat.mod_lt Y hp
  unfold cry
  have : (X % B ^ k + Y % B ^ k) < 2 * B ^ k := by omega
  have := (Nat.div_lt_iff_lt_mul hp).2 this
  omega
theorem cry_succ (B X Y k : Nat) (hB : 0 < B) : cry B X Y (k + 1) = (dig B X k + dig B Y k + cry B X Y k) / B := by
  have hp : 0 < B ^ k := Nat.pow_pos hB
  unfold cry
  rw [dig_mod, dig_mod, Nat.pow_succ, ← Nat.div_div_eq_div_mul]
  congr 1
  rw [show X % B ^ k + B ^ k * dig B X k + (Y % B ^ k + B ^ k * dig B Y k) = (X % B ^ k + Y % B ^ k) + B ^ k * (dig B X k + dig B Y k) by rw [Nat.mul_add]; omega, Nat.add_mul_div_left _ _ hp, Nat.add_comm]
theorem dig_add (B X Y k : Nat) (hB : 0 < B) : dig B (X + Y) k = (dig B X k + dig B Y k + cry B X Y k) % B := by
  have hp : 0 < B ^ k := Nat.pow_pos hB
  have e : (X + Y) / B ^ k = cry B X Y k + (X / B ^ k + Y / B ^ k) := by
    have h1 := Nat.mod_add_div X (B ^ k)
    have h2 := Nat.mod_add_div Y (B ^ k)
    have : X + Y = (X % B ^ k + Y % B ^ k) + B ^ k * (X / B ^ k + Y / B ^ k) := by rw [Nat.mul_add]; omega
    rw [this, Nat.add_mul_div_left _ _ hp]
    rfl
  show (X + Y) / B ^ k % B = _
  rw [e]
  unfold dig
  rw [Nat.add_mod (X / B ^ k % B + Y / B ^ k % B), Nat.add_mod (X / B ^ k % B), Nat.mod_mod, Nat.mod_mod, ← Nat.add_mod (X / B ^ k), ← Nat.add_mod, Nat.add_comm]
theorem cry_of_lt (B X Y n : Nat) (hX : X < B ^ n) (hY : Y < B ^ n) : cry B X Y n = (X + Y) / B ^ n := by
  unfold cry; rw [Nat.mod_eq_of_lt hX, Nat.mod_eq_of_lt hY]
theorem dig_of_mod (B X n k : Nat) (h : k < n) : dig B (X % B ^ n) k = dig B X k := by
  obtain ⟨m, rfl⟩ : ∃ m, n = k + 1 + m := ⟨n - (k + 1), by omega⟩
  unfold dig
  have e : ∀ z : Nat, z / B ^ k % B = z % B ^ (k + 1) / B ^ k := fun z => by rw [Nat.pow_succ, Nat.mod_mul_right_div_self]
  rw [e, e, Nat.mod_mod_of_dvd _ (Nat.pow_dvd_pow B (by omega))]
/-- Numbers below B ^ n with the same digits are the same. -/
theorem dig_ext (B n : Nat) : ∀ X Y, X < B ^ n → Y < B ^ n → (∀ k, k < n → dig B X k = dig B Y k) → X = Y := by
  intro X Y hX hY h
  have : ∀ k, k ≤ n → X % B ^ k = Y % B ^ k := by
    intro k
    induction k with
    | zero => intro _; simp [Nat.mod_one]
    | succ k ih => intro hk; rw [dig_mod, dig_mod, ih (by omega), h k (by omega)]
  have := this n (Nat.le_refl _)
  rwa [Nat.mod_eq_of_lt hX, Nat.mod_eq_of_lt hY] at this
/-- What a difference lacks behind k digits. -/
def lck (B X Y k : Nat) : Nat := if X % B ^ k < Y % B ^ k then 1 else 0
theorem lck_zero (B X Y : Nat) : lck B X Y 0 = 0 := by simp [lck, Nat.mod_one]
theorem lck_le (B X Y k : Nat) : lck B X Y k ≤ 1 := by unfold lck; split <;> omega
theorem lck_succ (B X Y k : Nat) (hB : 0 < B) : lck B X Y (k + 1) = if dig B X k < dig B Y k + lck B X Y k then 1 else 0 := by
  have hp : 0 < B ^ k := Nat.pow_pos hB
  have h1 := Nat.mod_lt X hp
  have h2 := Nat.mod_lt Y hp
  unfold lck
  rw [dig_mod, dig_mod]
  generalize X % B ^ k = x at *
  generalize Y % B ^ k = y at *
  generalize dig B X k = a
  generalize dig B Y k = b
  generalize B ^ k = P at *
  rcases Nat.lt_trichotomy a b with h | h | h
  · have : P * (a + 1) ≤ P * b := Nat.mul_le_mul_left P h
    rw [Nat.mul_add, Nat.mul_one] at this
    rw [if_pos (by omega)]
    split <;> (first | rw [if_pos (by omega)] | omega)
  · subst h
    by_cases hc : x < y
    · rw [if_pos hc, if_pos (by omega), if_pos (by omega)]
    · rw [if_neg hc, if_neg (by omega), if_neg (by omega)]
  · have : P * (b + 1) ≤ P * a := Nat.mul_le_mul_left P h
    rw [Nat.mul_add, Nat.mul_one] at this
    rw [if_neg (by omega)]
    split <;> (rw [if_neg (by omega)])
theorem dig_sub (B X Y n k : Nat) (hB : 0 < B) (hk : k < n) (hY : Y ≤ X + B ^ n) : dig B (X + B ^ n - Y) k = (dig B X k + 2 * B - dig B Y k - lck B X Y k) % B := by
  obtain ⟨Z, hZ⟩ : ∃ Z, Z = X + B ^ n - Y := ⟨_, rfl⟩
  have hs : Z + Y = X + B ^ n := by omega
  rw [← hZ]
  have hp : 0 < B ^ k := Nat.pow_pos hB
  have hd : B ^ (k + 1) ∣ B ^ n := Nat.pow_dvd_pow B (by omega)
  have hd0 : B ^ k ∣ B ^ n := Nat.pow_dvd_pow B (by omega)
  have e1 : dig B (Z + Y) k = dig B X k := by
    rw [hs]
    obtain ⟨m, hm⟩ := hd
    unfold dig
    rw [hm, Nat.pow_succ, Nat.mul_assoc, Nat.add_mul_div_left _ _ hp, Nat.add_mul_mod_self_left]
  have e2 : (Z + Y) % B ^ k = X % B ^ k := by
    rw [hs]
    obtain ⟨m, hm⟩ := hd0
    rw [hm, Nat.add_mul_mod_self_left]
  have e3 : cry B Z Y k = lck B X Y k := by
    have h1 := Nat.mod_lt Z hp
    have h2 := Nat.mod_lt Y hp
    have h3 : (Z % B ^ k + Y % B ^ k) % B ^ k = X % B ^ k := by rw [← Nat.add_mod, e2]
    unfold cry lck
    generalize Z % B ^ k = z at *
    generalize Y % B ^ k = y at *
    by_cases hc : z + y < B ^ k
    · rw [Nat.mod_eq_of_lt hc] at h3
      rw [Nat.div_eq_of_lt hc, if_neg (by omega)]
    · have h4 : (z + y) % B ^ k = z + y - B ^ k := by
        rw [Nat.mod_eq_sub_mod (by omega), Nat.mod_eq_of_lt (by omega)]
      rw [h4] at h3
      rw [if_pos (by omega)]
      exact Nat.div_eq_of_lt_le (by omega) (by omega)
  have e4 := dig_add B Z Y k hB
  rw [e1, e3] at e4
  have l1 := lck_le B X Y k
  have d1 := dig_lt B Z k hB
  have d2 := dig_lt B Y k hB
  have d3 := dig_lt B X k hB
  rw [e4]
  generalize dig B Z k = z at *
  generalize dig B Y k = y at *
  generalize lck B X Y k = l at *
  by_cases hc : z + y + l < B
  · rw [Nat.mod_eq_of_lt hc, show z + y + l + 2 * B - y - l = z + B * 2 by omega, Nat.add_mul_mod_self_left, Nat.mod_eq_of_lt d1]
  · have hm : (z + y + l) % B = z + y + l - B := by rw [Nat.mod_eq_sub_mod (by omega), Nat.mod_eq_of_lt (by omega)]
    rw [hm, show z + y + l - B + 2 * B - y - l = z + B * 1 by omega, Nat.add_mul_mod_self_left, Nat.mod_eq_of_lt d1]
theorem lck_of_lt (B X Y n : Nat) (hX : X < B ^ n) (hY : Y < B ^ n) : lck B X Y n = if X < Y then 1 else 0 := by
  unfold lck; rw [Nat.mod_eq_of_lt hX, Nat.mod_eq_of_lt hY]
end Go.Proofs.Ytgladedjgjhlaaa


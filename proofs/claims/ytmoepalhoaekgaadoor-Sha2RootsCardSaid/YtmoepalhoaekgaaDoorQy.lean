/-
  Digits of a number to a base: sums and differences digit by digit. It speaks of no program.
  Numbers in parts of 16 bits: products, comparisons, a bit more; roots bit by bit; primes counted. Plain mathematics.
  Times and Less of package custumalref01: products and comparisons of numbers in 28 parts.
  Root of package custumalref01: bit by bit.
  Prime of package custumalref01: the primes one by one.
  Right of the packages custumalref01 and custumalref02: the constants are the roots' first bits.
-/
import Derived.KernelRfl
import Derived.Test.YtmoepalhoaekgaaDoorQk
import Derived.Test.YtmoepalhoaekgaaDoorRi
import Derived.Deep.DeepCutAuto
import Derived.Test.YtmoepalhoaekgaaDoorQu
namespace Go.Proofs.YtmoepalhoaekgaaDoor

/-- Digit k of X to the base B. -/
def dig (B X k : Nat) : Nat := X / B ^ k % B
theorem dig_lt (B X k : Nat) (hB : 0 < B) : dig B X k < B := Nat.mod_lt _ hB
theorem dig_mod (B X k : Nat) : X % B ^ (k + 1) = X % B ^ k + B ^ k * dig B X k := Nat.mod_pow_succ
/-- What is carried behind k digits. -/
def cry (B X Y k : Nat) : Nat := (X % B ^ k + Y % B ^ k) / B ^ k
theorem cry_zero (B X Y : Nat) : cry B X Y 0 = 0 := by simp [cry, Nat.mod_one]
theorem cry_le (B X Y k : Nat) (hB : 0 < B) : cry B X Y k ≤ 1 := by
  have hp : 0 < B ^ k := Nat.pow_pos hB
  have h1 := Nat.mod_lt X hp
  have h2 := Nat.mod_lt Y hp
  unfold cry
  have : (X % B ^ k + Y % B ^ k) < 2 * B ^ k := by omega
  have := (Nat.div_lt_iff_lt_mul hp).2 this
  omega
theorem cry_succ (B X Y k : Nat) (hB : 0 < B) : cry B X Y (k + 1) = (dig B X k + dig B Y k + cry B X Y k) / B := by
  have hp : 0 < B ^ k := Nat.pow_pos hB
  unfold cry
  rw [dig_mod, dig_mod, Nat.pow_succ, ← Nat.div_div_eq_div_mul]
  congr 1
  rw [show X % B ^ k + B ^ k * dig B X k + (Y % B ^ k + B ^ k * dig B Y k) = (X % B ^ k + Y % B ^ k) + B ^ k * (dig B X k + dig B Y k) by rw [Nat.mul_add]; omega, Nat.add_mul_div_left _ _ hp, Nat.add_comm]
theorem dig_add (B X Y k : Nat) (hB : 0 < B) : dig B (X + Y) k = (dig B X k + dig B Y k + cry B X Y k) % B := by
  have hp : 0 < B ^ k := Nat.pow_pos hB
  have e : (X + Y) / B ^ k = cry B X Y k + (X / B ^ k + Y / B ^ k) := by
    have h1 := Nat.mod_add_div X (B ^ k)
    have h2 := Nat.mod_add_div Y (B ^ k)
    have : X + Y = (X % B ^ k + Y % B ^ k) + B ^ k * (X / B ^ k + Y / B ^ k) := by rw [Nat.mul_add]; omega
    rw [this, Nat.add_mul_div_left _ _ hp]
    rfl
  show (X + Y) / B ^ k % B = _
  rw [e]
  unfold dig
  rw [Nat.add_mod (X / B ^ k % B + Y / B ^ k % B), Nat.add_mod (X / B ^ k % B), Nat.mod_mod, Nat.mod_mod, ← Nat.add_mod (X / B ^ k), ← Nat.add_mod, Nat.add_comm]
theorem cry_of_lt (B X Y n : Nat) (hX : X < B ^ n) (hY : Y < B ^ n) : cry B X Y n = (X + Y) / B ^ n := by
  unfold cry; rw [Nat.mod_eq_of_lt hX, Nat.mod_eq_of_lt hY]
theorem dig_of_mod (B X n k : Nat) (h : k < n) : dig B (X % B ^ n) k = dig B X k := by
  obtain ⟨m, rfl⟩ : ∃ m, n = k + 1 + m := ⟨n - (k + 1), by omega⟩
  unfold dig
  have e : ∀ z : Nat, z / B ^ k % B = z % B ^ (k + 1) / B ^ k := fun z => by rw [Nat.pow_succ, Nat.mod_mul_right_div_self]
  rw [e, e, Nat.mod_mod_of_dvd _ (Nat.pow_dvd_pow B (by omega))]
/-- Numbers below B ^ n with the same digits are the same. -/
theorem dig_ext (B n : Nat) : ∀ X Y, X < B ^ n → Y < B ^ n → (∀ k, k < n → dig B X k = dig B Y k) → X = Y := by
  intro X Y hX hY h
  have : ∀ k, k ≤ n → X % B ^ k = Y % B ^ k := by
    intro k
    induction k with
    | zero => intro _; simp [Nat.mod_one]
    | succ k ih => intro hk; rw [dig_mod, dig_mod, ih (by omega), h k (by omega)]
  have := this n (Nat.le_refl _)
  rwa [Nat.mod_eq_of_lt hX, Nat.mod_eq_of_lt hY] at this
/-- What a difference lacks behind k digits. -/
def lck (B X Y k : Nat) : Nat := if X % B ^ k < Y % B ^ k then 1 else 0
theorem lck_zero (B X Y : Nat) : lck B X Y 0 = 0 := by simp [lck, Nat.mod_one]
theorem lck_le (B X Y k : Nat) : lck B X Y k ≤ 1 := by unfold lck; split <;> omega
theorem lck_succ (B X Y k : Nat) (hB : 0 < B) : lck B X Y (k + 1) = if dig B X k < dig B Y k + lck B X Y k then 1 else 0 := by
  have hp : 0 < B ^ k := Nat.pow_pos hB
  have h1 := Nat.mod_lt X hp
  have h2 := Nat.mod_lt Y hp
  unfold lck
  rw [dig_mod, dig_mod]
  generalize X % B ^ k = x at *
  generalize Y % B ^ k = y at *
  generalize dig B X k = a
  generalize dig B Y k = b
  generalize B ^ k = P at *
  rcases Nat.lt_trichotomy a b with h | h | h
  · have : P * (a + 1) ≤ P * b := Nat.mul_le_mul_left P h
    rw [Nat.mul_add, Nat.mul_one] at this
    rw [if_pos (by omega)]
    split <;> (first | rw [if_pos (by omega)] | omega)
  · subst h
    by_cases hc : x < y
    · rw [if_pos hc, if_pos (by omega), if_pos (by omega)]
    · rw [if_neg hc, if_neg (by omega), if_neg (by omega)]
  · have : P * (b + 1) ≤ P * a := Nat.mul_le_mul_left P h
    rw [Nat.mul_add, Nat.mul_one] at this
    rw [if_neg (by omega)]
    split <;> (rw [if_neg (by omega)])
theorem dig_sub (B X Y n k : Nat) (hB : 0 < B) (hk : k < n) (hY : Y ≤ X + B ^ n) : dig B (X + B ^ n - Y) k = (dig B X k + 2 * B - dig B Y k - lck B X Y k) % B := by
  obtain ⟨Z, hZ⟩ : ∃ Z, Z = X + B ^ n - Y := ⟨_, rfl⟩
  have hs : Z + Y = X + B ^ n := by omega
  rw [← hZ]
  have hp : 0 < B ^ k := Nat.pow_pos hB
  have hd : B ^ (k + 1) ∣ B ^ n := Nat.pow_dvd_pow B (by omega)
  have hd0 : B ^ k ∣ B ^ n := Nat.pow_dvd_pow B (by omega)
  have e1 : dig B (Z + Y) k = dig B X k := by
    rw [hs]
    obtain ⟨m, hm⟩ := hd
    unfold dig
    rw [hm, Nat.pow_succ, Nat.mul_assoc, Nat.add_mul_div_left _ _ hp, Nat.add_mul_mod_self_left]
  have e2 : (Z + Y) % B ^ k = X % B ^ k := by
    rw [hs]
    obtain ⟨m, hm⟩ := hd0
    rw [hm, Nat.add_mul_mod_self_left]
  have e3 : cry B Z Y k = lck B X Y k := by
    have h1 := Nat.mod_lt Z hp
    have h2 := Nat.mod_lt Y hp
    have h3 : (Z % B ^ k + Y % B ^ k) % B ^ k = X % B ^ k := by rw [← Nat.add_mod, e2]
    unfold cry lck
    generalize Z % B ^ k = z at *
    generalize Y % B ^ k = y at *
    by_cases hc : z + y < B ^ k
    · rw [Nat.mod_eq_of_lt hc] at h3
      rw [Nat.div_eq_of_lt hc, if_neg (by omega)]
    · have h4 : (z + y) % B ^ k = z + y - B ^ k := by
        rw [Nat.mod_eq_sub_mod (by omega), Nat.mod_eq_of_lt (by omega)]
      rw [h4] at h3
      rw [if_pos (by omega)]
      exact Nat.div_eq_of_lt_le (by omega) (by omega)
  have e4 := dig_add B Z Y k hB
  rw [e1, e3] at e4
  have l1 := lck_le B X Y k
  have d1 := dig_lt B Z k hB
  have d2 := dig_lt B Y k hB
  have d3 := dig_lt B X k hB
  rw [e4]
  generalize dig B Z k = z at *
  generalize dig B Y k = y at *
  generalize lck B X Y k = l at *
  by_cases hc : z + y + l < B
  · rw [Nat.mod_eq_of_lt hc, show z + y + l + 2 * B - y - l = z + B * 2 by omega, Nat.add_mul_mod_self_left, Nat.mod_eq_of_lt d1]
  · have hm : (z + y + l) % B = z + y + l - B := by rw [Nat.mod_eq_sub_mod (by omega), Nat.mod_eq_of_lt (by omega)]
    rw [hm, show z + y + l - B + 2 * B - y - l = z + B * 1 by omega, Nat.add_mul_mod_self_left, Nat.mod_eq_of_lt d1]
theorem lck_of_lt (B X Y n : Nat) (hX : X < B ^ n) (hY : Y < B ^ n) : lck B X Y n = if X < Y then 1 else 0 := by
  unfold lck; rw [Nat.mod_eq_of_lt hX, Nat.mod_eq_of_lt hY]
end Go.Proofs.YtmoepalhoaekgaaDoor
namespace Go.Proofs.YtmoepalhoaekgaaDoor
set_option linter.unusedVariables false

/-- The number of n digits. -/
def vl (B : Nat) (f : Nat → Nat) : Nat → Nat
  | 0 => 0
  | n + 1 => vl B f n + f n * B ^ n
theorem vl_congr (B : Nat) {f g : Nat → Nat} : ∀ n, (∀ j, j < n → f j = g j) → vl B f n = vl B g n
  | 0, _ => rfl
  | n + 1, h => by
    show vl B f n + f n * B ^ n = vl B g n + g n * B ^ n
    rw [vl_congr B n (fun j hj => h j (by omega)), h n (by omega)]
theorem vl_zero (B : Nat) : ∀ n, vl B (fun _ => 0) n = 0
  | 0 => rfl
  | n + 1 => by
    show vl B _ n + 0 * B ^ n = 0
    rw [vl_zero B n, Nat.zero_mul]
theorem vl_lt (B : Nat) (f : Nat → Nat) : ∀ n, (∀ j, j < n → f j < B) → vl B f n < B ^ n
  | 0, _ => by show 0 < B ^ 0; simp
  | n + 1, h => by
    show vl B f n + f n * B ^ n < B ^ (n + 1)
    have h1 := vl_lt B f n (fun j hj => h j (by omega))
    have h2 := h n (by omega)
    have h3 : (f n + 1) * B ^ n ≤ B * B ^ n := Nat.mul_le_mul_right _ h2
    rw [Nat.pow_succ, Nat.mul_comm (B ^ n)]
    rw [Nat.add_mul] at h3
    omega
theorem vl_rep (B : Nat) (f : Nat → Nat) (m x : Nat) : ∀ n, m < n → vl B (fun j => if j = m then x else f j) n + f m * B ^ m = vl B f n + x * B ^ m
  | 0, h => by omega
  | n + 1, h => by
    show vl B _ n + (if n = m then x else f n) * B ^ n + f m * B ^ m = vl B f n + f n * B ^ n + x * B ^ m
    by_cases e : n = m
    · subst e
      rw [if_pos rfl, vl_congr B n (f := fun j => if j = n then x else f j) (g := f) (fun j hj => by rw [if_neg (by omega)])]
      omega
    · rw [if_neg e]
      have := vl_rep B f m x n (by omega)
      omega
theorem dig_vl (B : Nat) (hB : 0 < B) (f : Nat → Nat) : ∀ n, (∀ j, j < n → f j < B) → ∀ k, k < n → dig B (vl B f n) k = f k
  | 0, _, k, hk => by omega
  | n + 1, h, k, hk => by
    have hl := vl_lt B f n (fun j hj => h j (by omega))
    have hp : 0 < B ^ n := Nat.pow_pos hB
    by_cases e : k = n
    · subst e
      show (vl B f k + f k * B ^ k) / B ^ k % B = f k
      rw [Nat.mul_comm, Nat.add_mul_div_left _ _ hp, Nat.div_eq_of_lt hl, Nat.zero_add, Nat.mod_eq_of_lt (h k (by omega))]
    · have ih := dig_vl B hB f n (fun j hj => h j (by omega)) k (by omega)
      rw [← dig_of_mod B (vl B f (n + 1)) n k (by omega)]
      have e2 : vl B f (n + 1) % B ^ n = vl B f n := by
        show (vl B f n + f n * B ^ n) % B ^ n = _
        rw [Nat.add_mul_mod_self_right, Nat.mod_eq_of_lt hl]
      rw [e2, ih]
/-- A product, digit by digit, what is beyond n digits is lost. -/
theorem times_step (B n X Y i k V o a b d s : Nat) (D : Nat → Nat) (hik : i + k < n) (hd : d = D (i + k)) (ha : a = dig B X i) (hb : b = dig B Y k) (hs : s = d + a * b + o)
    (h : (vl B D n + o * B ^ (i + k)) % B ^ n = ((X % B ^ i) * Y + dig B X i * B ^ i * (Y % B ^ k)) % B ^ n) :
    (vl B (fun j => if j = i + k then s % B else D j) n + s / B * B ^ (i + (k + 1))) % B ^ n = ((X % B ^ i) * Y + dig B X i * B ^ i * (Y % B ^ (k + 1))) % B ^ n := by
  have h1 := vl_rep B D (i + k) (s % B) n hik
  have h2 : s % B * B ^ (i + k) + s / B * B ^ (i + (k + 1)) = s * B ^ (i + k) := by
    rw [show i + (k + 1) = (i + k) + 1 by omega, Nat.pow_succ, Nat.mul_comm (B ^ (i + k)) B, ← Nat.mul_assoc, ← Nat.add_mul, Nat.add_comm, Nat.mul_comm (s / B), Nat.div_add_mod]
  have h3 : s * B ^ (i + k) = D (i + k) * B ^ (i + k) + a * b * B ^ (i + k) + o * B ^ (i + k) := by rw [hs, hd, Nat.add_mul, Nat.add_mul]
  have e : vl B (fun j => if j = i + k then s % B else D j) n + s / B * B ^ (i + (k + 1)) = (vl B D n + o * B ^ (i + k)) + a * b * B ^ (i + k) := by omega
  have e2 : (X % B ^ i) * Y + dig B X i * B ^ i * (Y % B ^ (k + 1)) = ((X % B ^ i) * Y + dig B X i * B ^ i * (Y % B ^ k)) + a * b * B ^ (i + k) := by
    rw [dig_mod B Y k, Nat.mul_add, ← Nat.add_assoc, ha, hb, Nat.pow_add]
    congr 1
    ac_rfl
  rw [e, e2, Nat.add_mod, h, ← Nat.add_mod]
theorem times_start (B n X Y i : Nat) (D : Nat → Nat) (h : vl B D n % B ^ n = ((X % B ^ i) * Y) % B ^ n) :
    (vl B D n + 0 * B ^ (i + 0)) % B ^ n = ((X % B ^ i) * Y + dig B X i * B ^ i * (Y % B ^ 0)) % B ^ n := by
  rw [Nat.zero_mul, Nat.add_zero, Nat.pow_zero, Nat.mod_one, Nat.mul_zero, Nat.add_zero, h]
theorem times_end (B n X Y i k o : Nat) (D : Nat → Nat) (hik : i + k = n)
    (h : (vl B D n + o * B ^ (i + k)) % B ^ n = ((X % B ^ i) * Y + dig B X i * B ^ i * (Y % B ^ k)) % B ^ n) : vl B D n % B ^ n = ((X % B ^ (i + 1)) * Y) % B ^ n := by
  rw [hik, Nat.add_mul_mod_self_right] at h
  rw [h, dig_mod B X i, Nat.add_mul]
  have hY : Y = Y % B ^ k + B ^ k * (Y / B ^ k) := (Nat.mod_add_div Y (B ^ k)).symm
  have e : B ^ i * dig B X i * Y = dig B X i * B ^ i * (Y % B ^ k) + B ^ n * (dig B X i * (Y / B ^ k)) := by
    conv => lhs; rw [hY]
    rw [Nat.mul_add, ← hik, Nat.pow_add]
    congr 1 <;> ac_rfl
  rw [e, ← Nat.add_assoc, Nat.add_mul_mod_self_left]
/-- Comparison from the highest digit down. -/
theorem less_at (B n X Y i : Nat) (hB : 0 < B) (hX : X < B ^ n) (hY : Y < B ^ n) (hi : i < n) (h : ∀ j, i < j → j < n → dig B X j = dig B Y j) (hne : dig B X i ≠ dig B Y i) : (X < Y) ↔ dig B X i < dig B Y i := by
  have up : ∀ m, i + 1 + m ≤ n → lck B X Y (i + 1 + m) = lck B X Y (i + 1) := by
    intro m
    induction m with
    | zero => intro _; rfl
    | succ m ih =>
      intro hm
      rw [show i + 1 + (m + 1) = (i + 1 + m) + 1 by omega, lck_succ B X Y _ hB, h (i + 1 + m) (by omega) (by omega), ih (by omega)]
      have := lck_le B X Y (i + 1)
      by_cases c : lck B X Y (i + 1) = 0
      · rw [c, if_neg (by omega)]
      · rw [if_pos (by omega)]; omega
  have h1 := up (n - (i + 1)) (by omega)
  rw [show i + 1 + (n - (i + 1)) = n by omega, lck_of_lt B X Y n hX hY, lck_succ B X Y i hB] at h1
  have hl := lck_le B X Y i
  by_cases c : X < Y
  · rw [if_pos c] at h1
    by_cases d : dig B X i < dig B Y i + lck B X Y i
    · exact ⟨fun _ => by omega, fun _ => c⟩
    · rw [if_neg d] at h1; omega
  · rw [if_neg c] at h1
    by_cases d : dig B X i < dig B Y i + lck B X Y i
    · rw [if_pos d] at h1; omega
    · exact ⟨fun e => absurd e c, fun e => by omega⟩
theorem same_all (B n X Y : Nat) (hX : X < B ^ n) (hY : Y < B ^ n) (h : ∀ j, j < n → dig B X j = dig B Y j) : X = Y := dig_ext B n X Y hX hY h
/-- A digit more, without a carry. -/
theorem dig_more (B X c m j : Nat) (hB : 0 < B) (h : dig B X m + c < B) : dig B (X + c * B ^ m) j = if j = m then dig B X m + c else dig B X j := by
  have hp : ∀ k, 0 < B ^ k := fun k => Nat.pow_pos hB
  by_cases e : j = m
  · subst e
    rw [if_pos rfl]
    unfold dig at h ⊢
    rw [Nat.mul_comm c, Nat.add_mul_div_left _ _ (hp j), Nat.add_mod, Nat.mod_eq_of_lt (a := c) (by omega), Nat.mod_eq_of_lt h]
  · rw [if_neg e]
    unfold dig
    by_cases l : j < m
    · obtain ⟨d, rfl⟩ : ∃ d, m = j + 1 + d := ⟨m - (j + 1), by omega⟩
      rw [show c * B ^ (j + 1 + d) = B ^ j * (B * (B ^ d * c)) by rw [Nat.pow_add, Nat.pow_succ]; ac_rfl, Nat.add_mul_div_left _ _ (hp j), Nat.add_mul_mod_self_left]
    · obtain ⟨d, rfl⟩ : ∃ d, j = m + 1 + d := ⟨j - (m + 1), by omega⟩
      have e1 : ∀ z, z / B ^ (m + 1 + d) = z / B ^ m / B / B ^ d := fun z => by rw [Nat.pow_add, Nat.pow_succ, Nat.div_div_eq_div_mul, Nat.div_div_eq_div_mul, Nat.mul_assoc]
      rw [e1, e1, Nat.mul_comm c, Nat.add_mul_div_left _ _ (hp m)]
      unfold dig at h
      have : (X / B ^ m + c) / B = X / B ^ m / B := by
        generalize X / B ^ m = x at *
        have := Nat.mod_add_div x B
        rw [← this] at h ⊢
        rw [Nat.add_mul_mod_self_left, Nat.mod_mod] at h
        rw [show x % B + B * (x / B) + c = (x % B + c) + B * (x / B) by omega, Nat.add_mul_div_left _ _ hB, Nat.div_eq_of_lt h, Nat.add_mul_div_left _ _ hB, Nat.div_eq_of_lt (Nat.mod_lt _ hB)]
      rw [this]
theorem room16 (X m t q : Nat) (ht : t < 16) (hX : X = 2 ^ (16 * m + t + 1) * q) : dig 65536 X m + 2 ^ t < 65536 := by
  have e : X / 65536 ^ m = 2 ^ (t + 1) * q := by
    have h0 : (65536 : Nat) ^ m = 2 ^ (16 * m) := by rw [show (65536 : Nat) = 2 ^ 16 from rfl, ← Nat.pow_mul]
    rw [hX, h0, show 16 * m + t + 1 = 16 * m + (t + 1) by omega, Nat.pow_add, Nat.mul_assoc, Nat.mul_div_cancel_left _ (Nat.pow_pos (by decide))]
  unfold dig
  rw [e]
  obtain ⟨d, hd⟩ : ∃ d, 16 = t + 1 + d := ⟨16 - (t + 1), by omega⟩
  have h16 : (65536 : Nat) = 2 ^ (t + 1) * 2 ^ d := by rw [← Nat.pow_add, ← hd]
  rw [h16, Nat.mul_mod_mul_left]
  have h1 := Nat.mod_lt q (Nat.pow_pos (n := d) (show 0 < 2 by decide))
  have h2 : 2 ^ (t + 1) * (q % 2 ^ d + 1) ≤ 2 ^ (t + 1) * 2 ^ d := Nat.mul_le_mul_left _ h1
  rw [Nat.mul_add, Nat.mul_one] at h2
  have h3 : 2 ^ t < 2 ^ (t + 1) := Nat.pow_lt_pow_right (by decide) (by omega)
  omega
def M28 : Nat := 65536 ^ 28
/-- One bit of a root: is the power of it, with the bit, still not above V? -/
def rstep (V : Nat) (cube : Bool) (X i : Nat) : Nat :=
  if V < (if cube then (X + 2 ^ i) * (X + 2 ^ i) % M28 * (X + 2 ^ i) % M28 else (X + 2 ^ i) * (X + 2 ^ i) % M28) then X else X + 2 ^ i
/-- The bits from n down, k of them. -/
def rt (V : Nat) (cube : Bool) (n : Nat) : Nat → Nat
  | 0 => 0
  | k + 1 => rstep V cube (rt V cube n k) (n - (k + 1))
theorem rt_mul (V : Nat) (cube : Bool) (n : Nat) : ∀ k, k ≤ n → ∃ q, rt V cube n k = 2 ^ (n - k) * q ∧ q < 2 ^ k
  | 0, _ => ⟨0, rfl, by decide⟩
  | k + 1, h => by
    obtain ⟨q, hq, hb⟩ := rt_mul V cube n k (by omega)
    have e : 2 ^ (n - k) = 2 ^ (n - (k + 1)) * 2 := by rw [← Nat.pow_succ]; congr 1; omega
    have hp : 2 ^ (k + 1) = 2 ^ k * 2 := Nat.pow_succ ..
    show ∃ q, rstep V cube (rt V cube n k) (n - (k + 1)) = _ ∧ _
    have ways : rstep V cube (rt V cube n k) (n - (k + 1)) = rt V cube n k ∨ rstep V cube (rt V cube n k) (n - (k + 1)) = rt V cube n k + 2 ^ (n - (k + 1)) := by
      exact (Classical.em _).elim (fun c => Or.inl (if_pos c)) (fun c => Or.inr (if_neg c))
    rcases ways with w | w
    · exact ⟨2 * q, by rw [w, hq, e, Nat.mul_assoc], by omega⟩
    · exact ⟨2 * q + 1, by rw [w, hq, e, Nat.mul_add, Nat.mul_assoc, Nat.mul_one], by omega⟩
/-- Has n no divisor from 2 to 20 whose square isn't above it? -/
def whole (n : Nat) : Bool := (List.range 21).all fun j => decide (j < 2) || decide (n < j * j) || (n % j != 0)
def wb (n k : Nat) : Bool := (List.range k).all fun j => decide (j < 2) || (n % j != 0)
theorem wb_succ (n k : Nat) (h : 2 ≤ k) : wb n (k + 1) = (wb n k && (n % k != 0)) := by
  unfold wb
  rw [List.range_succ, List.all_append]
  simp [show ¬ k < 2 by omega]
theorem wb_two (n : Nat) : wb n 2 = true := rfl
theorem wb_whole (n k : Nat) (h1 : n < k * k) (h2 : (k - 1) * (k - 1) ≤ n) (h3 : k ≤ 21) : wb n k = whole n := by
  rw [Bool.eq_iff_iff]
  unfold wb whole
  rw [List.all_eq_true, List.all_eq_true]
  constructor
  · intro h j hj
    by_cases c : j < k
    · have := h j (List.mem_range.2 c)
      simp only [Bool.or_eq_true] at this ⊢
      rcases this with t | t
      · exact Or.inl (Or.inl t)
      · exact Or.inr t
    · have : k * k ≤ j * j := Nat.mul_le_mul (by omega) (by omega)
      simp only [Bool.or_eq_true, decide_eq_true_eq]
      exact Or.inl (Or.inr (by omega))
  · intro h j hj
    have hj' := List.mem_range.1 hj
    have := h j (List.mem_range.2 (by omega))
    have h4 : j * j ≤ (k - 1) * (k - 1) := Nat.mul_le_mul (by omega) (by omega)
    simp only [Bool.or_eq_true, decide_eq_true_eq] at this ⊢
    rcases this with (t | t) | t
    · exact Or.inl t
    · omega
    · exact Or.inr t
/-- How many primes are there up to n? -/
def cnt2 : Nat → Nat
  | 0 => 0
  | n + 1 => cnt2 n + if 2 ≤ n + 1 ∧ whole (n + 1) = true then 1 else 0
theorem cnt2_mono : ∀ m d, cnt2 m ≤ cnt2 (m + d)
  | m, 0 => Nat.le_refl _
  | m, d + 1 => Nat.le_trans (cnt2_mono m d) (by show cnt2 (m + d) ≤ cnt2 (m + d) + _; omega)
def ptab : List Nat := [2, 3, 5, 7, 11, 13, 17, 19, 23, 29, 31, 37, 41, 43, 47, 53, 59, 61, 67, 71, 73, 79, 83, 89, 97, 101, 103, 107, 109, 113, 127, 131, 137, 139, 149, 151, 157, 163, 167, 173, 179, 181, 191, 193, 197, 199, 211, 223, 227, 229, 233, 239, 241, 251, 257, 263, 269, 271, 277, 281, 283, 293, 307, 311, 313, 317, 331, 337, 347, 349, 353, 359, 367, 373, 379, 383, 389, 397, 401, 409]
def pt (i : Nat) : Nat := ptab.getD i 0
theorem pt_fact : ∀ i, i < 80 → cnt2 (pt i) = i + 1 ∧ cnt2 (pt i - 1) = i ∧ 2 ≤ pt i ∧ pt i ≤ 409 := by decide +kernel
theorem pt_below (i m : Nat) (hi : i < 80) (h : m < pt i) : cnt2 m ≤ i := by
  obtain ⟨_, h2, _, _⟩ := pt_fact i hi
  have := cnt2_mono m (pt i - 1 - m)
  rw [show m + (pt i - 1 - m) = pt i - 1 by omega, h2] at this
  exact this
end Go.Proofs.YtmoepalhoaekgaaDoor
namespace Go.Proofs.YtmoepalhoaekgaaDoor
open Go.RowKit
set_option linter.unusedVariables false
set_option linter.unusedSimpArgs false

theorem Tryd.szBg : (Tryd.prog.info? 58).map (·.size) = some 28 := by kernel_rfl
theorem Tryd.alBg : ∀ w, (Instr.alloc 58 true (.tuple #[])).run Tryd.prog w = .ok (.pointer (some ⟨w.heap.size, 0, none⟩)) (w.alloc (.cells #[.int .i64 0, .int .i64 0, .int .i64 0, .int .i64 0, .int .i64 0, .int .i64 0, .int .i64 0, .int .i64 0, .int .i64 0, .int .i64 0, .int .i64 0, .int .i64 0, .int .i64 0, .int .i64 0, .int .i64 0, .int .i64 0, .int .i64 0, .int .i64 0, .int .i64 0, .int .i64 0, .int .i64 0, .int .i64 0, .int .i64 0, .int .i64 0, .int .i64 0, .int .i64 0, .int .i64 0, .int .i64 0] 58)) := fun w => by kernel_rfl
theorem Tryd.iI : (Tryd.prog.info? 3).map (·.size) = some 1 := by kernel_rfl
/-- A number as 28 parts of 16 bits. -/
def bg (X : Nat) : Array Value := iu 28 (dig 65536 X)
theorem sz_bg (X : Nat) : Sz 28 (bg X) := ⟨iu_size _ _, iu_one _ _⟩
theorem bg_cell (X j : Nat) (hj : j < 28) : (bg X)[j]? = some (.int .i64 (dig 65536 X j : Int)) := iu_get 28 _ j hj
theorem and_16 (s : Nat) (h : s < 4611686018427387904) : bits .and .i64 (s : Int) 65535 = ((s % 65536 : Nat) : Int) := by
  rw [show (65535 : Int) = ((65535 : Nat) : Int) from rfl, (bits_i64_nat s 65535 h (by decide)).2.1, show (65535 : Nat) = 2 ^ 16 - 1 from rfl, Nat.and_two_pow_sub_one_eq_mod]
set_option maxRecDepth 100000 in
set_option maxHeartbeats 3200000 in
theorem times_op (X Y : Nat) (hX : X < M28) (hY : Y < M28) (Q : Array Value) (w : World)
    (sQ : Sz 0 Q) :
    Calls Tryd.prog 51 #[.agg (bg X), .agg (bg Y)] w fun e w' => e = .returned (.agg (bg (X * Y % M28))) ∧ Fr (fun _ => False) w w' := by
  have sX := sz_bg X
  have sY := sz_bg Y
  have K := ((((Kn.start w).new (w.heap.size) 28 (bg X) 58 rfl sX.1).new (w.heap.size + 1) 28 (bg Y) 58 (by simp) sY.1).new (w.heap.size + 1 + 1) 28 #[.int .i64 0, .int .i64 0, .int .i64 0, .int .i64 0, .int .i64 0, .int .i64 0, .int .i64 0, .int .i64 0, .int .i64 0, .int .i64 0, .int .i64 0, .int .i64 0, .int .i64 0, .int .i64 0, .int .i64 0, .int .i64 0, .int .i64 0, .int .i64 0, .int .i64 0, .int .i64 0, .int .i64 0, .int .i64 0, .int .i64 0, .int .i64 0, .int .i64 0, .int .i64 0, .int .i64 0, .int .i64 0] 58 (by simp) rfl)
  go_enter Tryd.func51, Tryd.ntmps51
  go_wp2_with (first
      | ((with_reducible refine wpList_new_kn K 58 _ _ _ _ #[.int .i64 0, .int .i64 0, .int .i64 0, .int .i64 0, .int .i64 0, .int .i64 0, .int .i64 0, .int .i64 0, .int .i64 0, .int .i64 0, .int .i64 0, .int .i64 0, .int .i64 0, .int .i64 0, .int .i64 0, .int .i64 0, .int .i64 0, .int .i64 0, .int .i64 0, .int .i64 0, .int .i64 0, .int .i64 0, .int .i64 0, .int .i64 0, .int .i64 0, .int .i64 0, .int .i64 0, .int .i64 0] 28 rfl Tryd.alBg rfl ?_); intro gz wz Kz; clear K; have K := Kz; clear Kz; try (simp only [Act.put, List.setIfInBounds_toArray, List.set_cons_zero, List.set_cons_succ])))
  have e0 : #[.int .i64 0, .int .i64 0, .int .i64 0, .int .i64 0, .int .i64 0, .int .i64 0, .int .i64 0, .int .i64 0, .int .i64 0, .int .i64 0, .int .i64 0, .int .i64 0, .int .i64 0, .int .i64 0, .int .i64 0, .int .i64 0, .int .i64 0, .int .i64 0, .int .i64 0, .int .i64 0, .int .i64 0, .int .i64 0, .int .i64 0, .int .i64 0, .int .i64 0, .int .i64 0, .int .i64 0, .int .i64 0] = iu 28 (fun _ => 0) := by kernel_rfl
  rw [e0] at K
  clear e0
  generalize hRS : iu 28 (fun _ => 0) = RS at K
  have e1 : (⟨gz, 28, RS, 58⟩ : Bk) = ⟨gz, 28, iu 28 (fun _ => 0), 58⟩ := by rw [hRS]
  rw [e1] at K
  clear e1
  have HX := Lib.hid hX
  have HY := Lib.hid hY
  have HRS := Lib.hid hRS
  clear hX hY hRS sX sY
  go_loopw [6] (fun iv wr => ∃ i : Nat, i ≤ 28 ∧ iv = .int .i64 (i : Int) ∧ ∃ D : Nat → Nat, (∀ j, j < 28 → D j < 65536) ∧ Hid (vl 65536 D 28 % 65536 ^ 28 = ((X % 65536 ^ i) * Y) % 65536 ^ 28) ∧ Kn w [⟨gz, 28, iu 28 D, 58⟩, ⟨w.heap.size + 1 + 1, 28, RS, 58⟩, ⟨w.heap.size + 1, 28, bg Y, 58⟩, ⟨w.heap.size, 28, bg X, 58⟩] wr) (fun iv _ => (28 - (intOf iv).toNat))
  case atStart => exact ⟨0, by omega, by simp, fun _ => 0, fun j hj => (show 0 < 65536 by omega), Lib.hid (by rw [vl_zero, Nat.pow_zero, Nat.mod_one, Nat.zero_mul]), K⟩
  case round =>
    clear K
    obtain ⟨i, hi, rfl, D, hD, HV0, K⟩ := hrel
    by_cases hc : i < 28
    · as_aux_lemma =>
      have HS := Lib.hid (times_start 65536 28 X Y i D HV0.out)
      have HDD := Lib.hid hD
      clear HV0 hD
      have i1 : (i : Int) < 28 := by omega
      go_wp2_with fail
      go_loopw [7, 8] (fun ov kv wr => ∃ k o : Nat, i + k ≤ 28 ∧ kv = .int .i64 (k : Int) ∧ ov = .int .i64 (o : Int) ∧ o ≤ 65535 ∧ ∃ D : Nat → Nat, (∀ j, j < 28 → D j < 65536) ∧ Hid ((vl 65536 D 28 + o * 65536 ^ (i + k)) % 65536 ^ 28 = ((X % 65536 ^ i) * Y + dig 65536 X i * 65536 ^ i * (Y % 65536 ^ k)) % 65536 ^ 28) ∧ Kn w [⟨gz, 28, iu 28 D, 58⟩, ⟨w.heap.size + 1 + 1, 28, RS, 58⟩, ⟨w.heap.size + 1, 28, bg Y, 58⟩, ⟨w.heap.size, 28, bg X, 58⟩] wr) (fun _ kv _ => (28 - (intOf kv).toNat))
      case atStart => exact ⟨0, 0, by omega, by simp, by simp, by omega, D, HDD.out, HS, K⟩
      case round =>
        clear K HS
        obtain ⟨k, o, hk, rfl, rfl, ho, D, hD, HV, K⟩ := hrel
        have bk : -9223372036854775808 ≤ (i : Int) + (k : Int) ∧ (i : Int) + (k : Int) ≤ 9223372036854775807 := by omega
        by_cases hd : i + k < 28
        · as_aux_lemma =>
          obtain ⟨m, hm⟩ : ∃ m, m = i + k := ⟨_, rfl⟩
          have em : (i : Int) + (k : Int) = (m : Int) := by omega
          have m28 : m < 28 := by omega
          have m1 : (m : Int) < 28 := by omega
          have m0 : (0 : Int) ≤ (m : Int) := by omega
          have i0 : (0 : Int) ≤ (i : Int) := by omega
          have k0 : (0 : Int) ≤ (k : Int) := by omega
          have k1 : (k : Int) < 28 := by omega
          have cD := iu_get 28 D m m28
          have cX := bg_cell X i hc
          have cY := bg_cell Y k (by omega)
          have dD := hD m m28
          have dX := dig_lt 65536 X i (by decide)
          have dY := dig_lt 65536 Y k (by decide)
          have hp : dig 65536 X i * dig 65536 Y k ≤ 65535 * 65535 := Nat.mul_le_mul (by omega) (by omega)
          obtain ⟨s, hs⟩ : ∃ s, s = D m + dig 65536 X i * dig 65536 Y k + o := ⟨_, rfl⟩
          obtain ⟨q, hq⟩ : ∃ q, q = s / 65536 := ⟨_, rfl⟩
          obtain ⟨r, hr⟩ : ∃ r, r = s % 65536 := ⟨_, rfl⟩
          have HSTEP : Hid ((vl 65536 (fun j => if j = m then r else D j) 28 + q * 65536 ^ (i + (k + 1))) % 65536 ^ 28 = ((X % 65536 ^ i) * Y + dig 65536 X i * 65536 ^ i * (Y % 65536 ^ (k + 1))) % 65536 ^ 28) := by
            subst hm
            rw [hq, hr]
            exact Lib.hid (times_step 65536 28 X Y i k 0 o (dig 65536 X i) (dig 65536 Y k) (D (i + k)) s D hd rfl rfl rfl hs HV.out)
          have HSET := Lib.hid (iu_set 28 D m r m28)
          have HD := Lib.hid hD
          have HM := Lib.hid hm
          obtain ⟨d, hd0⟩ : ∃ d, d = D m := ⟨_, rfl⟩
          obtain ⟨a, ha0⟩ : ∃ a, a = dig 65536 X i := ⟨_, rfl⟩
          obtain ⟨b, hb0⟩ : ∃ b, b = dig 65536 Y k := ⟨_, rfl⟩
          rw [← hd0] at cD dD hs
          rw [← ha0] at cX dX hs hp
          rw [← hb0] at cY dY hs hp
          have hpi : ((a * b : Nat) : Int) = (a : Int) * (b : Int) := by simp
          obtain ⟨pr, hpr⟩ : ∃ pr, pr = a * b := ⟨_, rfl⟩
          rw [← hpr] at hp hpi hs
          have hpi2 : (a : Int) * (b : Int) = (pr : Int) := hpi.symm
          clear hD HV HDD hm hd0 ha0 hb0 hpr
          have b1 : -9223372036854775808 ≤ (pr : Int) ∧ (pr : Int) ≤ 9223372036854775807 := by omega
          have b2 : -9223372036854775808 ≤ (d : Int) + (pr : Int) ∧ (d : Int) + (pr : Int) ≤ 9223372036854775807 := by omega
          have b3 : -9223372036854775808 ≤ (d : Int) + (pr : Int) + (o : Int) ∧ (d : Int) + (pr : Int) + (o : Int) ≤ 9223372036854775807 := by omega
          have es : (d : Int) + (pr : Int) + (o : Int) = (s : Int) := by omega
          have so : q ≤ 65535 := by omega
          have sm : r < 65536 := by omega
          have s62 : s < 4611686018427387904 := by omega
          have v1 : IntKind.i64.wrap (pr : Int) = (pr : Int) := IntWalk.i64_in _ b1
          have v2 : IntKind.i64.wrap ((d : Int) + (pr : Int)) = (d : Int) + (pr : Int) := IntWalk.i64_in _ b2
          have v3 : IntKind.i64.wrap ((d : Int) + (pr : Int) + (o : Int)) = (s : Int) := (IntWalk.i64_in _ b3).trans es
          have u1 : wrap64 (pr : Int) = (pr : Int) := IntWalk.wrap64_in _ b1
          have u2 : wrap64 ((d : Int) + (pr : Int)) = (d : Int) + (pr : Int) := IntWalk.wrap64_in _ b2
          have u3 : wrap64 ((d : Int) + (pr : Int) + (o : Int)) = (s : Int) := (IntWalk.wrap64_in _ b3).trans es
          clear es
          have sa : bits .and .i64 (s : Int) 65535 = (r : Int) := by rw [hr]; exact and_16 s s62
          have sh : (s : Int) / 65536 = (q : Int) := by rw [hq]; simp
          have Hs := Lib.hid hs
          clear hpi hs hp dX dY dD hq hr
          have bm : -9223372036854775808 ≤ (m : Int) ∧ (m : Int) ≤ 9223372036854775807 := by omega
          have wm : IntKind.i64.wrap (m : Int) = (m : Int) := IntWalk.i64_in _ bm
          have wk : IntKind.i64.wrap ((i : Int) + (k : Int)) = (m : Int) := (IntWalk.i64_in _ bk).trans em
          clear bk bm b1 b2 b3
          go_wp2_with fail
          have cd := fun y : Wd _ => K.celld y 0 rfl m cD
          have ca := fun y : Wd _ => K.celld y 3 rfl i cX
          have cb := fun y : Wd _ => K.celld y 2 rfl k cY
          refine wp_region_keep (by kernel_rfl) (by kernel_rfl) ?_

          repeat (any_goals (first | go_big_quiet_step (fail) | quiet_step (fail)))
          refine wpQuiet_nil ?_
          intro _ hwz
          obtain ⟨y, rfl⟩ := hwz
          have Kz := K.call y.h
          clear K cd ca cb
          have K := Kz
          clear Kz
          generalize y.w = wz at K ⊢
          clear y
          go_wp2_with (first
              | (focus ((with_reducible refine' wpList_store1_kn K rfl 3 _ _ rfl 0 _ _ m _ _ .i64 (r : Int) rfl rfl Tryd.iI _ m28 _); rotate_left 2; (focus exact rfl); intro wz Kz; clear K; have K := Kz; clear Kz; simp only [List.set_cons_zero, List.set_cons_succ] at K; rw [HSET.out] at K; try (simp only [Act.put, List.setIfInBounds_toArray, List.set_cons_zero, List.set_cons_succ]))))
          go_roundw
          case rel =>
            refine ⟨k + 1, q, by have := HM.out; omega, by simp, rfl, so, fun j => if j = m then r else D j, fun j hj => ?_, HSTEP, K⟩
            show (if j = m then r else D j) < 65536
            split
            · exact sm
            · exact HD.out j hj
          case measure => simp [intOf]; have := HM.out; omega
        · as_aux_lemma =>
          have hik : i + k = 28 := by omega
          have HE := Lib.hid (times_end 65536 28 X Y i k o D hik HV.out)
          have HD := Lib.hid hD
          have nlt : ¬ (i : Int) + (k : Int) < 28 := by omega
          have wk : IntKind.i64.wrap ((i : Int) + (k : Int)) = (i : Int) + (k : Int) := IntWalk.i64_in _ bk
          clear HV hik hD
          go_wp2_with fail
          go_roundw
          case rel => exact ⟨i + 1, by omega, by simp, D, HD.out, HE.out, K⟩
          case measure => simp [intOf]; omega
    · as_aux_lemma =>
      obtain rfl : i = 28 := by omega
      have ED : iu 28 D = bg (X * Y % M28) := by
        have hX := HX.out
        have hV := HV0.out
        have hlt := vl_lt 65536 D 28 hD
        rw [Nat.mod_eq_of_lt hlt, Nat.mod_eq_of_lt (show X < 65536 ^ 28 from hX)] at hV
        refine iu_congr fun j hj => ?_
        have := dig_vl 65536 (by decide) D 28 hD j hj
        rw [hV] at this
        exact this.symm
      rw [ED] at K
      clear ED hD HV0 HX HY HRS
      have sP := sz_bg (X * Y % M28)
      obtain ⟨Z, hZ⟩ : ∃ Z, Z = X * Y % M28 := ⟨_, rfl⟩
      rw [← hZ] at K sP
      have HZ := Lib.hid hZ
      clear hZ
      go_wp2_with (first
          | (focus (first | ((with_reducible refine' wpList_load_kn K rfl 58 (.tmp 5) rfl 0 _ _ _ _ rfl _ Tryd.underlying58 rfl Tryd.szBg _ _); rotate_left 2; (focus exact rfl))))
          | (focus ((first | ((with_reducible refine' wpList_store_kn K rfl 58 (.tmp 4) _ rfl 1 _ _ _ _ _ rfl rfl Tryd.szBg _ _ _); rotate_left 2; (focus exact rfl))); (focus assumption); intro wz Kz; clear K; have K := Kz; clear Kz; simp only [List.set_cons_zero, List.set_cons_succ] at K; try (simp only [Act.put, List.setIfInBounds_toArray, List.set_cons_zero, List.set_cons_succ]))))
      refine bodyPost_ret (results_kn K rfl _ 1 _ _ _ _ rfl _ Tryd.underlying58 rfl Tryd.szBg rfl) rfl ?_
      exact ⟨by rw [HZ.out], K.fr⟩
set_option maxRecDepth 100000 in
set_option maxHeartbeats 3200000 in
theorem less_diff (m : Nat) (r : Bool) (A B : Array Value) (w : World)
    (a b : Nat → Nat) (hA : ∀ j, j < 28 → A[j]? = some (.int .i64 (a j : Int))) (hB : ∀ j, j < 28 → B[j]? = some (.int .i64 (b j : Int))) (hm : m < 28) (he : ∀ j, m < j → j < 28 → a j = b j) (hn : a m ≠ b m) (hr : decide ((a m : Int) < (b m : Int)) = r)
    (sA : Sz 28 A) (sB : Sz 28 B) :
    Calls Tryd.prog 52 #[.agg A, .agg B] w fun e w' => e = .returned (.bool r) ∧ Fr (fun _ => False) w w' := by
  have HA := Lib.hid hA
  have HB := Lib.hid hB
  have HE := Lib.hid he
  clear hA hB he
  have K := (((Kn.start w).new (w.heap.size) 28 A 58 rfl sA.1).new (w.heap.size + 1) 28 B 58 (by simp) sB.1)
  go_enter Tryd.func52, Tryd.ntmps52
  go_wp2_with fail
  go_loopw [5] (fun iv wr => ∃ i : Nat, m + 1 ≤ i ∧ i ≤ 28 ∧ iv = .int .i64 ((i : Int) - 1) ∧ Kn w [⟨w.heap.size + 1, 28, B, 58⟩, ⟨w.heap.size, 28, A, 58⟩] wr) (fun iv _ => (intOf iv + 1).toNat)
  case atStart => exact ⟨28, by omega, by omega, by simp, K⟩
  case round =>
    clear K
    obtain ⟨i, hl, hi, rfl, K⟩ := hrel
    by_cases hc : i = m + 1
    · subst hc
      rw [show ((m + 1 : Nat) : Int) - 1 = (m : Int) by omega]
      have n0 : (0 : Int) ≤ (m : Int) := by omega
      have n1 : (m : Int) < 28 := by omega
      have hAk := HA.out m hm
      have hBk := HB.out m hm
      generalize hak : a m = u at *
      generalize hbk : b m = v at *
      have e1 : (u == v) = false := by rw [beq_eq_false_iff_ne]; exact hn
      have e2 : ((u : Int) == (v : Int)) = false := by rw [beq_eq_false_iff_ne]; omega
      have e3 : decide ((u : Int) = (v : Int)) = false := decide_eq_false (by omega)
      have e4 : ¬ (u : Int) = (v : Int) := by omega
      have hr2 : decide (u < v) = r := by rw [← hr]; exact decide_eq_decide.2 (by omega)
      clear HA HB HE hak hbk
      go_wp2_with fail
      have cx := fun y : Wd _ => K.celld y 1 rfl m hAk
      have cy := fun y : Wd _ => K.celld y 0 rfl m hBk
      refine wp_region_keep (by kernel_rfl) (by kernel_rfl) ?_

      repeat (any_goals (first | go_big_quiet_step (fail) | quiet_step (fail)))
      refine wpQuiet_nil ?_
      intro _ hwz
      obtain ⟨y, rfl⟩ := hwz
      have Kz := K.call y.h
      clear K cx cy
      have K := Kz
      clear Kz
      generalize y.w = wz at K ⊢
      clear y
      go_wp2_with fail
      have cx := fun y : Wd _ => K.celld y 1 rfl m hAk
      have cy := fun y : Wd _ => K.celld y 0 rfl m hBk
      refine wp_region_keep (by kernel_rfl) (by kernel_rfl) ?_

      repeat (any_goals (first | go_big_quiet_step (fail) | quiet_step (fail)))
      refine wpQuiet_nil ?_
      intro _ hwz
      obtain ⟨y, rfl⟩ := hwz
      have Kz := K.call y.h
      clear K cx cy
      have K := Kz
      clear Kz
      generalize y.w = wz at K ⊢
      clear y
      go_wp2_with fail
      go_ret
      exact ⟨rfl, K.fr⟩
    · obtain ⟨k, rfl⟩ : ∃ k, i = k + 1 := ⟨i - 1, by omega⟩
      rw [show ((k + 1 : Nat) : Int) - 1 = (k : Int) by omega]
      have n0 : (0 : Int) ≤ (k : Int) := by omega
      have n1 : (k : Int) < 28 := by omega
      have hAk := HA.out k (by omega)
      have hBk := HB.out k (by omega)
      rw [← HE.out k (by omega) (by omega)] at hBk
      generalize hak : a k = u at *
      clear HA HB HE hak
      go_wp2_with fail
      have cx := fun y : Wd _ => K.celld y 1 rfl k hAk
      have cy := fun y : Wd _ => K.celld y 0 rfl k hBk
      refine wp_region_keep (by kernel_rfl) (by kernel_rfl) ?_

      repeat (any_goals (first | go_big_quiet_step (fail) | quiet_step (fail)))
      refine wpQuiet_nil ?_
      intro _ hwz
      obtain ⟨y, rfl⟩ := hwz
      have Kz := K.call y.h
      clear K cx cy
      have K := Kz
      clear Kz
      generalize y.w = wz at K ⊢
      clear y
      go_wp2_with fail
      go_roundw
      case rel => exact ⟨k, by omega, by omega, by simp, K⟩
      case measure => simp [intOf]
set_option maxRecDepth 100000 in
set_option maxHeartbeats 3200000 in
theorem less_same (m : Nat) (r : Bool) (A B : Array Value) (w : World)
    (a b : Nat → Nat) (hA : ∀ j, j < 28 → A[j]? = some (.int .i64 (a j : Int))) (hB : ∀ j, j < 28 → B[j]? = some (.int .i64 (b j : Int))) (he : ∀ j, j < 28 → a j = b j)
    (sA : Sz 28 A) (sB : Sz 28 B) :
    Calls Tryd.prog 52 #[.agg A, .agg B] w fun e w' => e = .returned (.bool false) ∧ Fr (fun _ => False) w w' := by
  have HA := Lib.hid hA
  have HB := Lib.hid hB
  have HE := Lib.hid he
  clear hA hB he
  have K := (((Kn.start w).new (w.heap.size) 28 A 58 rfl sA.1).new (w.heap.size + 1) 28 B 58 (by simp) sB.1)
  go_enter Tryd.func52, Tryd.ntmps52
  go_wp2_with fail
  go_loopw [5] (fun iv wr => ∃ i : Nat, 0 ≤ i ∧ i ≤ 28 ∧ iv = .int .i64 ((i : Int) - 1) ∧ Kn w [⟨w.heap.size + 1, 28, B, 58⟩, ⟨w.heap.size, 28, A, 58⟩] wr) (fun iv _ => (intOf iv + 1).toNat)
  case atStart => exact ⟨28, by omega, by omega, by simp, K⟩
  case round =>
    clear K
    obtain ⟨i, hl, hi, rfl, K⟩ := hrel
    by_cases hc : i = 0
    · subst hc
      rw [show ((0 : Nat) : Int) - 1 = -1 from rfl]
      go_wp2_with fail
      go_ret
      exact ⟨rfl, K.fr⟩
    · obtain ⟨k, rfl⟩ : ∃ k, i = k + 1 := ⟨i - 1, by omega⟩
      rw [show ((k + 1 : Nat) : Int) - 1 = (k : Int) by omega]
      have n0 : (0 : Int) ≤ (k : Int) := by omega
      have n1 : (k : Int) < 28 := by omega
      have hAk := HA.out k (by omega)
      have hBk := HB.out k (by omega)
      rw [← HE.out k (by omega)] at hBk
      generalize hak : a k = u at *
      clear HA HB HE hak
      go_wp2_with fail
      have cx := fun y : Wd _ => K.celld y 1 rfl k hAk
      have cy := fun y : Wd _ => K.celld y 0 rfl k hBk
      refine wp_region_keep (by kernel_rfl) (by kernel_rfl) ?_

      repeat (any_goals (first | go_big_quiet_step (fail) | quiet_step (fail)))
      refine wpQuiet_nil ?_
      intro _ hwz
      obtain ⟨y, rfl⟩ := hwz
      have Kz := K.call y.h
      clear K cx cy
      have K := Kz
      clear Kz
      generalize y.w = wz at K ⊢
      clear y
      go_wp2_with fail
      go_roundw
      case rel => exact ⟨k, by omega, by omega, by simp, K⟩
      case measure => simp [intOf]
theorem M28_e : M28 = 65536 ^ 28 := rfl
/-- Less: is a number less? -/
theorem less_any (X Y : Nat) (hX : X < M28) (hY : Y < M28) : Ans Tryd.prog 52 #[.agg (bg X), .agg (bg Y)] (.bool (decide (X < Y))) := fun W => by
  have top : ∀ n, n ≤ 28 → (∀ j, 28 - n ≤ j → j < 28 → dig 65536 X j = dig 65536 Y j) ∨ ∃ m, m < 28 ∧ (∀ j, m < j → j < 28 → dig 65536 X j = dig 65536 Y j) ∧ dig 65536 X m ≠ dig 65536 Y m := by
    intro n
    induction n with
    | zero => intro _; exact Or.inl (fun j h1 h2 => by omega)
    | succ n ih =>
      intro hn
      rcases ih (by omega) with h | h
      · by_cases e : dig 65536 X (28 - (n + 1)) = dig 65536 Y (28 - (n + 1))
        · exact Or.inl (fun j h1 h2 => by
            by_cases c : j = 28 - (n + 1)
            · rw [c]; exact e
            · exact h j (by omega) h2)
        · exact Or.inr ⟨28 - (n + 1), by omega, fun j h1 h2 => h j (by omega) h2, e⟩
      · exact Or.inr h
  rcases top 28 (by omega) with h | ⟨m, hm, he, hn⟩
  · have e := same_all 65536 28 X Y hX hY (fun j hj => h j (by omega) hj)
    subst e
    rw [decide_eq_false (Nat.lt_irrefl X)]
    exact less_same 0 false (bg X) (bg X) W (dig 65536 X) (dig 65536 X) (bg_cell X) (bg_cell X) (fun _ _ => rfl) (sz_bg X) (sz_bg X)
  · have hl := less_at 65536 28 X Y m (by decide) hX hY hm he hn
    refine less_diff m (decide (X < Y)) (bg X) (bg Y) W (dig 65536 X) (dig 65536 Y) (bg_cell X) (bg_cell Y) hm he hn (decide_eq_decide.2 ?_) (sz_bg X) (sz_bg Y)
    rw [hl]
    omega
theorem times_any (X Y : Nat) (hX : X < M28) (hY : Y < M28) : Ans Tryd.prog 51 #[.agg (bg X), .agg (bg Y)] (.agg (bg (X * Y % M28))) := fun W => times_op X Y hX hY #[] W ⟨rfl, by simp⟩
end Go.Proofs.YtmoepalhoaekgaaDoor
namespace Go.Proofs.YtmoepalhoaekgaaDoor
open Go.RowKit
set_option linter.unusedVariables false
set_option linter.unusedSimpArgs false

theorem M28_pos : 0 < M28 := Nat.pow_pos (by decide)
theorem Kn.drop2 {w0 w : World} {a b : Bk} {L : List Bk} (K : Kn w0 (a :: b :: L) w) : Kn w0 L w :=
  ⟨K.fr, fun i x h => K.blk (i + 2) x (by simpa using h), fun i j x y hi hj e => by
    have := K.two (i + 2) (j + 2) x y (by simpa using hi) (by simpa using hj) e
    omega⟩
theorem z28_bg : #[.int .i64 0, .int .i64 0, .int .i64 0, .int .i64 0, .int .i64 0, .int .i64 0, .int .i64 0, .int .i64 0, .int .i64 0, .int .i64 0, .int .i64 0, .int .i64 0, .int .i64 0, .int .i64 0, .int .i64 0, .int .i64 0, .int .i64 0, .int .i64 0, .int .i64 0, .int .i64 0, .int .i64 0, .int .i64 0, .int .i64 0, .int .i64 0, .int .i64 0, .int .i64 0, .int .i64 0, .int .i64 0] = bg 0 := by kernel_rfl
theorem set_more (X c m : Nat) (h : dig 65536 X m + c < 65536) (hm : m < 28) : (bg X).setIfInBounds m (.int .i64 ((dig 65536 X m + c : Nat) : Int)) = bg (X + c * 65536 ^ m) := by
  unfold bg
  rw [iu_set 28 _ m _ hm]
  refine iu_congr fun j hj => ?_
  rw [dig_more 65536 X c m j (by decide) h]
theorem set_bit (X m t : Nat) (h : dig 65536 X m + 2 ^ t < 65536) (hm : m < 28) : (bg X).setIfInBounds m (.int .i64 ((dig 65536 X m + 2 ^ t : Nat) : Int)) = bg (X + 2 ^ (16 * m + t)) := by
  rw [set_more X _ m h hm]
  congr 2
  rw [show (65536 : Nat) = 2 ^ 16 from rfl, ← Nat.pow_mul, ← Nat.pow_add, Nat.add_comm]
theorem dig_0 (m : Nat) : dig 65536 0 m = 0 := by unfold dig; rw [Nat.zero_div, Nat.zero_mod]
theorem set_first (m p : Nat) (hm : m < 28) (hp : p < 65536) : #[.int .i64 0, .int .i64 0, .int .i64 0, .int .i64 0, .int .i64 0, .int .i64 0, .int .i64 0, .int .i64 0, .int .i64 0, .int .i64 0, .int .i64 0, .int .i64 0, .int .i64 0, .int .i64 0, .int .i64 0, .int .i64 0, .int .i64 0, .int .i64 0, .int .i64 0, .int .i64 0, .int .i64 0, .int .i64 0, .int .i64 0, .int .i64 0, .int .i64 0, .int .i64 0, .int .i64 0, .int .i64 0].setIfInBounds m (.int .i64 (p : Int)) = bg (p * 65536 ^ m) := by
  have := set_more 0 p m (by rw [dig_0]; omega) hm
  rwa [dig_0, Nat.zero_add, Nat.zero_add, ← z28_bg] at this
theorem set_none (m p : Nat) (hm : m < 28) (hp : p < 65536) : (bg (p * 65536 ^ m)).setIfInBounds m (.int .i64 0) = #[.int .i64 0, .int .i64 0, .int .i64 0, .int .i64 0, .int .i64 0, .int .i64 0, .int .i64 0, .int .i64 0, .int .i64 0, .int .i64 0, .int .i64 0, .int .i64 0, .int .i64 0, .int .i64 0, .int .i64 0, .int .i64 0, .int .i64 0, .int .i64 0, .int .i64 0, .int .i64 0, .int .i64 0, .int .i64 0, .int .i64 0, .int .i64 0, .int .i64 0, .int .i64 0, .int .i64 0, .int .i64 0] := by
  rw [z28_bg]
  unfold bg
  have := iu_set 28 (dig 65536 (p * 65536 ^ m)) m 0 hm
  rw [show ((0 : Nat) : Int) = 0 from rfl] at this
  rw [this]
  refine iu_congr fun j hj => ?_
  rw [dig_0]
  have := dig_more 65536 0 p m j (by decide) (by rw [dig_0]; omega)
  rw [Nat.zero_add] at this
  by_cases e : j = m
  · rw [if_pos e]
  · rw [if_neg e, this, if_neg e, dig_0]
theorem big_lt (p ix : Nat) (hp : p < 65536) (h : ix < 28) : p * 65536 ^ ix < M28 := by
  have h1 : p * 65536 ^ ix < 65536 * 65536 ^ ix := (Nat.mul_lt_mul_right (Nat.pow_pos (by decide))).2 hp
  have h2 : 65536 * 65536 ^ ix ≤ M28 := by
    rw [Nat.mul_comm, ← Nat.pow_succ]
    exact Nat.pow_le_pow_right (n := 65536) (by decide) h
  omega
theorem two16 : (65536 : Nat) = 2 ^ 16 := rfl
theorem pow16 (n d : Nat) (h : n ≤ 16 * d) : 2 ^ n ≤ 65536 ^ d := by
  rw [two16, ← Nat.pow_mul]
  exact Nat.pow_le_pow_right (by decide) h
theorem y_lt (X k i n q : Nat) (hX : X = 2 ^ (n - k) * q) (hq : q < 2 ^ k) (hi : i = n - (k + 1)) (hk : k < n) (hn : n ≤ 400) : X + 2 ^ i < M28 := by
  have h1 : X + 2 ^ (n - k) ≤ 2 ^ n := by
    have := Nat.mul_le_mul_left (2 ^ (n - k)) hq
    rw [Nat.mul_succ, ← hX, ← Nat.pow_add, show n - k + k = n by omega] at this
    exact this
  have h2 : 2 ^ i < 2 ^ (n - k) := Nat.pow_lt_pow_right (by decide) (by omega)
  have h3 : 2 ^ n ≤ M28 := by
    exact pow16 n 28 (by omega)
  exact Nat.lt_of_lt_of_le (Nat.lt_of_lt_of_le (Nat.add_lt_add_left h2 X) h1) h3
set_option maxRecDepth 100000 in
set_option maxHeartbeats 3200000 in
theorem root_32c (p : Nat) (hp : p < 65536) (Q : Array Value) (w : World)
    (sQ : Sz 0 Q) :
    Calls Tryd.prog 30 #[.int .i64 (p : Int), .bool true, .int .i64 32] w fun e w' => e = .returned (.agg (bg (rt (p * 65536 ^ 6) true 38 38))) ∧ Fr (fun _ => False) w w' := by
  have szz : Sz 28 #[.int .i64 0, .int .i64 0, .int .i64 0, .int .i64 0, .int .i64 0, .int .i64 0, .int .i64 0, .int .i64 0, .int .i64 0, .int .i64 0, .int .i64 0, .int .i64 0, .int .i64 0, .int .i64 0, .int .i64 0, .int .i64 0, .int .i64 0, .int .i64 0, .int .i64 0, .int .i64 0, .int .i64 0, .int .i64 0, .int .i64 0, .int .i64 0, .int .i64 0, .int .i64 0, .int .i64 0, .int .i64 0] := ⟨rfl, by simp [Value.oneCell']⟩
  have E0 : #[.int .i64 0, .int .i64 0, .int .i64 0, .int .i64 0, .int .i64 0, .int .i64 0, .int .i64 0, .int .i64 0, .int .i64 0, .int .i64 0, .int .i64 0, .int .i64 0, .int .i64 0, .int .i64 0, .int .i64 0, .int .i64 0, .int .i64 0, .int .i64 0, .int .i64 0, .int .i64 0, .int .i64 0, .int .i64 0, .int .i64 0, .int .i64 0, .int .i64 0, .int .i64 0, .int .i64 0, .int .i64 0] = bg 0 := z28_bg
  obtain ⟨V, hV⟩ : ∃ V, V = p * 65536 ^ 6 := ⟨_, rfl⟩
  have HVV := Lib.hid hV
  have T1q := Lib.hid (set_first 4 p (by decide) hp)
  have T2q := Lib.hid (set_none 4 p (by decide) hp)
  have T3q := Lib.hid (set_first 6 p (by decide) hp)
  have hVl : V < M28 := by rw [hV]; exact big_lt p 6 hp (by decide)
  have p28_4 : 4 < 28 := by decide
  have p28_6 : 6 < 28 := by decide
  clear hV
  have K := ((Kn.start w).new (w.heap.size) 28 #[.int .i64 0, .int .i64 0, .int .i64 0, .int .i64 0, .int .i64 0, .int .i64 0, .int .i64 0, .int .i64 0, .int .i64 0, .int .i64 0, .int .i64 0, .int .i64 0, .int .i64 0, .int .i64 0, .int .i64 0, .int .i64 0, .int .i64 0, .int .i64 0, .int .i64 0, .int .i64 0, .int .i64 0, .int .i64 0, .int .i64 0, .int .i64 0, .int .i64 0, .int .i64 0, .int .i64 0, .int .i64 0] 58 rfl rfl)
  go_enter Tryd.func30, Tryd.ntmps30
  go_upto_region 2 with (first
    | ((fail_if_success (have hq := gz)); ((with_reducible refine wpList_new_kn K 58 _ _ _ _ #[.int .i64 0, .int .i64 0, .int .i64 0, .int .i64 0, .int .i64 0, .int .i64 0, .int .i64 0, .int .i64 0, .int .i64 0, .int .i64 0, .int .i64 0, .int .i64 0, .int .i64 0, .int .i64 0, .int .i64 0, .int .i64 0, .int .i64 0, .int .i64 0, .int .i64 0, .int .i64 0, .int .i64 0, .int .i64 0, .int .i64 0, .int .i64 0, .int .i64 0, .int .i64 0, .int .i64 0, .int .i64 0] 28 rfl Tryd.alBg rfl ?_); intro gz wz Kz; clear K; have K := Kz; clear Kz; try (simp only [Act.put, List.setIfInBounds_toArray, List.set_cons_zero, List.set_cons_succ])))
    | ((with_reducible refine wpList_new_kn K 58 _ _ _ _ #[.int .i64 0, .int .i64 0, .int .i64 0, .int .i64 0, .int .i64 0, .int .i64 0, .int .i64 0, .int .i64 0, .int .i64 0, .int .i64 0, .int .i64 0, .int .i64 0, .int .i64 0, .int .i64 0, .int .i64 0, .int .i64 0, .int .i64 0, .int .i64 0, .int .i64 0, .int .i64 0, .int .i64 0, .int .i64 0, .int .i64 0, .int .i64 0, .int .i64 0, .int .i64 0, .int .i64 0, .int .i64 0] 28 rfl Tryd.alBg rfl ?_); intro gz8 wz Kz; clear K; have K := Kz; clear Kz; try (simp only [Act.put, List.setIfInBounds_toArray, List.set_cons_zero, List.set_cons_succ])))
  go_wp2_with (first
    | (focus ((with_reducible refine' wpList_store1_kn K rfl 3 _ _ rfl 1 _ _ 4 _ _ .i64 (p : Int) rfl rfl Tryd.iI _ p28_4 _); rotate_left 2; (focus exact rfl); intro wz Kz; clear K; have K := Kz; clear Kz; simp only [List.set_cons_zero, List.set_cons_succ] at K; rw [T1q.out] at K; try (simp only [Act.put, List.setIfInBounds_toArray, List.set_cons_zero, List.set_cons_succ])))
    | (focus ((with_reducible refine' wpList_store1_kn K rfl 3 _ (.const (.int .i64 0)) rfl 1 _ _ 4 _ _ .i64 (0 : Int) rfl rfl Tryd.iI _ p28_4 _); rotate_left 2; (focus exact rfl); intro wz Kz; clear K; have K := Kz; clear Kz; simp only [List.set_cons_zero, List.set_cons_succ] at K; rw [T2q.out] at K; try (simp only [Act.put, List.setIfInBounds_toArray, List.set_cons_zero, List.set_cons_succ])))
    | (focus ((with_reducible refine' wpList_store1_kn K rfl 3 _ _ rfl 1 _ _ 6 _ _ .i64 (p : Int) rfl rfl Tryd.iI _ p28_6 _); rotate_left 2; (focus exact rfl); intro wz Kz; clear K; have K := Kz; clear Kz; simp only [List.set_cons_zero, List.set_cons_succ] at K; rw [T3q.out, ← HVV.out] at K; try (simp only [Act.put, List.setIfInBounds_toArray, List.set_cons_zero, List.set_cons_succ]))))
  clear T1q T2q T3q
  have ex : Hid (bg 0 = bg (rt V true 38 0)) := Lib.hid rfl
  obtain ⟨RS, hRS⟩ : ∃ RS : Array Value, RS = (#[.int .i64 0, .int .i64 0, .int .i64 0, .int .i64 0, .int .i64 0, .int .i64 0, .int .i64 0, .int .i64 0, .int .i64 0, .int .i64 0, .int .i64 0, .int .i64 0, .int .i64 0, .int .i64 0, .int .i64 0, .int .i64 0, .int .i64 0, .int .i64 0, .int .i64 0, .int .i64 0, .int .i64 0, .int .i64 0, .int .i64 0, .int .i64 0, .int .i64 0, .int .i64 0, .int .i64 0, .int .i64 0] : Array Value) := ⟨_, rfl⟩
  have HRS := Lib.hid hRS
  have sRS : Sz 28 RS := by rw [hRS]; exact szz
  have K0 : Kn w [⟨gz8, 28, bg (rt V true 38 0), 58⟩, ⟨gz, 28, bg V, 58⟩, ⟨w.heap.size, 28, RS, 58⟩] wz := by rw [← ex.out, ← E0, hRS]; exact K
  clear K ex hRS
  have K := K0
  clear K0
  clear HRS szz E0
  go_loopw [9] (fun iv wr => ∃ k : Nat, k ≤ 38 ∧ iv = .int .i64 (37 - (k : Int)) ∧ Kn w [⟨gz8, 28, bg (rt V true 38 k), 58⟩, ⟨gz, 28, bg V, 58⟩, ⟨w.heap.size, 28, RS, 58⟩] wr) (fun iv _ => (intOf iv + 1).toNat)
  case atStart => exact ⟨0, by omega, by simp, K⟩
  case round =>
    clear K
    obtain ⟨k, hk, rfl, K⟩ := hrel
    by_cases hc : k < 38
    · as_aux_lemma =>
      obtain ⟨X, hX⟩ : ∃ X, X = rt V true 38 k := ⟨_, rfl⟩
      obtain ⟨qq, hq1, hq2⟩ := rt_mul V true 38 k (by omega)
      have nx : rt V true 38 (k + 1) = rstep V true (rt V true 38 k) (38 - (k + 1)) := rfl
      rw [← hX] at K hq1 nx
      obtain ⟨i, hi⟩ : ∃ i, i = 38 - (k + 1) := ⟨_, rfl⟩
      rw [← hi] at nx
      obtain ⟨m, hm⟩ : ∃ m, m = i / 16 := ⟨_, rfl⟩
      obtain ⟨t, ht⟩ : ∃ t, t = i % 16 := ⟨_, rfl⟩
      have hit : i = 16 * m + t := by omega
      have t16 : t < 16 := by omega
      have m28 : m < 28 := by omega
      have room := room16 X m t qq t16 (by rw [hq1]; congr 2; omega)
      have yl := y_lt X k i 38 qq hq1 hq2 hi hc (by decide)
      have hset := set_bit X m t room m28
      rw [← hit] at hset
      have ei : (37 : Int) - (k : Int) = (i : Int) := by omega
      have d1 : (i : Int).tdiv 16 = (m : Int) := by rw [Int.tdiv_eq_ediv_of_nonneg (by omega)]; omega
      have d2 : (i : Int).tmod 16 = (t : Int) := by rw [Int.tmod_eq_emod_of_nonneg (by omega)]; omega
      have cX := bg_cell X m m28
      have ps : (2 : Nat) ^ t < 65536 := by have := Nat.pow_lt_pow_right (a := 2) (by decide) t16; omega
      obtain ⟨sh, hsh⟩ : ∃ sh, sh = 2 ^ t := ⟨_, rfl⟩
      rw [← hsh] at room hset ps
      have shi : (1 : Int) * 2 ^ t = (sh : Int) := by rw [hsh]; simp
      have shi2 : (2 : Int) ^ t = (sh : Int) := by rw [hsh]; simp
      have b1 : -9223372036854775808 ≤ (sh : Int) ∧ (sh : Int) ≤ 9223372036854775807 := by omega
      obtain ⟨d, hd⟩ : ∃ d, d = dig 65536 X m := ⟨_, rfl⟩
      rw [← hd] at room hset cX
      have b2 : -9223372036854775808 ≤ (d : Int) + (sh : Int) ∧ (d : Int) + (sh : Int) ≤ 9223372036854775807 := by omega
      have ed : (d : Int) + (sh : Int) = ((d + sh : Nat) : Int) := by omega
      obtain ⟨ds, hds⟩ : ∃ ds, ds = d + sh := ⟨_, rfl⟩
      rw [← hds] at ed hset
      have w1 : IntKind.i64.wrap (sh : Int) = (sh : Int) := IntWalk.i64_in _ b1
      have w2 : IntKind.i64.wrap ((d : Int) + (sh : Int)) = (ds : Int) := (IntWalk.i64_in _ b2).trans ed
      have w3 : wrap64 (sh : Int) = (sh : Int) := IntWalk.wrap64_in _ b1
      have w4 : wrap64 ((d : Int) + (sh : Int)) = (ds : Int) := (IntWalk.wrap64_in _ b2).trans ed
      have i0 : (0 : Int) ≤ (i : Int) := by omega
      have m0 : (0 : Int) ≤ (m : Int) := by omega
      have m1 : (m : Int) < 28 := by omega
      have t0 : (0 : Int) ≤ (t : Int) := by omega
      have t1 : (t : Int) < 64 := by omega
      have bi : -9223372036854775808 ≤ (i : Int) - 1 ∧ (i : Int) - 1 ≤ 9223372036854775807 := by omega
      have w5 : IntKind.i64.wrap ((i : Int) - 1) = (i : Int) - 1 := IntWalk.i64_in _ bi
      have HSET := Lib.hid hset
      have sX := sz_bg X
      have sY := sz_bg (X + 2 ^ i)
      obtain ⟨Y, hY⟩ : ∃ Y, Y = X + 2 ^ i := ⟨_, rfl⟩
      rw [← hY] at HSET sY yl
      have TT := times_any Y Y yl yl
      have zl : Y * Y % M28 < M28 := Nat.mod_lt _ M28_pos
      obtain ⟨Z1, hZ1⟩ : ∃ Z1, Z1 = Y * Y % M28 := ⟨_, rfl⟩
      rw [← hZ1] at TT zl
      have sZ1 := sz_bg Z1
      have TU := times_any Z1 Y zl yl
      have zl2 : Z1 * Y % M28 < M28 := Nat.mod_lt _ M28_pos
      obtain ⟨Z, hZ⟩ : ∃ Z, Z = Z1 * Y % M28 := ⟨_, rfl⟩
      rw [← hZ] at TU zl2
      have sZ := sz_bg Z
      have LL := less_any V Z hVl zl2
      have hst : rstep V true X i = if V < Z then X else Y := by rw [hZ, hZ1, hY]; rfl
      rw [hst] at nx
      have HNX := Lib.hid nx
      have HX := Lib.hid hX
      have HI := Lib.hid hi
      have HKC := Lib.hid hc
      rw [ei]
      clear nx hst hX hq1 hq2 hi hm ht hit room yl hset hsh hd hds b1 b2 bi ed hY hZ1 zl ps hc hk ei hZ zl2
      by_cases hlt : V < Z
      · rw [if_pos hlt] at HNX
        rw [decide_eq_true hlt] at LL
        have HLT := Lib.hid hlt
        clear hlt
        go_wp2_with (first
            | (focus (first | ((with_reducible refine' wpList_load_kn K rfl 58 (.tmp 8) rfl 0 _ _ _ _ rfl _ Tryd.underlying58 rfl Tryd.szBg _ _); rotate_left 2; (focus exact rfl))))
            | (focus ((first | ((with_reducible refine' wpList_store_kn K rfl 58 (.tmp 10) _ rfl 0 _ _ _ _ _ rfl rfl Tryd.szBg _ _ _); rotate_left 2; (focus exact rfl))); (focus assumption); intro wz Kz; clear K; have K := Kz; clear Kz; simp only [List.set_cons_zero, List.set_cons_succ] at K; try (simp only [Act.put, List.setIfInBounds_toArray, List.set_cons_zero, List.set_cons_succ])))
            | ((with_reducible refine wpList_new_kn K 58 _ _ _ _ #[.int .i64 0, .int .i64 0, .int .i64 0, .int .i64 0, .int .i64 0, .int .i64 0, .int .i64 0, .int .i64 0, .int .i64 0, .int .i64 0, .int .i64 0, .int .i64 0, .int .i64 0, .int .i64 0, .int .i64 0, .int .i64 0, .int .i64 0, .int .i64 0, .int .i64 0, .int .i64 0, .int .i64 0, .int .i64 0, .int .i64 0, .int .i64 0, .int .i64 0, .int .i64 0, .int .i64 0, .int .i64 0] 28 rfl Tryd.alBg rfl ?_); intro gz wz Kz; clear K; have K := Kz; clear Kz; try (simp only [Act.put, List.setIfInBounds_toArray, List.set_cons_zero, List.set_cons_succ])))
        refine wp_region_kn_tail K 11 [] (by kernel_rfl) (by kernel_rfl) mk_nil sz_nil ?_
        apply Exists.intro
        refine ⟨?wk10, ?fin10⟩
        case wk10 =>
          intro γ
          have cx := fun y : Wg γ => K.cellg y 0 rfl m cX
          simp only [List.take_succ_cons, List.take_zero]
          repeat (any_goals (first | go_big_quiet_step (fail) | quiet_step (fail)))
          exact wpQuiet_nil rfl
        case fin10 =>
          intro gs wz Kz
          clear K
          have K := Kz
          clear Kz
          try simp only [mkAll, asObj, List.map_cons, List.map_nil, putAll, List.drop_succ_cons, List.drop_zero, List.length_cons, List.length_nil, Nat.zero_add, Nat.add_zero] at K ⊢
          try simp only [Act.put, List.setIfInBounds_toArray, List.set_cons_zero, List.set_cons_succ]

          go_wp2_with (first
            | (focus ((with_reducible refine' wpList_store1_kn K rfl 3 _ _ rfl 0 _ _ m _ _ .i64 (ds : Int) rfl rfl Tryd.iI _ m28 _); rotate_left 2; (focus exact rfl); intro wz Kz; clear K; have K := Kz; clear Kz; simp only [List.set_cons_zero, List.set_cons_succ] at K; rw [HSET.out] at K; try (simp only [Act.put, List.setIfInBounds_toArray, List.set_cons_zero, List.set_cons_succ])))
            | (focus (first | ((with_reducible refine' wpList_load_kn K rfl 58 (.tmp 10) rfl 0 _ _ _ _ rfl _ Tryd.underlying58 rfl Tryd.szBg _ _); rotate_left 2; (focus exact rfl)) | ((with_reducible refine' wpList_load_kn K rfl 58 (.tmp 11) rfl 0 _ _ _ _ rfl _ Tryd.underlying58 rfl Tryd.szBg _ _); rotate_left 2; (focus exact rfl)) | ((with_reducible refine' wpList_load_kn K rfl 58 (.tmp 10) rfl 1 _ _ _ _ rfl _ Tryd.underlying58 rfl Tryd.szBg _ _); rotate_left 2; (focus exact rfl)) | ((with_reducible refine' wpList_load_kn K rfl 58 (.tmp 7) rfl 3 _ _ _ _ rfl _ Tryd.underlying58 rfl Tryd.szBg _ _); rotate_left 2; (focus exact rfl))))
            | (focus ((first | ((with_reducible refine' wpList_store_kn K rfl 58 (.tmp 11) _ rfl 0 _ _ _ _ _ rfl rfl Tryd.szBg _ _ _); rotate_left 2; (focus exact rfl))); (focus assumption); intro wz Kz; clear K; have K := Kz; clear Kz; simp only [List.set_cons_zero, List.set_cons_succ] at K; try (simp only [Act.put, List.setIfInBounds_toArray, List.set_cons_zero, List.set_cons_succ])))
            | ((with_reducible refine wpList_new_kn K 58 _ _ _ _ #[.int .i64 0, .int .i64 0, .int .i64 0, .int .i64 0, .int .i64 0, .int .i64 0, .int .i64 0, .int .i64 0, .int .i64 0, .int .i64 0, .int .i64 0, .int .i64 0, .int .i64 0, .int .i64 0, .int .i64 0, .int .i64 0, .int .i64 0, .int .i64 0, .int .i64 0, .int .i64 0, .int .i64 0, .int .i64 0, .int .i64 0, .int .i64 0, .int .i64 0, .int .i64 0, .int .i64 0, .int .i64 0] 28 rfl Tryd.alBg rfl ?_); intro gz wz Kz; clear K; have K := Kz; clear Kz; try (simp only [Act.put, List.setIfInBounds_toArray, List.set_cons_zero, List.set_cons_succ]))
            | (go_at_call 51; (with_reducible refine Calls.kn K (TT _) ?_); intro wz Kz; clear K; have K := Kz; clear Kz)
            | (go_at_call 51; (with_reducible refine Calls.kn K (TU _) ?_); intro wz Kz; clear K; have K := Kz; clear Kz)
            | (go_at_call 52; (with_reducible refine Calls.kn K (LL _) ?_); intro wz Kz; clear K; have K := Kz; clear Kz))
          have K2 := K.drop2
          go_roundw
          case rel => exact ⟨k + 1, by have := HKC.out; omega, by have := HI.out; have := HKC.out; simp; omega, by rw [HNX.out]; exact K2⟩
          case measure => simp [intOf] <;> omega
      · rw [if_neg hlt] at HNX
        rw [decide_eq_false hlt] at LL
        have HLT := Lib.hid hlt
        clear hlt
        go_wp2_with (first
            | (focus (first | ((with_reducible refine' wpList_load_kn K rfl 58 (.tmp 8) rfl 0 _ _ _ _ rfl _ Tryd.underlying58 rfl Tryd.szBg _ _); rotate_left 2; (focus exact rfl))))
            | (focus ((first | ((with_reducible refine' wpList_store_kn K rfl 58 (.tmp 10) _ rfl 0 _ _ _ _ _ rfl rfl Tryd.szBg _ _ _); rotate_left 2; (focus exact rfl))); (focus assumption); intro wz Kz; clear K; have K := Kz; clear Kz; simp only [List.set_cons_zero, List.set_cons_succ] at K; try (simp only [Act.put, List.setIfInBounds_toArray, List.set_cons_zero, List.set_cons_succ])))
            | ((with_reducible refine wpList_new_kn K 58 _ _ _ _ #[.int .i64 0, .int .i64 0, .int .i64 0, .int .i64 0, .int .i64 0, .int .i64 0, .int .i64 0, .int .i64 0, .int .i64 0, .int .i64 0, .int .i64 0, .int .i64 0, .int .i64 0, .int .i64 0, .int .i64 0, .int .i64 0, .int .i64 0, .int .i64 0, .int .i64 0, .int .i64 0, .int .i64 0, .int .i64 0, .int .i64 0, .int .i64 0, .int .i64 0, .int .i64 0, .int .i64 0, .int .i64 0] 28 rfl Tryd.alBg rfl ?_); intro gz wz Kz; clear K; have K := Kz; clear Kz; try (simp only [Act.put, List.setIfInBounds_toArray, List.set_cons_zero, List.set_cons_succ])))
        refine wp_region_kn_tail K 11 [] (by kernel_rfl) (by kernel_rfl) mk_nil sz_nil ?_
        apply Exists.intro
        refine ⟨?wk10, ?fin10⟩
        case wk10 =>
          intro γ
          have cx := fun y : Wg γ => K.cellg y 0 rfl m cX
          simp only [List.take_succ_cons, List.take_zero]
          repeat (any_goals (first | go_big_quiet_step (fail) | quiet_step (fail)))
          exact wpQuiet_nil rfl
        case fin10 =>
          intro gs wz Kz
          clear K
          have K := Kz
          clear Kz
          try simp only [mkAll, asObj, List.map_cons, List.map_nil, putAll, List.drop_succ_cons, List.drop_zero, List.length_cons, List.length_nil, Nat.zero_add, Nat.add_zero] at K ⊢
          try simp only [Act.put, List.setIfInBounds_toArray, List.set_cons_zero, List.set_cons_succ]

          go_wp2_with (first
            | (focus ((with_reducible refine' wpList_store1_kn K rfl 3 _ _ rfl 0 _ _ m _ _ .i64 (ds : Int) rfl rfl Tryd.iI _ m28 _); rotate_left 2; (focus exact rfl); intro wz Kz; clear K; have K := Kz; clear Kz; simp only [List.set_cons_zero, List.set_cons_succ] at K; rw [HSET.out] at K; try (simp only [Act.put, List.setIfInBounds_toArray, List.set_cons_zero, List.set_cons_succ])))
            | (focus (first | ((with_reducible refine' wpList_load_kn K rfl 58 (.tmp 10) rfl 0 _ _ _ _ rfl _ Tryd.underlying58 rfl Tryd.szBg _ _); rotate_left 2; (focus exact rfl)) | ((with_reducible refine' wpList_load_kn K rfl 58 (.tmp 11) rfl 0 _ _ _ _ rfl _ Tryd.underlying58 rfl Tryd.szBg _ _); rotate_left 2; (focus exact rfl)) | ((with_reducible refine' wpList_load_kn K rfl 58 (.tmp 10) rfl 1 _ _ _ _ rfl _ Tryd.underlying58 rfl Tryd.szBg _ _); rotate_left 2; (focus exact rfl)) | ((with_reducible refine' wpList_load_kn K rfl 58 (.tmp 7) rfl 3 _ _ _ _ rfl _ Tryd.underlying58 rfl Tryd.szBg _ _); rotate_left 2; (focus exact rfl))))
            | (focus ((first | ((with_reducible refine' wpList_store_kn K rfl 58 (.tmp 11) _ rfl 0 _ _ _ _ _ rfl rfl Tryd.szBg _ _ _); rotate_left 2; (focus exact rfl)) | ((with_reducible refine' wpList_store_kn K rfl 58 (.tmp 8) _ rfl 2 _ _ _ _ _ rfl rfl Tryd.szBg _ _ _); rotate_left 2; (focus exact rfl))); (focus assumption); intro wz Kz; clear K; have K := Kz; clear Kz; simp only [List.set_cons_zero, List.set_cons_succ] at K; try (simp only [Act.put, List.setIfInBounds_toArray, List.set_cons_zero, List.set_cons_succ])))
            | ((with_reducible refine wpList_new_kn K 58 _ _ _ _ #[.int .i64 0, .int .i64 0, .int .i64 0, .int .i64 0, .int .i64 0, .int .i64 0, .int .i64 0, .int .i64 0, .int .i64 0, .int .i64 0, .int .i64 0, .int .i64 0, .int .i64 0, .int .i64 0, .int .i64 0, .int .i64 0, .int .i64 0, .int .i64 0, .int .i64 0, .int .i64 0, .int .i64 0, .int .i64 0, .int .i64 0, .int .i64 0, .int .i64 0, .int .i64 0, .int .i64 0, .int .i64 0] 28 rfl Tryd.alBg rfl ?_); intro gz wz Kz; clear K; have K := Kz; clear Kz; try (simp only [Act.put, List.setIfInBounds_toArray, List.set_cons_zero, List.set_cons_succ]))
            | (go_at_call 51; (with_reducible refine Calls.kn K (TT _) ?_); intro wz Kz; clear K; have K := Kz; clear Kz)
            | (go_at_call 51; (with_reducible refine Calls.kn K (TU _) ?_); intro wz Kz; clear K; have K := Kz; clear Kz)
            | (go_at_call 52; (with_reducible refine Calls.kn K (LL _) ?_); intro wz Kz; clear K; have K := Kz; clear Kz))
          have K2 := K.drop2
          go_roundw
          case rel => exact ⟨k + 1, by have := HKC.out; omega, by have := HI.out; have := HKC.out; simp; omega, by rw [HNX.out]; exact K2⟩
          case measure => simp [intOf] <;> omega
    · as_aux_lemma =>
      obtain rfl : k = 38 := by omega
      rw [show (37 : Int) - ((38 : Nat) : Int) = -1 from rfl]
      have sP := sz_bg (rt V true 38 38)
      obtain ⟨X, hX⟩ : ∃ X, X = rt V true 38 38 := ⟨_, rfl⟩
      rw [← hX] at K sP
      have HX := Lib.hid hX
      clear hX hVl hc hk
      go_wp2_with (first
          | (focus (first | ((with_reducible refine' wpList_load_kn K rfl 58 (.tmp 8) rfl 0 _ _ _ _ rfl _ Tryd.underlying58 rfl Tryd.szBg _ _); rotate_left 2; (focus exact rfl))))
          | (focus ((first | ((with_reducible refine' wpList_store_kn K rfl 58 (.tmp 6) _ rfl 2 _ _ _ _ _ rfl rfl Tryd.szBg _ _ _); rotate_left 2; (focus exact rfl))); (focus assumption); intro wz Kz; clear K; have K := Kz; clear Kz; simp only [List.set_cons_zero, List.set_cons_succ] at K; try (simp only [Act.put, List.setIfInBounds_toArray, List.set_cons_zero, List.set_cons_succ]))))
      refine bodyPost_ret (results_kn K rfl _ 2 _ _ _ _ rfl _ Tryd.underlying58 rfl Tryd.szBg rfl) rfl ?_
      exact ⟨by rw [HX.out, HVV.out], K.fr⟩
set_option maxRecDepth 100000 in
set_option maxHeartbeats 3200000 in
theorem root_32s (p : Nat) (hp : p < 65536) (Q : Array Value) (w : World)
    (sQ : Sz 0 Q) :
    Calls Tryd.prog 30 #[.int .i64 (p : Int), .bool false, .int .i64 32] w fun e w' => e = .returned (.agg (bg (rt (p * 65536 ^ 4) false 38 38))) ∧ Fr (fun _ => False) w w' := by
  have szz : Sz 28 #[.int .i64 0, .int .i64 0, .int .i64 0, .int .i64 0, .int .i64 0, .int .i64 0, .int .i64 0, .int .i64 0, .int .i64 0, .int .i64 0, .int .i64 0, .int .i64 0, .int .i64 0, .int .i64 0, .int .i64 0, .int .i64 0, .int .i64 0, .int .i64 0, .int .i64 0, .int .i64 0, .int .i64 0, .int .i64 0, .int .i64 0, .int .i64 0, .int .i64 0, .int .i64 0, .int .i64 0, .int .i64 0] := ⟨rfl, by simp [Value.oneCell']⟩
  have E0 : #[.int .i64 0, .int .i64 0, .int .i64 0, .int .i64 0, .int .i64 0, .int .i64 0, .int .i64 0, .int .i64 0, .int .i64 0, .int .i64 0, .int .i64 0, .int .i64 0, .int .i64 0, .int .i64 0, .int .i64 0, .int .i64 0, .int .i64 0, .int .i64 0, .int .i64 0, .int .i64 0, .int .i64 0, .int .i64 0, .int .i64 0, .int .i64 0, .int .i64 0, .int .i64 0, .int .i64 0, .int .i64 0] = bg 0 := z28_bg
  obtain ⟨V, hV⟩ : ∃ V, V = p * 65536 ^ 4 := ⟨_, rfl⟩
  have HVV := Lib.hid hV
  have T1q := Lib.hid (set_first 4 p (by decide) hp)
  have hVl : V < M28 := by rw [hV]; exact big_lt p 4 hp (by decide)
  have p28_4 : 4 < 28 := by decide
  clear hV
  have K := ((Kn.start w).new (w.heap.size) 28 #[.int .i64 0, .int .i64 0, .int .i64 0, .int .i64 0, .int .i64 0, .int .i64 0, .int .i64 0, .int .i64 0, .int .i64 0, .int .i64 0, .int .i64 0, .int .i64 0, .int .i64 0, .int .i64 0, .int .i64 0, .int .i64 0, .int .i64 0, .int .i64 0, .int .i64 0, .int .i64 0, .int .i64 0, .int .i64 0, .int .i64 0, .int .i64 0, .int .i64 0, .int .i64 0, .int .i64 0, .int .i64 0] 58 rfl rfl)
  go_enter Tryd.func30, Tryd.ntmps30
  go_upto_region 2 with (first
    | ((fail_if_success (have hq := gz)); ((with_reducible refine wpList_new_kn K 58 _ _ _ _ #[.int .i64 0, .int .i64 0, .int .i64 0, .int .i64 0, .int .i64 0, .int .i64 0, .int .i64 0, .int .i64 0, .int .i64 0, .int .i64 0, .int .i64 0, .int .i64 0, .int .i64 0, .int .i64 0, .int .i64 0, .int .i64 0, .int .i64 0, .int .i64 0, .int .i64 0, .int .i64 0, .int .i64 0, .int .i64 0, .int .i64 0, .int .i64 0, .int .i64 0, .int .i64 0, .int .i64 0, .int .i64 0] 28 rfl Tryd.alBg rfl ?_); intro gz wz Kz; clear K; have K := Kz; clear Kz; try (simp only [Act.put, List.setIfInBounds_toArray, List.set_cons_zero, List.set_cons_succ])))
    | ((with_reducible refine wpList_new_kn K 58 _ _ _ _ #[.int .i64 0, .int .i64 0, .int .i64 0, .int .i64 0, .int .i64 0, .int .i64 0, .int .i64 0, .int .i64 0, .int .i64 0, .int .i64 0, .int .i64 0, .int .i64 0, .int .i64 0, .int .i64 0, .int .i64 0, .int .i64 0, .int .i64 0, .int .i64 0, .int .i64 0, .int .i64 0, .int .i64 0, .int .i64 0, .int .i64 0, .int .i64 0, .int .i64 0, .int .i64 0, .int .i64 0, .int .i64 0] 28 rfl Tryd.alBg rfl ?_); intro gz8 wz Kz; clear K; have K := Kz; clear Kz; try (simp only [Act.put, List.setIfInBounds_toArray, List.set_cons_zero, List.set_cons_succ])))
  go_wp2_with (first
    | (focus ((with_reducible refine' wpList_store1_kn K rfl 3 _ _ rfl 1 _ _ 4 _ _ .i64 (p : Int) rfl rfl Tryd.iI _ p28_4 _); rotate_left 2; (focus exact rfl); intro wz Kz; clear K; have K := Kz; clear Kz; simp only [List.set_cons_zero, List.set_cons_succ] at K; rw [T1q.out, ← HVV.out] at K; try (simp only [Act.put, List.setIfInBounds_toArray, List.set_cons_zero, List.set_cons_succ]))))
  clear T1q 
  have ex : Hid (bg 0 = bg (rt V false 38 0)) := Lib.hid rfl
  obtain ⟨RS, hRS⟩ : ∃ RS : Array Value, RS = (#[.int .i64 0, .int .i64 0, .int .i64 0, .int .i64 0, .int .i64 0, .int .i64 0, .int .i64 0, .int .i64 0, .int .i64 0, .int .i64 0, .int .i64 0, .int .i64 0, .int .i64 0, .int .i64 0, .int .i64 0, .int .i64 0, .int .i64 0, .int .i64 0, .int .i64 0, .int .i64 0, .int .i64 0, .int .i64 0, .int .i64 0, .int .i64 0, .int .i64 0, .int .i64 0, .int .i64 0, .int .i64 0] : Array Value) := ⟨_, rfl⟩
  have HRS := Lib.hid hRS
  have sRS : Sz 28 RS := by rw [hRS]; exact szz
  have K0 : Kn w [⟨gz8, 28, bg (rt V false 38 0), 58⟩, ⟨gz, 28, bg V, 58⟩, ⟨w.heap.size, 28, RS, 58⟩] wz := by rw [← ex.out, ← E0, hRS]; exact K
  clear K ex hRS
  have K := K0
  clear K0
  clear HRS szz E0
  go_loopw [9] (fun iv wr => ∃ k : Nat, k ≤ 38 ∧ iv = .int .i64 (37 - (k : Int)) ∧ Kn w [⟨gz8, 28, bg (rt V false 38 k), 58⟩, ⟨gz, 28, bg V, 58⟩, ⟨w.heap.size, 28, RS, 58⟩] wr) (fun iv _ => (intOf iv + 1).toNat)
  case atStart => exact ⟨0, by omega, by simp, K⟩
  case round =>
    clear K
    obtain ⟨k, hk, rfl, K⟩ := hrel
    by_cases hc : k < 38
    · as_aux_lemma =>
      obtain ⟨X, hX⟩ : ∃ X, X = rt V false 38 k := ⟨_, rfl⟩
      obtain ⟨qq, hq1, hq2⟩ := rt_mul V false 38 k (by omega)
      have nx : rt V false 38 (k + 1) = rstep V false (rt V false 38 k) (38 - (k + 1)) := rfl
      rw [← hX] at K hq1 nx
      obtain ⟨i, hi⟩ : ∃ i, i = 38 - (k + 1) := ⟨_, rfl⟩
      rw [← hi] at nx
      obtain ⟨m, hm⟩ : ∃ m, m = i / 16 := ⟨_, rfl⟩
      obtain ⟨t, ht⟩ : ∃ t, t = i % 16 := ⟨_, rfl⟩
      have hit : i = 16 * m + t := by omega
      have t16 : t < 16 := by omega
      have m28 : m < 28 := by omega
      have room := room16 X m t qq t16 (by rw [hq1]; congr 2; omega)
      have yl := y_lt X k i 38 qq hq1 hq2 hi hc (by decide)
      have hset := set_bit X m t room m28
      rw [← hit] at hset
      have ei : (37 : Int) - (k : Int) = (i : Int) := by omega
      have d1 : (i : Int).tdiv 16 = (m : Int) := by rw [Int.tdiv_eq_ediv_of_nonneg (by omega)]; omega
      have d2 : (i : Int).tmod 16 = (t : Int) := by rw [Int.tmod_eq_emod_of_nonneg (by omega)]; omega
      have cX := bg_cell X m m28
      have ps : (2 : Nat) ^ t < 65536 := by have := Nat.pow_lt_pow_right (a := 2) (by decide) t16; omega
      obtain ⟨sh, hsh⟩ : ∃ sh, sh = 2 ^ t := ⟨_, rfl⟩
      rw [← hsh] at room hset ps
      have shi : (1 : Int) * 2 ^ t = (sh : Int) := by rw [hsh]; simp
      have shi2 : (2 : Int) ^ t = (sh : Int) := by rw [hsh]; simp
      have b1 : -9223372036854775808 ≤ (sh : Int) ∧ (sh : Int) ≤ 9223372036854775807 := by omega
      obtain ⟨d, hd⟩ : ∃ d, d = dig 65536 X m := ⟨_, rfl⟩
      rw [← hd] at room hset cX
      have b2 : -9223372036854775808 ≤ (d : Int) + (sh : Int) ∧ (d : Int) + (sh : Int) ≤ 9223372036854775807 := by omega
      have ed : (d : Int) + (sh : Int) = ((d + sh : Nat) : Int) := by omega
      obtain ⟨ds, hds⟩ : ∃ ds, ds = d + sh := ⟨_, rfl⟩
      rw [← hds] at ed hset
      have w1 : IntKind.i64.wrap (sh : Int) = (sh : Int) := IntWalk.i64_in _ b1
      have w2 : IntKind.i64.wrap ((d : Int) + (sh : Int)) = (ds : Int) := (IntWalk.i64_in _ b2).trans ed
      have w3 : wrap64 (sh : Int) = (sh : Int) := IntWalk.wrap64_in _ b1
      have w4 : wrap64 ((d : Int) + (sh : Int)) = (ds : Int) := (IntWalk.wrap64_in _ b2).trans ed
      have i0 : (0 : Int) ≤ (i : Int) := by omega
      have m0 : (0 : Int) ≤ (m : Int) := by omega
      have m1 : (m : Int) < 28 := by omega
      have t0 : (0 : Int) ≤ (t : Int) := by omega
      have t1 : (t : Int) < 64 := by omega
      have bi : -9223372036854775808 ≤ (i : Int) - 1 ∧ (i : Int) - 1 ≤ 9223372036854775807 := by omega
      have w5 : IntKind.i64.wrap ((i : Int) - 1) = (i : Int) - 1 := IntWalk.i64_in _ bi
      have HSET := Lib.hid hset
      have sX := sz_bg X
      have sY := sz_bg (X + 2 ^ i)
      obtain ⟨Y, hY⟩ : ∃ Y, Y = X + 2 ^ i := ⟨_, rfl⟩
      rw [← hY] at HSET sY yl
      have TT := times_any Y Y yl yl
      have zl : Y * Y % M28 < M28 := Nat.mod_lt _ M28_pos
      obtain ⟨Z1, hZ1⟩ : ∃ Z1, Z1 = Y * Y % M28 := ⟨_, rfl⟩
      rw [← hZ1] at TT zl
      have sZ1 := sz_bg Z1
      have Z := Z1
      have LL := less_any V Z1 hVl zl
      have hst : rstep V false X i = if V < Z1 then X else Y := by rw [hZ1, hY]; rfl
      rw [hst] at nx
      have HNX := Lib.hid nx
      have HX := Lib.hid hX
      have HI := Lib.hid hi
      have HKC := Lib.hid hc
      rw [ei]
      clear nx hst hX hq1 hq2 hi hm ht hit room yl hset hsh hd hds b1 b2 bi ed hY hZ1 zl ps hc hk ei 
      by_cases hlt : V < Z1
      · rw [if_pos hlt] at HNX
        rw [decide_eq_true hlt] at LL
        have HLT := Lib.hid hlt
        clear hlt
        go_wp2_with (first
            | (focus (first | ((with_reducible refine' wpList_load_kn K rfl 58 (.tmp 8) rfl 0 _ _ _ _ rfl _ Tryd.underlying58 rfl Tryd.szBg _ _); rotate_left 2; (focus exact rfl))))
            | (focus ((first | ((with_reducible refine' wpList_store_kn K rfl 58 (.tmp 10) _ rfl 0 _ _ _ _ _ rfl rfl Tryd.szBg _ _ _); rotate_left 2; (focus exact rfl))); (focus assumption); intro wz Kz; clear K; have K := Kz; clear Kz; simp only [List.set_cons_zero, List.set_cons_succ] at K; try (simp only [Act.put, List.setIfInBounds_toArray, List.set_cons_zero, List.set_cons_succ])))
            | ((with_reducible refine wpList_new_kn K 58 _ _ _ _ #[.int .i64 0, .int .i64 0, .int .i64 0, .int .i64 0, .int .i64 0, .int .i64 0, .int .i64 0, .int .i64 0, .int .i64 0, .int .i64 0, .int .i64 0, .int .i64 0, .int .i64 0, .int .i64 0, .int .i64 0, .int .i64 0, .int .i64 0, .int .i64 0, .int .i64 0, .int .i64 0, .int .i64 0, .int .i64 0, .int .i64 0, .int .i64 0, .int .i64 0, .int .i64 0, .int .i64 0, .int .i64 0] 28 rfl Tryd.alBg rfl ?_); intro gz wz Kz; clear K; have K := Kz; clear Kz; try (simp only [Act.put, List.setIfInBounds_toArray, List.set_cons_zero, List.set_cons_succ])))
        refine wp_region_kn_tail K 11 [] (by kernel_rfl) (by kernel_rfl) mk_nil sz_nil ?_
        apply Exists.intro
        refine ⟨?wk10, ?fin10⟩
        case wk10 =>
          intro γ
          have cx := fun y : Wg γ => K.cellg y 0 rfl m cX
          simp only [List.take_succ_cons, List.take_zero]
          repeat (any_goals (first | go_big_quiet_step (fail) | quiet_step (fail)))
          exact wpQuiet_nil rfl
        case fin10 =>
          intro gs wz Kz
          clear K
          have K := Kz
          clear Kz
          try simp only [mkAll, asObj, List.map_cons, List.map_nil, putAll, List.drop_succ_cons, List.drop_zero, List.length_cons, List.length_nil, Nat.zero_add, Nat.add_zero] at K ⊢
          try simp only [Act.put, List.setIfInBounds_toArray, List.set_cons_zero, List.set_cons_succ]

          go_wp2_with (first
            | (focus ((with_reducible refine' wpList_store1_kn K rfl 3 _ _ rfl 0 _ _ m _ _ .i64 (ds : Int) rfl rfl Tryd.iI _ m28 _); rotate_left 2; (focus exact rfl); intro wz Kz; clear K; have K := Kz; clear Kz; simp only [List.set_cons_zero, List.set_cons_succ] at K; rw [HSET.out] at K; try (simp only [Act.put, List.setIfInBounds_toArray, List.set_cons_zero, List.set_cons_succ])))
            | (focus (first | ((with_reducible refine' wpList_load_kn K rfl 58 (.tmp 10) rfl 0 _ _ _ _ rfl _ Tryd.underlying58 rfl Tryd.szBg _ _); rotate_left 2; (focus exact rfl)) | ((with_reducible refine' wpList_load_kn K rfl 58 (.tmp 7) rfl 3 _ _ _ _ rfl _ Tryd.underlying58 rfl Tryd.szBg _ _); rotate_left 2; (focus exact rfl)) | ((with_reducible refine' wpList_load_kn K rfl 58 (.tmp 11) rfl 0 _ _ _ _ rfl _ Tryd.underlying58 rfl Tryd.szBg _ _); rotate_left 2; (focus exact rfl))))
            | (focus ((first | ((with_reducible refine' wpList_store_kn K rfl 58 (.tmp 11) _ rfl 0 _ _ _ _ _ rfl rfl Tryd.szBg _ _ _); rotate_left 2; (focus exact rfl))); (focus assumption); intro wz Kz; clear K; have K := Kz; clear Kz; simp only [List.set_cons_zero, List.set_cons_succ] at K; try (simp only [Act.put, List.setIfInBounds_toArray, List.set_cons_zero, List.set_cons_succ])))
            | ((with_reducible refine wpList_new_kn K 58 _ _ _ _ #[.int .i64 0, .int .i64 0, .int .i64 0, .int .i64 0, .int .i64 0, .int .i64 0, .int .i64 0, .int .i64 0, .int .i64 0, .int .i64 0, .int .i64 0, .int .i64 0, .int .i64 0, .int .i64 0, .int .i64 0, .int .i64 0, .int .i64 0, .int .i64 0, .int .i64 0, .int .i64 0, .int .i64 0, .int .i64 0, .int .i64 0, .int .i64 0, .int .i64 0, .int .i64 0, .int .i64 0, .int .i64 0] 28 rfl Tryd.alBg rfl ?_); intro gz wz Kz; clear K; have K := Kz; clear Kz; try (simp only [Act.put, List.setIfInBounds_toArray, List.set_cons_zero, List.set_cons_succ]))
            | (go_at_call 51; (with_reducible refine Calls.kn K (TT _) ?_); intro wz Kz; clear K; have K := Kz; clear Kz)
            | (go_at_call 52; (with_reducible refine Calls.kn K (LL _) ?_); intro wz Kz; clear K; have K := Kz; clear Kz))
          have K2 := K.drop2
          go_roundw
          case rel => exact ⟨k + 1, by have := HKC.out; omega, by have := HI.out; have := HKC.out; simp; omega, by rw [HNX.out]; exact K2⟩
          case measure => simp [intOf] <;> omega
      · rw [if_neg hlt] at HNX
        rw [decide_eq_false hlt] at LL
        have HLT := Lib.hid hlt
        clear hlt
        go_wp2_with (first
            | (focus (first | ((with_reducible refine' wpList_load_kn K rfl 58 (.tmp 8) rfl 0 _ _ _ _ rfl _ Tryd.underlying58 rfl Tryd.szBg _ _); rotate_left 2; (focus exact rfl))))
            | (focus ((first | ((with_reducible refine' wpList_store_kn K rfl 58 (.tmp 10) _ rfl 0 _ _ _ _ _ rfl rfl Tryd.szBg _ _ _); rotate_left 2; (focus exact rfl))); (focus assumption); intro wz Kz; clear K; have K := Kz; clear Kz; simp only [List.set_cons_zero, List.set_cons_succ] at K; try (simp only [Act.put, List.setIfInBounds_toArray, List.set_cons_zero, List.set_cons_succ])))
            | ((with_reducible refine wpList_new_kn K 58 _ _ _ _ #[.int .i64 0, .int .i64 0, .int .i64 0, .int .i64 0, .int .i64 0, .int .i64 0, .int .i64 0, .int .i64 0, .int .i64 0, .int .i64 0, .int .i64 0, .int .i64 0, .int .i64 0, .int .i64 0, .int .i64 0, .int .i64 0, .int .i64 0, .int .i64 0, .int .i64 0, .int .i64 0, .int .i64 0, .int .i64 0, .int .i64 0, .int .i64 0, .int .i64 0, .int .i64 0, .int .i64 0, .int .i64 0] 28 rfl Tryd.alBg rfl ?_); intro gz wz Kz; clear K; have K := Kz; clear Kz; try (simp only [Act.put, List.setIfInBounds_toArray, List.set_cons_zero, List.set_cons_succ])))
        refine wp_region_kn_tail K 11 [] (by kernel_rfl) (by kernel_rfl) mk_nil sz_nil ?_
        apply Exists.intro
        refine ⟨?wk10, ?fin10⟩
        case wk10 =>
          intro γ
          have cx := fun y : Wg γ => K.cellg y 0 rfl m cX
          simp only [List.take_succ_cons, List.take_zero]
          repeat (any_goals (first | go_big_quiet_step (fail) | quiet_step (fail)))
          exact wpQuiet_nil rfl
        case fin10 =>
          intro gs wz Kz
          clear K
          have K := Kz
          clear Kz
          try simp only [mkAll, asObj, List.map_cons, List.map_nil, putAll, List.drop_succ_cons, List.drop_zero, List.length_cons, List.length_nil, Nat.zero_add, Nat.add_zero] at K ⊢
          try simp only [Act.put, List.setIfInBounds_toArray, List.set_cons_zero, List.set_cons_succ]

          go_wp2_with (first
            | (focus ((with_reducible refine' wpList_store1_kn K rfl 3 _ _ rfl 0 _ _ m _ _ .i64 (ds : Int) rfl rfl Tryd.iI _ m28 _); rotate_left 2; (focus exact rfl); intro wz Kz; clear K; have K := Kz; clear Kz; simp only [List.set_cons_zero, List.set_cons_succ] at K; rw [HSET.out] at K; try (simp only [Act.put, List.setIfInBounds_toArray, List.set_cons_zero, List.set_cons_succ])))
            | (focus (first | ((with_reducible refine' wpList_load_kn K rfl 58 (.tmp 10) rfl 0 _ _ _ _ rfl _ Tryd.underlying58 rfl Tryd.szBg _ _); rotate_left 2; (focus exact rfl)) | ((with_reducible refine' wpList_load_kn K rfl 58 (.tmp 7) rfl 3 _ _ _ _ rfl _ Tryd.underlying58 rfl Tryd.szBg _ _); rotate_left 2; (focus exact rfl)) | ((with_reducible refine' wpList_load_kn K rfl 58 (.tmp 11) rfl 0 _ _ _ _ rfl _ Tryd.underlying58 rfl Tryd.szBg _ _); rotate_left 2; (focus exact rfl)) | ((with_reducible refine' wpList_load_kn K rfl 58 (.tmp 10) rfl 1 _ _ _ _ rfl _ Tryd.underlying58 rfl Tryd.szBg _ _); rotate_left 2; (focus exact rfl))))
            | (focus ((first | ((with_reducible refine' wpList_store_kn K rfl 58 (.tmp 11) _ rfl 0 _ _ _ _ _ rfl rfl Tryd.szBg _ _ _); rotate_left 2; (focus exact rfl)) | ((with_reducible refine' wpList_store_kn K rfl 58 (.tmp 8) _ rfl 2 _ _ _ _ _ rfl rfl Tryd.szBg _ _ _); rotate_left 2; (focus exact rfl))); (focus assumption); intro wz Kz; clear K; have K := Kz; clear Kz; simp only [List.set_cons_zero, List.set_cons_succ] at K; try (simp only [Act.put, List.setIfInBounds_toArray, List.set_cons_zero, List.set_cons_succ])))
            | ((with_reducible refine wpList_new_kn K 58 _ _ _ _ #[.int .i64 0, .int .i64 0, .int .i64 0, .int .i64 0, .int .i64 0, .int .i64 0, .int .i64 0, .int .i64 0, .int .i64 0, .int .i64 0, .int .i64 0, .int .i64 0, .int .i64 0, .int .i64 0, .int .i64 0, .int .i64 0, .int .i64 0, .int .i64 0, .int .i64 0, .int .i64 0, .int .i64 0, .int .i64 0, .int .i64 0, .int .i64 0, .int .i64 0, .int .i64 0, .int .i64 0, .int .i64 0] 28 rfl Tryd.alBg rfl ?_); intro gz wz Kz; clear K; have K := Kz; clear Kz; try (simp only [Act.put, List.setIfInBounds_toArray, List.set_cons_zero, List.set_cons_succ]))
            | (go_at_call 51; (with_reducible refine Calls.kn K (TT _) ?_); intro wz Kz; clear K; have K := Kz; clear Kz)
            | (go_at_call 52; (with_reducible refine Calls.kn K (LL _) ?_); intro wz Kz; clear K; have K := Kz; clear Kz))
          have K2 := K.drop2
          go_roundw
          case rel => exact ⟨k + 1, by have := HKC.out; omega, by have := HI.out; have := HKC.out; simp; omega, by rw [HNX.out]; exact K2⟩
          case measure => simp [intOf] <;> omega
    · as_aux_lemma =>
      obtain rfl : k = 38 := by omega
      rw [show (37 : Int) - ((38 : Nat) : Int) = -1 from rfl]
      have sP := sz_bg (rt V false 38 38)
      obtain ⟨X, hX⟩ : ∃ X, X = rt V false 38 38 := ⟨_, rfl⟩
      rw [← hX] at K sP
      have HX := Lib.hid hX
      clear hX hVl hc hk
      go_wp2_with (first
          | (focus (first | ((with_reducible refine' wpList_load_kn K rfl 58 (.tmp 8) rfl 0 _ _ _ _ rfl _ Tryd.underlying58 rfl Tryd.szBg _ _); rotate_left 2; (focus exact rfl))))
          | (focus ((first | ((with_reducible refine' wpList_store_kn K rfl 58 (.tmp 6) _ rfl 2 _ _ _ _ _ rfl rfl Tryd.szBg _ _ _); rotate_left 2; (focus exact rfl))); (focus assumption); intro wz Kz; clear K; have K := Kz; clear Kz; simp only [List.set_cons_zero, List.set_cons_succ] at K; try (simp only [Act.put, List.setIfInBounds_toArray, List.set_cons_zero, List.set_cons_succ]))))
      refine bodyPost_ret (results_kn K rfl _ 2 _ _ _ _ rfl _ Tryd.underlying58 rfl Tryd.szBg rfl) rfl ?_
      exact ⟨by rw [HX.out, HVV.out], K.fr⟩
set_option maxRecDepth 100000 in
set_option maxHeartbeats 3200000 in
theorem root_64c (p : Nat) (hp : p < 65536) (Q : Array Value) (w : World)
    (sQ : Sz 0 Q) :
    Calls Tryd.prog 30 #[.int .i64 (p : Int), .bool true, .int .i64 64] w fun e w' => e = .returned (.agg (bg (rt (p * 65536 ^ 12) true 70 70))) ∧ Fr (fun _ => False) w w' := by
  have szz : Sz 28 #[.int .i64 0, .int .i64 0, .int .i64 0, .int .i64 0, .int .i64 0, .int .i64 0, .int .i64 0, .int .i64 0, .int .i64 0, .int .i64 0, .int .i64 0, .int .i64 0, .int .i64 0, .int .i64 0, .int .i64 0, .int .i64 0, .int .i64 0, .int .i64 0, .int .i64 0, .int .i64 0, .int .i64 0, .int .i64 0, .int .i64 0, .int .i64 0, .int .i64 0, .int .i64 0, .int .i64 0, .int .i64 0] := ⟨rfl, by simp [Value.oneCell']⟩
  have E0 : #[.int .i64 0, .int .i64 0, .int .i64 0, .int .i64 0, .int .i64 0, .int .i64 0, .int .i64 0, .int .i64 0, .int .i64 0, .int .i64 0, .int .i64 0, .int .i64 0, .int .i64 0, .int .i64 0, .int .i64 0, .int .i64 0, .int .i64 0, .int .i64 0, .int .i64 0, .int .i64 0, .int .i64 0, .int .i64 0, .int .i64 0, .int .i64 0, .int .i64 0, .int .i64 0, .int .i64 0, .int .i64 0] = bg 0 := z28_bg
  obtain ⟨V, hV⟩ : ∃ V, V = p * 65536 ^ 12 := ⟨_, rfl⟩
  have HVV := Lib.hid hV
  have T1q := Lib.hid (set_first 8 p (by decide) hp)
  have T2q := Lib.hid (set_none 8 p (by decide) hp)
  have T3q := Lib.hid (set_first 12 p (by decide) hp)
  have hVl : V < M28 := by rw [hV]; exact big_lt p 12 hp (by decide)
  have p28_8 : 8 < 28 := by decide
  have p28_12 : 12 < 28 := by decide
  clear hV
  have K := ((Kn.start w).new (w.heap.size) 28 #[.int .i64 0, .int .i64 0, .int .i64 0, .int .i64 0, .int .i64 0, .int .i64 0, .int .i64 0, .int .i64 0, .int .i64 0, .int .i64 0, .int .i64 0, .int .i64 0, .int .i64 0, .int .i64 0, .int .i64 0, .int .i64 0, .int .i64 0, .int .i64 0, .int .i64 0, .int .i64 0, .int .i64 0, .int .i64 0, .int .i64 0, .int .i64 0, .int .i64 0, .int .i64 0, .int .i64 0, .int .i64 0] 58 rfl rfl)
  go_enter Tryd.func30, Tryd.ntmps30
  go_upto_region 2 with (first
    | ((fail_if_success (have hq := gz)); ((with_reducible refine wpList_new_kn K 58 _ _ _ _ #[.int .i64 0, .int .i64 0, .int .i64 0, .int .i64 0, .int .i64 0, .int .i64 0, .int .i64 0, .int .i64 0, .int .i64 0, .int .i64 0, .int .i64 0, .int .i64 0, .int .i64 0, .int .i64 0, .int .i64 0, .int .i64 0, .int .i64 0, .int .i64 0, .int .i64 0, .int .i64 0, .int .i64 0, .int .i64 0, .int .i64 0, .int .i64 0, .int .i64 0, .int .i64 0, .int .i64 0, .int .i64 0] 28 rfl Tryd.alBg rfl ?_); intro gz wz Kz; clear K; have K := Kz; clear Kz; try (simp only [Act.put, List.setIfInBounds_toArray, List.set_cons_zero, List.set_cons_succ])))
    | ((with_reducible refine wpList_new_kn K 58 _ _ _ _ #[.int .i64 0, .int .i64 0, .int .i64 0, .int .i64 0, .int .i64 0, .int .i64 0, .int .i64 0, .int .i64 0, .int .i64 0, .int .i64 0, .int .i64 0, .int .i64 0, .int .i64 0, .int .i64 0, .int .i64 0, .int .i64 0, .int .i64 0, .int .i64 0, .int .i64 0, .int .i64 0, .int .i64 0, .int .i64 0, .int .i64 0, .int .i64 0, .int .i64 0, .int .i64 0, .int .i64 0, .int .i64 0] 28 rfl Tryd.alBg rfl ?_); intro gz8 wz Kz; clear K; have K := Kz; clear Kz; try (simp only [Act.put, List.setIfInBounds_toArray, List.set_cons_zero, List.set_cons_succ])))
  go_wp2_with (first
    | (focus ((with_reducible refine' wpList_store1_kn K rfl 3 _ _ rfl 1 _ _ 8 _ _ .i64 (p : Int) rfl rfl Tryd.iI _ p28_8 _); rotate_left 2; (focus exact rfl); intro wz Kz; clear K; have K := Kz; clear Kz; simp only [List.set_cons_zero, List.set_cons_succ] at K; rw [T1q.out] at K; try (simp only [Act.put, List.setIfInBounds_toArray, List.set_cons_zero, List.set_cons_succ])))
    | (focus ((with_reducible refine' wpList_store1_kn K rfl 3 _ (.const (.int .i64 0)) rfl 1 _ _ 8 _ _ .i64 (0 : Int) rfl rfl Tryd.iI _ p28_8 _); rotate_left 2; (focus exact rfl); intro wz Kz; clear K; have K := Kz; clear Kz; simp only [List.set_cons_zero, List.set_cons_succ] at K; rw [T2q.out] at K; try (simp only [Act.put, List.setIfInBounds_toArray, List.set_cons_zero, List.set_cons_succ])))
    | (focus ((with_reducible refine' wpList_store1_kn K rfl 3 _ _ rfl 1 _ _ 12 _ _ .i64 (p : Int) rfl rfl Tryd.iI _ p28_12 _); rotate_left 2; (focus exact rfl); intro wz Kz; clear K; have K := Kz; clear Kz; simp only [List.set_cons_zero, List.set_cons_succ] at K; rw [T3q.out, ← HVV.out] at K; try (simp only [Act.put, List.setIfInBounds_toArray, List.set_cons_zero, List.set_cons_succ]))))
  clear T1q T2q T3q
  have ex : Hid (bg 0 = bg (rt V true 70 0)) := Lib.hid rfl
  obtain ⟨RS, hRS⟩ : ∃ RS : Array Value, RS = (#[.int .i64 0, .int .i64 0, .int .i64 0, .int .i64 0, .int .i64 0, .int .i64 0, .int .i64 0, .int .i64 0, .int .i64 0, .int .i64 0, .int .i64 0, .int .i64 0, .int .i64 0, .int .i64 0, .int .i64 0, .int .i64 0, .int .i64 0, .int .i64 0, .int .i64 0, .int .i64 0, .int .i64 0, .int .i64 0, .int .i64 0, .int .i64 0, .int .i64 0, .int .i64 0, .int .i64 0, .int .i64 0] : Array Value) := ⟨_, rfl⟩
  have HRS := Lib.hid hRS
  have sRS : Sz 28 RS := by rw [hRS]; exact szz
  have K0 : Kn w [⟨gz8, 28, bg (rt V true 70 0), 58⟩, ⟨gz, 28, bg V, 58⟩, ⟨w.heap.size, 28, RS, 58⟩] wz := by rw [← ex.out, ← E0, hRS]; exact K
  clear K ex hRS
  have K := K0
  clear K0
  clear HRS szz E0
  go_loopw [9] (fun iv wr => ∃ k : Nat, k ≤ 70 ∧ iv = .int .i64 (69 - (k : Int)) ∧ Kn w [⟨gz8, 28, bg (rt V true 70 k), 58⟩, ⟨gz, 28, bg V, 58⟩, ⟨w.heap.size, 28, RS, 58⟩] wr) (fun iv _ => (intOf iv + 1).toNat)
  case atStart => exact ⟨0, by omega, by simp, K⟩
  case round =>
    clear K
    obtain ⟨k, hk, rfl, K⟩ := hrel
    by_cases hc : k < 70
    · as_aux_lemma =>
      obtain ⟨X, hX⟩ : ∃ X, X = rt V true 70 k := ⟨_, rfl⟩
      obtain ⟨qq, hq1, hq2⟩ := rt_mul V true 70 k (by omega)
      have nx : rt V true 70 (k + 1) = rstep V true (rt V true 70 k) (70 - (k + 1)) := rfl
      rw [← hX] at K hq1 nx
      obtain ⟨i, hi⟩ : ∃ i, i = 70 - (k + 1) := ⟨_, rfl⟩
      rw [← hi] at nx
      obtain ⟨m, hm⟩ : ∃ m, m = i / 16 := ⟨_, rfl⟩
      obtain ⟨t, ht⟩ : ∃ t, t = i % 16 := ⟨_, rfl⟩
      have hit : i = 16 * m + t := by omega
      have t16 : t < 16 := by omega
      have m28 : m < 28 := by omega
      have room := room16 X m t qq t16 (by rw [hq1]; congr 2; omega)
      have yl := y_lt X k i 70 qq hq1 hq2 hi hc (by decide)
      have hset := set_bit X m t room m28
      rw [← hit] at hset
      have ei : (69 : Int) - (k : Int) = (i : Int) := by omega
      have d1 : (i : Int).tdiv 16 = (m : Int) := by rw [Int.tdiv_eq_ediv_of_nonneg (by omega)]; omega
      have d2 : (i : Int).tmod 16 = (t : Int) := by rw [Int.tmod_eq_emod_of_nonneg (by omega)]; omega
      have cX := bg_cell X m m28
      have ps : (2 : Nat) ^ t < 65536 := by have := Nat.pow_lt_pow_right (a := 2) (by decide) t16; omega
      obtain ⟨sh, hsh⟩ : ∃ sh, sh = 2 ^ t := ⟨_, rfl⟩
      rw [← hsh] at room hset ps
      have shi : (1 : Int) * 2 ^ t = (sh : Int) := by rw [hsh]; simp
      have shi2 : (2 : Int) ^ t = (sh : Int) := by rw [hsh]; simp
      have b1 : -9223372036854775808 ≤ (sh : Int) ∧ (sh : Int) ≤ 9223372036854775807 := by omega
      obtain ⟨d, hd⟩ : ∃ d, d = dig 65536 X m := ⟨_, rfl⟩
      rw [← hd] at room hset cX
      have b2 : -9223372036854775808 ≤ (d : Int) + (sh : Int) ∧ (d : Int) + (sh : Int) ≤ 9223372036854775807 := by omega
      have ed : (d : Int) + (sh : Int) = ((d + sh : Nat) : Int) := by omega
      obtain ⟨ds, hds⟩ : ∃ ds, ds = d + sh := ⟨_, rfl⟩
      rw [← hds] at ed hset
      have w1 : IntKind.i64.wrap (sh : Int) = (sh : Int) := IntWalk.i64_in _ b1
      have w2 : IntKind.i64.wrap ((d : Int) + (sh : Int)) = (ds : Int) := (IntWalk.i64_in _ b2).trans ed
      have w3 : wrap64 (sh : Int) = (sh : Int) := IntWalk.wrap64_in _ b1
      have w4 : wrap64 ((d : Int) + (sh : Int)) = (ds : Int) := (IntWalk.wrap64_in _ b2).trans ed
      have i0 : (0 : Int) ≤ (i : Int) := by omega
      have m0 : (0 : Int) ≤ (m : Int) := by omega
      have m1 : (m : Int) < 28 := by omega
      have t0 : (0 : Int) ≤ (t : Int) := by omega
      have t1 : (t : Int) < 64 := by omega
      have bi : -9223372036854775808 ≤ (i : Int) - 1 ∧ (i : Int) - 1 ≤ 9223372036854775807 := by omega
      have w5 : IntKind.i64.wrap ((i : Int) - 1) = (i : Int) - 1 := IntWalk.i64_in _ bi
      have HSET := Lib.hid hset
      have sX := sz_bg X
      have sY := sz_bg (X + 2 ^ i)
      obtain ⟨Y, hY⟩ : ∃ Y, Y = X + 2 ^ i := ⟨_, rfl⟩
      rw [← hY] at HSET sY yl
      have TT := times_any Y Y yl yl
      have zl : Y * Y % M28 < M28 := Nat.mod_lt _ M28_pos
      obtain ⟨Z1, hZ1⟩ : ∃ Z1, Z1 = Y * Y % M28 := ⟨_, rfl⟩
      rw [← hZ1] at TT zl
      have sZ1 := sz_bg Z1
      have TU := times_any Z1 Y zl yl
      have zl2 : Z1 * Y % M28 < M28 := Nat.mod_lt _ M28_pos
      obtain ⟨Z, hZ⟩ : ∃ Z, Z = Z1 * Y % M28 := ⟨_, rfl⟩
      rw [← hZ] at TU zl2
      have sZ := sz_bg Z
      have LL := less_any V Z hVl zl2
      have hst : rstep V true X i = if V < Z then X else Y := by rw [hZ, hZ1, hY]; rfl
      rw [hst] at nx
      have HNX := Lib.hid nx
      have HX := Lib.hid hX
      have HI := Lib.hid hi
      have HKC := Lib.hid hc
      rw [ei]
      clear nx hst hX hq1 hq2 hi hm ht hit room yl hset hsh hd hds b1 b2 bi ed hY hZ1 zl ps hc hk ei hZ zl2
      by_cases hlt : V < Z
      · rw [if_pos hlt] at HNX
        rw [decide_eq_true hlt] at LL
        have HLT := Lib.hid hlt
        clear hlt
        go_wp2_with (first
            | (focus (first | ((with_reducible refine' wpList_load_kn K rfl 58 (.tmp 8) rfl 0 _ _ _ _ rfl _ Tryd.underlying58 rfl Tryd.szBg _ _); rotate_left 2; (focus exact rfl))))
            | (focus ((first | ((with_reducible refine' wpList_store_kn K rfl 58 (.tmp 10) _ rfl 0 _ _ _ _ _ rfl rfl Tryd.szBg _ _ _); rotate_left 2; (focus exact rfl))); (focus assumption); intro wz Kz; clear K; have K := Kz; clear Kz; simp only [List.set_cons_zero, List.set_cons_succ] at K; try (simp only [Act.put, List.setIfInBounds_toArray, List.set_cons_zero, List.set_cons_succ])))
            | ((with_reducible refine wpList_new_kn K 58 _ _ _ _ #[.int .i64 0, .int .i64 0, .int .i64 0, .int .i64 0, .int .i64 0, .int .i64 0, .int .i64 0, .int .i64 0, .int .i64 0, .int .i64 0, .int .i64 0, .int .i64 0, .int .i64 0, .int .i64 0, .int .i64 0, .int .i64 0, .int .i64 0, .int .i64 0, .int .i64 0, .int .i64 0, .int .i64 0, .int .i64 0, .int .i64 0, .int .i64 0, .int .i64 0, .int .i64 0, .int .i64 0, .int .i64 0] 28 rfl Tryd.alBg rfl ?_); intro gz wz Kz; clear K; have K := Kz; clear Kz; try (simp only [Act.put, List.setIfInBounds_toArray, List.set_cons_zero, List.set_cons_succ])))
        refine wp_region_kn_tail K 11 [] (by kernel_rfl) (by kernel_rfl) mk_nil sz_nil ?_
        apply Exists.intro
        refine ⟨?wk10, ?fin10⟩
        case wk10 =>
          intro γ
          have cx := fun y : Wg γ => K.cellg y 0 rfl m cX
          simp only [List.take_succ_cons, List.take_zero]
          repeat (any_goals (first | go_big_quiet_step (fail) | quiet_step (fail)))
          exact wpQuiet_nil rfl
        case fin10 =>
          intro gs wz Kz
          clear K
          have K := Kz
          clear Kz
          try simp only [mkAll, asObj, List.map_cons, List.map_nil, putAll, List.drop_succ_cons, List.drop_zero, List.length_cons, List.length_nil, Nat.zero_add, Nat.add_zero] at K ⊢
          try simp only [Act.put, List.setIfInBounds_toArray, List.set_cons_zero, List.set_cons_succ]

          go_wp2_with (first
            | (focus ((with_reducible refine' wpList_store1_kn K rfl 3 _ _ rfl 0 _ _ m _ _ .i64 (ds : Int) rfl rfl Tryd.iI _ m28 _); rotate_left 2; (focus exact rfl); intro wz Kz; clear K; have K := Kz; clear Kz; simp only [List.set_cons_zero, List.set_cons_succ] at K; rw [HSET.out] at K; try (simp only [Act.put, List.setIfInBounds_toArray, List.set_cons_zero, List.set_cons_succ])))
            | (focus (first | ((with_reducible refine' wpList_load_kn K rfl 58 (.tmp 10) rfl 0 _ _ _ _ rfl _ Tryd.underlying58 rfl Tryd.szBg _ _); rotate_left 2; (focus exact rfl)) | ((with_reducible refine' wpList_load_kn K rfl 58 (.tmp 11) rfl 0 _ _ _ _ rfl _ Tryd.underlying58 rfl Tryd.szBg _ _); rotate_left 2; (focus exact rfl)) | ((with_reducible refine' wpList_load_kn K rfl 58 (.tmp 10) rfl 1 _ _ _ _ rfl _ Tryd.underlying58 rfl Tryd.szBg _ _); rotate_left 2; (focus exact rfl)) | ((with_reducible refine' wpList_load_kn K rfl 58 (.tmp 7) rfl 3 _ _ _ _ rfl _ Tryd.underlying58 rfl Tryd.szBg _ _); rotate_left 2; (focus exact rfl))))
            | (focus ((first | ((with_reducible refine' wpList_store_kn K rfl 58 (.tmp 11) _ rfl 0 _ _ _ _ _ rfl rfl Tryd.szBg _ _ _); rotate_left 2; (focus exact rfl))); (focus assumption); intro wz Kz; clear K; have K := Kz; clear Kz; simp only [List.set_cons_zero, List.set_cons_succ] at K; try (simp only [Act.put, List.setIfInBounds_toArray, List.set_cons_zero, List.set_cons_succ])))
            | ((with_reducible refine wpList_new_kn K 58 _ _ _ _ #[.int .i64 0, .int .i64 0, .int .i64 0, .int .i64 0, .int .i64 0, .int .i64 0, .int .i64 0, .int .i64 0, .int .i64 0, .int .i64 0, .int .i64 0, .int .i64 0, .int .i64 0, .int .i64 0, .int .i64 0, .int .i64 0, .int .i64 0, .int .i64 0, .int .i64 0, .int .i64 0, .int .i64 0, .int .i64 0, .int .i64 0, .int .i64 0, .int .i64 0, .int .i64 0, .int .i64 0, .int .i64 0] 28 rfl Tryd.alBg rfl ?_); intro gz wz Kz; clear K; have K := Kz; clear Kz; try (simp only [Act.put, List.setIfInBounds_toArray, List.set_cons_zero, List.set_cons_succ]))
            | (go_at_call 51; (with_reducible refine Calls.kn K (TT _) ?_); intro wz Kz; clear K; have K := Kz; clear Kz)
            | (go_at_call 51; (with_reducible refine Calls.kn K (TU _) ?_); intro wz Kz; clear K; have K := Kz; clear Kz)
            | (go_at_call 52; (with_reducible refine Calls.kn K (LL _) ?_); intro wz Kz; clear K; have K := Kz; clear Kz))
          have K2 := K.drop2
          go_roundw
          case rel => exact ⟨k + 1, by have := HKC.out; omega, by have := HI.out; have := HKC.out; simp; omega, by rw [HNX.out]; exact K2⟩
          case measure => simp [intOf] <;> omega
      · rw [if_neg hlt] at HNX
        rw [decide_eq_false hlt] at LL
        have HLT := Lib.hid hlt
        clear hlt
        go_wp2_with (first
            | (focus (first | ((with_reducible refine' wpList_load_kn K rfl 58 (.tmp 8) rfl 0 _ _ _ _ rfl _ Tryd.underlying58 rfl Tryd.szBg _ _); rotate_left 2; (focus exact rfl))))
            | (focus ((first | ((with_reducible refine' wpList_store_kn K rfl 58 (.tmp 10) _ rfl 0 _ _ _ _ _ rfl rfl Tryd.szBg _ _ _); rotate_left 2; (focus exact rfl))); (focus assumption); intro wz Kz; clear K; have K := Kz; clear Kz; simp only [List.set_cons_zero, List.set_cons_succ] at K; try (simp only [Act.put, List.setIfInBounds_toArray, List.set_cons_zero, List.set_cons_succ])))
            | ((with_reducible refine wpList_new_kn K 58 _ _ _ _ #[.int .i64 0, .int .i64 0, .int .i64 0, .int .i64 0, .int .i64 0, .int .i64 0, .int .i64 0, .int .i64 0, .int .i64 0, .int .i64 0, .int .i64 0, .int .i64 0, .int .i64 0, .int .i64 0, .int .i64 0, .int .i64 0, .int .i64 0, .int .i64 0, .int .i64 0, .int .i64 0, .int .i64 0, .int .i64 0, .int .i64 0, .int .i64 0, .int .i64 0, .int .i64 0, .int .i64 0, .int .i64 0] 28 rfl Tryd.alBg rfl ?_); intro gz wz Kz; clear K; have K := Kz; clear Kz; try (simp only [Act.put, List.setIfInBounds_toArray, List.set_cons_zero, List.set_cons_succ])))
        refine wp_region_kn_tail K 11 [] (by kernel_rfl) (by kernel_rfl) mk_nil sz_nil ?_
        apply Exists.intro
        refine ⟨?wk10, ?fin10⟩
        case wk10 =>
          intro γ
          have cx := fun y : Wg γ => K.cellg y 0 rfl m cX
          simp only [List.take_succ_cons, List.take_zero]
          repeat (any_goals (first | go_big_quiet_step (fail) | quiet_step (fail)))
          exact wpQuiet_nil rfl
        case fin10 =>
          intro gs wz Kz
          clear K
          have K := Kz
          clear Kz
          try simp only [mkAll, asObj, List.map_cons, List.map_nil, putAll, List.drop_succ_cons, List.drop_zero, List.length_cons, List.length_nil, Nat.zero_add, Nat.add_zero] at K ⊢
          try simp only [Act.put, List.setIfInBounds_toArray, List.set_cons_zero, List.set_cons_succ]

          go_wp2_with (first
            | (focus ((with_reducible refine' wpList_store1_kn K rfl 3 _ _ rfl 0 _ _ m _ _ .i64 (ds : Int) rfl rfl Tryd.iI _ m28 _); rotate_left 2; (focus exact rfl); intro wz Kz; clear K; have K := Kz; clear Kz; simp only [List.set_cons_zero, List.set_cons_succ] at K; rw [HSET.out] at K; try (simp only [Act.put, List.setIfInBounds_toArray, List.set_cons_zero, List.set_cons_succ])))
            | (focus (first | ((with_reducible refine' wpList_load_kn K rfl 58 (.tmp 10) rfl 0 _ _ _ _ rfl _ Tryd.underlying58 rfl Tryd.szBg _ _); rotate_left 2; (focus exact rfl)) | ((with_reducible refine' wpList_load_kn K rfl 58 (.tmp 11) rfl 0 _ _ _ _ rfl _ Tryd.underlying58 rfl Tryd.szBg _ _); rotate_left 2; (focus exact rfl)) | ((with_reducible refine' wpList_load_kn K rfl 58 (.tmp 10) rfl 1 _ _ _ _ rfl _ Tryd.underlying58 rfl Tryd.szBg _ _); rotate_left 2; (focus exact rfl)) | ((with_reducible refine' wpList_load_kn K rfl 58 (.tmp 7) rfl 3 _ _ _ _ rfl _ Tryd.underlying58 rfl Tryd.szBg _ _); rotate_left 2; (focus exact rfl))))
            | (focus ((first | ((with_reducible refine' wpList_store_kn K rfl 58 (.tmp 11) _ rfl 0 _ _ _ _ _ rfl rfl Tryd.szBg _ _ _); rotate_left 2; (focus exact rfl)) | ((with_reducible refine' wpList_store_kn K rfl 58 (.tmp 8) _ rfl 2 _ _ _ _ _ rfl rfl Tryd.szBg _ _ _); rotate_left 2; (focus exact rfl))); (focus assumption); intro wz Kz; clear K; have K := Kz; clear Kz; simp only [List.set_cons_zero, List.set_cons_succ] at K; try (simp only [Act.put, List.setIfInBounds_toArray, List.set_cons_zero, List.set_cons_succ])))
            | ((with_reducible refine wpList_new_kn K 58 _ _ _ _ #[.int .i64 0, .int .i64 0, .int .i64 0, .int .i64 0, .int .i64 0, .int .i64 0, .int .i64 0, .int .i64 0, .int .i64 0, .int .i64 0, .int .i64 0, .int .i64 0, .int .i64 0, .int .i64 0, .int .i64 0, .int .i64 0, .int .i64 0, .int .i64 0, .int .i64 0, .int .i64 0, .int .i64 0, .int .i64 0, .int .i64 0, .int .i64 0, .int .i64 0, .int .i64 0, .int .i64 0, .int .i64 0] 28 rfl Tryd.alBg rfl ?_); intro gz wz Kz; clear K; have K := Kz; clear Kz; try (simp only [Act.put, List.setIfInBounds_toArray, List.set_cons_zero, List.set_cons_succ]))
            | (go_at_call 51; (with_reducible refine Calls.kn K (TT _) ?_); intro wz Kz; clear K; have K := Kz; clear Kz)
            | (go_at_call 51; (with_reducible refine Calls.kn K (TU _) ?_); intro wz Kz; clear K; have K := Kz; clear Kz)
            | (go_at_call 52; (with_reducible refine Calls.kn K (LL _) ?_); intro wz Kz; clear K; have K := Kz; clear Kz))
          have K2 := K.drop2
          go_roundw
          case rel => exact ⟨k + 1, by have := HKC.out; omega, by have := HI.out; have := HKC.out; simp; omega, by rw [HNX.out]; exact K2⟩
          case measure => simp [intOf] <;> omega
    · as_aux_lemma =>
      obtain rfl : k = 70 := by omega
      rw [show (69 : Int) - ((70 : Nat) : Int) = -1 from rfl]
      have sP := sz_bg (rt V true 70 70)
      obtain ⟨X, hX⟩ : ∃ X, X = rt V true 70 70 := ⟨_, rfl⟩
      rw [← hX] at K sP
      have HX := Lib.hid hX
      clear hX hVl hc hk
      go_wp2_with (first
          | (focus (first | ((with_reducible refine' wpList_load_kn K rfl 58 (.tmp 8) rfl 0 _ _ _ _ rfl _ Tryd.underlying58 rfl Tryd.szBg _ _); rotate_left 2; (focus exact rfl))))
          | (focus ((first | ((with_reducible refine' wpList_store_kn K rfl 58 (.tmp 6) _ rfl 2 _ _ _ _ _ rfl rfl Tryd.szBg _ _ _); rotate_left 2; (focus exact rfl))); (focus assumption); intro wz Kz; clear K; have K := Kz; clear Kz; simp only [List.set_cons_zero, List.set_cons_succ] at K; try (simp only [Act.put, List.setIfInBounds_toArray, List.set_cons_zero, List.set_cons_succ]))))
      refine bodyPost_ret (results_kn K rfl _ 2 _ _ _ _ rfl _ Tryd.underlying58 rfl Tryd.szBg rfl) rfl ?_
      exact ⟨by rw [HX.out, HVV.out], K.fr⟩
set_option maxRecDepth 100000 in
set_option maxHeartbeats 3200000 in
theorem root_64s (p : Nat) (hp : p < 65536) (Q : Array Value) (w : World)
    (sQ : Sz 0 Q) :
    Calls Tryd.prog 30 #[.int .i64 (p : Int), .bool false, .int .i64 64] w fun e w' => e = .returned (.agg (bg (rt (p * 65536 ^ 8) false 70 70))) ∧ Fr (fun _ => False) w w' := by
  have szz : Sz 28 #[.int .i64 0, .int .i64 0, .int .i64 0, .int .i64 0, .int .i64 0, .int .i64 0, .int .i64 0, .int .i64 0, .int .i64 0, .int .i64 0, .int .i64 0, .int .i64 0, .int .i64 0, .int .i64 0, .int .i64 0, .int .i64 0, .int .i64 0, .int .i64 0, .int .i64 0, .int .i64 0, .int .i64 0, .int .i64 0, .int .i64 0, .int .i64 0, .int .i64 0, .int .i64 0, .int .i64 0, .int .i64 0] := ⟨rfl, by simp [Value.oneCell']⟩
  have E0 : #[.int .i64 0, .int .i64 0, .int .i64 0, .int .i64 0, .int .i64 0, .int .i64 0, .int .i64 0, .int .i64 0, .int .i64 0, .int .i64 0, .int .i64 0, .int .i64 0, .int .i64 0, .int .i64 0, .int .i64 0, .int .i64 0, .int .i64 0, .int .i64 0, .int .i64 0, .int .i64 0, .int .i64 0, .int .i64 0, .int .i64 0, .int .i64 0, .int .i64 0, .int .i64 0, .int .i64 0, .int .i64 0] = bg 0 := z28_bg
  obtain ⟨V, hV⟩ : ∃ V, V = p * 65536 ^ 8 := ⟨_, rfl⟩
  have HVV := Lib.hid hV
  have T1q := Lib.hid (set_first 8 p (by decide) hp)
  have hVl : V < M28 := by rw [hV]; exact big_lt p 8 hp (by decide)
  have p28_8 : 8 < 28 := by decide
  clear hV
  have K := ((Kn.start w).new (w.heap.size) 28 #[.int .i64 0, .int .i64 0, .int .i64 0, .int .i64 0, .int .i64 0, .int .i64 0, .int .i64 0, .int .i64 0, .int .i64 0, .int .i64 0, .int .i64 0, .int .i64 0, .int .i64 0, .int .i64 0, .int .i64 0, .int .i64 0, .int .i64 0, .int .i64 0, .int .i64 0, .int .i64 0, .int .i64 0, .int .i64 0, .int .i64 0, .int .i64 0, .int .i64 0, .int .i64 0, .int .i64 0, .int .i64 0] 58 rfl rfl)
  go_enter Tryd.func30, Tryd.ntmps30
  go_upto_region 2 with (first
    | ((fail_if_success (have hq := gz)); ((with_reducible refine wpList_new_kn K 58 _ _ _ _ #[.int .i64 0, .int .i64 0, .int .i64 0, .int .i64 0, .int .i64 0, .int .i64 0, .int .i64 0, .int .i64 0, .int .i64 0, .int .i64 0, .int .i64 0, .int .i64 0, .int .i64 0, .int .i64 0, .int .i64 0, .int .i64 0, .int .i64 0, .int .i64 0, .int .i64 0, .int .i64 0, .int .i64 0, .int .i64 0, .int .i64 0, .int .i64 0, .int .i64 0, .int .i64 0, .int .i64 0, .int .i64 0] 28 rfl Tryd.alBg rfl ?_); intro gz wz Kz; clear K; have K := Kz; clear Kz; try (simp only [Act.put, List.setIfInBounds_toArray, List.set_cons_zero, List.set_cons_succ])))
    | ((with_reducible refine wpList_new_kn K 58 _ _ _ _ #[.int .i64 0, .int .i64 0, .int .i64 0, .int .i64 0, .int .i64 0, .int .i64 0, .int .i64 0, .int .i64 0, .int .i64 0, .int .i64 0, .int .i64 0, .int .i64 0, .int .i64 0, .int .i64 0, .int .i64 0, .int .i64 0, .int .i64 0, .int .i64 0, .int .i64 0, .int .i64 0, .int .i64 0, .int .i64 0, .int .i64 0, .int .i64 0, .int .i64 0, .int .i64 0, .int .i64 0, .int .i64 0] 28 rfl Tryd.alBg rfl ?_); intro gz8 wz Kz; clear K; have K := Kz; clear Kz; try (simp only [Act.put, List.setIfInBounds_toArray, List.set_cons_zero, List.set_cons_succ])))
  go_wp2_with (first
    | (focus ((with_reducible refine' wpList_store1_kn K rfl 3 _ _ rfl 1 _ _ 8 _ _ .i64 (p : Int) rfl rfl Tryd.iI _ p28_8 _); rotate_left 2; (focus exact rfl); intro wz Kz; clear K; have K := Kz; clear Kz; simp only [List.set_cons_zero, List.set_cons_succ] at K; rw [T1q.out, ← HVV.out] at K; try (simp only [Act.put, List.setIfInBounds_toArray, List.set_cons_zero, List.set_cons_succ]))))
  clear T1q 
  have ex : Hid (bg 0 = bg (rt V false 70 0)) := Lib.hid rfl
  obtain ⟨RS, hRS⟩ : ∃ RS : Array Value, RS = (#[.int .i64 0, .int .i64 0, .int .i64 0, .int .i64 0, .int .i64 0, .int .i64 0, .int .i64 0, .int .i64 0, .int .i64 0, .int .i64 0, .int .i64 0, .int .i64 0, .int .i64 0, .int .i64 0, .int .i64 0, .int .i64 0, .int .i64 0, .int .i64 0, .int .i64 0, .int .i64 0, .int .i64 0, .int .i64 0, .int .i64 0, .int .i64 0, .int .i64 0, .int .i64 0, .int .i64 0, .int .i64 0] : Array Value) := ⟨_, rfl⟩
  have HRS := Lib.hid hRS
  have sRS : Sz 28 RS := by rw [hRS]; exact szz
  have K0 : Kn w [⟨gz8, 28, bg (rt V false 70 0), 58⟩, ⟨gz, 28, bg V, 58⟩, ⟨w.heap.size, 28, RS, 58⟩] wz := by rw [← ex.out, ← E0, hRS]; exact K
  clear K ex hRS
  have K := K0
  clear K0
  clear HRS szz E0
  go_loopw [9] (fun iv wr => ∃ k : Nat, k ≤ 70 ∧ iv = .int .i64 (69 - (k : Int)) ∧ Kn w [⟨gz8, 28, bg (rt V false 70 k), 58⟩, ⟨gz, 28, bg V, 58⟩, ⟨w.heap.size, 28, RS, 58⟩] wr) (fun iv _ => (intOf iv + 1).toNat)
  case atStart => exact ⟨0, by omega, by simp, K⟩
  case round =>
    clear K
    obtain ⟨k, hk, rfl, K⟩ := hrel
    by_cases hc : k < 70
    · as_aux_lemma =>
      obtain ⟨X, hX⟩ : ∃ X, X = rt V false 70 k := ⟨_, rfl⟩
      obtain ⟨qq, hq1, hq2⟩ := rt_mul V false 70 k (by omega)
      have nx : rt V false 70 (k + 1) = rstep V false (rt V false 70 k) (70 - (k + 1)) := rfl
      rw [← hX] at K hq1 nx
      obtain ⟨i, hi⟩ : ∃ i, i = 70 - (k + 1) := ⟨_, rfl⟩
      rw [← hi] at nx
      obtain ⟨m, hm⟩ : ∃ m, m = i / 16 := ⟨_, rfl⟩
      obtain ⟨t, ht⟩ : ∃ t, t = i % 16 := ⟨_, rfl⟩
      have hit : i = 16 * m + t := by omega
      have t16 : t < 16 := by omega
      have m28 : m < 28 := by omega
      have room := room16 X m t qq t16 (by rw [hq1]; congr 2; omega)
      have yl := y_lt X k i 70 qq hq1 hq2 hi hc (by decide)
      have hset := set_bit X m t room m28
      rw [← hit] at hset
      have ei : (69 : Int) - (k : Int) = (i : Int) := by omega
      have d1 : (i : Int).tdiv 16 = (m : Int) := by rw [Int.tdiv_eq_ediv_of_nonneg (by omega)]; omega
      have d2 : (i : Int).tmod 16 = (t : Int) := by rw [Int.tmod_eq_emod_of_nonneg (by omega)]; omega
      have cX := bg_cell X m m28
      have ps : (2 : Nat) ^ t < 65536 := by have := Nat.pow_lt_pow_right (a := 2) (by decide) t16; omega
      obtain ⟨sh, hsh⟩ : ∃ sh, sh = 2 ^ t := ⟨_, rfl⟩
      rw [← hsh] at room hset ps
      have shi : (1 : Int) * 2 ^ t = (sh : Int) := by rw [hsh]; simp
      have shi2 : (2 : Int) ^ t = (sh : Int) := by rw [hsh]; simp
      have b1 : -9223372036854775808 ≤ (sh : Int) ∧ (sh : Int) ≤ 9223372036854775807 := by omega
      obtain ⟨d, hd⟩ : ∃ d, d = dig 65536 X m := ⟨_, rfl⟩
      rw [← hd] at room hset cX
      have b2 : -9223372036854775808 ≤ (d : Int) + (sh : Int) ∧ (d : Int) + (sh : Int) ≤ 9223372036854775807 := by omega
      have ed : (d : Int) + (sh : Int) = ((d + sh : Nat) : Int) := by omega
      obtain ⟨ds, hds⟩ : ∃ ds, ds = d + sh := ⟨_, rfl⟩
      rw [← hds] at ed hset
      have w1 : IntKind.i64.wrap (sh : Int) = (sh : Int) := IntWalk.i64_in _ b1
      have w2 : IntKind.i64.wrap ((d : Int) + (sh : Int)) = (ds : Int) := (IntWalk.i64_in _ b2).trans ed
      have w3 : wrap64 (sh : Int) = (sh : Int) := IntWalk.wrap64_in _ b1
      have w4 : wrap64 ((d : Int) + (sh : Int)) = (ds : Int) := (IntWalk.wrap64_in _ b2).trans ed
      have i0 : (0 : Int) ≤ (i : Int) := by omega
      have m0 : (0 : Int) ≤ (m : Int) := by omega
      have m1 : (m : Int) < 28 := by omega
      have t0 : (0 : Int) ≤ (t : Int) := by omega
      have t1 : (t : Int) < 64 := by omega
      have bi : -9223372036854775808 ≤ (i : Int) - 1 ∧ (i : Int) - 1 ≤ 9223372036854775807 := by omega
      have w5 : IntKind.i64.wrap ((i : Int) - 1) = (i : Int) - 1 := IntWalk.i64_in _ bi
      have HSET := Lib.hid hset
      have sX := sz_bg X
      have sY := sz_bg (X + 2 ^ i)
      obtain ⟨Y, hY⟩ : ∃ Y, Y = X + 2 ^ i := ⟨_, rfl⟩
      rw [← hY] at HSET sY yl
      have TT := times_any Y Y yl yl
      have zl : Y * Y % M28 < M28 := Nat.mod_lt _ M28_pos
      obtain ⟨Z1, hZ1⟩ : ∃ Z1, Z1 = Y * Y % M28 := ⟨_, rfl⟩
      rw [← hZ1] at TT zl
      have sZ1 := sz_bg Z1
      have Z := Z1
      have LL := less_any V Z1 hVl zl
      have hst : rstep V false X i = if V < Z1 then X else Y := by rw [hZ1, hY]; rfl
      rw [hst] at nx
      have HNX := Lib.hid nx
      have HX := Lib.hid hX
      have HI := Lib.hid hi
      have HKC := Lib.hid hc
      rw [ei]
      clear nx hst hX hq1 hq2 hi hm ht hit room yl hset hsh hd hds b1 b2 bi ed hY hZ1 zl ps hc hk ei 
      by_cases hlt : V < Z1
      · rw [if_pos hlt] at HNX
        rw [decide_eq_true hlt] at LL
        have HLT := Lib.hid hlt
        clear hlt
        go_wp2_with (first
            | (focus (first | ((with_reducible refine' wpList_load_kn K rfl 58 (.tmp 8) rfl 0 _ _ _ _ rfl _ Tryd.underlying58 rfl Tryd.szBg _ _); rotate_left 2; (focus exact rfl))))
            | (focus ((first | ((with_reducible refine' wpList_store_kn K rfl 58 (.tmp 10) _ rfl 0 _ _ _ _ _ rfl rfl Tryd.szBg _ _ _); rotate_left 2; (focus exact rfl))); (focus assumption); intro wz Kz; clear K; have K := Kz; clear Kz; simp only [List.set_cons_zero, List.set_cons_succ] at K; try (simp only [Act.put, List.setIfInBounds_toArray, List.set_cons_zero, List.set_cons_succ])))
            | ((with_reducible refine wpList_new_kn K 58 _ _ _ _ #[.int .i64 0, .int .i64 0, .int .i64 0, .int .i64 0, .int .i64 0, .int .i64 0, .int .i64 0, .int .i64 0, .int .i64 0, .int .i64 0, .int .i64 0, .int .i64 0, .int .i64 0, .int .i64 0, .int .i64 0, .int .i64 0, .int .i64 0, .int .i64 0, .int .i64 0, .int .i64 0, .int .i64 0, .int .i64 0, .int .i64 0, .int .i64 0, .int .i64 0, .int .i64 0, .int .i64 0, .int .i64 0] 28 rfl Tryd.alBg rfl ?_); intro gz wz Kz; clear K; have K := Kz; clear Kz; try (simp only [Act.put, List.setIfInBounds_toArray, List.set_cons_zero, List.set_cons_succ])))
        refine wp_region_kn_tail K 11 [] (by kernel_rfl) (by kernel_rfl) mk_nil sz_nil ?_
        apply Exists.intro
        refine ⟨?wk10, ?fin10⟩
        case wk10 =>
          intro γ
          have cx := fun y : Wg γ => K.cellg y 0 rfl m cX
          simp only [List.take_succ_cons, List.take_zero]
          repeat (any_goals (first | go_big_quiet_step (fail) | quiet_step (fail)))
          exact wpQuiet_nil rfl
        case fin10 =>
          intro gs wz Kz
          clear K
          have K := Kz
          clear Kz
          try simp only [mkAll, asObj, List.map_cons, List.map_nil, putAll, List.drop_succ_cons, List.drop_zero, List.length_cons, List.length_nil, Nat.zero_add, Nat.add_zero] at K ⊢
          try simp only [Act.put, List.setIfInBounds_toArray, List.set_cons_zero, List.set_cons_succ]

          go_wp2_with (first
            | (focus ((with_reducible refine' wpList_store1_kn K rfl 3 _ _ rfl 0 _ _ m _ _ .i64 (ds : Int) rfl rfl Tryd.iI _ m28 _); rotate_left 2; (focus exact rfl); intro wz Kz; clear K; have K := Kz; clear Kz; simp only [List.set_cons_zero, List.set_cons_succ] at K; rw [HSET.out] at K; try (simp only [Act.put, List.setIfInBounds_toArray, List.set_cons_zero, List.set_cons_succ])))
            | (focus (first | ((with_reducible refine' wpList_load_kn K rfl 58 (.tmp 10) rfl 0 _ _ _ _ rfl _ Tryd.underlying58 rfl Tryd.szBg _ _); rotate_left 2; (focus exact rfl)) | ((with_reducible refine' wpList_load_kn K rfl 58 (.tmp 7) rfl 3 _ _ _ _ rfl _ Tryd.underlying58 rfl Tryd.szBg _ _); rotate_left 2; (focus exact rfl)) | ((with_reducible refine' wpList_load_kn K rfl 58 (.tmp 11) rfl 0 _ _ _ _ rfl _ Tryd.underlying58 rfl Tryd.szBg _ _); rotate_left 2; (focus exact rfl))))
            | (focus ((first | ((with_reducible refine' wpList_store_kn K rfl 58 (.tmp 11) _ rfl 0 _ _ _ _ _ rfl rfl Tryd.szBg _ _ _); rotate_left 2; (focus exact rfl))); (focus assumption); intro wz Kz; clear K; have K := Kz; clear Kz; simp only [List.set_cons_zero, List.set_cons_succ] at K; try (simp only [Act.put, List.setIfInBounds_toArray, List.set_cons_zero, List.set_cons_succ])))
            | ((with_reducible refine wpList_new_kn K 58 _ _ _ _ #[.int .i64 0, .int .i64 0, .int .i64 0, .int .i64 0, .int .i64 0, .int .i64 0, .int .i64 0, .int .i64 0, .int .i64 0, .int .i64 0, .int .i64 0, .int .i64 0, .int .i64 0, .int .i64 0, .int .i64 0, .int .i64 0, .int .i64 0, .int .i64 0, .int .i64 0, .int .i64 0, .int .i64 0, .int .i64 0, .int .i64 0, .int .i64 0, .int .i64 0, .int .i64 0, .int .i64 0, .int .i64 0] 28 rfl Tryd.alBg rfl ?_); intro gz wz Kz; clear K; have K := Kz; clear Kz; try (simp only [Act.put, List.setIfInBounds_toArray, List.set_cons_zero, List.set_cons_succ]))
            | (go_at_call 51; (with_reducible refine Calls.kn K (TT _) ?_); intro wz Kz; clear K; have K := Kz; clear Kz)
            | (go_at_call 52; (with_reducible refine Calls.kn K (LL _) ?_); intro wz Kz; clear K; have K := Kz; clear Kz))
          have K2 := K.drop2
          go_roundw
          case rel => exact ⟨k + 1, by have := HKC.out; omega, by have := HI.out; have := HKC.out; simp; omega, by rw [HNX.out]; exact K2⟩
          case measure => simp [intOf] <;> omega
      · rw [if_neg hlt] at HNX
        rw [decide_eq_false hlt] at LL
        have HLT := Lib.hid hlt
        clear hlt
        go_wp2_with (first
            | (focus (first | ((with_reducible refine' wpList_load_kn K rfl 58 (.tmp 8) rfl 0 _ _ _ _ rfl _ Tryd.underlying58 rfl Tryd.szBg _ _); rotate_left 2; (focus exact rfl))))
            | (focus ((first | ((with_reducible refine' wpList_store_kn K rfl 58 (.tmp 10) _ rfl 0 _ _ _ _ _ rfl rfl Tryd.szBg _ _ _); rotate_left 2; (focus exact rfl))); (focus assumption); intro wz Kz; clear K; have K := Kz; clear Kz; simp only [List.set_cons_zero, List.set_cons_succ] at K; try (simp only [Act.put, List.setIfInBounds_toArray, List.set_cons_zero, List.set_cons_succ])))
            | ((with_reducible refine wpList_new_kn K 58 _ _ _ _ #[.int .i64 0, .int .i64 0, .int .i64 0, .int .i64 0, .int .i64 0, .int .i64 0, .int .i64 0, .int .i64 0, .int .i64 0, .int .i64 0, .int .i64 0, .int .i64 0, .int .i64 0, .int .i64 0, .int .i64 0, .int .i64 0, .int .i64 0, .int .i64 0, .int .i64 0, .int .i64 0, .int .i64 0, .int .i64 0, .int .i64 0, .int .i64 0, .int .i64 0, .int .i64 0, .int .i64 0, .int .i64 0] 28 rfl Tryd.alBg rfl ?_); intro gz wz Kz; clear K; have K := Kz; clear Kz; try (simp only [Act.put, List.setIfInBounds_toArray, List.set_cons_zero, List.set_cons_succ])))
        refine wp_region_kn_tail K 11 [] (by kernel_rfl) (by kernel_rfl) mk_nil sz_nil ?_
        apply Exists.intro
        refine ⟨?wk10, ?fin10⟩
        case wk10 =>
          intro γ
          have cx := fun y : Wg γ => K.cellg y 0 rfl m cX
          simp only [List.take_succ_cons, List.take_zero]
          repeat (any_goals (first | go_big_quiet_step (fail) | quiet_step (fail)))
          exact wpQuiet_nil rfl
        case fin10 =>
          intro gs wz Kz
          clear K
          have K := Kz
          clear Kz
          try simp only [mkAll, asObj, List.map_cons, List.map_nil, putAll, List.drop_succ_cons, List.drop_zero, List.length_cons, List.length_nil, Nat.zero_add, Nat.add_zero] at K ⊢
          try simp only [Act.put, List.setIfInBounds_toArray, List.set_cons_zero, List.set_cons_succ]

          go_wp2_with (first
            | (focus ((with_reducible refine' wpList_store1_kn K rfl 3 _ _ rfl 0 _ _ m _ _ .i64 (ds : Int) rfl rfl Tryd.iI _ m28 _); rotate_left 2; (focus exact rfl); intro wz Kz; clear K; have K := Kz; clear Kz; simp only [List.set_cons_zero, List.set_cons_succ] at K; rw [HSET.out] at K; try (simp only [Act.put, List.setIfInBounds_toArray, List.set_cons_zero, List.set_cons_succ])))
            | (focus (first | ((with_reducible refine' wpList_load_kn K rfl 58 (.tmp 10) rfl 0 _ _ _ _ rfl _ Tryd.underlying58 rfl Tryd.szBg _ _); rotate_left 2; (focus exact rfl)) | ((with_reducible refine' wpList_load_kn K rfl 58 (.tmp 7) rfl 3 _ _ _ _ rfl _ Tryd.underlying58 rfl Tryd.szBg _ _); rotate_left 2; (focus exact rfl)) | ((with_reducible refine' wpList_load_kn K rfl 58 (.tmp 11) rfl 0 _ _ _ _ rfl _ Tryd.underlying58 rfl Tryd.szBg _ _); rotate_left 2; (focus exact rfl)) | ((with_reducible refine' wpList_load_kn K rfl 58 (.tmp 10) rfl 1 _ _ _ _ rfl _ Tryd.underlying58 rfl Tryd.szBg _ _); rotate_left 2; (focus exact rfl))))
            | (focus ((first | ((with_reducible refine' wpList_store_kn K rfl 58 (.tmp 11) _ rfl 0 _ _ _ _ _ rfl rfl Tryd.szBg _ _ _); rotate_left 2; (focus exact rfl)) | ((with_reducible refine' wpList_store_kn K rfl 58 (.tmp 8) _ rfl 2 _ _ _ _ _ rfl rfl Tryd.szBg _ _ _); rotate_left 2; (focus exact rfl))); (focus assumption); intro wz Kz; clear K; have K := Kz; clear Kz; simp only [List.set_cons_zero, List.set_cons_succ] at K; try (simp only [Act.put, List.setIfInBounds_toArray, List.set_cons_zero, List.set_cons_succ])))
            | ((with_reducible refine wpList_new_kn K 58 _ _ _ _ #[.int .i64 0, .int .i64 0, .int .i64 0, .int .i64 0, .int .i64 0, .int .i64 0, .int .i64 0, .int .i64 0, .int .i64 0, .int .i64 0, .int .i64 0, .int .i64 0, .int .i64 0, .int .i64 0, .int .i64 0, .int .i64 0, .int .i64 0, .int .i64 0, .int .i64 0, .int .i64 0, .int .i64 0, .int .i64 0, .int .i64 0, .int .i64 0, .int .i64 0, .int .i64 0, .int .i64 0, .int .i64 0] 28 rfl Tryd.alBg rfl ?_); intro gz wz Kz; clear K; have K := Kz; clear Kz; try (simp only [Act.put, List.setIfInBounds_toArray, List.set_cons_zero, List.set_cons_succ]))
            | (go_at_call 51; (with_reducible refine Calls.kn K (TT _) ?_); intro wz Kz; clear K; have K := Kz; clear Kz)
            | (go_at_call 52; (with_reducible refine Calls.kn K (LL _) ?_); intro wz Kz; clear K; have K := Kz; clear Kz))
          have K2 := K.drop2
          go_roundw
          case rel => exact ⟨k + 1, by have := HKC.out; omega, by have := HI.out; have := HKC.out; simp; omega, by rw [HNX.out]; exact K2⟩
          case measure => simp [intOf] <;> omega
    · as_aux_lemma =>
      obtain rfl : k = 70 := by omega
      rw [show (69 : Int) - ((70 : Nat) : Int) = -1 from rfl]
      have sP := sz_bg (rt V false 70 70)
      obtain ⟨X, hX⟩ : ∃ X, X = rt V false 70 70 := ⟨_, rfl⟩
      rw [← hX] at K sP
      have HX := Lib.hid hX
      clear hX hVl hc hk
      go_wp2_with (first
          | (focus (first | ((with_reducible refine' wpList_load_kn K rfl 58 (.tmp 8) rfl 0 _ _ _ _ rfl _ Tryd.underlying58 rfl Tryd.szBg _ _); rotate_left 2; (focus exact rfl))))
          | (focus ((first | ((with_reducible refine' wpList_store_kn K rfl 58 (.tmp 6) _ rfl 2 _ _ _ _ _ rfl rfl Tryd.szBg _ _ _); rotate_left 2; (focus exact rfl))); (focus assumption); intro wz Kz; clear K; have K := Kz; clear Kz; simp only [List.set_cons_zero, List.set_cons_succ] at K; try (simp only [Act.put, List.setIfInBounds_toArray, List.set_cons_zero, List.set_cons_succ]))))
      refine bodyPost_ret (results_kn K rfl _ 2 _ _ _ _ rfl _ Tryd.underlying58 rfl Tryd.szBg rfl) rfl ?_
      exact ⟨by rw [HX.out, HVV.out], K.fr⟩
end Go.Proofs.YtmoepalhoaekgaaDoor
namespace Go.Proofs.YtmoepalhoaekgaaDoor
open Go.RowKit
set_option linter.unusedVariables false
set_option linter.unusedSimpArgs false

set_option maxRecDepth 100000 in
set_option maxHeartbeats 3200000 in
theorem prime_op (I : Nat) (hI : I < 80) (Q : Array Value) (w : World)
    (sQ : Sz 0 Q) :
    Calls Tryd.prog 31 #[.int .i64 (I : Int)] w fun e w' => e = .returned (.int .i64 (pt I : Int)) ∧ Fr (fun _ => False) w w' := by
  obtain ⟨f1, f2, f3, f4⟩ := pt_fact I hI
  have below := fun m (h : m < pt I) => pt_below I m hI h
  have K := (Kn.start w)
  go_enter Tryd.func31, Tryd.ntmps31
  go_wp2_with fail
  have HB := Lib.hid below
  have H1 := Lib.hid f1
  have H2 := Lib.hid f2
  clear below f1 f2
  obtain ⟨P, hP⟩ : ∃ P, P = pt I := ⟨_, rfl⟩
  rw [← hP] at f3 f4 HB H1 H2
  have HP := Lib.hid hP
  clear hP
  go_loopw [0, 3] (fun iv nv wr => ∃ m : Nat, 1 ≤ m ∧ m ≤ P ∧ nv = .int .i64 (m : Int) ∧ iv = .int .i64 ((I : Int) - (cnt2 m : Int)) ∧ Kn w [] wr) (fun _ nv _ => (410 - (intOf nv).toNat))
  case atStart => exact ⟨1, by omega, by omega, by simp, (by have h1 : cnt2 1 = 0 := (by decide +kernel); rw [h1]; simp), K⟩
  case round =>
    clear K
    obtain ⟨m, hm1, hm, rfl, rfl, K⟩ := hrel
    by_cases hc : m = P
    · have e := H1.out
      subst hc
      rw [e, show (I : Int) - ((I + 1 : Nat) : Int) = -1 by omega]
      clear e H1 H2 HB
      go_wp2_with fail
      go_ret
      exact ⟨by rw [HP.out]; rfl, K.fr⟩
    · have hb := HB.out m (by omega)
      have hge : (0 : Int) ≤ (I : Int) - (cnt2 m : Int) := by omega
      have hnx : cnt2 (m + 1) = cnt2 m + if 2 ≤ m + 1 ∧ whole (m + 1) = true then 1 else 0 := rfl
      have HNX := Lib.hid hnx
      obtain ⟨C, hC⟩ : ∃ C, C = cnt2 m := ⟨_, rfl⟩
      rw [← hC] at hb hge HNX ⊢
      obtain ⟨n, hn⟩ : ∃ n, n = m + 1 := ⟨_, rfl⟩
      have e1 : (m : Int) + 1 = (n : Int) := by omega
      have n2 : 2 ≤ n := by omega
      have n9 : n ≤ 409 := by omega
      have HC := Lib.hid hC
      have HN := Lib.hid hn
      have HMP := Lib.hid (show m + 1 ≤ P by omega)
      rw [← hn] at HNX
      clear hnx hC HB hn hc hm hm1
      go_wp2_with fail
      go_loopw [4, 5] (fun wv kv wr => ∃ k : Nat, 2 ≤ k ∧ k ≤ 21 ∧ (k - 1) * (k - 1) ≤ n ∧ kv = .int .i64 (k : Int) ∧ wv = .bool (wb n k) ∧ Kn w [] wr) (fun _ kv _ => (22 - (intOf kv).toNat))
      case atStart => exact ⟨2, by omega, by omega, by omega, by simp, by rw [wb_two], K⟩
      case round =>
        clear K
        obtain ⟨k, hk2, hk21, hkk, rfl, rfl, K⟩ := hrel
        obtain ⟨q, hq⟩ : ∃ q, q = k * k := ⟨_, rfl⟩
        have eq1 : (k : Int) * (k : Int) = (q : Int) := by rw [hq]; simp
        have qb : q ≤ 441 := by rw [hq]; exact Nat.mul_le_mul hk21 hk21
        have bq : -9223372036854775808 ≤ (q : Int) ∧ (q : Int) ≤ 9223372036854775807 := by omega
        have wq : IntKind.i64.wrap (q : Int) = (q : Int) := IntWalk.i64_in _ bq
        by_cases hle : q ≤ n
        · have hs := wb_succ n k hk2
          have HS := Lib.hid hs
          have k20 : k < 21 := by
            rcases Nat.lt_or_ge k 21 with h | h
            · exact h
            · have : 21 * 21 ≤ k * k := Nat.mul_le_mul h h
              omega
          have hkk2 : (k + 1 - 1) * (k + 1 - 1) ≤ n := by rw [Nat.add_sub_cancel, ← hq]; exact hle
          have hleI : (q : Int) ≤ (n : Int) := by omega
          have hk0 : ¬ (k : Int) = 0 := by omega
          have hk00 : ¬ k = 0 := by omega
          have hm0 : (n : Int).tmod (k : Int) = ((n % k : Nat) : Int) := by rw [Int.tmod_eq_emod_of_nonneg (by omega)]; simp
          have HKK := Lib.hid hkk2
          obtain ⟨r, hr⟩ : ∃ r, r = n % k := ⟨_, rfl⟩
          rw [← hr] at hm0 HS
          have hm1 : (n : Int) % (k : Int) = (r : Int) := by rw [hr]; simp
          have hne : ((r : Int) != 0) = (r != 0) := by
            rcases Nat.eq_zero_or_pos r with h | h
            · subst h; rfl
            · rw [bne_iff_ne.2 (show r ≠ 0 by omega), bne_iff_ne.2 (show (r : Int) ≠ 0 by omega)]
          cases hw : wb n k with
          | true =>
            rw [hw, Bool.true_and] at HS
            clear hs hkk2 hr hq hw
            go_wp2_with fail
            go_roundw
            case rel => exact ⟨k + 1, by omega, by omega, HKK.out, by simp, by rw [HS.out, ← hne], K⟩
            case measure => simp [intOf] <;> omega
          | false =>
            rw [hw, Bool.false_and] at HS
            clear hs hkk2 hr hq hw
            go_wp2_with fail
            go_roundw
            case rel => exact ⟨k + 1, by omega, by omega, HKK.out, by simp, by rw [HS.out], K⟩
            case measure => simp [intOf] <;> omega
        · have hw := wb_whole n k (by omega) hkk hk21
          have hleI : ¬ (q : Int) ≤ (n : Int) := by omega
          rw [hw]
          clear hw hq hkk
          cases hv : whole n with
          | true =>
            have e2 := HNX.out
            rw [if_pos ⟨n2, hv⟩] at e2
            have HE := Lib.hid e2
            have bc : -9223372036854775808 ≤ (I : Int) - (C : Int) - 1 ∧ (I : Int) - (C : Int) - 1 ≤ 9223372036854775807 := by omega
            have wc : IntKind.i64.wrap ((I : Int) - (C : Int) - 1) = (I : Int) - (C : Int) - 1 := IntWalk.i64_in _ bc
            clear e2 hv HNX
            go_wp2_with fail
            go_roundw
            case rel => exact ⟨n, by omega, by rw [HN.out]; exact HMP.out, by simp, by rw [HE.out]; first | (congr 1; omega) | simp, K⟩
            case measure => simp [intOf]; have := HN.out; omega
          | false =>
            have e2 := HNX.out
            rw [if_neg (fun h => by rw [hv] at h; cases h.2), Nat.add_zero] at e2
            have HE := Lib.hid e2
            clear e2 hv HNX
            go_wp2_with fail
            go_roundw
            case rel => exact ⟨n, by omega, by rw [HN.out]; exact HMP.out, by simp, by rw [HE.out], K⟩
            case measure => simp [intOf]; have := HN.out; omega
theorem prime_any (I : Nat) (hI : I < 80) : Ans Tryd.prog 31 #[.int .i64 (I : Int)] (.int .i64 (pt I : Int)) := fun W => prime_op I hI #[] W ⟨rfl, by simp⟩
end Go.Proofs.YtmoepalhoaekgaaDoor
namespace Go.Proofs.YtmoepalhoaekgaaDoor
open Go.RowKit
set_option linter.unusedVariables false
set_option linter.unusedSimpArgs false

theorem named (x : Nat) : ∃ R, R = x := ⟨x, rfl⟩
theorem Kn.drop1 {w0 w : World} {a : Bk} {L : List Bk} (K : Kn w0 (a :: L) w) : Kn w0 L w :=
  ⟨K.fr, fun i x h => K.blk (i + 1) x (by simpa using h), fun i j x y hi hj e => by
    have := K.two (i + 1) (j + 1) x y (by simpa using hi) (by simpa using hj) e
    omega⟩
theorem REnv.tabH8 {w : World} (h : REnv w) : ∀ j, j < 8 → w.cell? ⟨1, j, none⟩ = some (.int .i64 (swi S2.H0 j : Int)) := fun j hj => by
  obtain ⟨t, fr, hb⟩ := h.tabH
  rw [cell_of_block hb, iu_get 8 _ j hj]
theorem UEnv.tabH8 {w : World} (h : UEnv w) : ∀ j, j < 8 → w.cell? ⟨2, j, none⟩ = some (.int .u64 (sx5 S5.H0 j : Int)) := fun j hj => by
  obtain ⟨t, fr, hb⟩ := h.tabH
  rw [cell_of_block hb, ← stu_uv5, uv_get5 8 _ j hj]
set_option maxRecDepth 100000 in
theorem k1_fact : ∀ i, i < 64 → S2.K i = dig 65536 (rt (pt i * 65536 ^ 6) true 38 38) 0 + dig 65536 (rt (pt i * 65536 ^ 6) true 38 38) 1 * 65536 := by decide +kernel
set_option maxRecDepth 100000 in
theorem h1_fact : ∀ i, i < 8 → swi S2.H0 i = dig 65536 (rt (pt i * 65536 ^ 4) false 38 38) 0 + dig 65536 (rt (pt i * 65536 ^ 4) false 38 38) 1 * 65536 := by decide +kernel
/-- The lowest 64 bits of a number. -/
def low64 (R : Nat) : Nat := dig 65536 R 0 + dig 65536 R 1 * 65536 + dig 65536 R 2 * 4294967296 + dig 65536 R 3 * 281474976710656
set_option maxRecDepth 100000 in
theorem k2_fact : ∀ i, i < 80 → S5.K i = low64 (rt (pt i * 65536 ^ 12) true 70 70) := by decide +kernel
set_option maxRecDepth 100000 in
theorem h2_fact : ∀ i, i < 8 → sx5 S5.H0 i = low64 (rt (pt i * 65536 ^ 8) false 70 70) := by decide +kernel
theorem or_up (a b k : Nat) (ha : a < 2 ^ k) (hb : b * 2 ^ k < 18446744073709551616) (ha2 : a < 18446744073709551616) : bits .or .u64 (a : Int) ((b * 2 ^ k : Nat) : Int) = ((a + b * 2 ^ k : Nat) : Int) := by
  rw [(bits_u64_nat5 _ _ ha2 hb).1, Nat.or_comm, Nat.mul_comm, ← Nat.two_pow_add_eq_or_of_lt ha, Nat.add_comm]
set_option maxRecDepth 100000 in
set_option maxHeartbeats 3200000 in
theorem part_op (d0 d1 d2 d3 e1 e2 e3 f1 f2 f3 : Nat) (A : Array Value) (w : World)
    (a0 : A[0]? = some (.int .i64 (d0 : Int))) (l0 : d0 < 65536) (a1 : A[1]? = some (.int .i64 (d1 : Int))) (l1 : d1 < 65536) (a2 : A[2]? = some (.int .i64 (d2 : Int))) (l2 : d2 < 65536) (a3 : A[3]? = some (.int .i64 (d3 : Int))) (l3 : d3 < 65536) (m1 : (d1 : Int) * 65536 = (e1 : Int)) (n1 : e1 < 18446744073709551616) (m2 : (d2 : Int) * 4294967296 = (e2 : Int)) (n2 : e2 < 18446744073709551616) (m3 : (d3 : Int) * 281474976710656 = (e3 : Int)) (n3 : e3 < 18446744073709551616) (o1 : bits .or .u64 (d0 : Int) (e1 : Int) = (f1 : Int)) (o2 : bits .or .u64 (f1 : Int) (e2 : Int) = (f2 : Int)) (o3 : bits .or .u64 (f2 : Int) (e3 : Int) = (f3 : Int))
    (sA : Sz 28 A) :
    Calls Tryd.prog 38 #[.agg A] w fun e w' => e = .returned (.int .u64 (f3 : Int)) ∧ Fr (fun _ => False) w w' := by
  have q0 : (d0 : Int) % 18446744073709551616 = (d0 : Int) := by omega
  have q1 : (d1 : Int) % 18446744073709551616 = (d1 : Int) := by omega
  have q2 : (d2 : Int) % 18446744073709551616 = (d2 : Int) := by omega
  have q3 : (d3 : Int) % 18446744073709551616 = (d3 : Int) := by omega
  have r1 : (e1 : Int) % 18446744073709551616 = (e1 : Int) := by omega
  have r2 : (e2 : Int) % 18446744073709551616 = (e2 : Int) := by omega
  have r3 : (e3 : Int) % 18446744073709551616 = (e3 : Int) := by omega
  have K := ((Kn.start w).new (w.heap.size) 28 A 58 rfl sA.1)
  go_enter Tryd.func38, Tryd.ntmps38
  have c0 := K.cell 0 rfl 0 a0
  have c1 := K.cell 0 rfl 1 a1
  have c2 := K.cell 0 rfl 2 a2
  have c3 := K.cell 0 rfl 3 a3
  go_wp2_with fail
  go_ret
  exact ⟨rfl, K.fr⟩
theorem part_any (R : Nat) : Ans Tryd.prog 38 #[.agg (bg R)] (.int .u64 (low64 R : Int)) := fun W => by
  have l0 := dig_lt 65536 R 0 (by decide)
  have l1 := dig_lt 65536 R 1 (by decide)
  have l2 := dig_lt 65536 R 2 (by decide)
  have l3 := dig_lt 65536 R 3 (by decide)
  have o1 := or_up (dig 65536 R 0) (dig 65536 R 1) 16 l0 (by omega) (by omega)
  have o2 := or_up (dig 65536 R 0 + dig 65536 R 1 * 65536) (dig 65536 R 2) 32 (by omega) (by omega) (by omega)
  have o3 := or_up (dig 65536 R 0 + dig 65536 R 1 * 65536 + dig 65536 R 2 * 4294967296) (dig 65536 R 3) 48 (by omega) (by omega) (by omega)
  exact part_op _ _ _ _ (dig 65536 R 1 * 65536) (dig 65536 R 2 * 4294967296) (dig 65536 R 3 * 281474976710656) _ _ _ (bg R) W (bg_cell R 0 (by decide)) l0 (bg_cell R 1 (by decide)) l1 (bg_cell R 2 (by decide)) l2 (bg_cell R 3 (by decide)) l3 (by simp) (by omega) (by simp) (by omega) (by simp) (by omega) o1 o2 o3 (sz_bg R)
set_option maxRecDepth 100000 in
set_option maxHeartbeats 3200000 in
theorem right1_op (Q : Array Value) (w : World)
    (hE : REnv w)
    (sQ : Sz 0 Q) :
    Calls Tryd.prog 10 #[] w fun e w' => e = .returned (.bool true) ∧ Fr (fun _ => False) w w' := by
  have K := (Kn.start w)
  go_enter Tryd.func10, Tryd.ntmps10
  go_wp2_with fail
  go_loopw [1] (fun iv wr => ∃ i : Nat, i ≤ 64 ∧ iv = .int .i64 (i : Int) ∧ Kn w [] wr) (fun iv _ => (64 - (intOf iv).toNat))
  case atStart => exact ⟨0, by omega, by simp, K⟩
  case round =>
    clear K
    obtain ⟨i, hi0, rfl, K⟩ := hrel
    by_cases hi : i < 64
    · as_aux_lemma =>
      have PP := prime_any i (by omega)
      obtain ⟨_, _, _, p4⟩ := pt_fact i (by omega)
      have RR : Ans Tryd.prog 30 #[.int .i64 (pt i : Int), .bool true, .int .i64 32] (.agg (bg (rt (pt i * 65536 ^ 6) true 38 38))) := fun W => root_32c (pt i) (by omega) #[] W ⟨rfl, by simp⟩
      have hkf := k1_fact i hi
      obtain ⟨p, hp⟩ : ∃ p, p = pt i := ⟨_, rfl⟩
      rw [← hp] at PP RR hkf
      obtain ⟨R, hR⟩ := named (rt (p * 65536 ^ 6) true 38 38)
      rw [← hR] at RR hkf
      have sR := sz_bg R
      have b0 := bg_cell R 0 (by decide)
      have b1 := bg_cell R 1 (by decide)
      have l0 := dig_lt 65536 R 0 (by decide)
      have l1 := dig_lt 65536 R 1 (by decide)
      obtain ⟨d0, hd0⟩ : ∃ d, d = dig 65536 R 0 := ⟨_, rfl⟩
      obtain ⟨d1, hd1⟩ : ∃ d, d = dig 65536 R 1 := ⟨_, rfl⟩
      rw [← hd0] at b0 l0 hkf
      rw [← hd1] at b1 l1 hkf
      obtain ⟨kv, hkv⟩ : ∃ kv, kv = S2.K i := ⟨_, rfl⟩
      rw [← hkv] at hkf
      have m1 : (d1 : Int) * 65536 = ((d1 * 65536 : Nat) : Int) := by simp
      obtain ⟨e1, he1⟩ : ∃ e, e = d1 * 65536 := ⟨_, rfl⟩
      rw [← he1] at m1 hkf
      have bb1 : -9223372036854775808 ≤ (e1 : Int) ∧ (e1 : Int) ≤ 9223372036854775807 := by omega
      have bb2 : -9223372036854775808 ≤ (d0 : Int) + (e1 : Int) ∧ (d0 : Int) + (e1 : Int) ≤ 9223372036854775807 := by omega
      have es : (d0 : Int) + (e1 : Int) = (kv : Int) := by omega
      have v1 : IntKind.i64.wrap (e1 : Int) = (e1 : Int) := IntWalk.i64_in _ bb1
      have v2 : IntKind.i64.wrap ((d0 : Int) + (e1 : Int)) = (kv : Int) := (IntWalk.i64_in _ bb2).trans es
      have u1 : wrap64 (e1 : Int) = (e1 : Int) := IntWalk.wrap64_in _ bb1
      have u2 : wrap64 ((d0 : Int) + (e1 : Int)) = (kv : Int) := (IntWalk.wrap64_in _ bb2).trans es
      have i0 : (0 : Int) ≤ (i : Int) := by omega
      have i1 : (i : Int) < 64 := by omega
      have HK := Lib.hid hkv
      clear hkf hR hp hd0 hd1 hkv he1 bb1 bb2 es p4 l0 l1
      go_wp2_with (first
          | (focus ((first | ((with_reducible refine' wpList_store_kn K rfl 58 (.tmp 2) _ rfl 0 _ _ _ _ _ rfl rfl Tryd.szBg _ _ _); rotate_left 2; (focus exact rfl))); (focus assumption); intro wz Kz; clear K; have K := Kz; clear Kz; simp only [List.set_cons_zero, List.set_cons_succ] at K; try (simp only [Act.put, List.setIfInBounds_toArray, List.set_cons_zero, List.set_cons_succ])))
          | ((with_reducible refine wpList_new_kn K 58 _ _ _ _ #[.int .i64 0, .int .i64 0, .int .i64 0, .int .i64 0, .int .i64 0, .int .i64 0, .int .i64 0, .int .i64 0, .int .i64 0, .int .i64 0, .int .i64 0, .int .i64 0, .int .i64 0, .int .i64 0, .int .i64 0, .int .i64 0, .int .i64 0, .int .i64 0, .int .i64 0, .int .i64 0, .int .i64 0, .int .i64 0, .int .i64 0, .int .i64 0, .int .i64 0, .int .i64 0, .int .i64 0, .int .i64 0] 28 rfl Tryd.alBg rfl ?_); intro gz wz Kz; clear K; have K := Kz; clear Kz; try (simp only [Act.put, List.setIfInBounds_toArray, List.set_cons_zero, List.set_cons_succ]))
          | (go_at_call 31; (with_reducible refine Calls.kn K (PP _) ?_); intro wz Kz; clear K; have K := Kz; clear Kz)
          | (go_at_call 30; (with_reducible refine Calls.kn K (RR _) ?_); intro wz Kz; clear K; have K := Kz; clear Kz))
      have cK := fun y : Wd wz => ((hE.fr K.fr (fun h => h) (fun h => h)).fr y.h (fun h => h) (fun h => h)).tabK i hi
      rw [← HK.out] at cK
      have c0 := fun y : Wd wz => K.celld y 0 rfl 0 b0
      have c1 := fun y : Wd wz => K.celld y 0 rfl 1 b1
      refine wp_region_keep (by kernel_rfl) (by kernel_rfl) ?_

      repeat (any_goals (first | go_big_quiet_step (fail) | quiet_step (fail)))
      refine wpQuiet_nil ?_
      intro _ hwz
      obtain ⟨y, rfl⟩ := hwz
      have Kz := K.call y.h
      clear K cK c0 c1
      have K := Kz
      clear Kz
      generalize y.w = wz at K ⊢
      clear y
      go_wp2_with fail
      have K1 := K.drop1
      go_roundw
      case rel => exact ⟨i + 1, by omega, by simp, K1⟩
      case measure => simp [intOf] <;> omega
    · obtain rfl : i = 64 := by omega
      have ht : ¬ ((64 : Nat) : Int) < 64 := by omega
      go_wp2_with fail
      go_loopw [3] (fun iv wr => ∃ i : Nat, i ≤ 8 ∧ iv = .int .i64 (i : Int) ∧ Kn w [] wr) (fun iv _ => (8 - (intOf iv).toNat))
      case atStart => exact ⟨0, by omega, by simp, K⟩
      case round =>
        clear K
        obtain ⟨i, hi0, rfl, K⟩ := hrel
        by_cases hi : i < 8
        · as_aux_lemma =>
          have PP := prime_any i (by omega)
          obtain ⟨_, _, _, p4⟩ := pt_fact i (by omega)
          have RR : Ans Tryd.prog 30 #[.int .i64 (pt i : Int), .bool false, .int .i64 32] (.agg (bg (rt (pt i * 65536 ^ 4) false 38 38))) := fun W => root_32s (pt i) (by omega) #[] W ⟨rfl, by simp⟩
          have hkf := h1_fact i hi
          obtain ⟨p, hp⟩ : ∃ p, p = pt i := ⟨_, rfl⟩
          rw [← hp] at PP RR hkf
          obtain ⟨R, hR⟩ := named (rt (p * 65536 ^ 4) false 38 38)
          rw [← hR] at RR hkf
          have sR := sz_bg R
          have b0 := bg_cell R 0 (by decide)
          have b1 := bg_cell R 1 (by decide)
          have l0 := dig_lt 65536 R 0 (by decide)
          have l1 := dig_lt 65536 R 1 (by decide)
          obtain ⟨d0, hd0⟩ : ∃ d, d = dig 65536 R 0 := ⟨_, rfl⟩
          obtain ⟨d1, hd1⟩ : ∃ d, d = dig 65536 R 1 := ⟨_, rfl⟩
          rw [← hd0] at b0 l0 hkf
          rw [← hd1] at b1 l1 hkf
          obtain ⟨kv, hkv⟩ : ∃ kv, kv = swi S2.H0 i := ⟨_, rfl⟩
          rw [← hkv] at hkf
          have m1 : (d1 : Int) * 65536 = ((d1 * 65536 : Nat) : Int) := by simp
          obtain ⟨e1, he1⟩ : ∃ e, e = d1 * 65536 := ⟨_, rfl⟩
          rw [← he1] at m1 hkf
          have bb1 : -9223372036854775808 ≤ (e1 : Int) ∧ (e1 : Int) ≤ 9223372036854775807 := by omega
          have bb2 : -9223372036854775808 ≤ (d0 : Int) + (e1 : Int) ∧ (d0 : Int) + (e1 : Int) ≤ 9223372036854775807 := by omega
          have es : (d0 : Int) + (e1 : Int) = (kv : Int) := by omega
          have v1 : IntKind.i64.wrap (e1 : Int) = (e1 : Int) := IntWalk.i64_in _ bb1
          have v2 : IntKind.i64.wrap ((d0 : Int) + (e1 : Int)) = (kv : Int) := (IntWalk.i64_in _ bb2).trans es
          have u1 : wrap64 (e1 : Int) = (e1 : Int) := IntWalk.wrap64_in _ bb1
          have u2 : wrap64 ((d0 : Int) + (e1 : Int)) = (kv : Int) := (IntWalk.wrap64_in _ bb2).trans es
          have i0 : (0 : Int) ≤ (i : Int) := by omega
          have i1 : (i : Int) < 8 := by omega
          have HK := Lib.hid hkv
          clear hkf hR hp hd0 hd1 hkv he1 bb1 bb2 es p4 l0 l1
          go_wp2_with (first
              | (focus ((first | ((with_reducible refine' wpList_store_kn K rfl 58 (.tmp 4) _ rfl 0 _ _ _ _ _ rfl rfl Tryd.szBg _ _ _); rotate_left 2; (focus exact rfl))); (focus assumption); intro wz Kz; clear K; have K := Kz; clear Kz; simp only [List.set_cons_zero, List.set_cons_succ] at K; try (simp only [Act.put, List.setIfInBounds_toArray, List.set_cons_zero, List.set_cons_succ])))
              | ((with_reducible refine wpList_new_kn K 58 _ _ _ _ #[.int .i64 0, .int .i64 0, .int .i64 0, .int .i64 0, .int .i64 0, .int .i64 0, .int .i64 0, .int .i64 0, .int .i64 0, .int .i64 0, .int .i64 0, .int .i64 0, .int .i64 0, .int .i64 0, .int .i64 0, .int .i64 0, .int .i64 0, .int .i64 0, .int .i64 0, .int .i64 0, .int .i64 0, .int .i64 0, .int .i64 0, .int .i64 0, .int .i64 0, .int .i64 0, .int .i64 0, .int .i64 0] 28 rfl Tryd.alBg rfl ?_); intro gz wz Kz; clear K; have K := Kz; clear Kz; try (simp only [Act.put, List.setIfInBounds_toArray, List.set_cons_zero, List.set_cons_succ]))
              | (go_at_call 31; (with_reducible refine Calls.kn K (PP _) ?_); intro wz Kz; clear K; have K := Kz; clear Kz)
              | (go_at_call 30; (with_reducible refine Calls.kn K (RR _) ?_); intro wz Kz; clear K; have K := Kz; clear Kz))
          have cK := fun y : Wd wz => ((hE.fr K.fr (fun h => h) (fun h => h)).fr y.h (fun h => h) (fun h => h)).tabH8 i hi
          rw [← HK.out] at cK
          have c0 := fun y : Wd wz => K.celld y 0 rfl 0 b0
          have c1 := fun y : Wd wz => K.celld y 0 rfl 1 b1
          refine wp_region_keep (by kernel_rfl) (by kernel_rfl) ?_

          repeat (any_goals (first | go_big_quiet_step (fail) | quiet_step (fail)))
          refine wpQuiet_nil ?_
          intro _ hwz
          obtain ⟨y, rfl⟩ := hwz
          have Kz := K.call y.h
          clear K cK c0 c1
          have K := Kz
          clear Kz
          generalize y.w = wz at K ⊢
          clear y
          go_wp2_with fail
          have K1 := K.drop1
          go_roundw
          case rel => exact ⟨i + 1, by omega, by simp, K1⟩
          case measure => simp [intOf] <;> omega
        · obtain rfl : i = 8 := by omega
          have ht : ¬ ((8 : Nat) : Int) < 8 := by omega
          go_wp2_with fail
          go_ret
          exact ⟨rfl, K.fr⟩
set_option maxRecDepth 100000 in
set_option maxHeartbeats 3200000 in
theorem right2_op (Q : Array Value) (w : World)
    (hE : UEnv w)
    (sQ : Sz 0 Q) :
    Calls Tryd.prog 17 #[] w fun e w' => e = .returned (.bool true) ∧ Fr (fun _ => False) w w' := by
  have K := (Kn.start w)
  go_enter Tryd.func17, Tryd.ntmps17
  go_wp2_with fail
  go_loopw [1] (fun iv wr => ∃ i : Nat, i ≤ 80 ∧ iv = .int .i64 (i : Int) ∧ Kn w [] wr) (fun iv _ => (80 - (intOf iv).toNat))
  case atStart => exact ⟨0, by omega, by simp, K⟩
  case round =>
    clear K
    obtain ⟨i, hi0, rfl, K⟩ := hrel
    by_cases hi : i < 80
    · as_aux_lemma =>
      have PP := prime_any i (by omega)
      obtain ⟨_, _, _, p4⟩ := pt_fact i (by omega)
      have RR : Ans Tryd.prog 30 #[.int .i64 (pt i : Int), .bool true, .int .i64 64] (.agg (bg (rt (pt i * 65536 ^ 12) true 70 70))) := fun W => root_64c (pt i) (by omega) #[] W ⟨rfl, by simp⟩
      have PA := part_any (rt (pt i * 65536 ^ 12) true 70 70)
      rw [← k2_fact i hi] at PA
      obtain ⟨p, hp⟩ : ∃ p, p = pt i := ⟨_, rfl⟩
      rw [← hp] at PP RR PA
      obtain ⟨R, hR⟩ := named (rt (p * 65536 ^ 12) true 70 70)
      rw [← hR] at RR PA
      have i0 : (0 : Int) ≤ (i : Int) := by omega
      have i1 : (i : Int) < 80 := by omega
      have cK := fun y : Wd wr => ((hE.fr K.fr (fun h => h) (fun h => h)).fr y.h (fun h => h) (fun h => h)).tabK i hi
      obtain ⟨kv, hkv⟩ : ∃ kv, kv = S5.K i := ⟨_, rfl⟩
      rw [← hkv] at PA cK
      clear hR hp hkv p4
      go_wp2_with fail
      refine wp_region_keep (by kernel_rfl) (by kernel_rfl) ?_

      repeat (any_goals (first | go_big_quiet_step ((first | (go_at_call 31; with_reducible exact Calls.keep (PP _)) | (go_at_call 30; with_reducible exact Calls.keep (RR _)) | (go_at_call 38; with_reducible exact Calls.keep (PA _)))) | quiet_step ((first | (go_at_call 31; with_reducible exact Calls.keep (PP _)) | (go_at_call 30; with_reducible exact Calls.keep (RR _)) | (go_at_call 38; with_reducible exact Calls.keep (PA _))))))
      refine wpQuiet_nil ?_
      intro _ hwz
      obtain ⟨y, rfl⟩ := hwz
      have Kz := K.call y.h
      clear K cK
      have K := Kz
      clear Kz
      generalize y.w = wz at K ⊢
      clear y
      go_wp2_with fail
      go_roundw
      case rel => exact ⟨i + 1, by omega, by simp, K⟩
      case measure => simp [intOf] <;> omega
    · obtain rfl : i = 80 := by omega
      have ht : ¬ ((80 : Nat) : Int) < 80 := by omega
      go_wp2_with fail
      go_loopw [2] (fun iv wr => ∃ i : Nat, i ≤ 8 ∧ iv = .int .i64 (i : Int) ∧ Kn w [] wr) (fun iv _ => (8 - (intOf iv).toNat))
      case atStart => exact ⟨0, by omega, by simp, K⟩
      case round =>
        clear K
        obtain ⟨i, hi0, rfl, K⟩ := hrel
        by_cases hi : i < 8
        · as_aux_lemma =>
          have PP := prime_any i (by omega)
          obtain ⟨_, _, _, p4⟩ := pt_fact i (by omega)
          have RR : Ans Tryd.prog 30 #[.int .i64 (pt i : Int), .bool false, .int .i64 64] (.agg (bg (rt (pt i * 65536 ^ 8) false 70 70))) := fun W => root_64s (pt i) (by omega) #[] W ⟨rfl, by simp⟩
          have PA := part_any (rt (pt i * 65536 ^ 8) false 70 70)
          rw [← h2_fact i hi] at PA
          obtain ⟨p, hp⟩ : ∃ p, p = pt i := ⟨_, rfl⟩
          rw [← hp] at PP RR PA
          obtain ⟨R, hR⟩ := named (rt (p * 65536 ^ 8) false 70 70)
          rw [← hR] at RR PA
          have i0 : (0 : Int) ≤ (i : Int) := by omega
          have i1 : (i : Int) < 8 := by omega
          have cK := fun y : Wd wr => ((hE.fr K.fr (fun h => h) (fun h => h)).fr y.h (fun h => h) (fun h => h)).tabH8 i hi
          obtain ⟨kv, hkv⟩ : ∃ kv, kv = sx5 S5.H0 i := ⟨_, rfl⟩
          rw [← hkv] at PA cK
          clear hR hp hkv p4
          go_wp2_with fail
          refine wp_region_keep (by kernel_rfl) (by kernel_rfl) ?_

          repeat (any_goals (first | go_big_quiet_step ((first | (go_at_call 31; with_reducible exact Calls.keep (PP _)) | (go_at_call 30; with_reducible exact Calls.keep (RR _)) | (go_at_call 38; with_reducible exact Calls.keep (PA _)))) | quiet_step ((first | (go_at_call 31; with_reducible exact Calls.keep (PP _)) | (go_at_call 30; with_reducible exact Calls.keep (RR _)) | (go_at_call 38; with_reducible exact Calls.keep (PA _))))))
          refine wpQuiet_nil ?_
          intro _ hwz
          obtain ⟨y, rfl⟩ := hwz
          have Kz := K.call y.h
          clear K cK
          have K := Kz
          clear Kz
          generalize y.w = wz at K ⊢
          clear y
          go_wp2_with fail
          go_roundw
          case rel => exact ⟨i + 1, by omega, by simp, K⟩
          case measure => simp [intOf] <;> omega
        · obtain rfl : i = 8 := by omega
          have ht : ¬ ((8 : Nat) : Int) < 8 := by omega
          go_wp2_with fail
          go_ret
          exact ⟨rfl, K.fr⟩
end Go.Proofs.YtmoepalhoaekgaaDoor

/-
  Digits of a number to a base: sums and differences digit by digit. It speaks of no program.
  Plain facts on primes: a number one of whose powers run through all others is prime, and each number's power to it, less one, is one.
  Plain facts on the points of a curve -x^2 + y^2 = 1 + d x^2 y^2 over a ring where all but nought can be divided by, -1 has a root and -d has none: sums of points are points, in whatever order, and so often a point is so often that.
  Plain facts on the numbers modulo 2^255 - 19: all but nought can be divided by; the curve's number; which numbers have roots.
  Numbers in parts to a base that may be larger than the base: what they tell, and what one round of carrying makes of them. It speaks of no program.
  Plain facts on the curve over the numbers modulo 2^255 - 19: sums without a division; how many points there are: eight times the order, times any point, is nought.
-/
import Derived.KernelRfl
namespace Go.Proofs.Ytahnlnflcgehaaa

/-- Digit k of X to the base B. -/
def dig (B X k : Nat) : Nat := X / B ^ k % B
theorem dig_lt (B X k : Nat) (hB : 0 < B) : dig B X k < B := Nat.mod_lt _ hB
theorem dig_mod (B X k : Nat) : X % B ^ (k + 1) = X % B ^ k + B ^ k * dig B X k := Nat.mod_pow_succ
/-- What is carried behind k digits. -/
def cry (B X Y k : Nat) : Nat := (X % B ^ k + Y % B ^ k) / B ^ k
theorem cry_zero (B X Y : Nat) : cry B X Y 0 = 0 := by simp [cry, Nat.mod_one]
theorem cry_le (B X Y k : Nat) (hB : 0 < B) : cry B X Y k ≤ 1 := by
  have hp : 0 < B ^ k := Nat.pow_pos hB
  have h1 := Nat.mod_lt X hp
  have h2 := Nat.mod_lt Y hp
  unfold cry
  have : (X % B ^ k + Y % B ^ k) < 2 * B ^ k := by omega
  have := (Nat.div_lt_iff_lt_mul hp).2 this
  omega
theorem cry_succ (B X Y k : Nat) (hB : 0 < B) : cry B X Y (k + 1) = (dig B X k + dig B Y k + cry B X Y k) / B := by
  have hp : 0 < B ^ k := Nat.pow_pos hB
  unfold cry
  rw [dig_mod, dig_mod, Nat.pow_succ, ← Nat.div_div_eq_div_mul]
  congr 1
  rw [show X % B ^ k + B ^ k * dig B X k + (Y % B ^ k + B ^ k * dig B Y k) = (X % B ^ k + Y % B ^ k) + B ^ k * (dig B X k + dig B Y k) by rw [Nat.mul_add]; omega, Nat.add_mul_div_left _ _ hp, Nat.add_comm]
theorem dig_add (B X Y k : Nat) (hB : 0 < B) : dig B (X + Y) k = (dig B X k + dig B Y k + cry B X Y k) % B := by
  have hp : 0 < B ^ k := Nat.pow_pos hB
  have e : (X + Y) / B ^ k = cry B X Y k + (X / B ^ k + Y / B ^ k) := by
    have h1 := Nat.mod_add_div X (B ^ k)
    have h2 := Nat.mod_add_div Y (B ^ k)
    have : X + Y = (X % B ^ k + Y % B ^ k) + B ^ k * (X / B ^ k + Y / B ^ k) := by rw [Nat.mul_add]; omega
    rw [this, Nat.add_mul_div_left _ _ hp]
    rfl
  show (X + Y) / B ^ k % B = _
  rw [e]
  unfold dig
  rw [Nat.add_mod (X / B ^ k % B + Y / B ^ k % B), Nat.add_mod (X / B ^ k % B), Nat.mod_mod, Nat.mod_mod, ← Nat.add_mod (X / B ^ k), ← Nat.add_mod, Nat.add_comm]
theorem cry_of_lt (B X Y n : Nat) (hX : X < B ^ n) (hY : Y < B ^ n) : cry B X Y n = (X + Y) / B ^ n := by
  unfold cry; rw [Nat.mod_eq_of_lt hX, Nat.mod_eq_of_lt hY]
theorem dig_of_mod (B X n k : Nat) (h : k < n) : dig B (X % B ^ n) k = dig B X k := by
  obtain ⟨m, rfl⟩ : ∃ m, n = k + 1 + m := ⟨n - (k + 1), by omega⟩
  unfold dig
  have e : ∀ z : Nat, z / B ^ k % B = z % B ^ (k + 1) / B ^ k := fun z => by rw [Nat.pow_succ, Nat.mod_mul_right_div_self]
  rw [e, e, Nat.mod_mod_of_dvd _ (Nat.pow_dvd_pow B (by omega))]
/-- Numbers below B ^ n with the same digits are the same. -/
theorem dig_ext (B n : Nat) : ∀ X Y, X < B ^ n → Y < B ^ n → (∀ k, k < n → dig B X k = dig B Y k) → X = Y := by
  intro X Y hX hY h
  have : ∀ k, k ≤ n → X % B ^ k = Y % B ^ k := by
    intro k
    induction k with
    | zero => intro _; simp [Nat.mod_one]
    | succ k ih => intro hk; rw [dig_mod, dig_mod, ih (by omega), h k (by omega)]
  have := this n (Nat.le_refl _)
  rwa [Nat.mod_eq_of_lt hX, Nat.mod_eq_of_lt hY] at this
/-- What a difference lacks behind k digits. -/
def lck (B X Y k : Nat) : Nat := if X % B ^ k < Y % B ^ k then 1 else 0
theorem lck_zero (B X Y : Nat) : lck B X Y 0 = 0 := by simp [lck, Nat.mod_one]
theorem lck_le (B X Y k : Nat) : lck B X Y k ≤ 1 := by unfold lck; split <;> omega
theorem lck_succ (B X Y k : Nat) (hB : 0 < B) : lck B X Y (k + 1) = if dig B X k < dig B Y k + lck B X Y k then 1 else 0 := by
  have hp : 0 < B ^ k := Nat.pow_pos hB
  have h1 := Nat.mod_lt X hp
  have h2 := Nat.mod_lt Y hp
  unfold lck
  rw [dig_mod, dig_mod]
  generalize X % B ^ k = x at *
  generalize Y % B ^ k = y at *
  generalize dig B X k = a
  generalize dig B Y k = b
  generalize B ^ k = P at *
  rcases Nat.lt_trichotomy a b with h | h | h
  · have : P * (a + 1) ≤ P * b := Nat.mul_le_mul_left P h
    rw [Nat.mul_add, Nat.mul_one] at this
    rw [if_pos (by omega)]
    split <;> (first | rw [if_pos (by omega)] | omega)
  · subst h
    by_cases hc : x < y
    · rw [if_pos hc, if_pos (by omega), if_pos (by omega)]
    · rw [if_neg hc, if_neg (by omega), if_neg (by omega)]
  · have : P * (b + 1) ≤ P * a := Nat.mul_le_mul_left P h
    rw [Nat.mul_add, Nat.mul_one] at this
    rw [if_neg (by omega)]
    split <;> (rw [if_neg (by omega)])
theorem dig_sub (B X Y n k : Nat) (hB : 0 < B) (hk : k < n) (hY : Y ≤ X + B ^ n) : dig B (X + B ^ n - Y) k = (dig B X k + 2 * B - dig B Y k - lck B X Y k) % B := by
  obtain ⟨Z, hZ⟩ : ∃ Z, Z = X + B ^ n - Y := ⟨_, rfl⟩
  have hs : Z + Y = X + B ^ n := by omega
  rw [← hZ]
  have hp : 0 < B ^ k := Nat.pow_pos hB
  have hd : B ^ (k + 1) ∣ B ^ n := Nat.pow_dvd_pow B (by omega)
  have hd0 : B ^ k ∣ B ^ n := Nat.pow_dvd_pow B (by omega)
  have e1 : dig B (Z + Y) k = dig B X k := by
    rw [hs]
    obtain ⟨m, hm⟩ := hd
    unfold dig
    rw [hm, Nat.pow_succ, Nat.mul_assoc, Nat.add_mul_div_left _ _ hp, Nat.add_mul_mod_self_left]
  have e2 : (Z + Y) % B ^ k = X % B ^ k := by
    rw [hs]
    obtain ⟨m, hm⟩ := hd0
    rw [hm, Nat.add_mul_mod_self_left]
  have e3 : cry B Z Y k = lck B X Y k := by
    have h1 := Nat.mod_lt Z hp
    have h2 := Nat.mod_lt Y hp
    have h3 : (Z % B ^ k + Y % B ^ k) % B ^ k = X % B ^ k := by rw [← Nat.add_mod, e2]
    unfold cry lck
    generalize Z % B ^ k = z at *
    generalize Y % B ^ k = y at *
    by_cases hc : z + y < B ^ k
    · rw [Nat.mod_eq_of_lt hc] at h3
      rw [Nat.div_eq_of_lt hc, if_neg (by omega)]
    · have h4 : (z + y) % B ^ k = z + y - B ^ k := by
        rw [Nat.mod_eq_sub_mod (by omega), Nat.mod_eq_of_lt (by omega)]
      rw [h4] at h3
      rw [if_pos (by omega)]
      exact Nat.div_eq_of_lt_le (by omega) (by omega)
  have e4 := dig_add B Z Y k hB
  rw [e1, e3] at e4
  have l1 := lck_le B X Y k
  have d1 := dig_lt B Z k hB
  have d2 := dig_lt B Y k hB
  have d3 := dig_lt B X k hB
  rw [e4]
  generalize dig B Z k = z at *
  generalize dig B Y k = y at *
  generalize lck B X Y k = l at *
  by_cases hc : z + y + l < B
  · rw [Nat.mod_eq_of_lt hc, show z + y + l + 2 * B - y - l = z + B * 2 by omega, Nat.add_mul_mod_self_left, Nat.mod_eq_of_lt d1]
  · have hm : (z + y + l) % B = z + y + l - B := by rw [Nat.mod_eq_sub_mod (by omega), Nat.mod_eq_of_lt (by omega)]
    rw [hm, show z + y + l - B + 2 * B - y - l = z + B * 1 by omega, Nat.add_mul_mod_self_left, Nat.mod_eq_of_lt d1]
theorem lck_of_lt (B X Y n : Nat) (hX : X < B ^ n) (hY : Y < B ^ n) : lck B X Y n = if X < Y then 1 else 0 := by
  unfold lck; rw [Nat.mod_eq_of_lt hX, Nat.mod_eq_of_lt hY]
end Go.Proofs.Ytahnlnflcgehaaa
namespace Go.Proofs.Ytahnlnflcgehaaa.Pri

/-- a's n-th power, times acc, modulo p, by squares. -/
def pwm (p : Nat) : Nat → Nat → Nat → Nat → Nat
  | 0, _, _, acc => acc
  | f + 1, a, n, acc => if n = 0 then acc else pwm p f (a * a % p) (n / 2) (if n % 2 = 1 then acc * a % p else acc)

theorem pow_mod_mul (p a n : Nat) : (a % p) ^ n % p = a ^ n % p := by rw [← Nat.pow_mod]

theorem pwm_eq (p : Nat) : ∀ (f a n acc : Nat), n < 2 ^ f → pwm p f a n acc % p = acc * a ^ n % p
  | 0, a, n, acc, h => by
    have : n = 0 := by simpa using h
    subst this; simp [pwm]
  | f + 1, a, n, acc, h => by
    unfold pwm
    by_cases h0 : n = 0
    · rw [if_pos h0]; subst h0; simp
    · rw [if_neg h0, pwm_eq p f _ _ _ (by rw [Nat.pow_succ] at h; omega)]
      have hn : n = 2 * (n / 2) + n % 2 := by omega
      have e1 : (a * a % p) ^ (n / 2) % p = a ^ (2 * (n / 2)) % p := by
        rw [pow_mod_mul, ← Nat.pow_two, ← Nat.pow_mul]
      by_cases h1 : n % 2 = 1
      · rw [if_pos h1]
        conv => rhs; rw [hn, h1, Nat.pow_succ, Nat.mul_comm (a ^ _) a, ← Nat.mul_assoc]
        rw [Nat.mul_mod, e1, Nat.mod_mod, ← Nat.mul_mod]
      · rw [if_neg h1]
        have h2 : n % 2 = 0 := by omega
        conv => rhs; rw [hn, h2, Nat.add_zero]
        rw [Nat.mul_mod, e1, ← Nat.mul_mod]

def Pr (n : Nat) : Prop := 2 ≤ n ∧ ∀ m, m ∣ n → m = 1 ∨ m = n

/-- A power that is one. -/
def One (p g n : Nat) : Prop := g ^ n % p = 1 % p

theorem One.mul {p g a : Nat} (h : One p g a) (k : Nat) : One p g (a * k) := by
  unfold One at *
  rw [Nat.pow_mul, Nat.pow_mod, h, ← Nat.pow_mod, Nat.one_pow]
theorem One.strip {p g a b : Nat} (h : One p g a) (h2 : One p g (a + b)) : One p g b := by
  unfold One at *
  rw [Nat.pow_add, Nat.mul_mod, h, ← Nat.mul_mod, Nat.one_mul] at h2
  exact h2
theorem One.gcd {p g : Nat} : ∀ (a b : Nat), One p g a → One p g b → One p g (Nat.gcd a b) := by
  intro a b
  induction a, b using Nat.gcd.induction with
  | H0 n => intro _ h; rw [Nat.gcd_zero_left]; exact h
  | H1 m n hm ih =>
    intro h1 h2
    rw [Nat.gcd_rec]
    refine ih ?_ h1
    refine One.strip (h1.mul (n / m)) ?_
    rw [Nat.div_add_mod]; exact h2

/-- Each number beyond one has a prime divisor. -/
theorem prime_div : ∀ (n m : Nat), m ≤ n → 2 ≤ m → ∃ q, Pr q ∧ q ∣ m
  | 0, m, h, h2 => by omega
  | n + 1, m, h, h2 => by
    by_cases hp : Pr m
    · exact ⟨m, hp, Nat.dvd_refl _⟩
    · have : ∃ k, k ∣ m ∧ k ≠ 1 ∧ k ≠ m := by
        apply Classical.byContradiction
        intro hn
        exact hp ⟨h2, fun k hk => by
          apply Classical.byContradiction
          intro h3
          exact hn ⟨k, hk, fun e => h3 (.inl e), fun e => h3 (.inr e)⟩⟩
      obtain ⟨k, hk, h1, hm⟩ := this
      have hle := Nat.le_of_dvd (by omega) hk
      have h0 : k ≠ 0 := by rintro rfl; rw [Nat.zero_dvd] at hk; omega
      obtain ⟨q, hq, hd⟩ := prime_div n k (by omega) (by omega)
      exact ⟨q, hq, Nat.dvd_trans hd hk⟩

theorem Pr.dvd_mul {q a b : Nat} (hq : Pr q) (h : q ∣ a * b) : q ∣ a ∨ q ∣ b := by
  rcases hq.2 (Nat.gcd q a) (Nat.gcd_dvd_left _ _) with h1 | h1
  · exact .inr (Nat.Coprime.dvd_of_dvd_mul_left h1 h)
  · left; rw [← h1]; exact Nat.gcd_dvd_right _ _
theorem Pr.dvd_pow {q a : Nat} (hq : Pr q) : ∀ n, q ∣ a ^ n → q ∣ a
  | 0, h => by rw [Nat.pow_zero] at h; have := Nat.le_of_dvd (by decide) h; have := hq.1; omega
  | n + 1, h => by
    rw [Nat.pow_succ] at h
    rcases hq.dvd_mul h with h | h
    · exact hq.dvd_pow n h
    · exact h

/-- The product of powers of a list of pairs. -/
def prod : List (Nat × Nat) → Nat
  | [] => 1
  | (q, e) :: l => q ^ e * prod l

theorem Pr.dvd_prod {q : Nat} (hq : Pr q) : ∀ (l : List (Nat × Nat)), (∀ x ∈ l, Pr x.1) → q ∣ prod l → ∃ x ∈ l, x.1 = q
  | [], _, h => by have := Nat.le_of_dvd (by decide) h; have := hq.1; simp [prod] at *; omega
  | (r, e) :: l, hl, h => by
    rcases hq.dvd_mul h with h | h
    · refine ⟨(r, e), by simp, ?_⟩
      have := hq.dvd_pow e h
      rcases (hl (r, e) (by simp)).2 q this with h | h
      · have := hq.1; omega
      · exact h.symm
    · obtain ⟨x, hx, e⟩ := hq.dvd_prod l (fun x hx => hl x (by simp [hx])) h
      exact ⟨x, by simp [hx], e⟩

/-- A divisor that isn't all divides all without one of its primes. -/
theorem proper {n d : Nat} (l : List (Nat × Nat)) (hn : n = prod l) (hl : ∀ x ∈ l, Pr x.1) (h0 : 0 < n) (hd : d ∣ n) (hne : d ≠ n) : ∃ x ∈ l, d ∣ n / x.1 := by
  obtain ⟨m, hm⟩ := hd
  have hm2 : 2 ≤ m := by
    rcases m with _ | _ | m
    · simp at hm; omega
    · simp at hm; omega
    · omega
  obtain ⟨q, hq, k, hk⟩ := prime_div m m (Nat.le_refl _) hm2
  obtain ⟨x, hx, e⟩ := hq.dvd_prod l hl (by rw [← hn, hm, hk]; exact ⟨d * k, by ac_rfl⟩)
  refine ⟨x, hx, k, ?_⟩
  have := hq.1
  rw [e, hm, hk, Nat.mul_left_comm, Nat.mul_div_cancel_left _ (by omega)]

/-- As many as there is room for, unlike each other, fill all. -/
theorem fill : ∀ (n : Nat) (f : Nat → Nat), (∀ i, i < n → f i < n) → (∀ i j, i < n → j < n → f i = f j → i = j) → ∀ a, a < n → ∃ i, i < n ∧ f i = a
  | 0, _, _, _, a, ha => by omega
  | n + 1, f, hf, hi, a, ha => by
    have IH := fill n (fun i => if f i = n then f n else f i) (by
        intro i h
        show (if f i = n then f n else f i) < n
        have h1 := hf i (by omega)
        have h2 := hf n (by omega)
        split
        · rename_i e
          have : f n ≠ n := fun e2 => by have := hi i n (by omega) (by omega) (by omega); omega
          omega
        · omega)
      (by
        intro i j h1 h2 e
        have e : (if f i = n then f n else f i) = (if f j = n then f n else f j) := e
        by_cases c1 : f i = n <;> by_cases c2 : f j = n
        · exact hi i j (by omega) (by omega) (by omega)
        · rw [if_pos c1, if_neg c2] at e; have := hi n j (by omega) (by omega) e; omega
        · rw [if_neg c1, if_pos c2] at e; have := hi i n (by omega) (by omega) e; omega
        · rw [if_neg c1, if_neg c2] at e; exact hi i j (by omega) (by omega) e)
    by_cases hb : a = f n
    · exact ⟨n, by omega, hb.symm⟩
    · by_cases hn : a = n
      · by_cases hfn : f n = n
        · omega
        · obtain ⟨i, h1, h2⟩ := IH (f n) (by have := hf n (by omega); omega)
          have h2 : (if f i = n then f n else f i) = f n := h2
          by_cases c : f i = n
          · exact ⟨i, by omega, by omega⟩
          · rw [if_neg c] at h2; have := hi i n (by omega) (by omega) h2; omega
      · obtain ⟨i, h1, h2⟩ := IH a (by omega)
        have h2 : (if f i = n then f n else f i) = a := h2
        by_cases c : f i = n
        · rw [if_pos c] at h2; omega
        · rw [if_neg c] at h2; exact ⟨i, by omega, h2⟩

/-- g's powers run through all but nought. -/
theorem gen {p g : Nat} (l : List (Nat × Nat)) (hp : 2 ≤ p) (hn : p - 1 = prod l) (hl : ∀ x ∈ l, Pr x.1) (h1 : g ^ (p - 1) % p = 1) (hq : ∀ x ∈ l, g ^ ((p - 1) / x.1) % p ≠ 1) :
    ∀ a, 0 < a → a < p → ∃ k, k < p - 1 ∧ g ^ k % p = a := by
  have e1 : 1 % p = 1 := Nat.mod_eq_of_lt (by omega)
  have O1 : One p g (p - 1) := by unfold One; rw [h1, e1]
  have hpos : ∀ k, k < p - 1 → 0 < g ^ k % p := by
    intro k hk
    apply Nat.pos_of_ne_zero
    intro h0
    have : g ^ (p - 1) % p = 0 := by
      rw [show p - 1 = k + (p - 1 - k) from by omega, Nat.pow_add, Nat.mul_mod, h0, Nat.zero_mul, Nat.zero_mod]
    omega
  have inj : ∀ i j, i < j → j < p - 1 → g ^ i % p ≠ g ^ j % p := by
    intro i j hij hj h
    have hm : One p g (j - i) := by
      refine One.strip (a := p - 1) O1 ?_
      unfold One
      have a1 : g ^ (p - 1 + (j - i)) = g ^ (p - 1 - i) * g ^ j := by rw [← Nat.pow_add]; congr 1; omega
      have a2 : g ^ (p - 1) = g ^ (p - 1 - i) * g ^ i := by rw [← Nat.pow_add]; congr 1; omega
      rw [a1, Nat.mul_mod, ← h, ← Nat.mul_mod, ← a2, h1, e1]
    have hg := One.gcd _ _ hm O1
    have hle : Nat.gcd (j - i) (p - 1) ≤ j - i := Nat.gcd_le_left _ (by omega)
    obtain ⟨x, hx, k, hd⟩ := proper l hn hl (by omega) (Nat.gcd_dvd_right (j - i) (p - 1)) (by omega)
    have := hg.mul k
    rw [← hd] at this
    unfold One at this
    exact hq x hx (by omega)
  intro a ha hap
  obtain ⟨k, hk, e⟩ := fill (p - 1) (fun k => g ^ k % p - 1)
    (fun k hk => by have := hpos k hk; have := Nat.mod_lt (g ^ k) (show 0 < p by omega); show g ^ k % p - 1 < p - 1; omega)
    (fun i j hi hj h => by
      have h : g ^ i % p - 1 = g ^ j % p - 1 := h
      have := hpos i hi
      have := hpos j hj
      rcases Nat.lt_trichotomy i j with c | c | c
      · exact absurd (by omega) (inj i j c hj)
      · exact c
      · exact absurd (by omega) (inj j i c hi))
    (a - 1) (by omega)
  have e : g ^ k % p - 1 = a - 1 := e
  exact ⟨k, hk, by have := hpos k hk; omega⟩

/-- Of a number whose powers run so: to the count of all but nought each is one. -/
theorem fermat {p g : Nat} (h1 : g ^ (p - 1) % p = 1) (hg : ∀ a, 0 < a → a < p → ∃ k, k < p - 1 ∧ g ^ k % p = a) (a : Nat) (h0 : 0 < a) (ha : a < p) : a ^ (p - 1) % p = 1 := by
  obtain ⟨k, _, e⟩ := hg a h0 ha
  have hp : 1 % p = 1 := Nat.mod_eq_of_lt (by
    rcases p with _ | _ | p
    · omega
    · omega
    · omega)
  rw [← e, ← Nat.pow_mod, ← Nat.pow_mul, Nat.mul_comm, Nat.pow_mul, Nat.pow_mod, h1, Nat.one_pow, hp]

theorem gen_prime {p g : Nat} (hp : 2 ≤ p) (h1 : g ^ (p - 1) % p = 1) (hg : ∀ a, 0 < a → a < p → ∃ k, k < p - 1 ∧ g ^ k % p = a) : Pr p := by
  refine ⟨hp, fun m hm => ?_⟩
  by_cases e : m = p
  · exact .inr e
  · left
    have hle := Nat.le_of_dvd (by omega) hm
    have h0 : 0 < m := Nat.pos_of_ne_zero (by rintro rfl; rw [Nat.zero_dvd] at hm; omega)
    have hf := fermat h1 hg m h0 (by omega)
    have hd : m ∣ m ^ (p - 1) % p := by
      rw [Nat.dvd_mod_iff hm]
      exact ⟨m ^ (p - 1 - 1), by conv => lhs; rw [show p - 1 = (p - 1 - 1) + 1 from by omega, Nat.pow_succ, Nat.mul_comm]⟩
    rw [hf] at hd
    exact Nat.dvd_one.1 hd

/-- Pratt's certificate, to be reckoned. -/
def cert (p g : Nat) (l : List (Nat × Nat)) : Bool :=
  decide (2 ≤ p) && decide (p - 1 = prod l) && decide (p < 2 ^ 260) && decide (pwm p 260 g (p - 1) 1 % p = 1) && l.all (fun x => decide (pwm p 260 g ((p - 1) / x.1) 1 % p ≠ 1))

theorem cert_gen {p g : Nat} {l : List (Nat × Nat)} (h : cert p g l = true) (hl : ∀ x ∈ l, Pr x.1) :
    2 ≤ p ∧ g ^ (p - 1) % p = 1 ∧ ∀ a, 0 < a → a < p → ∃ k, k < p - 1 ∧ g ^ k % p = a := by
  unfold cert at h
  simp only [Bool.and_eq_true, decide_eq_true_eq, List.all_eq_true] at h
  obtain ⟨⟨⟨⟨h1, h2⟩, h3⟩, h4⟩, h5⟩ := h
  have hp : ∀ n, n < p → pwm p 260 g n 1 % p = g ^ n % p := fun n hn => by
    rw [pwm_eq p 260 g n 1 (by omega), Nat.one_mul]
  rw [hp _ (by omega)] at h4
  refine ⟨h1, h4, gen l h1 h2 hl h4 fun x hx => ?_⟩
  have := h5 x hx
  rw [hp _ (by have := Nat.div_le_self (p - 1) x.1; omega)] at this
  exact this
theorem cert_prime {p g : Nat} {l : List (Nat × Nat)} (h : cert p g l = true) (hl : ∀ x ∈ l, Pr x.1) : Pr p :=
  let ⟨a, b, c⟩ := cert_gen h hl
  gen_prime a b c

/-- Small primes, by trial. -/
def trial (n : Nat) : Nat → Nat → Bool
  | 0, _ => false
  | f + 1, m => if n < m * m then true else if n % m = 0 then false else trial n f (m + 1)
theorem trial_no (n : Nat) : ∀ f m, trial n f m = true → ∀ k, m ≤ k → k * k ≤ n → ¬ k ∣ n
  | 0, m, h => by simp [trial] at h
  | f + 1, m, h => by
    intro k hk hkk hd
    unfold trial at h
    by_cases c : n < m * m
    · have := Nat.mul_le_mul hk hk; omega
    · rw [if_neg c] at h
      by_cases c2 : n % m = 0
      · rw [if_pos c2] at h; cases h
      · rw [if_neg c2] at h
        by_cases e : k = m
        · subst e; exact c2 (Nat.mod_eq_zero_of_dvd hd)
        · exact trial_no n f (m + 1) h k (by omega) hkk hd
theorem trial_prime {n f : Nat} (h2 : 2 ≤ n) (h : trial n f 2 = true) : Pr n := by
  refine ⟨h2, fun m hm => ?_⟩
  obtain ⟨k, hk⟩ := hm
  have m0 : m ≠ 0 := by rintro rfl; simp at hk; omega
  have k0 : k ≠ 0 := by rintro rfl; simp at hk; omega
  by_cases hm1 : m = 1
  · exact .inl hm1
  · by_cases hk1 : k = 1
    · right; rw [hk, hk1, Nat.mul_one]
    · exfalso
      by_cases c : m ≤ k
      · exact trial_no n f 2 h m (by omega) (by rw [hk]; exact Nat.mul_le_mul_left m c) ⟨k, hk⟩
      · exact trial_no n f 2 h k (by omega) (by rw [hk]; exact Nat.mul_le_mul_right k (by omega)) ⟨m, by rw [hk, Nat.mul_comm]⟩

theorem pr_2 : Pr 2 := trial_prime (f := 4000) (by decide) (by decide +kernel)
theorem pr_3 : Pr 3 := trial_prime (f := 4000) (by decide) (by decide +kernel)
theorem pr_5 : Pr 5 := trial_prime (f := 4000) (by decide) (by decide +kernel)
theorem pr_7 : Pr 7 := trial_prime (f := 4000) (by decide) (by decide +kernel)
theorem pr_13 : Pr 13 := trial_prime (f := 4000) (by decide) (by decide +kernel)
theorem pr_19 : Pr 19 := trial_prime (f := 4000) (by decide) (by decide +kernel)
theorem pr_31 : Pr 31 := trial_prime (f := 4000) (by decide) (by decide +kernel)
theorem pr_47 : Pr 47 := trial_prime (f := 4000) (by decide) (by decide +kernel)
theorem pr_107 : Pr 107 := trial_prime (f := 4000) (by decide) (by decide +kernel)
theorem pr_127 : Pr 127 := trial_prime (f := 4000) (by decide) (by decide +kernel)
theorem pr_223 : Pr 223 := trial_prime (f := 4000) (by decide) (by decide +kernel)
theorem pr_353 : Pr 353 := trial_prime (f := 4000) (by decide) (by decide +kernel)
theorem pr_2437 : Pr 2437 := trial_prime (f := 4000) (by decide) (by decide +kernel)
theorem pr_4153 : Pr 4153 := trial_prime (f := 4000) (by decide) (by decide +kernel)
theorem pr_57467 : Pr 57467 := trial_prime (f := 4000) (by decide) (by decide +kernel)
theorem pr_65147 : Pr 65147 := trial_prime (f := 4000) (by decide) (by decide +kernel)
theorem pr_75707 : Pr 75707 := trial_prime (f := 4000) (by decide) (by decide +kernel)
theorem pr_132049 : Pr 132049 := trial_prime (f := 4000) (by decide) (by decide +kernel)
theorem pr_430751 : Pr 430751 := trial_prime (f := 4000) (by decide) (by decide +kernel)
theorem pr_569003 : Pr 569003 := trial_prime (f := 4000) (by decide) (by decide +kernel)
theorem pr_1923133 : Pr 1923133 := trial_prime (f := 4000) (by decide) (by decide +kernel)
theorem pr_8574133 : Pr 8574133 := trial_prime (f := 4000) (by decide) (by decide +kernel)
theorem pr_31757755568855353 : Pr 31757755568855353 :=
  cert_prime (g := 10) (l := [(2, 3), (3, 1), (31, 1), (107, 1), (223, 1), (4153, 1), (430751, 1)]) (by decide +kernel) (by
    intro x hx
    simp only [List.mem_cons, List.not_mem_nil, or_false] at hx
    rcases hx with rfl | rfl | rfl | rfl | rfl | rfl | rfl
    · exact pr_2
    · exact pr_3
    · exact pr_31
    · exact pr_107
    · exact pr_223
    · exact pr_4153
    · exact pr_430751)
theorem pr_1919519569386763 : Pr 1919519569386763 :=
  cert_prime (g := 2) (l := [(2, 1), (3, 1), (7, 1), (19, 1), (47, 2), (127, 1), (8574133, 1)]) (by decide +kernel) (by
    intro x hx
    simp only [List.mem_cons, List.not_mem_nil, or_false] at hx
    rcases hx with rfl | rfl | rfl | rfl | rfl | rfl | rfl
    · exact pr_2
    · exact pr_3
    · exact pr_7
    · exact pr_19
    · exact pr_47
    · exact pr_127
    · exact pr_8574133)
theorem pr_2773320623 : Pr 2773320623 :=
  cert_prime (g := 5) (l := [(2, 1), (2437, 1), (569003, 1)]) (by decide +kernel) (by
    intro x hx
    simp only [List.mem_cons, List.not_mem_nil, or_false] at hx
    rcases hx with rfl | rfl | rfl
    · exact pr_2
    · exact pr_2437
    · exact pr_569003)
theorem pr_72106336199 : Pr 72106336199 :=
  cert_prime (g := 7) (l := [(2, 1), (13, 1), (2773320623, 1)]) (by decide +kernel) (by
    intro x hx
    simp only [List.mem_cons, List.not_mem_nil, or_false] at hx
    rcases hx with rfl | rfl | rfl
    · exact pr_2
    · exact pr_13
    · exact pr_2773320623)
theorem pr_75445702479781427272750846543864801 : Pr 75445702479781427272750846543864801 :=
  cert_prime (g := 7) (l := [(2, 5), (3, 2), (5, 2), (75707, 1), (1919519569386763, 1), (72106336199, 1)]) (by decide +kernel) (by
    intro x hx
    simp only [List.mem_cons, List.not_mem_nil, or_false] at hx
    rcases hx with rfl | rfl | rfl | rfl | rfl | rfl
    · exact pr_2
    · exact pr_3
    · exact pr_5
    · exact pr_75707
    · exact pr_1919519569386763
    · exact pr_72106336199)
theorem pr_74058212732561358302231226437062788676166966415465897661863160754340907 : Pr 74058212732561358302231226437062788676166966415465897661863160754340907 :=
  cert_prime (g := 2) (l := [(2, 1), (3, 1), (353, 1), (57467, 1), (132049, 1), (1923133, 1), (31757755568855353, 1), (75445702479781427272750846543864801, 1)]) (by decide +kernel) (by
    intro x hx
    simp only [List.mem_cons, List.not_mem_nil, or_false] at hx
    rcases hx with rfl | rfl | rfl | rfl | rfl | rfl | rfl | rfl
    · exact pr_2
    · exact pr_3
    · exact pr_353
    · exact pr_57467
    · exact pr_132049
    · exact pr_1923133
    · exact pr_31757755568855353
    · exact pr_75445702479781427272750846543864801)
/-- 2^255 - 19. -/
def p25519 : Nat := 57896044618658097711785492504343953926634992332820282019728792003956564819949
theorem gen_p : 2 ≤ p25519 ∧ 2 ^ (p25519 - 1) % p25519 = 1 ∧ ∀ a, 0 < a → a < p25519 → ∃ k, k < p25519 - 1 ∧ 2 ^ k % p25519 = a :=
  cert_gen (l := [(2, 2), (3, 1), (65147, 1), (74058212732561358302231226437062788676166966415465897661863160754340907, 1)]) (by decide +kernel) (by
    intro x hx
    simp only [List.mem_cons, List.not_mem_nil, or_false] at hx
    rcases hx with rfl | rfl | rfl | rfl
    · exact pr_2
    · exact pr_3
    · exact pr_65147
    · exact pr_74058212732561358302231226437062788676166966415465897661863160754340907)
theorem p_prime : Pr p25519 := gen_prime gen_p.1 gen_p.2.1 gen_p.2.2
theorem p_fermat (a : Nat) (h0 : 0 < a) (ha : a < p25519) : a ^ (p25519 - 1) % p25519 = 1 := fermat gen_p.2.1 gen_p.2.2 a h0 ha

end Go.Proofs.Ytahnlnflcgehaaa.Pri
namespace Go.Proofs.Ytahnlnflcgehaaa.Cv
open Lean.Grind

/-- What is asked of the ring and of d. -/
structure Fit (R : Type) [CommRing R] where
  d : R
  inv : R → R
  i : R
  half : R
  inv_mul : ∀ a, a ≠ 0 → a * inv a = 1
  root : i * i = -1
  two : half + half = 1
  none : ∀ w, w * w ≠ -d
  one : (1 : R) ≠ 0

variable {R : Type} [CommRing R] (C : Fit R)

def On (P : R × R) : Prop := P.2 * P.2 = 1 + P.1 * P.1 + C.d * P.1 * P.1 * P.2 * P.2

def add (P Q : R × R) : R × R :=
  ((P.1 * Q.2 + P.2 * Q.1) * C.inv (1 + C.d * P.1 * Q.1 * P.2 * Q.2), (P.2 * Q.2 + P.1 * Q.1) * C.inv (1 - C.d * P.1 * Q.1 * P.2 * Q.2))
def neg (P : R × R) : R × R := (-P.1, P.2)
def zero : R × R := (0, 1)

include C in
theorem unit (a b : R) (h : a * b = 0) : a = 0 ∨ b = 0 := by
  by_cases ha : a = 0
  · exact .inl ha
  · right
    have := C.inv_mul a ha
    grind
include C in
theorem ne_mul {a b : R} (ha : a ≠ 0) (hb : b ≠ 0) : a * b ≠ 0 := fun h => by
  rcases unit C a b h with h | h
  · exact ha h
  · exact hb h

theorem full (x1 y1 x2 y2 e : R) (h1 : On C (x1, y1)) (h2 : On C (x2, y2)) (he : e * e = 1) : C.d * x1 * x2 * y1 * y2 ≠ e := by
  intro ht
  unfold On at h1 h2
  simp only at h1 h2
  have hi := C.root
  have h1' := C.one
  have hx2 : x2 ≠ 0 := fun h => h1' (by grind)
  have hx1 : x1 ≠ 0 := fun h => h1' (by grind)
  have hy1 : y1 ≠ 0 := fun h => h1' (by grind)
  have hi0 : C.i ≠ 0 := fun h => h1' (by grind)
  have a1 : -C.d * ((C.i * x1 * y1 * (C.i * x2 + y2)) * (C.i * x1 * y1 * (C.i * x2 + y2))) = (C.i * x1 + e * y1) * (C.i * x1 + e * y1) := by grind
  have a2 : -C.d * ((C.i * x1 * y1 * (C.i * x2 - y2)) * (C.i * x1 * y1 * (C.i * x2 - y2))) = (C.i * x1 - e * y1) * (C.i * x1 - e * y1) := by grind
  have key : ∀ u v : R, -C.d * (u * u) = v * v → u = 0 := by
    intro u v h
    apply Classical.byContradiction
    intro hu
    have hk := C.inv_mul u hu
    exact C.none (v * C.inv u) (by grind)
  have b1 := key _ _ a1
  have b2 := key _ _ a2
  have hm : C.i * x1 * y1 ≠ 0 := ne_mul C (ne_mul C hi0 hx1) hy1
  have c1 : C.i * x2 + y2 = 0 := (unit C _ _ b1).resolve_left hm
  have c2 : C.i * x2 - y2 = 0 := (unit C _ _ b2).resolve_left hm
  have ht := C.two
  have c3 : C.i * x2 = 0 := by grind
  exact ne_mul C hi0 hx2 c3

theorem dens {P Q : R × R} (h1 : On C P) (h2 : On C Q) :
    (1 + C.d * P.1 * Q.1 * P.2 * Q.2) * C.inv (1 + C.d * P.1 * Q.1 * P.2 * Q.2) = 1 ∧ (1 - C.d * P.1 * Q.1 * P.2 * Q.2) * C.inv (1 - C.d * P.1 * Q.1 * P.2 * Q.2) = 1 := by
  constructor
  · exact C.inv_mul _ fun h => full C P.1 P.2 Q.1 Q.2 (-1) h1 h2 (by grind) (by grind)
  · exact C.inv_mul _ fun h => full C P.1 P.2 Q.1 Q.2 1 h1 h2 (by grind) (by grind)

theorem on_zero : On C zero := by unfold On zero; grind
theorem on_neg {P : R × R} (h : On C P) : On C (neg P) := by unfold On neg at *; grind
theorem on_add {P Q : R × R} (h1 : On C P) (h2 : On C Q) : On C (add C P Q) := by
  have ⟨d1, d2⟩ := dens C h1 h2
  obtain ⟨x1, y1⟩ := P
  obtain ⟨x2, y2⟩ := Q
  unfold On add at *
  simp only at *
  generalize C.inv (1 + C.d * x1 * x2 * y1 * y2) = k at *
  generalize C.inv (1 - C.d * x1 * x2 * y1 * y2) = m at *
  generalize C.d = d at *
  have key : ((y1 * y2 + x1 * x2) * (1 + d * x1 * x2 * y1 * y2)) * ((y1 * y2 + x1 * x2) * (1 + d * x1 * x2 * y1 * y2)) = ((1 + d * x1 * x2 * y1 * y2) * (1 - d * x1 * x2 * y1 * y2)) * ((1 + d * x1 * x2 * y1 * y2) * (1 - d * x1 * x2 * y1 * y2)) + ((x1 * y2 + y1 * x2) * (1 - d * x1 * x2 * y1 * y2)) * ((x1 * y2 + y1 * x2) * (1 - d * x1 * x2 * y1 * y2)) + d * (x1 * y2 + y1 * x2) * (x1 * y2 + y1 * x2) * (y1 * y2 + x1 * x2) * (y1 * y2 + x1 * x2) := by grind
  generalize x1 * y2 + y1 * x2 = a at *
  generalize y1 * y2 + x1 * x2 = b at *
  generalize d * x1 * x2 * y1 * y2 = t at *
  clear h1 h2
  have e : (b * m) * (b * m) = ((b * (1 + t)) * (b * (1 + t))) * ((m * k) * (m * k)) := by grind
  rw [e, key]
  grind
theorem add_comm (P Q : R × R) : add C P Q = add C Q P := by
  unfold add
  congr 1
  · congr 1
    · grind
    · congr 1; grind
  · congr 1
    · grind
    · congr 1; grind
theorem inv_one : C.inv 1 = 1 := by have := C.inv_mul 1 C.one; grind
theorem add_zero (P : R × R) : add C P zero = P := by
  unfold add zero
  obtain ⟨x, y⟩ := P
  simp only
  rw [show (1 : R) + C.d * x * 0 * y * 1 = 1 from by grind, show (1 : R) - C.d * x * 0 * y * 1 = 1 from by grind, inv_one]
  congr 1 <;> grind
theorem zero_add (P : R × R) : add C zero P = P := by rw [add_comm, add_zero]
theorem add_neg {P : R × R} (h : On C P) : add C P (neg P) = zero := by
  have ⟨d1, d2⟩ := dens C h (on_neg C h)
  obtain ⟨x, y⟩ := P
  unfold add neg zero On at *
  simp only at *
  congr 1
  · grind
  · rw [← d2]; grind

theorem mix (k m t a b y x : R) (d1 : (1 + t) * k = 1) (d2 : (1 - t) * m = 1) : a * k * y + b * m * x = (k * m) * (a * (1 - t) * y + b * (1 + t) * x) := by grind
theorem denp (d k m t a b y x : R) (d1 : (1 + t) * k = 1) (d2 : (1 - t) * m = 1) : 1 + d * (a * k) * x * (b * m) * y = (k * m) * ((1 + t) * (1 - t) + d * a * b * x * y) := by grind
theorem denm (d k m t a b y x : R) (d1 : (1 + t) * k = 1) (d2 : (1 - t) * m = 1) : 1 - d * (a * k) * x * (b * m) * y = (k * m) * ((1 + t) * (1 - t) - d * a * b * x * y) := by grind
theorem crossx {A B A' B' c c' : R} (h : A * B' = A' * B) : (c * A) * (c' * B') = (c' * A') * (c * B) := by grind
theorem add_assoc {P Q S : R × R} (h1 : On C P) (h2 : On C Q) (h3 : On C S) : add C (add C P Q) S = add C P (add C Q S) := by
  have ⟨d1, d2⟩ := dens C h1 h2
  have ⟨d3, d4⟩ := dens C h2 h3
  have ⟨d5, d6⟩ := dens C (on_add C h1 h2) h3
  have ⟨d7, d8⟩ := dens C h1 (on_add C h2 h3)
  obtain ⟨x1, y1⟩ := P
  obtain ⟨x2, y2⟩ := Q
  obtain ⟨x3, y3⟩ := S
  unfold On at h1 h2 h3
  unfold add at *
  simp only at *
  generalize C.inv (1 + C.d * x1 * x2 * y1 * y2) = k at *
  generalize C.inv (1 - C.d * x1 * x2 * y1 * y2) = m at *
  generalize C.inv (1 + C.d * x2 * x3 * y2 * y3) = k' at *
  generalize C.inv (1 - C.d * x2 * x3 * y2 * y3) = m' at *
  generalize C.d = d at *
  have X : ((x1 * y2 + y1 * x2) * (1 - d * x1 * x2 * y1 * y2) * y3 + (y1 * y2 + x1 * x2) * (1 + d * x1 * x2 * y1 * y2) * x3) * ((1 + d * x2 * x3 * y2 * y3) * (1 - d * x2 * x3 * y2 * y3) + d * (x2 * y3 + y2 * x3) * (y2 * y3 + x2 * x3) * x1 * y1) = ((x2 * y3 + y2 * x3) * (1 - d * x2 * x3 * y2 * y3) * y1 + (y2 * y3 + x2 * x3) * (1 + d * x2 * x3 * y2 * y3) * x1) * ((1 + d * x1 * x2 * y1 * y2) * (1 - d * x1 * x2 * y1 * y2) + d * (x1 * y2 + y1 * x2) * (y1 * y2 + x1 * x2) * x3 * y3) := by
    clear d1 d2 d3 d4 d5 d6 d7 d8; grind
  have Y : ((y1 * y2 + x1 * x2) * (1 + d * x1 * x2 * y1 * y2) * y3 + (x1 * y2 + y1 * x2) * (1 - d * x1 * x2 * y1 * y2) * x3) * ((1 + d * x2 * x3 * y2 * y3) * (1 - d * x2 * x3 * y2 * y3) - d * (x2 * y3 + y2 * x3) * (y2 * y3 + x2 * x3) * x1 * y1) = ((y2 * y3 + x2 * x3) * (1 + d * x2 * x3 * y2 * y3) * y1 + (x2 * y3 + y2 * x3) * (1 - d * x2 * x3 * y2 * y3) * x1) * ((1 + d * x1 * x2 * y1 * y2) * (1 - d * x1 * x2 * y1 * y2) - d * (x1 * y2 + y1 * x2) * (y1 * y2 + x1 * x2) * x3 * y3) := by
    clear d1 d2 d3 d4 d5 d6 d7 d8; grind
  clear h1 h2 h3
  generalize x1 * y2 + y1 * x2 = a at *
  generalize y1 * y2 + x1 * x2 = b at *
  generalize d * x1 * x2 * y1 * y2 = t at *
  generalize x2 * y3 + y2 * x3 = a' at *
  generalize y2 * y3 + x2 * x3 = b' at *
  generalize d * x2 * x3 * y2 * y3 = s at *
  generalize C.inv (1 + d * (a * k) * x3 * (b * m) * y3) = e5 at *
  generalize C.inv (1 - d * (a * k) * x3 * (b * m) * y3) = e6 at *
  generalize C.inv (1 + d * x1 * (a' * k') * y1 * (b' * m')) = e7 at *
  generalize C.inv (1 - d * x1 * (a' * k') * y1 * (b' * m')) = e8 at *
  -- each side times both denominators
  have lx : (a * k * y3 + b * m * x3) * (1 + d * x1 * (a' * k') * y1 * (b' * m')) = (a' * k' * y1 + b' * m' * x1) * (1 + d * (a * k) * x3 * (b * m) * y3) := by
    have e2 : 1 + d * x1 * (a' * k') * y1 * (b' * m') = (k' * m') * ((1 + s) * (1 - s) + d * a' * b' * x1 * y1) := by
      rw [← denp d k' m' s a' b' y1 x1 d3 d4]; clear d1 d2 d3 d4 d5 d6 d7 d8 X Y; grind
    rw [mix k m t a b y3 x3 d1 d2, e2, mix k' m' s a' b' y1 x1 d3 d4, denp d k m t a b y3 x3 d1 d2]
    exact crossx X
  have ly : (b * m * y3 + a * k * x3) * (1 - d * x1 * (a' * k') * y1 * (b' * m')) = (b' * m' * y1 + a' * k' * x1) * (1 - d * (a * k) * x3 * (b * m) * y3) := by
    have e2 : 1 - d * x1 * (a' * k') * y1 * (b' * m') = (k' * m') * ((1 + s) * (1 - s) - d * a' * b' * x1 * y1) := by
      rw [← denm d k' m' s a' b' y1 x1 d3 d4]; clear d1 d2 d3 d4 d5 d6 d7 d8 X Y; grind
    have f1 : b * m * y3 + a * k * x3 = (k * m) * (b * (1 + t) * y3 + a * (1 - t) * x3) := by
      have := mix k m t a b x3 y3 d1 d2; clear d3 d4 d5 d6 d7 d8 X Y lx e2; grind
    have f2 : b' * m' * y1 + a' * k' * x1 = (k' * m') * (b' * (1 + s) * y1 + a' * (1 - s) * x1) := by
      have := mix k' m' s a' b' x1 y1 d3 d4; clear d1 d2 d5 d6 d7 d8 X Y lx e2 f1; grind
    rw [f1, e2, f2, denm d k m t a b y3 x3 d1 d2]
    exact crossx Y
  clear d1 d2 d3 d4 X Y
  generalize 1 + d * (a * k) * x3 * (b * m) * y3 = D5 at *
  generalize 1 - d * (a * k) * x3 * (b * m) * y3 = D6 at *
  generalize 1 + d * x1 * (a' * k') * y1 * (b' * m') = D7 at *
  generalize 1 - d * x1 * (a' * k') * y1 * (b' * m') = D8 at *
  congr 1
  · have q : x1 * (b' * m') + y1 * (a' * k') = a' * k' * y1 + b' * m' * x1 := by grind
    rw [q]
    generalize a * k * y3 + b * m * x3 = U at *
    generalize a' * k' * y1 + b' * m' * x1 = V at *
    clear ly d6 d8
    grind
  · have q : y1 * (b' * m') + x1 * (a' * k') = b' * m' * y1 + a' * k' * x1 := by grind
    rw [q]
    generalize b * m * y3 + a * k * x3 = U at *
    generalize b' * m' * y1 + a' * k' * x1 = V at *
    clear lx d5 d7
    grind

/-- So often a point. -/
def times (P : R × R) : Nat → R × R
  | 0 => zero
  | n + 1 => add C (times P n) P
theorem on_times {P : R × R} (h : On C P) : ∀ n, On C (times C P n)
  | 0 => on_zero C
  | n + 1 => on_add C (on_times h n) h
theorem times_add {P : R × R} (h : On C P) (a : Nat) : ∀ b, times C P (a + b) = add C (times C P a) (times C P b)
  | 0 => by rw [Nat.add_zero]; exact (add_zero C _).symm
  | b + 1 => by
    show add C (times C P (a + b)) P = add C (times C P a) (add C (times C P b) P)
    rw [times_add h a b, add_assoc C (on_times C h a) (on_times C h b) h]
theorem times_one (P : R × R) : times C P 1 = P := by show add C zero P = P; exact zero_add C P
theorem times_zero : ∀ n, times C zero n = zero
  | 0 => rfl
  | n + 1 => by show add C (times C zero n) zero = zero; rw [add_zero, times_zero n]
theorem times_mul {P : R × R} (h : On C P) (a : Nat) : ∀ b, times C P (a * b) = times C (times C P a) b
  | 0 => rfl
  | b + 1 => by
    rw [Nat.mul_succ, times_add C h, times_mul h a b]; rfl
theorem swap4 {P Q S T : R × R} (h1 : On C P) (h2 : On C Q) (h3 : On C S) (h4 : On C T) : add C (add C P Q) (add C S T) = add C (add C P S) (add C Q T) := by
  rw [add_assoc C h1 h2 (on_add C h3 h4), ← add_assoc C h2 h3 h4, add_comm C Q S, add_assoc C h3 h2 h4, ← add_assoc C h1 h3 (on_add C h2 h4)]
theorem times_of_add {P Q : R × R} (h1 : On C P) (h2 : On C Q) : ∀ n, times C (add C P Q) n = add C (times C P n) (times C Q n)
  | 0 => (add_zero C zero).symm
  | n + 1 => by
    show add C (times C (add C P Q) n) (add C P Q) = _
    rw [times_of_add h1 h2 n, swap4 C (on_times C h1 n) (on_times C h2 n) h1 h2]; rfl
theorem neg_zero : neg (zero : R × R) = zero := by unfold neg zero; congr 1; grind
theorem times_neg {P : R × R} (h : On C P) (n : Nat) : times C (neg P) n = neg (times C P n) := by
  have e : add C (times C (neg P) n) (times C P n) = zero := by
    rw [← times_of_add C (on_neg C h) h, add_comm, add_neg C h, times_zero]
  have f : add C (times C P n) (neg (times C P n)) = zero := add_neg C (on_times C h n)
  rw [← add_zero C (times C (neg P) n), ← f, ← add_assoc C (on_times C (on_neg C h) n) (on_times C h n) (on_neg C (on_times C h n)), e, zero_add]

end Go.Proofs.Ytahnlnflcgehaaa.Cv
namespace Go.Proofs.Ytahnlnflcgehaaa
open Lean.Grind Pri

theorem p_def : p25519 = 57896044618658097711785492504343953926634992332820282019728792003956564819949 := rfl
theorem p_pos : 0 < p25519 := by decide +kernel
instance : NeZero p25519 := ⟨by have := p_pos; omega⟩
theorem one_mod_p : 1 % p25519 = 1 := by decide +kernel
abbrev Fp := Fin p25519
/-- A number, modulo 2^255 - 19. -/
def fv (n : Nat) : Fp := Fin.ofNat p25519 n
theorem fv_val (n : Nat) : (fv n).val = n % p25519 := rfl
theorem fv_of_val (x : Fp) : fv x.val = x := by apply Fin.ext; rw [fv_val]; exact Nat.mod_eq_of_lt x.isLt
theorem fv_eq {a b : Nat} : fv a = fv b ↔ a % p25519 = b % p25519 := ⟨fun h => by rw [← fv_val, h, fv_val], fun h => Fin.ext h⟩
theorem fv_mod (a : Nat) : fv (a % p25519) = fv a := fv_eq.2 (Nat.mod_mod _ _)
theorem fv_add (a b : Nat) : fv (a + b) = fv a + fv b := by apply Fin.ext; rw [Fin.val_add, fv_val, fv_val, fv_val, ← Nat.add_mod]
theorem fv_mul (a b : Nat) : fv (a * b) = fv a * fv b := by apply Fin.ext; rw [Fin.val_mul, fv_val, fv_val, fv_val, ← Nat.mul_mod]
theorem fv_zero : fv 0 = 0 := by apply Fin.ext; rfl
theorem fv_one : fv 1 = 1 := by apply Fin.ext; rfl
theorem fv_neg (a : Nat) (h : a ≤ p25519) : fv (p25519 - a) = - fv a := by
  have : fv (p25519 - a) + fv a = 0 := by
    rw [← fv_add, Nat.sub_add_cancel h, ← fv_zero]; exact fv_eq.2 (by rw [Nat.mod_self, Nat.zero_mod])
  grind
theorem fv_ne {a : Nat} (h : a % p25519 ≠ 0) : fv a ≠ 0 := fun e => h (by have := congrArg Fin.val e; rw [fv_val] at this; exact this)
def finv (x : Fp) : Fp := fv (x.val ^ (p25519 - 2))
theorem finv_mul (x : Fp) (h : x ≠ 0) : x * finv x = 1 := by
  have h0 : 0 < x.val := Nat.pos_of_ne_zero fun e => h (Fin.ext e)
  have hf := p_fermat x.val h0 x.isLt
  have e : x * finv x = fv (x.val ^ (p25519 - 1)) := by
    unfold finv
    rw [show p25519 - 1 = (p25519 - 2) + 1 from by have := gen_p.1; omega, Nat.pow_succ, fv_mul, fv_of_val, Fin.mul_comm]
  rw [e, ← fv_one]
  exact fv_eq.2 (by rw [hf, one_mod_p])
theorem fv_zero_pow (n : Nat) (hn : n ≠ 0) : fv ((0 : Fp).val ^ n) = 0 := by
  rw [show (0 : Fp).val = 0 from rfl, Nat.zero_pow (Nat.pos_of_ne_zero hn), fv_zero]
theorem p_sub_two : p25519 - 2 ≠ 0 := by decide +kernel
theorem finv_zero : finv 0 = 0 := fv_zero_pow _ p_sub_two

/-- The curve's number. -/
def dD : Nat := 37095705934669439343138083508754565189542113879843219016388785533085940283555
def iI : Nat := 19681161376707505956807079304988542015446066515923890162744021073123829784752
theorem d_euler : (p25519 - dD) ^ ((p25519 - 1) / 2) % p25519 = p25519 - 1 := by
  have h := pwm_eq p25519 260 (p25519 - dD) ((p25519 - 1) / 2) 1 (by decide +kernel)
  rw [Nat.one_mul] at h
  rw [← h]
  decide +kernel
theorem half_p : 2 * ((p25519 - 1) / 2) = p25519 - 1 := by decide +kernel
theorem dD_none (x : Fp) : x * x ≠ - fv dD := by
  intro h
  rw [← fv_neg dD (by decide +kernel)] at h
  have h0 : x ≠ 0 := by
    intro e
    rw [e] at h
    exact fv_ne (a := p25519 - dD) (by decide +kernel) (by rw [← h]; grind)
  have h1 : 0 < x.val := Nat.pos_of_ne_zero fun e => h0 (Fin.ext e)
  have hf := p_fermat x.val h1 x.isLt
  have e : x.val * x.val % p25519 = (p25519 - dD) % p25519 := by
    have := congrArg Fin.val h
    rwa [Fin.val_mul, fv_val] at this
  have : (p25519 - dD) ^ ((p25519 - 1) / 2) % p25519 = 1 := by
    rw [Nat.pow_mod, ← e, ← Nat.pow_mod, ← Nat.pow_two, ← Nat.pow_mul, half_p, hf]
  rw [d_euler] at this
  exact absurd this (by decide +kernel)

/-- The curve. -/
def cC : Cv.Fit Fp where
  d := fv dD
  inv := finv
  i := fv iI
  half := fv ((p25519 + 1) / 2)
  inv_mul := finv_mul
  root := by
    rw [← fv_mul, ← fv_one, ← fv_neg 1 (by decide +kernel)]
    exact fv_eq.2 (by decide +kernel)
  two := by
    rw [← fv_add, ← fv_one]
    exact fv_eq.2 (by decide +kernel)
  none := dD_none
  one := by rw [← fv_one]; exact fv_ne (by rw [one_mod_p]; decide)
end Go.Proofs.Ytahnlnflcgehaaa
namespace Go.Proofs.Ytahnlnflcgehaaa
open Pri
set_option linter.unusedVariables false

/-- What n parts tell. -/
def val (B : Nat) (g : Nat → Nat) : Nat → Nat
  | 0 => 0
  | n + 1 => val B g n + g n * B ^ n
/-- What is carried behind n parts. -/
def ov (B : Nat) (g : Nat → Nat) (n : Nat) : Nat := val B g n / B ^ n
theorem ov_zero (B : Nat) (g : Nat → Nat) : ov B g 0 = 0 := by simp [ov, val]
theorem ov_succ (B : Nat) (g : Nat → Nat) (n : Nat) (hB : 0 < B) : ov B g (n + 1) = (g n + ov B g n) / B := by
  have hp : 0 < B ^ n := Nat.pow_pos hB
  unfold ov
  show (val B g n + g n * B ^ n) / B ^ (n + 1) = _
  rw [Nat.pow_succ, ← Nat.div_div_eq_div_mul, Nat.add_mul_div_right _ _ hp, Nat.add_comm]
theorem val_split (B : Nat) (g : Nat → Nat) (k : Nat) : ∀ m, ∃ q, val B g (k + m) = val B g k + B ^ k * q
  | 0 => ⟨0, by simp⟩
  | m + 1 => by
    obtain ⟨q, h⟩ := val_split B g k m
    refine ⟨q + g (k + m) * B ^ m, ?_⟩
    show val B g (k + m) + g (k + m) * B ^ (k + m) = _
    rw [h, Nat.mul_add, Nat.pow_add, Nat.mul_left_comm (g (k + m)), Nat.add_assoc]
theorem dig_val (B : Nat) (g : Nat → Nat) (n k : Nat) (hB : 0 < B) (hk : k < n) : dig B (val B g n) k = (g k + ov B g k) % B := by
  obtain ⟨m, rfl⟩ : ∃ m, n = k + 1 + m := ⟨n - (k + 1), by omega⟩
  obtain ⟨q, h⟩ := val_split B g (k + 1) m
  have hp : 0 < B ^ k := Nat.pow_pos hB
  unfold dig
  rw [h, Nat.pow_succ, Nat.mul_assoc, Nat.add_mul_div_left _ _ hp, Nat.add_mul_mod_self_left]
  show (val B g k + g k * B ^ k) / B ^ k % B = _
  rw [Nat.add_mul_div_right _ _ hp, Nat.add_comm]
  rfl
theorem val_dig (B X : Nat) : ∀ n, val B (dig B X) n = X % B ^ n
  | 0 => by simp [val, Nat.mod_one]
  | n + 1 => by
    show val B (dig B X) n + dig B X n * B ^ n = _
    rw [val_dig B X n, dig_mod, Nat.mul_comm]
theorem val_congr (B : Nat) {f g : Nat → Nat} : ∀ n, (∀ j, j < n → f j = g j) → val B f n = val B g n
  | 0, _ => rfl
  | n + 1, h => by
    show val B f n + f n * B ^ n = val B g n + g n * B ^ n
    rw [val_congr B n (fun j hj => h j (by omega)), h n (by omega)]
theorem val_bound (B c : Nat) (g : Nat → Nat) (hB : 0 < B) (hg : ∀ j, g j ≤ c * (B - 1)) : ∀ n, val B g n ≤ c * (B ^ n - 1)
  | 0 => by simp [val]
  | n + 1 => by
    have ih := val_bound B c g hB hg n
    have hp : 0 < B ^ n := Nat.pow_pos hB
    show val B g n + g n * B ^ n ≤ _
    have h1 : g n * B ^ n ≤ c * (B - 1) * B ^ n := Nat.mul_le_mul_right _ (hg n)
    have h2 : c * (B ^ n - 1) + c * (B - 1) * B ^ n = c * (B ^ (n + 1) - 1) := by
      rw [Nat.mul_assoc, ← Nat.mul_add]
      congr 1
      rw [Nat.pow_succ, Nat.sub_mul, Nat.one_mul, Nat.mul_comm B]
      have : B ^ n ≤ B ^ n * B := Nat.le_mul_of_pos_right _ hB
      omega
    omega

/-- One round over sixteen parts of 16 bits: what is beyond comes back 38 times. -/
def rnd (V : Nat) : Nat := V % 115792089237316195423570985008687907853269984665640564039457584007913129639936 + 38 * (V / 115792089237316195423570985008687907853269984665640564039457584007913129639936)
def rpart (g : Nat → Nat) (j : Nat) : Nat := dig 65536 (val 65536 g 16) j + if j = 0 then 38 * ov 65536 g 16 else 0
theorem b16 : (65536 : Nat) ^ 16 = 115792089237316195423570985008687907853269984665640564039457584007913129639936 := by decide
theorem val_add0 (g : Nat → Nat) (x : Nat) : ∀ n, 0 < n → val 65536 (fun j => g j + if j = 0 then x else 0) n = val 65536 g n + x
  | 1, _ => by simp [val]
  | n + 2, _ => by
    have ih := val_add0 g x (n + 1) (by omega)
    show val 65536 _ (n + 1) + (g (n + 1) + if n + 1 = 0 then x else 0) * 65536 ^ (n + 1) = val 65536 g (n + 1) + g (n + 1) * 65536 ^ (n + 1) + x
    rw [if_neg (show ¬ n + 1 = 0 by omega), Nat.add_zero (g (n + 1)), ih]
    omega
theorem val_rpart (g : Nat → Nat) : val 65536 (rpart g) 16 = rnd (val 65536 g 16) := by
  unfold rpart
  rw [val_add0 _ _ 16 (by decide), val_dig]
  unfold rnd ov
  rw [b16]
theorem p_val : p25519 = 57896044618658097711785492504343953926634992332820282019728792003956564819949 := rfl
theorem rnd_mod (V : Nat) : rnd V % p25519 = V % p25519 := by
  unfold rnd
  rw [p_val]
  omega
/-- What sixteen parts must keep to. -/
theorem rnd3_lt (V : Nat) (h : V < 1125899906842624 * 115792089237316195423570985008687907853269984665640564039457584007913129639936) : rnd (rnd (rnd V)) < 115792089237316195423570985008687907853269984665640564039457584007913129639936 ∧ (∀ W, W = rnd (rnd V) → W < 115792089237316195423570985008687907853269984665640564039457584007913129639936 + 100) := by
  have e1 : rnd V < 115792089237316195423570985008687907853269984665640564039457584007913129639936 + 38 * 1125899906842624 := by unfold rnd; omega
  generalize rnd V = V1 at *
  have e2 : rnd V1 < 115792089237316195423570985008687907853269984665640564039457584007913129639936 ∨ rnd V1 < 1152921504606846976 := by unfold rnd; omega
  generalize rnd V1 = V2 at *
  refine ⟨by unfold rnd; omega, fun W hW => by omega⟩
/-- Behind three rounds each part is a digit. -/
theorem rpart_small (g : Nat → Nat) (h : val 65536 g 16 < 115792089237316195423570985008687907853269984665640564039457584007913129639936) (j : Nat) (hj : j < 16) : rpart g j = dig 65536 (val 65536 g 16) j := by
  have e : ov 65536 g 16 = 0 := by
    unfold ov
    rw [b16]
    exact Nat.div_eq_of_lt h
  unfold rpart
  rw [e, Nat.mul_zero, ite_self, Nat.add_zero]
theorem rnd3_dig (g : Nat → Nat) (h : val 65536 g 16 < 1125899906842624 * 115792089237316195423570985008687907853269984665640564039457584007913129639936) (j : Nat) (hj : j < 16) :
    rpart (rpart (rpart g)) j = dig 65536 (rnd (rnd (rnd (val 65536 g 16)))) j := by
  by_cases c : rnd (rnd (val 65536 g 16)) < 115792089237316195423570985008687907853269984665640564039457584007913129639936
  · rw [rpart_small _ (by rw [val_rpart, val_rpart]; exact c) j hj, val_rpart, val_rpart]
    congr 1
    generalize rnd (rnd (val 65536 g 16)) = V at *
    unfold rnd; omega
  · -- the second round never goes beyond
    exfalso
    have e1 : rnd (val 65536 g 16) < 115792089237316195423570985008687907853269984665640564039457584007913129639936 + 38 * 1125899906842624 := by unfold rnd; omega
    generalize rnd (val 65536 g 16) = V1 at *
    unfold rnd at c
    omega
end Go.Proofs.Ytahnlnflcgehaaa
namespace Go.Proofs.Ytahnlnflcgehaaa
open Lean.Grind Pri

namespace Pri
theorem pr_11 : Pr 11 := trial_prime (f := 4000) (by decide) (by decide +kernel)
theorem pr_23 : Pr 23 := trial_prime (f := 4000) (by decide) (by decide +kernel)
theorem pr_41 : Pr 41 := trial_prime (f := 4000) (by decide) (by decide +kernel)
theorem pr_43 : Pr 43 := trial_prime (f := 4000) (by decide) (by decide +kernel)
theorem pr_73 : Pr 73 := trial_prime (f := 4000) (by decide) (by decide +kernel)
theorem pr_269 : Pr 269 := trial_prime (f := 4000) (by decide) (by decide +kernel)
theorem pr_307 : Pr 307 := trial_prime (f := 4000) (by decide) (by decide +kernel)
theorem pr_1361 : Pr 1361 := trial_prime (f := 4000) (by decide) (by decide +kernel)
theorem pr_2851 : Pr 2851 := trial_prime (f := 4000) (by decide) (by decide +kernel)
theorem pr_5879 : Pr 5879 := trial_prime (f := 4000) (by decide) (by decide +kernel)
theorem pr_30703 : Pr 30703 := trial_prime (f := 4000) (by decide) (by decide +kernel)
theorem pr_82163 : Pr 82163 := trial_prime (f := 4000) (by decide) (by decide +kernel)
theorem pr_132667 : Pr 132667 := trial_prime (f := 4000) (by decide) (by decide +kernel)
theorem pr_137849 : Pr 137849 := trial_prime (f := 4000) (by decide) (by decide +kernel)
theorem pr_409477 : Pr 409477 := trial_prime (f := 4000) (by decide) (by decide +kernel)
theorem pr_531581 : Pr 531581 := trial_prime (f := 4000) (by decide) (by decide +kernel)
theorem pr_1224481 : Pr 1224481 := trial_prime (f := 4000) (by decide) (by decide +kernel)
theorem pr_14741173 : Pr 14741173 :=
  cert_prime (g := 2) (l := [(2, 2), (3, 2), (409477, 1)]) (by decide +kernel) (by
    intro x hx
    simp only [List.mem_cons, List.not_mem_nil, or_false] at hx
    rcases hx with rfl | rfl | rfl
    · exact pr_2
    · exact pr_3
    · exact pr_409477)
theorem pr_58964693 : Pr 58964693 :=
  cert_prime (g := 2) (l := [(2, 2), (14741173, 1)]) (by decide +kernel) (by
    intro x hx
    simp only [List.mem_cons, List.not_mem_nil, or_false] at hx
    rcases hx with rfl | rfl
    · exact pr_2
    · exact pr_14741173)
theorem pr_3044861653679985063343 : Pr 3044861653679985063343 :=
  cert_prime (g := 5) (l := [(2, 1), (3, 1), (11, 1), (30703, 1), (82163, 1), (137849, 1), (132667, 1)]) (by decide +kernel) (by
    intro x hx
    simp only [List.mem_cons, List.not_mem_nil, or_false] at hx
    rcases hx with rfl | rfl | rfl | rfl | rfl | rfl | rfl
    · exact pr_2
    · exact pr_3
    · exact pr_11
    · exact pr_30703
    · exact pr_82163
    · exact pr_137849
    · exact pr_132667)
theorem pr_198211423230930754013084525763697 : Pr 198211423230930754013084525763697 :=
  cert_prime (g := 5) (l := [(2, 4), (3, 1), (23, 1), (58964693, 1), (3044861653679985063343, 1)]) (by decide +kernel) (by
    intro x hx
    simp only [List.mem_cons, List.not_mem_nil, or_false] at hx
    rcases hx with rfl | rfl | rfl | rfl | rfl
    · exact pr_2
    · exact pr_3
    · exact pr_23
    · exact pr_58964693
    · exact pr_3044861653679985063343)
theorem pr_1257559732178653 : Pr 1257559732178653 :=
  cert_prime (g := 2) (l := [(2, 2), (3, 1), (7, 1), (23, 1), (1224481, 1), (531581, 1)]) (by decide +kernel) (by
    intro x hx
    simp only [List.mem_cons, List.not_mem_nil, or_false] at hx
    rcases hx with rfl | rfl | rfl | rfl | rfl | rfl
    · exact pr_2
    · exact pr_3
    · exact pr_7
    · exact pr_23
    · exact pr_1224481
    · exact pr_531581)
theorem pr_4434155615661930479 : Pr 4434155615661930479 :=
  cert_prime (g := 17) (l := [(2, 1), (41, 1), (43, 1), (1257559732178653, 1)]) (by decide +kernel) (by
    intro x hx
    simp only [List.mem_cons, List.not_mem_nil, or_false] at hx
    rcases hx with rfl | rfl | rfl | rfl
    · exact pr_2
    · exact pr_41
    · exact pr_43
    · exact pr_1257559732178653)
theorem pr_172054593956031949258510691 : Pr 172054593956031949258510691 :=
  cert_prime (g := 2) (l := [(2, 1), (5, 1), (1361, 1), (2851, 1), (4434155615661930479, 1)]) (by decide +kernel) (by
    intro x hx
    simp only [List.mem_cons, List.not_mem_nil, or_false] at hx
    rcases hx with rfl | rfl | rfl | rfl | rfl
    · exact pr_2
    · exact pr_5
    · exact pr_1361
    · exact pr_2851
    · exact pr_4434155615661930479)
theorem pr_292386187 : Pr 292386187 :=
  cert_prime (g := 2) (l := [(2, 1), (3, 4), (307, 1), (5879, 1)]) (by decide +kernel) (by
    intro x hx
    simp only [List.mem_cons, List.not_mem_nil, or_false] at hx
    rcases hx with rfl | rfl | rfl | rfl
    · exact pr_2
    · exact pr_3
    · exact pr_307
    · exact pr_5879)
theorem pr_213441916511 : Pr 213441916511 :=
  cert_prime (g := 13) (l := [(2, 1), (5, 1), (73, 1), (292386187, 1)]) (by decide +kernel) (by
    intro x hx
    simp only [List.mem_cons, List.not_mem_nil, or_false] at hx
    rcases hx with rfl | rfl | rfl | rfl
    · exact pr_2
    · exact pr_5
    · exact pr_73
    · exact pr_292386187)
theorem pr_19757330305831588566944191468367130476339 : Pr 19757330305831588566944191468367130476339 :=
  cert_prime (g := 2) (l := [(2, 1), (269, 1), (213441916511, 1), (172054593956031949258510691, 1)]) (by decide +kernel) (by
    intro x hx
    simp only [List.mem_cons, List.not_mem_nil, or_false] at hx
    rcases hx with rfl | rfl | rfl | rfl
    · exact pr_2
    · exact pr_269
    · exact pr_213441916511
    · exact pr_172054593956031949258510691)
theorem pr_276602624281642239937218680557139826668747 : Pr 276602624281642239937218680557139826668747 :=
  cert_prime (g := 2) (l := [(2, 1), (7, 1), (19757330305831588566944191468367130476339, 1)]) (by decide +kernel) (by
    intro x hx
    simp only [List.mem_cons, List.not_mem_nil, or_false] at hx
    rcases hx with rfl | rfl | rfl
    · exact pr_2
    · exact pr_7
    · exact pr_19757330305831588566944191468367130476339)
theorem pr_7237005577332262213973186563042994240857116359379907606001950938285454250989 : Pr 7237005577332262213973186563042994240857116359379907606001950938285454250989 :=
  cert_prime (g := 2) (l := [(2, 2), (3, 1), (11, 1), (198211423230930754013084525763697, 1), (276602624281642239937218680557139826668747, 1)]) (by decide +kernel) (by
    intro x hx
    simp only [List.mem_cons, List.not_mem_nil, or_false] at hx
    rcases hx with rfl | rfl | rfl | rfl | rfl
    · exact pr_2
    · exact pr_3
    · exact pr_11
    · exact pr_198211423230930754013084525763697
    · exact pr_276602624281642239937218680557139826668747)

end Pri

/-- The order of the base. -/
def lL : Nat := 7237005577332262213973186563042994240857116359379907606001950938285454250989
theorem lL_prime : Pr lL := pr_7237005577332262213973186563042994240857116359379907606001950938285454250989

/-- X, Y, Z tell the point P. -/
def Rep {R : Type} [CommRing R] (X Y Z : R) (P : R × R) : Prop := Z ≠ 0 ∧ X = P.1 * Z ∧ Y = P.2 * Z

namespace Cv
variable {R : Type} [CommRing R] (C : Fit R)
include C in
theorem inv_ne {a b : R} (h : a * b = 1) : a ≠ 0 := fun e => C.one (by grind)
theorem one_of {S : Type} [CommRing S] (d y : S) (h : 1 + d * y * y = 0) (e : y = 0) : (1 : S) = 0 := by grind
theorem neg_of {S : Type} [CommRing S] (d y k : S) (h : 1 + d * y * y = 0) (e : y * k = 1) : k * k = -d := by grind
/-- A sum without a division, as the document says it. -/
theorem rep_add {X1 Y1 Z1 X2 Y2 Z2 : R} {P Q : R × R} (hP : On C P) (hQ : On C Q) (h1 : Rep X1 Y1 Z1 P) (h2 : Rep X2 Y2 Z2 Q) :
    Rep ((Z1 * Z2) * ((Z1 * Z2) * (Z1 * Z2) - C.d * (X1 * X2 * (Y1 * Y2))) * ((X1 + Y1) * (X2 + Y2) - (X1 * X2 + Y1 * Y2)))
      ((Z1 * Z2) * ((Z1 * Z2) * (Z1 * Z2) + C.d * (X1 * X2 * (Y1 * Y2))) * (X1 * X2 + Y1 * Y2))
      (((Z1 * Z2) * (Z1 * Z2) - C.d * (X1 * X2 * (Y1 * Y2))) * ((Z1 * Z2) * (Z1 * Z2) + C.d * (X1 * X2 * (Y1 * Y2)))) (add C P Q) := by
  obtain ⟨z1, ex1, ey1⟩ := h1
  obtain ⟨z2, ex2, ey2⟩ := h2
  have ⟨d1, d2⟩ := dens C hP hQ
  have n1 := inv_ne C d1
  have n2 := inv_ne C d2
  obtain ⟨x1, y1⟩ := P
  obtain ⟨x2, y2⟩ := Q
  unfold add
  simp only at *
  generalize C.inv (1 + C.d * x1 * x2 * y1 * y2) = k at *
  generalize C.inv (1 - C.d * x1 * x2 * y1 * y2) = m at *
  subst ex1 ey1 ex2 ey2
  have e : (Z1 * Z2) * (Z1 * Z2) - C.d * (x1 * Z1 * (x2 * Z2) * (y1 * Z1 * (y2 * Z2))) = (Z1 * Z2) * (Z1 * Z2) * (1 - C.d * x1 * x2 * y1 * y2) := by grind
  have e2 : (Z1 * Z2) * (Z1 * Z2) + C.d * (x1 * Z1 * (x2 * Z2) * (y1 * Z1 * (y2 * Z2))) = (Z1 * Z2) * (Z1 * Z2) * (1 + C.d * x1 * x2 * y1 * y2) := by grind
  have z12 := ne_mul C z1 z2
  have z4 := ne_mul C z12 z12
  rw [e, e2]
  generalize 1 - C.d * x1 * x2 * y1 * y2 = u at *
  generalize 1 + C.d * x1 * x2 * y1 * y2 = v at *
  refine ⟨ne_mul C (ne_mul C z4 n2) (ne_mul C z4 n1), ?_, ?_⟩
  · have : Z1 * Z2 * (Z1 * Z2 * (Z1 * Z2) * u) * ((x1 * Z1 + y1 * Z1) * (x2 * Z2 + y2 * Z2) - (x1 * Z1 * (x2 * Z2) + y1 * Z1 * (y2 * Z2))) = (v * k) * (Z1 * Z2 * (Z1 * Z2 * (Z1 * Z2) * u) * ((x1 * Z1 + y1 * Z1) * (x2 * Z2 + y2 * Z2) - (x1 * Z1 * (x2 * Z2) + y1 * Z1 * (y2 * Z2)))) := by rw [d1]; grind
    rw [this]; grind
  · have : Z1 * Z2 * (Z1 * Z2 * (Z1 * Z2) * v) * (x1 * Z1 * (x2 * Z2) + y1 * Z1 * (y2 * Z2)) = (u * m) * (Z1 * Z2 * (Z1 * Z2 * (Z1 * Z2) * v) * (x1 * Z1 * (x2 * Z2) + y1 * Z1 * (y2 * Z2))) := by rw [d2]; grind
    rw [this]; grind
/-- A sum without a division, as the program says it: with t = x y / z. -/
theorem rep_wide {X1 Y1 Z1 T1 X2 Y2 Z2 T2 : R} {P Q : R × R} (hP : On C P) (hQ : On C Q) (h1 : Rep X1 Y1 Z1 P) (h2 : Rep X2 Y2 Z2 Q) (t1 : T1 = P.1 * P.2 * Z1) (t2 : T2 = Q.1 * Q.2 * Z2)
    (a b c d e f g h : R) (ha : a = (Y1 - X1) * (Y2 - X2)) (hb : b = (Y1 + X1) * (Y2 + X2)) (hc : c = T1 * T2 * (C.d + C.d)) (hd : d = Z1 * (Z2 + Z2)) (he : e = b - a) (hf : f = d - c) (hg : g = d + c) (hh : h = b + a) :
    Rep (e * f) (g * h) (f * g) (add C P Q) ∧ e * h = (add C P Q).1 * (add C P Q).2 * (f * g) := by
  obtain ⟨z1, ex1, ey1⟩ := h1
  obtain ⟨z2, ex2, ey2⟩ := h2
  have ⟨d1, d2⟩ := dens C hP hQ
  have n1 := inv_ne C d1
  have n2 := inv_ne C d2
  obtain ⟨x1, y1⟩ := P
  obtain ⟨x2, y2⟩ := Q
  unfold add
  simp only at *
  generalize C.inv (1 + C.d * x1 * x2 * y1 * y2) = k at *
  generalize C.inv (1 - C.d * x1 * x2 * y1 * y2) = m at *
  subst ex1 ey1 ex2 ey2 t1 t2
  have two : (1 : R) + 1 ≠ 0 := inv_ne C (b := C.half) (by have := C.two; grind)
  have zz := ne_mul C two (ne_mul C z1 z2)
  have e1 : e = (1 + 1) * (Z1 * Z2) * (x1 * y2 + y1 * x2) := by subst he ha hb; grind
  have e2 : h = (1 + 1) * (Z1 * Z2) * (y1 * y2 + x1 * x2) := by subst hh ha hb; grind
  have e3 : f = (1 + 1) * (Z1 * Z2) * (1 - C.d * x1 * x2 * y1 * y2) := by subst hf hc hd; grind
  have e4 : g = (1 + 1) * (Z1 * Z2) * (1 + C.d * x1 * x2 * y1 * y2) := by subst hg hc hd; grind
  clear ha hb hc hd he hf hg hh
  generalize 1 - C.d * x1 * x2 * y1 * y2 = u at *
  generalize 1 + C.d * x1 * x2 * y1 * y2 = v at *
  generalize x1 * y2 + y1 * x2 = A at *
  generalize y1 * y2 + x1 * x2 = B at *
  generalize (1 + 1) * (Z1 * Z2) = z at *
  subst e1 e2 e3 e4
  refine ⟨⟨ne_mul C (ne_mul C zz n2) (ne_mul C zz n1), ?_, ?_⟩, ?_⟩
  · have : z * A * (z * u) = (v * k) * (z * A * (z * u)) := by rw [d1]; grind
    rw [this]; grind
  · have : z * v * (z * B) = (u * m) * (z * v * (z * B)) := by rw [d2]; grind
    rw [this]; grind
  · have : z * A * (z * B) = (v * k) * (u * m) * (z * A * (z * B)) := by rw [d1, d2]; grind
    rw [this]; grind
include C in
theorem rep_same {X Y Z : R} {P Q : R × R} (h1 : Rep X Y Z P) (h2 : Rep X Y Z Q) : P = Q := by
  obtain ⟨z, a, b⟩ := h1
  obtain ⟨_, c, d⟩ := h2
  have k := C.inv_mul Z z
  obtain ⟨x1, y1⟩ := P
  obtain ⟨x2, y2⟩ := Q
  simp only at *
  congr 1 <;> grind
theorem cancel {P Q S : R × R} (hP : On C P) (hQ : On C Q) (hS : On C S) (h : add C P Q = add C P S) : Q = S := by
  have e : ∀ T : R × R, On C T → add C (neg P) (add C P T) = T := fun T hT => by
    rw [← add_assoc C (on_neg C hP) hP hT, add_comm C (neg P) P, add_neg C hP, zero_add]
  rw [← e Q hQ, h, e S hS]
theorem sub_ne {P : R × R} (h : On C P) {a b : Nat} (hb : times C P a = zero) (hab : times C P (a + b) = zero) : times C P b = zero := by
  rw [times_add C h, hb, zero_add] at hab; exact hab
theorem times_mul_zero {P : R × R} (h : On C P) {a : Nat} (h0 : times C P a = zero) (k : Nat) : times C P (a * k) = zero := by
  rw [times_mul C h, h0, times_zero]
theorem times_gcd {P : R × R} (h : On C P) : ∀ (a b : Nat), times C P a = zero → times C P b = zero → times C P (Nat.gcd a b) = zero := by
  intro a b
  induction a, b using Nat.gcd.induction with
  | H0 n => intro _ h; rw [Nat.gcd_zero_left]; exact h
  | H1 m n hm ih =>
    intro h1 h2
    rw [Nat.gcd_rec]
    refine ih ?_ h1
    refine sub_ne C h (a := m * (n / m)) (times_mul_zero C h h1 _) ?_
    rw [Nat.div_add_mod]; exact h2
/-- The multiples below the order are unlike each other. -/
theorem apart {P : R × R} (h : On C P) {n : Nat} (l : List (Nat × Nat)) (hn : n = prod l) (hl : ∀ x ∈ l, Pr x.1) (h0 : 0 < n) (h1 : times C P n = zero) (hq : ∀ x ∈ l, times C P (n / x.1) ≠ zero) :
    ∀ i j, i < j → j < n → times C P i ≠ times C P j := by
  intro i j hij hj e
  have hm : times C P (j - i) = zero := by
    have : add C (times C P i) (times C P (j - i)) = add C (times C P i) zero := by
      rw [← times_add C h, add_zero, show i + (j - i) = j from by omega, e]
    exact cancel C (on_times C h i) (on_times C h _) (on_zero C) this
  have hg := times_gcd C h _ _ hm h1
  have hle : Nat.gcd (j - i) n ≤ j - i := Nat.gcd_le_left _ (by omega)
  obtain ⟨x, hx, k, hd⟩ := proper l hn hl h0 (Nat.gcd_dvd_right (j - i) n) (by omega)
  have := times_mul_zero C h hg k
  rw [← hd] at this
  exact hq x hx this
end Cv

/-- Sums by numbers. -/
def nadd (P Q : Nat × Nat × Nat) : Nat × Nat × Nat :=
  let a := P.2.2 * Q.2.2 % p25519
  let b := a * a % p25519
  let c := P.1 * Q.1 % p25519
  let d := P.2.1 * Q.2.1 % p25519
  let e := dD * (c * d % p25519) % p25519
  let f := (b + (p25519 - e)) % p25519
  let g := (b + e) % p25519
  let s := (P.1 + P.2.1) * (Q.1 + Q.2.1) % p25519
  (a * f % p25519 * (s + (p25519 - (c + d) % p25519)) % p25519, a * g % p25519 * (c + d) % p25519, f * g % p25519)
def nrep (T : Nat × Nat × Nat) (P : Fp × Fp) : Prop := Rep (fv T.1) (fv T.2.1) (fv T.2.2) P
theorem fv_sub (a b : Nat) (h : b ≤ p25519) : fv (a + (p25519 - b)) = fv a - fv b := by rw [fv_add, fv_neg b h]; grind
theorem fv_sub_mod (a b : Nat) : fv (a + (p25519 - b % p25519)) = fv a - fv b := by rw [fv_sub _ _ (Nat.le_of_lt (Nat.mod_lt _ p_pos)), fv_mod]
theorem nadd_rep {T S : Nat × Nat × Nat} {P Q : Fp × Fp} (hP : Cv.On cC P) (hQ : Cv.On cC Q) (h1 : nrep T P) (h2 : nrep S Q) : nrep (nadd T S) (Cv.add cC P Q) := by
  have := Cv.rep_add cC hP hQ h1 h2
  unfold nrep
  obtain ⟨X1, Y1, Z1⟩ := T
  obtain ⟨X2, Y2, Z2⟩ := S
  simp only at this
  unfold nadd
  simp only
  rw [show cC.d = fv dD from rfl] at this
  refine cast ?_ this
  congr 1
  all_goals
    simp only [fv_mod, fv_mul, fv_add, fv_sub _ _ (Nat.le_of_lt (Nat.mod_lt _ p_pos))]
    try grind
/-- So often a point, by numbers: fuel, how often, the point doubled, the sum. -/
def nmul : Nat → Nat → Nat × Nat × Nat → Nat × Nat × Nat → Nat × Nat × Nat
  | 0, _, _, acc => acc
  | f + 1, n, T, acc => if n = 0 then acc else nmul f (n / 2) (nadd T T) (if n % 2 = 1 then nadd acc T else acc)
theorem nmul_rep : ∀ (f n : Nat) (T acc : Nat × Nat × Nat) (P Q : Fp × Fp), n < 2 ^ f → Cv.On cC P → Cv.On cC Q → nrep T P → nrep acc Q → nrep (nmul f n T acc) (Cv.add cC Q (Cv.times cC P n))
  | 0, n, T, acc, P, Q, h, hP, hQ, h1, h2 => by
    have : n = 0 := by simpa using h
    subst this
    show nrep acc (Cv.add cC Q Cv.zero)
    rw [Cv.add_zero]; exact h2
  | f + 1, n, T, acc, P, Q, h, hP, hQ, h1, h2 => by
    unfold nmul
    by_cases h0 : n = 0
    · rw [if_pos h0]; subst h0
      show nrep acc (Cv.add cC Q Cv.zero)
      rw [Cv.add_zero]; exact h2
    · rw [if_neg h0]
      have e2 : Cv.times cC P (2 * (n / 2)) = Cv.times cC (Cv.add cC P P) (n / 2) := by
        rw [Cv.times_mul cC hP, show Cv.times cC P 2 = Cv.add cC P P from by
          show Cv.add cC (Cv.add cC Cv.zero P) P = _
          rw [Cv.zero_add]]
      have hPP := Cv.on_add cC hP hP
      have hT := nadd_rep hP hP h1 h1
      by_cases hb : n % 2 = 1
      · rw [if_pos hb]
        have ih := nmul_rep f (n / 2) (nadd T T) (nadd acc T) _ _ (by rw [Nat.pow_succ] at h; omega) hPP (Cv.on_add cC hQ hP) hT (nadd_rep hQ hP h2 h1)
        have e : Cv.add cC Q (Cv.times cC P n) = Cv.add cC (Cv.add cC Q P) (Cv.times cC (Cv.add cC P P) (n / 2)) := by
          have : n = 1 + 2 * (n / 2) := by omega
          conv => lhs; rw [this]
          rw [Cv.times_add cC hP, Cv.times_one, e2, Cv.add_assoc cC hQ hP (Cv.on_times cC hPP _)]
        rw [e]; exact ih
      · rw [if_neg hb]
        have ih := nmul_rep f (n / 2) (nadd T T) acc _ _ (by rw [Nat.pow_succ] at h; omega) hPP hQ hT h2
        have e : n = 2 * (n / 2) := by omega
        conv => arg 2; rw [e, e2]
        exact ih
theorem nrep_zero : nrep (0, 1, 1) Cv.zero := by
  refine ⟨?_, ?_, ?_⟩
  · exact fv_ne (by rw [one_mod_p]; decide)
  · show fv 0 = 0 * fv 1; rw [fv_zero]; grind
  · show fv 1 = 1 * fv 1; grind
theorem nmul_times (n : Nat) (T : Nat × Nat × Nat) (P : Fp × Fp) (hn : n < 2 ^ 260) (hP : Cv.On cC P) (h : nrep T P) : nrep (nmul 260 n T (0, 1, 1)) (Cv.times cC P n) := by
  have := nmul_rep 260 n T (0, 1, 1) P Cv.zero hn hP (Cv.on_zero cC) h nrep_zero
  rwa [Cv.zero_add] at this
/-- Is the point that three numbers tell the neutral one? -/
def nis0 (T : Nat × Nat × Nat) : Bool := T.1 % p25519 == 0 && T.2.1 % p25519 == T.2.2 % p25519
theorem nis0_yes {T : Nat × Nat × Nat} {P : Fp × Fp} (h : nrep T P) (h0 : nis0 T = true) : P = Cv.zero := by
  unfold nis0 at h0
  simp only [Bool.and_eq_true, beq_iff_eq] at h0
  refine Cv.rep_same cC h ⟨h.1, ?_, ?_⟩
  · rw [← fv_mod, h0.1, fv_zero]; show (0 : Fp) = 0 * _; grind
  · rw [← fv_mod, h0.2, fv_mod]; show _ = 1 * fv T.2.2; grind
theorem nis0_no {T : Nat × Nat × Nat} {P : Fp × Fp} (h : nrep T P) (h0 : nis0 T = false) : P ≠ Cv.zero := by
  intro e
  subst e
  obtain ⟨_, hx, hy⟩ := h
  have h1 : fv T.1 = fv 0 := by rw [hx, fv_zero]; show 0 * fv T.2.2 = 0; grind
  have h2 : fv T.2.1 = fv T.2.2 := by rw [hy]; show 1 * fv T.2.2 = _; grind
  have h1 := fv_eq.1 h1
  have h2 := fv_eq.1 h2
  rw [Nat.zero_mod] at h1
  unfold nis0 at h0
  rw [h1, h2] at h0
  simp at h0

/-- A point whose multiples are all points. -/
def gG : Fp × Fp := (fv 10405405258473914874183617234027007191356550210603093774830463659632760060427, fv 3)
theorem of_nums (x y : Nat) (h : y * y % p25519 = (1 + x * x + dD * x * x * y * y) % p25519) : Cv.On cC (fv x, fv y) := by
  unfold Cv.On
  show fv y * fv y = 1 + fv x * fv x + fv dD * fv x * fv x * fv y * fv y
  rw [← fv_one]
  simp only [← fv_mul, ← fv_add]
  exact fv_eq.2 h
theorem nums_rep (x y : Nat) : nrep (x, y, 1) (fv x, fv y) := by
  refine ⟨fv_ne (by rw [one_mod_p]; decide), ?_, ?_⟩
  · show fv x = fv x * fv 1; rw [fv_one]; grind
  · show fv y = fv y * fv 1; rw [fv_one]; grind
theorem gG_on : Cv.On cC gG := of_nums _ _ (by decide +kernel)
theorem gG_times (n : Nat) (h : n < 2 ^ 260) : nrep (nmul 260 n (10405405258473914874183617234027007191356550210603093774830463659632760060427, 3, 1) (0, 1, 1)) (Cv.times cC gG n) := nmul_times n _ _ h gG_on (nums_rep _ _)
theorem gG_all : Cv.times cC gG (8 * lL) = Cv.zero := nis0_yes (gG_times _ (by decide +kernel)) (by decide +kernel)
theorem gG_half : Cv.times cC gG (8 * lL / 2) ≠ Cv.zero := nis0_no (gG_times _ (by decide +kernel)) (by decide +kernel)
theorem gG_eight : Cv.times cC gG (8 * lL / lL) ≠ Cv.zero := nis0_no (gG_times _ (by decide +kernel)) (by decide +kernel)
theorem gG_apart : ∀ i j, i < j → j < 8 * lL → Cv.times cC gG i ≠ Cv.times cC gG j := by
  refine Cv.apart cC gG_on [(2, 3), (lL, 1)] (by decide +kernel) ?_ (by decide +kernel) gG_all ?_
  · intro x hx
    simp only [List.mem_cons, List.not_mem_nil, or_false] at hx
    rcases hx with rfl | rfl
    · exact pr_2
    · exact lL_prime
  · intro x hx
    simp only [List.mem_cons, List.not_mem_nil, or_false] at hx
    rcases hx with rfl | rfl
    · exact gG_half
    · exact gG_eight

/-- Two of one square are alike or opposite. -/
theorem sq_two (x z : Fp) (h : x * x = z * z) : x = z ∨ x = -z := by
  rcases Cv.unit cC (x - z) (x + z) (by grind) with h | h
  · left; grind
  · right; grind
theorem p_odd : p25519 % 2 = 1 := by decide +kernel
theorem neg_parity (z : Fp) (h : z ≠ 0) : (-z).val % 2 ≠ z.val % 2 := by
  have h0 : 0 < z.val := Nat.pos_of_ne_zero fun e => h (Fin.ext e)
  have e : (-z).val = p25519 - z.val := by
    have : -z = fv (p25519 - z.val) := by rw [fv_neg _ (Nat.le_of_lt z.isLt), fv_of_val]
    rw [this, fv_val]
    exact Nat.mod_eq_of_lt (by have := z.isLt; omega)
  have := z.isLt
  have := p_odd
  omega
theorem den_ne (y : Fp) : 1 + cC.d * y * y ≠ 0 := by
  intro h
  have hy : y ≠ 0 := fun e => cC.one (Cv.one_of _ _ h e)
  have hk := finv_mul y hy
  exact dD_none (finv y) (by
    have h : 1 + fv dD * y * y = 0 := h
    generalize finv y = k at *
    exact Cv.neg_of _ _ _ h hk)
/-- A point is told by its y and whether its x is odd. -/
theorem told (P Q : Fp × Fp) (hP : Cv.On cC P) (hQ : Cv.On cC Q) (hy : P.2 = Q.2) (hx : P.1.val % 2 = Q.1.val % 2) : P = Q := by
  obtain ⟨x, y⟩ := P
  obtain ⟨z, y2⟩ := Q
  simp only at hy hx
  subst hy
  unfold Cv.On at hP hQ
  simp only at hP hQ
  have hn := den_ne y
  have hk := cC.inv_mul _ hn
  have : x * x = z * z := by
    have e : x * x * (1 + cC.d * y * y) = z * z * (1 + cC.d * y * y) := by grind
    generalize 1 + cC.d * y * y = u at *
    generalize cC.inv u = k at *
    have : x * x * (u * k) = z * z * (u * k) := by grind
    rw [hk] at this
    grind
  rcases sq_two x z this with h | h
  · rw [h]
  · by_cases h0 : z = 0
    · rw [h, h0]; congr 1 <;> grind
    · rw [h] at hx; exact absurd hx (neg_parity z h0)

/-- More than there is room for aren't all unlike. -/
theorem too_many (n m : Nat) (f : Nat → Nat) (hf : ∀ i, i < m → f i < n) (hm : n < m) : ∃ i j, i < j ∧ j < m ∧ f i = f j := by
  apply Classical.byContradiction
  intro hno
  have hi : ∀ i j, i < n → j < n → f i = f j → i = j := by
    intro i j hi hj e
    rcases Nat.lt_trichotomy i j with c | c | c
    · exact absurd ⟨i, j, c, by omega, e⟩ hno
    · exact c
    · exact absurd ⟨j, i, c, by omega, e.symm⟩ hno
  obtain ⟨i, hin, e⟩ := fill n f (fun i h => hf i (by omega)) hi (f n) (hf n hm)
  exact hno ⟨i, n, hin, hm, e⟩

def slot (P : Fp × Fp) : Nat := 2 * P.2.val + P.1.val % 2
theorem slot_lt (P : Fp × Fp) : slot P < 2 * p25519 := by unfold slot; have := P.2.isLt; omega
theorem slot_eq {P Q : Fp × Fp} (hP : Cv.On cC P) (hQ : Cv.On cC Q) (h : slot P = slot Q) : P = Q := by
  unfold slot at h
  exact told P Q hP hQ (Fin.ext (by omega)) (by omega)

/-- Each point is a multiple of one. -/
theorem all_multiples (Q : Fp × Fp) (hQ : Cv.On cC Q) : ∃ k, Q = Cv.times cC gG k := by
  apply Classical.byContradiction
  intro hno
  have hon : ∀ i, Cv.On cC (Cv.times cC gG i) := fun i => Cv.on_times cC gG_on i
  obtain ⟨i, j, hij, hj, e⟩ := too_many (2 * p25519) (16 * lL) (fun i => slot (if i < 8 * lL then Cv.times cC gG i else Cv.add cC Q (Cv.times cC gG (i - 8 * lL)))) (fun i _ => slot_lt _) (by decide +kernel)
  have e : slot (if i < 8 * lL then Cv.times cC gG i else Cv.add cC Q (Cv.times cC gG (i - 8 * lL))) = slot (if j < 8 * lL then Cv.times cC gG j else Cv.add cC Q (Cv.times cC gG (j - 8 * lL))) := e
  by_cases c2 : j < 8 * lL
  · rw [if_pos c2, if_pos (by omega)] at e
    exact gG_apart i j hij c2 (slot_eq (hon _) (hon _) e)
  · rw [if_neg c2] at e
    by_cases c1 : i < 8 * lL
    · rw [if_pos c1] at e
      have e := slot_eq (hon _) (Cv.on_add cC hQ (hon _)) e
      refine hno ⟨i + (8 * lL - (j - 8 * lL)), ?_⟩
      rw [Cv.times_add cC gG_on, e, Cv.add_assoc cC hQ (hon _) (hon _), ← Cv.times_add cC gG_on, show j - 8 * lL + (8 * lL - (j - 8 * lL)) = 8 * lL from by omega, gG_all, Cv.add_zero]
    · rw [if_neg c1] at e
      have e := slot_eq (Cv.on_add cC hQ (hon _)) (Cv.on_add cC hQ (hon _)) e
      have e := Cv.cancel cC hQ (hon _) (hon _) e
      exact gG_apart (i - 8 * lL) (j - 8 * lL) (by omega) (by omega) e
/-- Eight times the order, times any point, is the neutral one. -/
theorem times_all (Q : Fp × Fp) (hQ : Cv.On cC Q) : Cv.times cC Q (8 * lL) = Cv.zero := by
  obtain ⟨k, rfl⟩ := all_multiples Q hQ
  rw [← Cv.times_mul cC gG_on, Nat.mul_comm, Cv.times_mul cC gG_on, gG_all, Cv.times_zero]
end Go.Proofs.Ytahnlnflcgehaaa

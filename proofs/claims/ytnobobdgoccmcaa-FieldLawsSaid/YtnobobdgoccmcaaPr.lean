/-
  Plain facts on primes: a number one of whose powers run through all others is prime, and each number's power to it, less one, is one.
-/
namespace Go.Proofs.Ytnobobdgoccmcaa.Pri

/-- a's n-th power, times acc, modulo p, by squares. -/
def pwm (p : Nat) : Nat → Nat → Nat → Nat → Nat
  | 0, _, _, acc => acc
  | f + 1, a, n, acc => if n = 0 then acc else pwm p f (a * a % p) (n / 2) (if n % 2 = 1 then acc * a % p else acc)

theorem pow_mod_mul (p a n : Nat) : (a % p) ^ n % p = a ^ n % p := by rw [← Nat.pow_mod]

theorem pwm_eq (p : Nat) : ∀ (f a n acc : Nat), n < 2 ^ f → pwm p f a n acc % p = acc * a ^ n % p
  | 0, a, n, acc, h => by
    have : n = 0 := by simpa using h
    subst this; simp [pwm]
  | f + 1, a, n, acc, h => by
    unfold pwm
    by_cases h0 : n = 0
    · rw [if_pos h0]; subst h0; simp
    · rw [if_neg h0, pwm_eq p f _ _ _ (by rw [Nat.pow_succ] at h; omega)]
      have hn : n = 2 * (n / 2) + n % 2 := by omega
      have e1 : (a * a % p) ^ (n / 2) % p = a ^ (2 * (n / 2)) % p := by
        rw [pow_mod_mul, ← Nat.pow_two, ← Nat.pow_mul]
      by_cases h1 : n % 2 = 1
      · rw [if_pos h1]
        conv => rhs; rw [hn, h1, Nat.pow_succ, Nat.mul_comm (a ^ _) a, ← Nat.mul_assoc]
        rw [Nat.mul_mod, e1, Nat.mod_mod, ← Nat.mul_mod]
      · rw [if_neg h1]
        have h2 : n % 2 = 0 := by omega
        conv => rhs; rw [hn, h2, Nat.add_zero]
        rw [Nat.mul_mod, e1, ← Nat.mul_mod]

def Pr (n : Nat) : Prop := 2 ≤ n ∧ ∀ m, m ∣ n → m = 1 ∨ m = n

/-- A power that is one. -/
def One (p g n : Nat) : Prop := g ^ n % p = 1 % p

theorem One.mul {p g a : Nat} (h : One p g a) (k : Nat) : One p g (a * k) := by
  unfold One at *
  rw [Nat.pow_mul, Nat.pow_mod, h, ← Nat.pow_mod, Nat.one_pow]
theorem One.strip {p g a b : Nat} (h : One p g a) (h2 : One p g (a + b)) : One p g b := by
  unfold One at *
  rw [Nat.pow_add, Nat.mul_mod, h, ← Nat.mul_mod, Nat.one_mul] at h2
  exact h2
theorem One.gcd {p g : Nat} : ∀ (a b : Nat), One p g a → One p g b → One p g (Nat.gcd a b) := by
  intro a b
  induction a, b using Nat.gcd.induction with
  | H0 n => intro _ h; rw [Nat.gcd_zero_left]; exact h
  | H1 m n hm ih =>
    intro h1 h2
    rw [Nat.gcd_rec]
    refine ih ?_ h1
    refine One.strip (h1.mul (n / m)) ?_
    rw [Nat.div_add_mod]; exact h2

/-- Each number beyond one has a prime divisor. -/
theorem prime_div : ∀ (n m : Nat), m ≤ n → 2 ≤ m → ∃ q, Pr q ∧ q ∣ m
  | 0, m, h, h2 => by omega
  | n + 1, m, h, h2 => by
    by_cases hp : Pr m
    · exact ⟨m, hp, Nat.dvd_refl _⟩
    · have : ∃ k, k ∣ m ∧ k ≠ 1 ∧ k ≠ m := by
        apply Classical.byContradiction
        intro hn
        exact hp ⟨h2, fun k hk => by
          apply Classical.byContradiction
          intro h3
          exact hn ⟨k, hk, fun e => h3 (.inl e), fun e => h3 (.inr e)⟩⟩
      obtain ⟨k, hk, h1, hm⟩ := this
      have hle := Nat.le_of_dvd (by omega) hk
      have h0 : k ≠ 0 := by rintro rfl; rw [Nat.zero_dvd] at hk; omega
      obtain ⟨q, hq, hd⟩ := prime_div n k (by omega) (by omega)
      exact ⟨q, hq, Nat.dvd_trans hd hk⟩

theorem Pr.dvd_mul {q a b : Nat} (hq : Pr q) (h : q ∣ a * b) : q ∣ a ∨ q ∣ b := by
  rcases hq.2 (Nat.gcd q a) (Nat.gcd_dvd_left _ _) with h1 | h1
  · exact .inr (Nat.Coprime.dvd_of_dvd_mul_left h1 h)
  · left; rw [← h1]; exact Nat.gcd_dvd_right _ _
theorem Pr.dvd_pow {q a : Nat} (hq : Pr q) : ∀ n, q ∣ a ^ n → q ∣ a
  | 0, h => by rw [Nat.pow_zero] at h; have := Nat.le_of_dvd (by decide) h; have := hq.1; omega
  | n + 1, h => by
    rw [Nat.pow_succ] at h
    rcases hq.dvd_mul h with h | h
    · exact hq.dvd_pow n h
    · exact h

/-- The product of powers of a list of pairs. -/
def prod : List (Nat × Nat) → Nat
  | [] => 1
  | (q, e) :: l => q ^ e * prod l

theorem Pr.dvd_prod {q : Nat} (hq : Pr q) : ∀ (l : List (Nat × Nat)), (∀ x ∈ l, Pr x.1) → q ∣ prod l → ∃ x ∈ l, x.1 = q
  | [], _, h => by have := Nat.le_of_dvd (by decide) h; have := hq.1; simp [prod] at *; omega
  | (r, e) :: l, hl, h => by
    rcases hq.dvd_mul h with h | h
    · refine ⟨(r, e), by simp, ?_⟩
      have := hq.dvd_pow e h
      rcases (hl (r, e) (by simp)).2 q this with h | h
      · have := hq.1; omega
      · exact h.symm
    · obtain ⟨x, hx, e⟩ := hq.dvd_prod l (fun x hx => hl x (by simp [hx])) h
      exact ⟨x, by simp [hx], e⟩

/-- A divisor that isn't all divides all without one of its primes. -/
theorem proper {n d : Nat} (l : List (Nat × Nat)) (hn : n = prod l) (hl : ∀ x ∈ l, Pr x.1) (h0 : 0 < n) (hd : d ∣ n) (hne : d ≠ n) : ∃ x ∈ l, d ∣ n / x.1 := by
  obtain ⟨m, hm⟩ := hd
  have hm2 : 2 ≤ m := by
    rcases m with _ | _ | m
    · simp at hm; omega
    · simp at hm; omega
    · omega
  obtain ⟨q, hq, k, hk⟩ := prime_div m m (Nat.le_refl _) hm2
  obtain ⟨x, hx, e⟩ := hq.dvd_prod l hl (by rw [← hn, hm, hk]; exact ⟨d * k, by ac_rfl⟩)
  refine ⟨x, hx, k, ?_⟩
  have := hq.1
  rw [e, hm, hk, Nat.mul_left_comm, Nat.mul_div_cancel_left _ (by omega)]

/-- As many as there is room for, unlike each other, fill all. -/
theorem fill : ∀ (n : Nat) (f : Nat → Nat), (∀ i, i < n → f i < n) → (∀ i j, i < n → j < n → f i = f j → i = j) → ∀ a, a < n → ∃ i, i < n ∧ f i = a
  | 0, _, _, _, a, ha => by omega
  | n + 1, f, hf, hi, a, ha => by
    have IH := fill n (fun i => if f i = n then f n else f i) (by
        intro i h
        show (if f i = n then f n else f i) < n
        have h1 := hf i (by omega)
        have h2 := hf n (by omega)
        split
        · rename_i e
          have : f n ≠ n := fun e2 => by have := hi i n (by omega) (by omega) (by omega); omega
          omega
        · omega)
      (by
        intro i j h1 h2 e
        have e : (if f i = n then f n else f i) = (if f j = n then f n else f j) := e
        by_cases c1 : f i = n <;> by_cases c2 : f j = n
        · exact hi i j (by omega) (by omega) (by omega)
        · rw [if_pos c1, if_neg c2] at e; have := hi n j (by omega) (by omega) e; omega
        · rw [if_neg c1, if_pos c2] at e; have := hi i n (by omega) (by omega) e; omega
        · rw [if_neg c1, if_neg c2] at e; exact hi i j (by omega) (by omega) e)
    by_cases hb : a = f n
    · exact ⟨n, by omega, hb.symm⟩
    · by_cases hn : a = n
      · by_cases hfn : f n = n
        · omega
        · obtain ⟨i, h1, h2⟩ := IH (f n) (by have := hf n (by omega); omega)
          have h2 : (if f i = n then f n else f i) = f n := h2
          by_cases c : f i = n
          · exact ⟨i, by omega, by omega⟩
          · rw [if_neg c] at h2; have := hi i n (by omega) (by omega) h2; omega
      · obtain ⟨i, h1, h2⟩ := IH a (by omega)
        have h2 : (if f i = n then f n else f i) = a := h2
        by_cases c : f i = n
        · rw [if_pos c] at h2; omega
        · rw [if_neg c] at h2; exact ⟨i, by omega, h2⟩

/-- g's powers run through all but nought. -/
theorem gen {p g : Nat} (l : List (Nat × Nat)) (hp : 2 ≤ p) (hn : p - 1 = prod l) (hl : ∀ x ∈ l, Pr x.1) (h1 : g ^ (p - 1) % p = 1) (hq : ∀ x ∈ l, g ^ ((p - 1) / x.1) % p ≠ 1) :
    ∀ a, 0 < a → a < p → ∃ k, k < p - 1 ∧ g ^ k % p = a := by
  have e1 : 1 % p = 1 := Nat.mod_eq_of_lt (by omega)
  have O1 : One p g (p - 1) := by unfold One; rw [h1, e1]
  have hpos : ∀ k, k < p - 1 → 0 < g ^ k % p := by
    intro k hk
    apply Nat.pos_of_ne_zero
    intro h0
    have : g ^ (p - 1) % p = 0 := by
      rw [show p - 1 = k + (p - 1 - k) from by omega, Nat.pow_add, Nat.mul_mod, h0, Nat.zero_mul, Nat.zero_mod]
    omega
  have inj : ∀ i j, i < j → j < p - 1 → g ^ i % p ≠ g ^ j % p := by
    intro i j hij hj h
    have hm : One p g (j - i) := by
      refine One.strip (a := p - 1) O1 ?_
      unfold One
      have a1 : g ^ (p - 1 + (j - i)) = g ^ (p - 1 - i) * g ^ j := by rw [← Nat.pow_add]; congr 1; omega
      have a2 : g ^ (p - 1) = g ^ (p - 1 - i) * g ^ i := by rw [← Nat.pow_add]; congr 1; omega
      rw [a1, Nat.mul_mod, ← h, ← Nat.mul_mod, ← a2, h1, e1]
    have hg := One.gcd _ _ hm O1
    have hle : Nat.gcd (j - i) (p - 1) ≤ j - i := Nat.gcd_le_left _ (by omega)
    obtain ⟨x, hx, k, hd⟩ := proper l hn hl (by omega) (Nat.gcd_dvd_right (j - i) (p - 1)) (by omega)
    have := hg.mul k
    rw [← hd] at this
    unfold One at this
    exact hq x hx (by omega)
  intro a ha hap
  obtain ⟨k, hk, e⟩ := fill (p - 1) (fun k => g ^ k % p - 1)
    (fun k hk => by have := hpos k hk; have := Nat.mod_lt (g ^ k) (show 0 < p by omega); show g ^ k % p - 1 < p - 1; omega)
    (fun i j hi hj h => by
      have h : g ^ i % p - 1 = g ^ j % p - 1 := h
      have := hpos i hi
      have := hpos j hj
      rcases Nat.lt_trichotomy i j with c | c | c
      · exact absurd (by omega) (inj i j c hj)
      · exact c
      · exact absurd (by omega) (inj j i c hi))
    (a - 1) (by omega)
  have e : g ^ k % p - 1 = a - 1 := e
  exact ⟨k, hk, by have := hpos k hk; omega⟩

/-- Of a number whose powers run so: to the count of all but nought each is one. -/
theorem fermat {p g : Nat} (h1 : g ^ (p - 1) % p = 1) (hg : ∀ a, 0 < a → a < p → ∃ k, k < p - 1 ∧ g ^ k % p = a) (a : Nat) (h0 : 0 < a) (ha : a < p) : a ^ (p - 1) % p = 1 := by
  obtain ⟨k, _, e⟩ := hg a h0 ha
  have hp : 1 % p = 1 := Nat.mod_eq_of_lt (by
    rcases p with _ | _ | p
    · omega
    · omega
    · omega)
  rw [← e, ← Nat.pow_mod, ← Nat.pow_mul, Nat.mul_comm, Nat.pow_mul, Nat.pow_mod, h1, Nat.one_pow, hp]

theorem gen_prime {p g : Nat} (hp : 2 ≤ p) (h1 : g ^ (p - 1) % p = 1) (hg : ∀ a, 0 < a → a < p → ∃ k, k < p - 1 ∧ g ^ k % p = a) : Pr p := by
  refine ⟨hp, fun m hm => ?_⟩
  by_cases e : m = p
  · exact .inr e
  · left
    have hle := Nat.le_of_dvd (by omega) hm
    have h0 : 0 < m := Nat.pos_of_ne_zero (by rintro rfl; rw [Nat.zero_dvd] at hm; omega)
    have hf := fermat h1 hg m h0 (by omega)
    have hd : m ∣ m ^ (p - 1) % p := by
      rw [Nat.dvd_mod_iff hm]
      exact ⟨m ^ (p - 1 - 1), by conv => lhs; rw [show p - 1 = (p - 1 - 1) + 1 from by omega, Nat.pow_succ, Nat.mul_comm]⟩
    rw [hf] at hd
    exact Nat.dvd_one.1 hd

/-- Pratt's certificate, to be reckoned. -/
def cert (p g : Nat) (l : List (Nat × Nat)) : Bool :=
  decide (2 ≤ p) && decide (p - 1 = prod l) && decide (p < 2 ^ 260) && decide (pwm p 260 g (p - 1) 1 % p = 1) && l.all (fun x => decide (pwm p 260 g ((p - 1) / x.1) 1 % p ≠ 1))

theorem cert_gen {p g : Nat} {l : List (Nat × Nat)} (h : cert p g l = true) (hl : ∀ x ∈ l, Pr x.1) :
    2 ≤ p ∧ g ^ (p - 1) % p = 1 ∧ ∀ a, 0 < a → a < p → ∃ k, k < p - 1 ∧ g ^ k % p = a := by
  unfold cert at h
  simp only [Bool.and_eq_true, decide_eq_true_eq, List.all_eq_true] at h
  obtain ⟨⟨⟨⟨h1, h2⟩, h3⟩, h4⟩, h5⟩ := h
  have hp : ∀ n, n < p → pwm p 260 g n 1 % p = g ^ n % p := fun n hn => by
    rw [pwm_eq p 260 g n 1 (by omega), Nat.one_mul]
  rw [hp _ (by omega)] at h4
  refine ⟨h1, h4, gen l h1 h2 hl h4 fun x hx => ?_⟩
  have := h5 x hx
  rw [hp _ (by have := Nat.div_le_self (p - 1) x.1; omega)] at this
  exact this
theorem cert_prime {p g : Nat} {l : List (Nat × Nat)} (h : cert p g l = true) (hl : ∀ x ∈ l, Pr x.1) : Pr p :=
  let ⟨a, b, c⟩ := cert_gen h hl
  gen_prime a b c

/-- Small primes, by trial. -/
def trial (n : Nat) : Nat → Nat → Bool
  | 0, _ => false
  | f + 1, m => if n < m * m then true else if n % m = 0 then false else trial n f (m + 1)
theorem trial_no (n : Nat) : ∀ f m, trial n f m = true → ∀ k, m ≤ k → k * k ≤ n → ¬ k ∣ n
  | 0, m, h => by simp [trial] at h
  | f + 1, m, h => by
    intro k hk hkk hd
    unfold trial at h
    by_cases c : n < m * m
    · have := Nat.mul_le_mul hk hk; omega
    · rw [if_neg c] at h
      by_cases c2 : n % m = 0
      · rw [if_pos c2] at h; cases h
      · rw [if_neg c2] at h
        by_cases e : k = m
        · subst e; exact c2 (Nat.mod_eq_zero_of_dvd hd)
        · exact trial_no n f (m + 1) h k (by omega) hkk hd
theorem trial_prime {n f : Nat} (h2 : 2 ≤ n) (h : trial n f 2 = true) : Pr n := by
  refine ⟨h2, fun m hm => ?_⟩
  obtain ⟨k, hk⟩ := hm
  have m0 : m ≠ 0 := by rintro rfl; simp at hk; omega
  have k0 : k ≠ 0 := by rintro rfl; simp at hk; omega
  by_cases hm1 : m = 1
  · exact .inl hm1
  · by_cases hk1 : k = 1
    · right; rw [hk, hk1, Nat.mul_one]
    · exfalso
      by_cases c : m ≤ k
      · exact trial_no n f 2 h m (by omega) (by rw [hk]; exact Nat.mul_le_mul_left m c) ⟨k, hk⟩
      · exact trial_no n f 2 h k (by omega) (by rw [hk]; exact Nat.mul_le_mul_right k (by omega)) ⟨m, by rw [hk, Nat.mul_comm]⟩

theorem pr_2 : Pr 2 := trial_prime (f := 4000) (by decide) (by decide +kernel)
theorem pr_3 : Pr 3 := trial_prime (f := 4000) (by decide) (by decide +kernel)
theorem pr_5 : Pr 5 := trial_prime (f := 4000) (by decide) (by decide +kernel)
theorem pr_7 : Pr 7 := trial_prime (f := 4000) (by decide) (by decide +kernel)
theorem pr_13 : Pr 13 := trial_prime (f := 4000) (by decide) (by decide +kernel)
theorem pr_19 : Pr 19 := trial_prime (f := 4000) (by decide) (by decide +kernel)
theorem pr_31 : Pr 31 := trial_prime (f := 4000) (by decide) (by decide +kernel)
theorem pr_47 : Pr 47 := trial_prime (f := 4000) (by decide) (by decide +kernel)
theorem pr_107 : Pr 107 := trial_prime (f := 4000) (by decide) (by decide +kernel)
theorem pr_127 : Pr 127 := trial_prime (f := 4000) (by decide) (by decide +kernel)
theorem pr_223 : Pr 223 := trial_prime (f := 4000) (by decide) (by decide +kernel)
theorem pr_353 : Pr 353 := trial_prime (f := 4000) (by decide) (by decide +kernel)
theorem pr_2437 : Pr 2437 := trial_prime (f := 4000) (by decide) (by decide +kernel)
theorem pr_4153 : Pr 4153 := trial_prime (f := 4000) (by decide) (by decide +kernel)
theorem pr_57467 : Pr 57467 := trial_prime (f := 4000) (by decide) (by decide +kernel)
theorem pr_65147 : Pr 65147 := trial_prime (f := 4000) (by decide) (by decide +kernel)
theorem pr_75707 : Pr 75707 := trial_prime (f := 4000) (by decide) (by decide +kernel)
theorem pr_132049 : Pr 132049 := trial_prime (f := 4000) (by decide) (by decide +kernel)
theorem pr_430751 : Pr 430751 := trial_prime (f := 4000) (by decide) (by decide +kernel)
theorem pr_569003 : Pr 569003 := trial_prime (f := 4000) (by decide) (by decide +kernel)
theorem pr_1923133 : Pr 1923133 := trial_prime (f := 4000) (by decide) (by decide +kernel)
theorem pr_8574133 : Pr 8574133 := trial_prime (f := 4000) (by decide) (by decide +kernel)
theorem pr_31757755568855353 : Pr 31757755568855353 :=
  cert_prime (g := 10) (l := [(2, 3), (3, 1), (31, 1), (107, 1), (223, 1), (4153, 1), (430751, 1)]) (by decide +kernel) (by
    intro x hx
    simp only [List.mem_cons, List.not_mem_nil, or_false] at hx
    rcases hx with rfl | rfl | rfl | rfl | rfl | rfl | rfl
    · exact pr_2
    · exact pr_3
    · exact pr_31
    · exact pr_107
    · exact pr_223
    · exact pr_4153
    · exact pr_430751)
theorem pr_1919519569386763 : Pr 1919519569386763 :=
  cert_prime (g := 2) (l := [(2, 1), (3, 1), (7, 1), (19, 1), (47, 2), (127, 1), (8574133, 1)]) (by decide +kernel) (by
    intro x hx
    simp only [List.mem_cons, List.not_mem_nil, or_false] at hx
    rcases hx with rfl | rfl | rfl | rfl | rfl | rfl | rfl
    · exact pr_2
    · exact pr_3
    · exact pr_7
    · exact pr_19
    · exact pr_47
    · exact pr_127
    · exact pr_8574133)
theorem pr_2773320623 : Pr 2773320623 :=
  cert_prime (g := 5) (l := [(2, 1), (2437, 1), (569003, 1)]) (by decide +kernel) (by
    intro x hx
    simp only [List.mem_cons, List.not_mem_nil, or_false] at hx
    rcases hx with rfl | rfl | rfl
    · exact pr_2
    · exact pr_2437
    · exact pr_569003)
theorem pr_72106336199 : Pr 72106336199 :=
  cert_prime (g := 7) (l := [(2, 1), (13, 1), (2773320623, 1)]) (by decide +kernel) (by
    intro x hx
    simp only [List.mem_cons, List.not_mem_nil, or_false] at hx
    rcases hx with rfl | rfl | rfl
    · exact pr_2
    · exact pr_13
    · exact pr_2773320623)
theorem pr_75445702479781427272750846543864801 : Pr 75445702479781427272750846543864801 :=
  cert_prime (g := 7) (l := [(2, 5), (3, 2), (5, 2), (75707, 1), (1919519569386763, 1), (72106336199, 1)]) (by decide +kernel) (by
    intro x hx
    simp only [List.mem_cons, List.not_mem_nil, or_false] at hx
    rcases hx with rfl | rfl | rfl | rfl | rfl | rfl
    · exact pr_2
    · exact pr_3
    · exact pr_5
    · exact pr_75707
    · exact pr_1919519569386763
    · exact pr_72106336199)
theorem pr_74058212732561358302231226437062788676166966415465897661863160754340907 : Pr 74058212732561358302231226437062788676166966415465897661863160754340907 :=
  cert_prime (g := 2) (l := [(2, 1), (3, 1), (353, 1), (57467, 1), (132049, 1), (1923133, 1), (31757755568855353, 1), (75445702479781427272750846543864801, 1)]) (by decide +kernel) (by
    intro x hx
    simp only [List.mem_cons, List.not_mem_nil, or_false] at hx
    rcases hx with rfl | rfl | rfl | rfl | rfl | rfl | rfl | rfl
    · exact pr_2
    · exact pr_3
    · exact pr_353
    · exact pr_57467
    · exact pr_132049
    · exact pr_1923133
    · exact pr_31757755568855353
    · exact pr_75445702479781427272750846543864801)
/-- 2^255 - 19. -/
def p25519 : Nat := 57896044618658097711785492504343953926634992332820282019728792003956564819949
theorem gen_p : 2 ≤ p25519 ∧ 2 ^ (p25519 - 1) % p25519 = 1 ∧ ∀ a, 0 < a → a < p25519 → ∃ k, k < p25519 - 1 ∧ 2 ^ k % p25519 = a :=
  cert_gen (l := [(2, 2), (3, 1), (65147, 1), (74058212732561358302231226437062788676166966415465897661863160754340907, 1)]) (by decide +kernel) (by
    intro x hx
    simp only [List.mem_cons, List.not_mem_nil, or_false] at hx
    rcases hx with rfl | rfl | rfl | rfl
    · exact pr_2
    · exact pr_3
    · exact pr_65147
    · exact pr_74058212732561358302231226437062788676166966415465897661863160754340907)
theorem p_prime : Pr p25519 := gen_prime gen_p.1 gen_p.2.1 gen_p.2.2
theorem p_fermat (a : Nat) (h0 : 0 < a) (ha : a < p25519) : a ^ (p25519 - 1) % p25519 = 1 := fermat gen_p.2.1 gen_p.2.2 a h0 ha

end Go.Proofs.Ytnobobdgoccmcaa.Pri


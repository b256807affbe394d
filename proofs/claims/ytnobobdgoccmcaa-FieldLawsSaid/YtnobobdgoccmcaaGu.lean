/-
  The numbers of which the roots of the field are made; a square has a root. Plain.
-/
import Derived.Test.YtnobobdgoccmcaaFt
import Derived.Test.YtnobobdgoccmcaaOr
namespace Go.Proofs.Ytnobobdgoccmcaa
open Go.RowKit Pri
set_option linter.unusedVariables false

/-- The third and the seventh power, the candidate, what it makes, the numbers of the exponents. -/
def r3 (V : Nat) : Nat := V * (V * V % p25519) % p25519
def r7 (V : Nat) : Nat := V * (r3 V * r3 V % p25519) % p25519
def rE : Nat := 7237005577332262213973186563042994240829374041602535252466099000494570602493
def rI : Nat := 14474011154664524427946373126085988481658748083205070504932198000989141204987
def rx (U V : Nat) : Nat := (U * r3 V % p25519) * pwr (U * r7 V % p25519) rE % p25519
def rm (U V : Nat) : Nat := V * (rx U V * rx U V % p25519) % p25519
def rc1 (U V : Nat) : Bool := decide (rm U V % p25519 = U % p25519)
def rc2 (U V : Nat) : Bool := decide (rm U V % p25519 = (p25519 - U % p25519) % p25519 % p25519)
/-- The root, and whether there is one. -/
def rootN (U V : Nat) : Nat := if rc1 U V then rx U V else if rc2 U V then rx U V * iI % p25519 else 0
def rootB (U V : Nat) : Bool := rc1 U V || rc2 U V

theorem modp {a b : Nat} (h : fv a = fv b) : a % p25519 = b % p25519 := fv_eq.1 h
theorem r3_mod (V : Nat) : r3 (V % p25519) = r3 V := by unfold r3; exact modp (by simp only [fv_mul, fv_mod])
theorem r7_mod (V : Nat) : r7 (V % p25519) = r7 V := by unfold r7; rw [r3_mod]; exact modp (by simp only [fv_mul, fv_mod])
theorem rx_mod (U V : Nat) : rx (U % p25519) (V % p25519) = rx U V := by
  have a : U % p25519 * r3 V % p25519 = U * r3 V % p25519 := modp (by simp only [fv_mul, fv_mod])
  have b : U % p25519 * r7 V % p25519 = U * r7 V % p25519 := modp (by simp only [fv_mul, fv_mod])
  unfold rx
  rw [r3_mod, r7_mod, a, b]
theorem rm_mod (U V : Nat) : rm (U % p25519) (V % p25519) = rm U V := by
  unfold rm; rw [rx_mod]; exact modp (by simp only [fv_mul, fv_mod])
theorem rc1_mod (U V : Nat) : rc1 (U % p25519) (V % p25519) = rc1 U V := by unfold rc1; rw [rm_mod, Nat.mod_mod]
theorem rc2_mod (U V : Nat) : rc2 (U % p25519) (V % p25519) = rc2 U V := by unfold rc2; rw [rm_mod, show U % p25519 % p25519 = U % p25519 from Nat.mod_mod _ _]
theorem rootN_mod (U V : Nat) : rootN (U % p25519) (V % p25519) = rootN U V := by unfold rootN; rw [rc1_mod, rc2_mod, rx_mod]
theorem rootB_mod (U V : Nat) : rootB (U % p25519) (V % p25519) = rootB U V := by unfold rootB; rw [rc1_mod, rc2_mod]
theorem rx_lt (U V : Nat) : rx U V < p25519 := Nat.mod_lt _ p_pos
theorem rm_lt (U V : Nat) : rm U V < p25519 := Nat.mod_lt _ p_pos
theorem iI_lt : iI < p25519 := by decide +kernel
theorem rootN_lt (U V : Nat) : rootN U V < p25519 := by
  unfold rootN
  split
  · exact rx_lt U V
  · split
    · exact Nat.mod_lt _ p_pos
    · exact p_pos
theorem iI_sq : fv iI * fv iI = -1 := by
  have h : iI * iI % p25519 = (p25519 - 1) % p25519 := by decide +kernel
  rw [← fv_mul, fv_eq.2 h, fv_neg 1 (by decide +kernel), fv_one]
theorem pwr_gen (a n m : Nat) (hn : n < 2 ^ 256) (h : pwm p25519 256 a n 1 % p25519 = m) : pwr a n = m := by
  have h2 := pwm_eq p25519 256 a n 1 hn
  rw [Nat.one_mul] at h2
  unfold pwr
  rw [← h2]; exact h
theorem iI_pow : pwr 2 rI = iI := pwr_gen 2 rI iI (by decide +kernel) (by decide +kernel)
theorem fv_negm (a : Nat) : fv ((p25519 - a % p25519) % p25519) = - fv a := by rw [fv_mod, fv_neg _ (Nat.le_of_lt (Nat.mod_lt _ p_pos)), fv_mod]
theorem rc1_fv (U V : Nat) (h : rc1 U V = true) : fv V * (fv (rx U V) * fv (rx U V)) = fv U := by
  have := fv_eq.2 (of_decide_eq_true h)
  unfold rm at this
  simpa only [fv_mul, fv_mod] using this
theorem rc2_fv (U V : Nat) (h : rc2 U V = true) : fv V * (fv (rx U V) * fv (rx U V)) = - fv U := by
  have h' : rm U V % p25519 = ((p25519 - U % p25519) % p25519) % p25519 := of_decide_eq_true h
  have := fv_eq.2 h'
  rw [fv_negm] at this
  unfold rm at this
  simpa only [fv_mul, fv_mod] using this
/-- What is found is a root. -/
theorem root_sq (U V : Nat) (h : rootB U V = true) : V * (rootN U V * rootN U V % p25519) % p25519 % p25519 = U % p25519 := by
  rw [Nat.mod_mod]
  refine modp ?_
  simp only [fv_mul, fv_mod]
  unfold rootN
  by_cases c : rc1 U V = true
  · rw [if_pos c]; exact rc1_fv U V c
  · rw [if_neg c]
    have c2 : rc2 U V = true := by
      unfold rootB at h
      rw [Bool.eq_false_iff.2 c, Bool.false_or] at h
      exact h
    rw [if_pos c2]
    have e := rc2_fv U V c2
    have i := iI_sq
    simp only [fv_mul, fv_mod]
    generalize fv (rx U V) = x at *
    generalize fv V = v at *
    generalize fv U = u at *
    generalize fv iI = t at *
    grind
theorem rE_twice : 4 * rE + 4 = (p25519 - 1) / 2 + 2 := by decide +kernel
theorem fv_pwr_add (X m n : Nat) : fv (pwr X (m + n)) = fv (pwr X m) * fv (pwr X n) := by rw [← pwr_add, fv_mod, fv_mul]
theorem fv_pwr_one (X : Nat) : fv (pwr X 1) = fv X := by unfold pwr; rw [Nat.pow_one, fv_mod]
theorem pow_sq (X n : Nat) : pwr (X * X) n = pwr X (2 * n) := by unfold pwr; rw [← Nat.pow_two, ← Nat.pow_mul]
theorem half_one (X H : Nat) (hH : 2 * H = p25519 - 1) (h : X % p25519 ≠ 0) : fv (pwr X H) = 1 ∨ fv (pwr X H) = -1 := by
  refine sq_two _ _ ?_
  rw [← fv_pwr_add, ← Nat.two_mul, hH]
  have := one_of_rest X (p25519 - 1) (p_fermat (X % p25519) (Nat.pos_of_ne_zero h) (Nat.mod_lt _ p_pos))
  have e : pwr X (p25519 - 1) = 1 := this
  rw [e, fv_one]; grind
theorem rx_sq (X E H : Nat) (hE : 4 * E + 4 = H + 2) (x : Nat) (hx : x = (X * X % p25519 * 1 % p25519) * pwr (X * X % p25519 * 1 % p25519) E % p25519) : fv x * fv x = fv X * fv X * fv (pwr X H) := by
  subst hx
  rw [Nat.mul_one, Nat.mod_mod, pwr_rest, pow_sq, fv_mod, fv_mul, fv_mod, fv_mul]
  have e1 := fv_pwr_add X (2 * E) (2 * E)
  have e2 : 2 * E + 2 * E + (1 + 1 + (1 + 1)) = H + (1 + 1) := by omega
  have e3 := fv_pwr_add X (2 * E + 2 * E) (1 + 1 + (1 + 1))
  rw [e2] at e3
  have e4 := fv_pwr_add X H (1 + 1)
  have e5 := fv_pwr_add X (1 + 1) (1 + 1)
  have e6 := fv_pwr_add X 1 1
  rw [fv_pwr_one] at e6
  rw [e3, e1, e5, e6] at e4
  generalize fv (pwr X H) = h at *
  generalize fv (pwr X (2 * E)) = q at *
  generalize fv X = a at *
  grind
theorem one_r3 : r3 1 = 1 := by decide +kernel
theorem one_r7 : r7 1 = 1 := by decide +kernel
/-- A square has a root, that is it or its opposite. -/
theorem root_of_sq (X : Nat) : rootB (X * X % p25519) 1 = true ∧ (fv (rootN (X * X % p25519) 1) = fv X ∨ fv (rootN (X * X % p25519) 1) = - fv X) := by
  have hx : rx (X * X % p25519) 1 = (X * X % p25519 * 1 % p25519) * pwr (X * X % p25519 * 1 % p25519) rE % p25519 := by unfold rx; rw [one_r3, one_r7]
  have hH : 2 * ((p25519 - 1) / 2) = p25519 - 1 := half_p
  have hq := rx_sq X rE ((p25519 - 1) / 2) rE_twice _ hx
  have hm : fv (rm (X * X % p25519) 1) = fv (rx (X * X % p25519) 1) * fv (rx (X * X % p25519) 1) := by
    unfold rm; rw [Nat.one_mul, Nat.mod_mod, fv_mod, fv_mul]
  generalize (p25519 - 1) / 2 = H at *
  have key : (fv (rx (X * X % p25519) 1) * fv (rx (X * X % p25519) 1) = fv X * fv X) ∨ (fv (rx (X * X % p25519) 1) * fv (rx (X * X % p25519) 1) = - (fv X * fv X)) := by
    by_cases h0 : X % p25519 = 0
    · have : fv X = 0 := by rw [← fv_mod, h0, fv_zero]
      left
      rw [hq, this]
      grind
    · rcases half_one X H hH h0 with h | h
      · left; rw [hq, h]; grind
      · right; rw [hq, h]; grind
  have sq : fv (X * X % p25519) = fv X * fv X := by rw [fv_mod, fv_mul]
  by_cases c : rc1 (X * X % p25519) 1 = true
  · refine ⟨by unfold rootB; rw [c, Bool.true_or], ?_⟩
    have e := rc1_fv _ _ c
    unfold rootN
    rw [if_pos c]
    rw [fv_one, sq] at e
    exact sq_two _ _ (by grind)
  · have k2 : fv (rx (X * X % p25519) 1) * fv (rx (X * X % p25519) 1) = - (fv X * fv X) := by
      rcases key with k | k
      · exact absurd (decide_eq_true (modp (by rw [hm, k, sq]))) c
      · exact k
    have c2 : rc2 (X * X % p25519) 1 = true := by
      unfold rc2
      refine decide_eq_true ?_
      rw [Nat.mod_mod]
      have : rm (X * X % p25519) 1 % p25519 = ((p25519 - X * X % p25519 % p25519) % p25519) % p25519 := modp (by rw [hm, k2, fv_negm, sq])
      rwa [Nat.mod_mod] at this
    refine ⟨by unfold rootB; rw [c2, Bool.or_true], ?_⟩
    unfold rootN
    rw [if_neg c, if_pos c2]
    refine sq_two _ _ ?_
    have i := iI_sq
    rw [fv_mod, fv_mul]
    generalize fv (rx (X * X % p25519) 1) = x at *
    generalize fv X = a at *
    generalize fv iI = t at *
    grind
end Go.Proofs.Ytnobobdgoccmcaa

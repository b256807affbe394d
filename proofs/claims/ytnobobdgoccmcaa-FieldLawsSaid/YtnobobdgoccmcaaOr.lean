/-
  Plain facts on the curve over the numbers modulo 2^255 - 19: sums without a division; how many points there are: eight times the order, times any point, is nought.
-/
import Derived.Test.YtnobobdgoccmcaaFp
namespace Go.Proofs.Ytnobobdgoccmcaa
open Lean.Grind Pri

namespace Pri
theorem pr_11 : Pr 11 := trial_prime (f := 4000) (by decide) (by decide +kernel)
theorem pr_23 : Pr 23 := trial_prime (f := 4000) (by decide) (by decide +kernel)
theorem pr_41 : Pr 41 := trial_prime (f := 4000) (by decide) (by decide +kernel)
theorem pr_43 : Pr 43 := trial_prime (f := 4000) (by decide) (by decide +kernel)
theorem pr_73 : Pr 73 := trial_prime (f := 4000) (by decide) (by decide +kernel)
theorem pr_269 : Pr 269 := trial_prime (f := 4000) (by decide) (by decide +kernel)
theorem pr_307 : Pr 307 := trial_prime (f := 4000) (by decide) (by decide +kernel)
theorem pr_1361 : Pr 1361 := trial_prime (f := 4000) (by decide) (by decide +kernel)
theorem pr_2851 : Pr 2851 := trial_prime (f := 4000) (by decide) (by decide +kernel)
theorem pr_5879 : Pr 5879 := trial_prime (f := 4000) (by decide) (by decide +kernel)
theorem pr_30703 : Pr 30703 := trial_prime (f := 4000) (by decide) (by decide +kernel)
theorem pr_82163 : Pr 82163 := trial_prime (f := 4000) (by decide) (by decide +kernel)
theorem pr_132667 : Pr 132667 := trial_prime (f := 4000) (by decide) (by decide +kernel)
theorem pr_137849 : Pr 137849 := trial_prime (f := 4000) (by decide) (by decide +kernel)
theorem pr_409477 : Pr 409477 := trial_prime (f := 4000) (by decide) (by decide +kernel)
theorem pr_531581 : Pr 531581 := trial_prime (f := 4000) (by decide) (by decide +kernel)
theorem pr_1224481 : Pr 1224481 := trial_prime (f := 4000) (by decide) (by decide +kernel)
theorem pr_14741173 : Pr 14741173 :=
  cert_prime (g := 2) (l := [(2, 2), (3, 2), (409477, 1)]) (by decide +kernel) (by
    intro x hx
    simp only [List.mem_cons, List.not_mem_nil, or_false] at hx
    rcases hx with rfl | rfl | rfl
    · exact pr_2
    · exact pr_3
    · exact pr_409477)
theorem pr_58964693 : Pr 58964693 :=
  cert_prime (g := 2) (l := [(2, 2), (14741173, 1)]) (by decide +kernel) (by
    intro x hx
    simp only [List.mem_cons, List.not_mem_nil, or_false] at hx
    rcases hx with rfl | rfl
    · exact pr_2
    · exact pr_14741173)
theorem pr_3044861653679985063343 : Pr 3044861653679985063343 :=
  cert_prime (g := 5) (l := [(2, 1), (3, 1), (11, 1), (30703, 1), (82163, 1), (137849, 1), (132667, 1)]) (by decide +kernel) (by
    intro x hx
    simp only [List.mem_cons, List.not_mem_nil, or_false] at hx
    rcases hx with rfl | rfl | rfl | rfl | rfl | rfl | rfl
    · exact pr_2
    · exact pr_3
    · exact pr_11
    · exact pr_30703
    · exact pr_82163
    · exact pr_137849
    · exact pr_132667)
theorem pr_198211423230930754013084525763697 : Pr 198211423230930754013084525763697 :=
  cert_prime (g := 5) (l := [(2, 4), (3, 1), (23, 1), (58964693, 1), (3044861653679985063343, 1)]) (by decide +kernel) (by
    intro x hx
    simp only [List.mem_cons, List.not_mem_nil, or_false] at hx
    rcases hx with rfl | rfl | rfl | rfl | rfl
    · exact pr_2
    · exact pr_3
    · exact pr_23
    · exact pr_58964693
    · exact pr_3044861653679985063343)
theorem pr_1257559732178653 : Pr 1257559732178653 :=
  cert_prime (g := 2) (l := [(2, 2), (3, 1), (7, 1), (23, 1), (1224481, 1), (531581, 1)]) (by decide +kernel) (by
    intro x hx
    simp only [List.mem_cons, List.not_mem_nil, or_false] at hx
    rcases hx with rfl | rfl | rfl | rfl | rfl | rfl
    · exact pr_2
    · exact pr_3
    · exact pr_7
    · exact pr_23
    · exact pr_1224481
    · exact pr_531581)
theorem pr_4434155615661930479 : Pr 4434155615661930479 :=
  cert_prime (g := 17) (l := [(2, 1), (41, 1), (43, 1), (1257559732178653, 1)]) (by decide +kernel) (by
    intro x hx
    simp only [List.mem_cons, List.not_mem_nil, or_false] at hx
    rcases hx with rfl | rfl | rfl | rfl
    · exact pr_2
    · exact pr_41
    · exact pr_43
    · exact pr_1257559732178653)
theorem pr_172054593956031949258510691 : Pr 172054593956031949258510691 :=
  cert_prime (g := 2) (l := [(2, 1), (5, 1), (1361, 1), (2851, 1), (4434155615661930479, 1)]) (by decide +kernel) (by
    intro x hx
    simp only [List.mem_cons, List.not_mem_nil, or_false] at hx
    rcases hx with rfl | rfl | rfl | rfl | rfl
    · exact pr_2
    · exact pr_5
    · exact pr_1361
    · exact pr_2851
    · exact pr_4434155615661930479)
theorem pr_292386187 : Pr 292386187 :=
  cert_prime (g := 2) (l := [(2, 1), (3, 4), (307, 1), (5879, 1)]) (by decide +kernel) (by
    intro x hx
    simp only [List.mem_cons, List.not_mem_nil, or_false] at hx
    rcases hx with rfl | rfl | rfl | rfl
    · exact pr_2
    · exact pr_3
    · exact pr_307
    · exact pr_5879)
theorem pr_213441916511 : Pr 213441916511 :=
  cert_prime (g := 13) (l := [(2, 1), (5, 1), (73, 1), (292386187, 1)]) (by decide +kernel) (by
    intro x hx
    simp only [List.mem_cons, List.not_mem_nil, or_false] at hx
    rcases hx with rfl | rfl | rfl | rfl
    · exact pr_2
    · exact pr_5
    · exact pr_73
    · exact pr_292386187)
theorem pr_19757330305831588566944191468367130476339 : Pr 19757330305831588566944191468367130476339 :=
  cert_prime (g := 2) (l := [(2, 1), (269, 1), (213441916511, 1), (172054593956031949258510691, 1)]) (by decide +kernel) (by
    intro x hx
    simp only [List.mem_cons, List.not_mem_nil, or_false] at hx
    rcases hx with rfl | rfl | rfl | rfl
    · exact pr_2
    · exact pr_269
    · exact pr_213441916511
    · exact pr_172054593956031949258510691)
theorem pr_276602624281642239937218680557139826668747 : Pr 276602624281642239937218680557139826668747 :=
  cert_prime (g := 2) (l := [(2, 1), (7, 1), (19757330305831588566944191468367130476339, 1)]) (by decide +kernel) (by
    intro x hx
    simp only [List.mem_cons, List.not_mem_nil, or_false] at hx
    rcases hx with rfl | rfl | rfl
    · exact pr_2
    · exact pr_7
    · exact pr_19757330305831588566944191468367130476339)
theorem pr_7237005577332262213973186563042994240857116359379907606001950938285454250989 : Pr 7237005577332262213973186563042994240857116359379907606001950938285454250989 :=
  cert_prime (g := 2) (l := [(2, 2), (3, 1), (11, 1), (198211423230930754013084525763697, 1), (276602624281642239937218680557139826668747, 1)]) (by decide +kernel) (by
    intro x hx
    simp only [List.mem_cons, List.not_mem_nil, or_false] at hx
    rcases hx with rfl | rfl | rfl | rfl | rfl
    · exact pr_2
    · exact pr_3
    · exact pr_11
    · exact pr_198211423230930754013084525763697
    · exact pr_276602624281642239937218680557139826668747)

end Pri

/-- The order of the base. -/
def lL : Nat := 7237005577332262213973186563042994240857116359379907606001950938285454250989
theorem lL_prime : Pr lL := pr_7237005577332262213973186563042994240857116359379907606001950938285454250989

/-- X, Y, Z tell the point P. -/
def Rep {R : Type} [CommRing R] (X Y Z : R) (P : R × R) : Prop := Z ≠ 0 ∧ X = P.1 * Z ∧ Y = P.2 * Z

namespace Cv
variable {R : Type} [CommRing R] (C : Fit R)
include C in
theorem inv_ne {a b : R} (h : a * b = 1) : a ≠ 0 := fun e => C.one (by grind)
theorem one_of {S : Type} [CommRing S] (d y : S) (h : 1 + d * y * y = 0) (e : y = 0) : (1 : S) = 0 := by grind
theorem neg_of {S : Type} [CommRing S] (d y k : S) (h : 1 + d * y * y = 0) (e : y * k = 1) : k * k = -d := by grind
/-- A sum without a division, as the document says it. -/
theorem rep_add {X1 Y1 Z1 X2 Y2 Z2 : R} {P Q : R × R} (hP : On C P) (hQ : On C Q) (h1 : Rep X1 Y1 Z1 P) (h2 : Rep X2 Y2 Z2 Q) :
    Rep ((Z1 * Z2) * ((Z1 * Z2) * (Z1 * Z2) - C.d * (X1 * X2 * (Y1 * Y2))) * ((X1 + Y1) * (X2 + Y2) - (X1 * X2 + Y1 * Y2)))
      ((Z1 * Z2) * ((Z1 * Z2) * (Z1 * Z2) + C.d * (X1 * X2 * (Y1 * Y2))) * (X1 * X2 + Y1 * Y2))
      (((Z1 * Z2) * (Z1 * Z2) - C.d * (X1 * X2 * (Y1 * Y2))) * ((Z1 * Z2) * (Z1 * Z2) + C.d * (X1 * X2 * (Y1 * Y2)))) (add C P Q) := by
  obtain ⟨z1, ex1, ey1⟩ := h1
  obtain ⟨z2, ex2, ey2⟩ := h2
  have ⟨d1, d2⟩ := dens C hP hQ
  have n1 := inv_ne C d1
  have n2 := inv_ne C d2
  obtain ⟨x1, y1⟩ := P
  obtain ⟨x2, y2⟩ := Q
  unfold add
  simp only at *
  generalize C.inv (1 + C.d * x1 * x2 * y1 * y2) = k at *
  generalize C.inv (1 - C.d * x1 * x2 * y1 * y2) = m at *
  subst ex1 ey1 ex2 ey2
  have e : (Z1 * Z2) * (Z1 * Z2) - C.d * (x1 * Z1 * (x2 * Z2) * (y1 * Z1 * (y2 * Z2))) = (Z1 * Z2) * (Z1 * Z2) * (1 - C.d * x1 * x2 * y1 * y2) := by grind
  have e2 : (Z1 * Z2) * (Z1 * Z2) + C.d * (x1 * Z1 * (x2 * Z2) * (y1 * Z1 * (y2 * Z2))) = (Z1 * Z2) * (Z1 * Z2) * (1 + C.d * x1 * x2 * y1 * y2) := by grind
  have z12 := ne_mul C z1 z2
  have z4 := ne_mul C z12 z12
  rw [e, e2]
  generalize 1 - C.d * x1 * x2 * y1 * y2 = u at *
  generalize 1 + C.d * x1 * x2 * y1 * y2 = v at *
  refine ⟨ne_mul C (ne_mul C z4 n2) (ne_mul C z4 n1), ?_, ?_⟩
  · have : Z1 * Z2 * (Z1 * Z2 * (Z1 * Z2) * u) * ((x1 * Z1 + y1 * Z1) * (x2 * Z2 + y2 * Z2) - (x1 * Z1 * (x2 * Z2) + y1 * Z1 * (y2 * Z2))) = (v * k) * (Z1 * Z2 * (Z1 * Z2 * (Z1 * Z2) * u) * ((x1 * Z1 + y1 * Z1) * (x2 * Z2 + y2 * Z2) - (x1 * Z1 * (x2 * Z2) + y1 * Z1 * (y2 * Z2)))) := by rw [d1]; grind
    rw [this]; grind
  · have : Z1 * Z2 * (Z1 * Z2 * (Z1 * Z2) * v) * (x1 * Z1 * (x2 * Z2) + y1 * Z1 * (y2 * Z2)) = (u * m) * (Z1 * Z2 * (Z1 * Z2 * (Z1 * Z2) * v) * (x1 * Z1 * (x2 * Z2) + y1 * Z1 * (y2 * Z2))) := by rw [d2]; grind
    rw [this]; grind
/-- A sum without a division, as the program says it: with t = x y / z. -/
theorem rep_wide {X1 Y1 Z1 T1 X2 Y2 Z2 T2 : R} {P Q : R × R} (hP : On C P) (hQ : On C Q) (h1 : Rep X1 Y1 Z1 P) (h2 : Rep X2 Y2 Z2 Q) (t1 : T1 = P.1 * P.2 * Z1) (t2 : T2 = Q.1 * Q.2 * Z2)
    (a b c d e f g h : R) (ha : a = (Y1 - X1) * (Y2 - X2)) (hb : b = (Y1 + X1) * (Y2 + X2)) (hc : c = T1 * T2 * (C.d + C.d)) (hd : d = Z1 * (Z2 + Z2)) (he : e = b - a) (hf : f = d - c) (hg : g = d + c) (hh : h = b + a) :
    Rep (e * f) (g * h) (f * g) (add C P Q) ∧ e * h = (add C P Q).1 * (add C P Q).2 * (f * g) := by
  obtain ⟨z1, ex1, ey1⟩ := h1
  obtain ⟨z2, ex2, ey2⟩ := h2
  have ⟨d1, d2⟩ := dens C hP hQ
  have n1 := inv_ne C d1
  have n2 := inv_ne C d2
  obtain ⟨x1, y1⟩ := P
  obtain ⟨x2, y2⟩ := Q
  unfold add
  simp only at *
  generalize C.inv (1 + C.d * x1 * x2 * y1 * y2) = k at *
  generalize C.inv (1 - C.d * x1 * x2 * y1 * y2) = m at *
  subst ex1 ey1 ex2 ey2 t1 t2
  have two : (1 : R) + 1 ≠ 0 := inv_ne C (b := C.half) (by have := C.two; grind)
  have zz := ne_mul C two (ne_mul C z1 z2)
  have e1 : e = (1 + 1) * (Z1 * Z2) * (x1 * y2 + y1 * x2) := by subst he ha hb; grind
  have e2 : h = (1 + 1) * (Z1 * Z2) * (y1 * y2 + x1 * x2) := by subst hh ha hb; grind
  have e3 : f = (1 + 1) * (Z1 * Z2) * (1 - C.d * x1 * x2 * y1 * y2) := by subst hf hc hd; grind
  have e4 : g = (1 + 1) * (Z1 * Z2) * (1 + C.d * x1 * x2 * y1 * y2) := by subst hg hc hd; grind
  clear ha hb hc hd he hf hg hh
  generalize 1 - C.d * x1 * x2 * y1 * y2 = u at *
  generalize 1 + C.d * x1 * x2 * y1 * y2 = v at *
  generalize x1 * y2 + y1 * x2 = A at *
  generalize y1 * y2 + x1 * x2 = B at *
  generalize (1 + 1) * (Z1 * Z2) = z at *
  subst e1 e2 e3 e4
  refine ⟨⟨ne_mul C (ne_mul C zz n2) (ne_mul C zz n1), ?_, ?_⟩, ?_⟩
  · have : z * A * (z * u) = (v * k) * (z * A * (z * u)) := by rw [d1]; grind
    rw [this]; grind
  · have : z * v * (z * B) = (u * m) * (z * v * (z * B)) := by rw [d2]; grind
    rw [this]; grind
  · have : z * A * (z * B) = (v * k) * (u * m) * (z * A * (z * B)) := by rw [d1, d2]; grind
    rw [this]; grind
include C in
theorem rep_same {X Y Z : R} {P Q : R × R} (h1 : Rep X Y Z P) (h2 : Rep X Y Z Q) : P = Q := by
  obtain ⟨z, a, b⟩ := h1
  obtain ⟨_, c, d⟩ := h2
  have k := C.inv_mul Z z
  obtain ⟨x1, y1⟩ := P
  obtain ⟨x2, y2⟩ := Q
  simp only at *
  congr 1 <;> grind
theorem cancel {P Q S : R × R} (hP : On C P) (hQ : On C Q) (hS : On C S) (h : add C P Q = add C P S) : Q = S := by
  have e : ∀ T : R × R, On C T → add C (neg P) (add C P T) = T := fun T hT => by
    rw [← add_assoc C (on_neg C hP) hP hT, add_comm C (neg P) P, add_neg C hP, zero_add]
  rw [← e Q hQ, h, e S hS]
theorem sub_ne {P : R × R} (h : On C P) {a b : Nat} (hb : times C P a = zero) (hab : times C P (a + b) = zero) : times C P b = zero := by
  rw [times_add C h, hb, zero_add] at hab; exact hab
theorem times_mul_zero {P : R × R} (h : On C P) {a : Nat} (h0 : times C P a = zero) (k : Nat) : times C P (a * k) = zero := by
  rw [times_mul C h, h0, times_zero]
theorem times_gcd {P : R × R} (h : On C P) : ∀ (a b : Nat), times C P a = zero → times C P b = zero → times C P (Nat.gcd a b) = zero := by
  intro a b
  induction a, b using Nat.gcd.induction with
  | H0 n => intro _ h; rw [Nat.gcd_zero_left]; exact h
  | H1 m n hm ih =>
    intro h1 h2
    rw [Nat.gcd_rec]
    refine ih ?_ h1
    refine sub_ne C h (a := m * (n / m)) (times_mul_zero C h h1 _) ?_
    rw [Nat.div_add_mod]; exact h2
/-- The multiples below the order are unlike each other. -/
theorem apart {P : R × R} (h : On C P) {n : Nat} (l : List (Nat × Nat)) (hn : n = prod l) (hl : ∀ x ∈ l, Pr x.1) (h0 : 0 < n) (h1 : times C P n = zero) (hq : ∀ x ∈ l, times C P (n / x.1) ≠ zero) :
    ∀ i j, i < j → j < n → times C P i ≠ times C P j := by
  intro i j hij hj e
  have hm : times C P (j - i) = zero := by
    have : add C (times C P i) (times C P (j - i)) = add C (times C P i) zero := by
      rw [← times_add C h, add_zero, show i + (j - i) = j from by omega, e]
    exact cancel C (on_times C h i) (on_times C h _) (on_zero C) this
  have hg := times_gcd C h _ _ hm h1
  have hle : Nat.gcd (j - i) n ≤ j - i := Nat.gcd_le_left _ (by omega)
  obtain ⟨x, hx, k, hd⟩ := proper l hn hl h0 (Nat.gcd_dvd_right (j - i) n) (by omega)
  have := times_mul_zero C h hg k
  rw [← hd] at this
  exact hq x hx this
end Cv

/-- Sums by numbers. -/
def nadd (P Q : Nat × Nat × Nat) : Nat × Nat × Nat :=
  let a := P.2.2 * Q.2.2 % p25519
  let b := a * a % p25519
  let c := P.1 * Q.1 % p25519
  let d := P.2.1 * Q.2.1 % p25519
  let e := dD * (c * d % p25519) % p25519
  let f := (b + (p25519 - e)) % p25519
  let g := (b + e) % p25519
  let s := (P.1 + P.2.1) * (Q.1 + Q.2.1) % p25519
  (a * f % p25519 * (s + (p25519 - (c + d) % p25519)) % p25519, a * g % p25519 * (c + d) % p25519, f * g % p25519)
def nrep (T : Nat × Nat × Nat) (P : Fp × Fp) : Prop := Rep (fv T.1) (fv T.2.1) (fv T.2.2) P
theorem fv_sub (a b : Nat) (h : b ≤ p25519) : fv (a + (p25519 - b)) = fv a - fv b := by rw [fv_add, fv_neg b h]; grind
theorem fv_sub_mod (a b : Nat) : fv (a + (p25519 - b % p25519)) = fv a - fv b := by rw [fv_sub _ _ (Nat.le_of_lt (Nat.mod_lt _ p_pos)), fv_mod]
theorem nadd_rep {T S : Nat × Nat × Nat} {P Q : Fp × Fp} (hP : Cv.On cC P) (hQ : Cv.On cC Q) (h1 : nrep T P) (h2 : nrep S Q) : nrep (nadd T S) (Cv.add cC P Q) := by
  have := Cv.rep_add cC hP hQ h1 h2
  unfold nrep
  obtain ⟨X1, Y1, Z1⟩ := T
  obtain ⟨X2, Y2, Z2⟩ := S
  simp only at this
  unfold nadd
  simp only
  rw [show cC.d = fv dD from rfl] at this
  refine cast ?_ this
  congr 1
  all_goals
    simp only [fv_mod, fv_mul, fv_add, fv_sub _ _ (Nat.le_of_lt (Nat.mod_lt _ p_pos))]
    try grind
/-- So often a point, by numbers: fuel, how often, the point doubled, the sum. -/
def nmul : Nat → Nat → Nat × Nat × Nat → Nat × Nat × Nat → Nat × Nat × Nat
  | 0, _, _, acc => acc
  | f + 1, n, T, acc => if n = 0 then acc else nmul f (n / 2) (nadd T T) (if n % 2 = 1 then nadd acc T else acc)
theorem nmul_rep : ∀ (f n : Nat) (T acc : Nat × Nat × Nat) (P Q : Fp × Fp), n < 2 ^ f → Cv.On cC P → Cv.On cC Q → nrep T P → nrep acc Q → nrep (nmul f n T acc) (Cv.add cC Q (Cv.times cC P n))
  | 0, n, T, acc, P, Q, h, hP, hQ, h1, h2 => by
    have : n = 0 := by simpa using h
    subst this
    show nrep acc (Cv.add cC Q Cv.zero)
    rw [Cv.add_zero]; exact h2
  | f + 1, n, T, acc, P, Q, h, hP, hQ, h1, h2 => by
    unfold nmul
    by_cases h0 : n = 0
    · rw [if_pos h0]; subst h0
      show nrep acc (Cv.add cC Q Cv.zero)
      rw [Cv.add_zero]; exact h2
    · rw [if_neg h0]
      have e2 : Cv.times cC P (2 * (n / 2)) = Cv.times cC (Cv.add cC P P) (n / 2) := by
        rw [Cv.times_mul cC hP, show Cv.times cC P 2 = Cv.add cC P P from by
          show Cv.add cC (Cv.add cC Cv.zero P) P = _
          rw [Cv.zero_add]]
      have hPP := Cv.on_add cC hP hP
      have hT := nadd_rep hP hP h1 h1
      by_cases hb : n % 2 = 1
      · rw [if_pos hb]
        have ih := nmul_rep f (n / 2) (nadd T T) (nadd acc T) _ _ (by rw [Nat.pow_succ] at h; omega) hPP (Cv.on_add cC hQ hP) hT (nadd_rep hQ hP h2 h1)
        have e : Cv.add cC Q (Cv.times cC P n) = Cv.add cC (Cv.add cC Q P) (Cv.times cC (Cv.add cC P P) (n / 2)) := by
          have : n = 1 + 2 * (n / 2) := by omega
          conv => lhs; rw [this]
          rw [Cv.times_add cC hP, Cv.times_one, e2, Cv.add_assoc cC hQ hP (Cv.on_times cC hPP _)]
        rw [e]; exact ih
      · rw [if_neg hb]
        have ih := nmul_rep f (n / 2) (nadd T T) acc _ _ (by rw [Nat.pow_succ] at h; omega) hPP hQ hT h2
        have e : n = 2 * (n / 2) := by omega
        conv => arg 2; rw [e, e2]
        exact ih
theorem nrep_zero : nrep (0, 1, 1) Cv.zero := by
  refine ⟨?_, ?_, ?_⟩
  · exact fv_ne (by rw [one_mod_p]; decide)
  · show fv 0 = 0 * fv 1; rw [fv_zero]; grind
  · show fv 1 = 1 * fv 1; grind
theorem nmul_times (n : Nat) (T : Nat × Nat × Nat) (P : Fp × Fp) (hn : n < 2 ^ 260) (hP : Cv.On cC P) (h : nrep T P) : nrep (nmul 260 n T (0, 1, 1)) (Cv.times cC P n) := by
  have := nmul_rep 260 n T (0, 1, 1) P Cv.zero hn hP (Cv.on_zero cC) h nrep_zero
  rwa [Cv.zero_add] at this
/-- Is the point that three numbers tell the neutral one? -/
def nis0 (T : Nat × Nat × Nat) : Bool := T.1 % p25519 == 0 && T.2.1 % p25519 == T.2.2 % p25519
theorem nis0_yes {T : Nat × Nat × Nat} {P : Fp × Fp} (h : nrep T P) (h0 : nis0 T = true) : P = Cv.zero := by
  unfold nis0 at h0
  simp only [Bool.and_eq_true, beq_iff_eq] at h0
  refine Cv.rep_same cC h ⟨h.1, ?_, ?_⟩
  · rw [← fv_mod, h0.1, fv_zero]; show (0 : Fp) = 0 * _; grind
  · rw [← fv_mod, h0.2, fv_mod]; show _ = 1 * fv T.2.2; grind
theorem nis0_no {T : Nat × Nat × Nat} {P : Fp × Fp} (h : nrep T P) (h0 : nis0 T = false) : P ≠ Cv.zero := by
  intro e
  subst e
  obtain ⟨_, hx, hy⟩ := h
  have h1 : fv T.1 = fv 0 := by rw [hx, fv_zero]; show 0 * fv T.2.2 = 0; grind
  have h2 : fv T.2.1 = fv T.2.2 := by rw [hy]; show 1 * fv T.2.2 = _; grind
  have h1 := fv_eq.1 h1
  have h2 := fv_eq.1 h2
  rw [Nat.zero_mod] at h1
  unfold nis0 at h0
  rw [h1, h2] at h0
  simp at h0

/-- A point whose multiples are all points. -/
def gG : Fp × Fp := (fv 10405405258473914874183617234027007191356550210603093774830463659632760060427, fv 3)
theorem of_nums (x y : Nat) (h : y * y % p25519 = (1 + x * x + dD * x * x * y * y) % p25519) : Cv.On cC (fv x, fv y) := by
  unfold Cv.On
  show fv y * fv y = 1 + fv x * fv x + fv dD * fv x * fv x * fv y * fv y
  rw [← fv_one]
  simp only [← fv_mul, ← fv_add]
  exact fv_eq.2 h
theorem nums_rep (x y : Nat) : nrep (x, y, 1) (fv x, fv y) := by
  refine ⟨fv_ne (by rw [one_mod_p]; decide), ?_, ?_⟩
  · show fv x = fv x * fv 1; rw [fv_one]; grind
  · show fv y = fv y * fv 1; rw [fv_one]; grind
theorem gG_on : Cv.On cC gG := of_nums _ _ (by decide +kernel)
theorem gG_times (n : Nat) (h : n < 2 ^ 260) : nrep (nmul 260 n (10405405258473914874183617234027007191356550210603093774830463659632760060427, 3, 1) (0, 1, 1)) (Cv.times cC gG n) := nmul_times n _ _ h gG_on (nums_rep _ _)
theorem gG_all : Cv.times cC gG (8 * lL) = Cv.zero := nis0_yes (gG_times _ (by decide +kernel)) (by decide +kernel)
theorem gG_half : Cv.times cC gG (8 * lL / 2) ≠ Cv.zero := nis0_no (gG_times _ (by decide +kernel)) (by decide +kernel)
theorem gG_eight : Cv.times cC gG (8 * lL / lL) ≠ Cv.zero := nis0_no (gG_times _ (by decide +kernel)) (by decide +kernel)
theorem gG_apart : ∀ i j, i < j → j < 8 * lL → Cv.times cC gG i ≠ Cv.times cC gG j := by
  refine Cv.apart cC gG_on [(2, 3), (lL, 1)] (by decide +kernel) ?_ (by decide +kernel) gG_all ?_
  · intro x hx
    simp only [List.mem_cons, List.not_mem_nil, or_false] at hx
    rcases hx with rfl | rfl
    · exact pr_2
    · exact lL_prime
  · intro x hx
    simp only [List.mem_cons, List.not_mem_nil, or_false] at hx
    rcases hx with rfl | rfl
    · exact gG_half
    · exact gG_eight

/-- Two of one square are alike or opposite. -/
theorem sq_two (x z : Fp) (h : x * x = z * z) : x = z ∨ x = -z := by
  rcases Cv.unit cC (x - z) (x + z) (by grind) with h | h
  · left; grind
  · right; grind
theorem p_odd : p25519 % 2 = 1 := by decide +kernel
theorem neg_parity (z : Fp) (h : z ≠ 0) : (-z).val % 2 ≠ z.val % 2 := by
  have h0 : 0 < z.val := Nat.pos_of_ne_zero fun e => h (Fin.ext e)
  have e : (-z).val = p25519 - z.val := by
    have : -z = fv (p25519 - z.val) := by rw [fv_neg _ (Nat.le_of_lt z.isLt), fv_of_val]
    rw [this, fv_val]
    exact Nat.mod_eq_of_lt (by have := z.isLt; omega)
  have := z.isLt
  have := p_odd
  omega
theorem den_ne (y : Fp) : 1 + cC.d * y * y ≠ 0 := by
  intro h
  have hy : y ≠ 0 := fun e => cC.one (Cv.one_of _ _ h e)
  have hk := finv_mul y hy
  exact dD_none (finv y) (by
    have h : 1 + fv dD * y * y = 0 := h
    generalize finv y = k at *
    exact Cv.neg_of _ _ _ h hk)
/-- A point is told by its y and whether its x is odd. -/
theorem told (P Q : Fp × Fp) (hP : Cv.On cC P) (hQ : Cv.On cC Q) (hy : P.2 = Q.2) (hx : P.1.val % 2 = Q.1.val % 2) : P = Q := by
  obtain ⟨x, y⟩ := P
  obtain ⟨z, y2⟩ := Q
  simp only at hy hx
  subst hy
  unfold Cv.On at hP hQ
  simp only at hP hQ
  have hn := den_ne y
  have hk := cC.inv_mul _ hn
  have : x * x = z * z := by
    have e : x * x * (1 + cC.d * y * y) = z * z * (1 + cC.d * y * y) := by grind
    generalize 1 + cC.d * y * y = u at *
    generalize cC.inv u = k at *
    have : x * x * (u * k) = z * z * (u * k) := by grind
    rw [hk] at this
    grind
  rcases sq_two x z this with h | h
  · rw [h]
  · by_cases h0 : z = 0
    · rw [h, h0]; congr 1 <;> grind
    · rw [h] at hx; exact absurd hx (neg_parity z h0)

/-- More than there is room for aren't all unlike. -/
theorem too_many (n m : Nat) (f : Nat → Nat) (hf : ∀ i, i < m → f i < n) (hm : n < m) : ∃ i j, i < j ∧ j < m ∧ f i = f j := by
  apply Classical.byContradiction
  intro hno
  have hi : ∀ i j, i < n → j < n → f i = f j → i = j := by
    intro i j hi hj e
    rcases Nat.lt_trichotomy i j with c | c | c
    · exact absurd ⟨i, j, c, by omega, e⟩ hno
    · exact c
    · exact absurd ⟨j, i, c, by omega, e.symm⟩ hno
  obtain ⟨i, hin, e⟩ := fill n f (fun i h => hf i (by omega)) hi (f n) (hf n hm)
  exact hno ⟨i, n, hin, hm, e⟩

def slot (P : Fp × Fp) : Nat := 2 * P.2.val + P.1.val % 2
theorem slot_lt (P : Fp × Fp) : slot P < 2 * p25519 := by unfold slot; have := P.2.isLt; omega
theorem slot_eq {P Q : Fp × Fp} (hP : Cv.On cC P) (hQ : Cv.On cC Q) (h : slot P = slot Q) : P = Q := by
  unfold slot at h
  exact told P Q hP hQ (Fin.ext (by omega)) (by omega)

/-- Each point is a multiple of one. -/
theorem all_multiples (Q : Fp × Fp) (hQ : Cv.On cC Q) : ∃ k, Q = Cv.times cC gG k := by
  apply Classical.byContradiction
  intro hno
  have hon : ∀ i, Cv.On cC (Cv.times cC gG i) := fun i => Cv.on_times cC gG_on i
  obtain ⟨i, j, hij, hj, e⟩ := too_many (2 * p25519) (16 * lL) (fun i => slot (if i < 8 * lL then Cv.times cC gG i else Cv.add cC Q (Cv.times cC gG (i - 8 * lL)))) (fun i _ => slot_lt _) (by decide +kernel)
  have e : slot (if i < 8 * lL then Cv.times cC gG i else Cv.add cC Q (Cv.times cC gG (i - 8 * lL))) = slot (if j < 8 * lL then Cv.times cC gG j else Cv.add cC Q (Cv.times cC gG (j - 8 * lL))) := e
  by_cases c2 : j < 8 * lL
  · rw [if_pos c2, if_pos (by omega)] at e
    exact gG_apart i j hij c2 (slot_eq (hon _) (hon _) e)
  · rw [if_neg c2] at e
    by_cases c1 : i < 8 * lL
    · rw [if_pos c1] at e
      have e := slot_eq (hon _) (Cv.on_add cC hQ (hon _)) e
      refine hno ⟨i + (8 * lL - (j - 8 * lL)), ?_⟩
      rw [Cv.times_add cC gG_on, e, Cv.add_assoc cC hQ (hon _) (hon _), ← Cv.times_add cC gG_on, show j - 8 * lL + (8 * lL - (j - 8 * lL)) = 8 * lL from by omega, gG_all, Cv.add_zero]
    · rw [if_neg c1] at e
      have e := slot_eq (Cv.on_add cC hQ (hon _)) (Cv.on_add cC hQ (hon _)) e
      have e := Cv.cancel cC hQ (hon _) (hon _) e
      exact gG_apart (i - 8 * lL) (j - 8 * lL) (by omega) (by omega) e
/-- Eight times the order, times any point, is the neutral one. -/
theorem times_all (Q : Fp × Fp) (hQ : Cv.On cC Q) : Cv.times cC Q (8 * lL) = Cv.zero := by
  obtain ⟨k, rfl⟩ := all_multiples Q hQ
  rw [← Cv.times_mul cC gG_on, Nat.mul_comm, Cv.times_mul cC gG_on, gG_all, Cv.times_zero]
end Go.Proofs.Ytnobobdgoccmcaa


/-
  Plain facts on the points of a curve -x^2 + y^2 = 1 + d x^2 y^2 over a ring where all but nought can be divided by, -1 has a root and -d has none: sums of points are points, in whatever order, and so often a point is so often that.
-/
namespace Go.Proofs.Ytnobobdgoccmcaa.Cv
open Lean.Grind

/-- What is asked of the ring and of d. -/
structure Fit (R : Type) [CommRing R] where
  d : R
  inv : R → R
  i : R
  half : R
  inv_mul : ∀ a, a ≠ 0 → a * inv a = 1
  root : i * i = -1
  two : half + half = 1
  none : ∀ w, w * w ≠ -d
  one : (1 : R) ≠ 0

variable {R : Type} [CommRing R] (C : Fit R)

def On (P : R × R) : Prop := P.2 * P.2 = 1 + P.1 * P.1 + C.d * P.1 * P.1 * P.2 * P.2

def add (P Q : R × R) : R × R :=
  ((P.1 * Q.2 + P.2 * Q.1) * C.inv (1 + C.d * P.1 * Q.1 * P.2 * Q.2), (P.2 * Q.2 + P.1 * Q.1) * C.inv (1 - C.d * P.1 * Q.1 * P.2 * Q.2))
def neg (P : R × R) : R × R := (-P.1, P.2)
def zero : R × R := (0, 1)

include C in
theorem unit (a b : R) (h : a * b = 0) : a = 0 ∨ b = 0 := by
  by_cases ha : a = 0
  · exact .inl ha
  · right
    have := C.inv_mul a ha
    grind
include C in
theorem ne_mul {a b : R} (ha : a ≠ 0) (hb : b ≠ 0) : a * b ≠ 0 := fun h => by
  rcases unit C a b h with h | h
  · exact ha h
  · exact hb h

theorem full (x1 y1 x2 y2 e : R) (h1 : On C (x1, y1)) (h2 : On C (x2, y2)) (he : e * e = 1) : C.d * x1 * x2 * y1 * y2 ≠ e := by
  intro ht
  unfold On at h1 h2
  simp only at h1 h2
  have hi := C.root
  have h1' := C.one
  have hx2 : x2 ≠ 0 := fun h => h1' (by grind)
  have hx1 : x1 ≠ 0 := fun h => h1' (by grind)
  have hy1 : y1 ≠ 0 := fun h => h1' (by grind)
  have hi0 : C.i ≠ 0 := fun h => h1' (by grind)
  have a1 : -C.d * ((C.i * x1 * y1 * (C.i * x2 + y2)) * (C.i * x1 * y1 * (C.i * x2 + y2))) = (C.i * x1 + e * y1) * (C.i * x1 + e * y1) := by grind
  have a2 : -C.d * ((C.i * x1 * y1 * (C.i * x2 - y2)) * (C.i * x1 * y1 * (C.i * x2 - y2))) = (C.i * x1 - e * y1) * (C.i * x1 - e * y1) := by grind
  have key : ∀ u v : R, -C.d * (u * u) = v * v → u = 0 := by
    intro u v h
    apply Classical.byContradiction
    intro hu
    have hk := C.inv_mul u hu
    exact C.none (v * C.inv u) (by grind)
  have b1 := key _ _ a1
  have b2 := key _ _ a2
  have hm : C.i * x1 * y1 ≠ 0 := ne_mul C (ne_mul C hi0 hx1) hy1
  have c1 : C.i * x2 + y2 = 0 := (unit C _ _ b1).resolve_left hm
  have c2 : C.i * x2 - y2 = 0 := (unit C _ _ b2).resolve_left hm
  have ht := C.two
  have c3 : C.i * x2 = 0 := by grind
  exact ne_mul C hi0 hx2 c3

theorem dens {P Q : R × R} (h1 : On C P) (h2 : On C Q) :
    (1 + C.d * P.1 * Q.1 * P.2 * Q.2) * C.inv (1 + C.d * P.1 * Q.1 * P.2 * Q.2) = 1 ∧ (1 - C.d * P.1 * Q.1 * P.2 * Q.2) * C.inv (1 - C.d * P.1 * Q.1 * P.2 * Q.2) = 1 := by
  constructor
  · exact C.inv_mul _ fun h => full C P.1 P.2 Q.1 Q.2 (-1) h1 h2 (by grind) (by grind)
  · exact C.inv_mul _ fun h => full C P.1 P.2 Q.1 Q.2 1 h1 h2 (by grind) (by grind)

theorem on_zero : On C zero := by unfold On zero; grind
theorem on_neg {P : R × R} (h : On C P) : On C (neg P) := by unfold On neg at *; grind
theorem on_add {P Q : R × R} (h1 : On C P) (h2 : On C Q) : On C (add C P Q) := by
  have ⟨d1, d2⟩ := dens C h1 h2
  obtain ⟨x1, y1⟩ := P
  obtain ⟨x2, y2⟩ := Q
  unfold On add at *
  simp only at *
  generalize C.inv (1 + C.d * x1 * x2 * y1 * y2) = k at *
  generalize C.inv (1 - C.d * x1 * x2 * y1 * y2) = m at *
  generalize C.d = d at *
  have key : ((y1 * y2 + x1 * x2) * (1 + d * x1 * x2 * y1 * y2)) * ((y1 * y2 + x1 * x2) * (1 + d * x1 * x2 * y1 * y2)) = ((1 + d * x1 * x2 * y1 * y2) * (1 - d * x1 * x2 * y1 * y2)) * ((1 + d * x1 * x2 * y1 * y2) * (1 - d * x1 * x2 * y1 * y2)) + ((x1 * y2 + y1 * x2) * (1 - d * x1 * x2 * y1 * y2)) * ((x1 * y2 + y1 * x2) * (1 - d * x1 * x2 * y1 * y2)) + d * (x1 * y2 + y1 * x2) * (x1 * y2 + y1 * x2) * (y1 * y2 + x1 * x2) * (y1 * y2 + x1 * x2) := by grind
  generalize x1 * y2 + y1 * x2 = a at *
  generalize y1 * y2 + x1 * x2 = b at *
  generalize d * x1 * x2 * y1 * y2 = t at *
  clear h1 h2
  have e : (b * m) * (b * m) = ((b * (1 + t)) * (b * (1 + t))) * ((m * k) * (m * k)) := by grind
  rw [e, key]
  grind
theorem add_comm (P Q : R × R) : add C P Q = add C Q P := by
  unfold add
  congr 1
  · congr 1
    · grind
    · congr 1; grind
  · congr 1
    · grind
    · congr 1; grind
theorem inv_one : C.inv 1 = 1 := by have := C.inv_mul 1 C.one; grind
theorem add_zero (P : R × R) : add C P zero = P := by
  unfold add zero
  obtain ⟨x, y⟩ := P
  simp only
  rw [show (1 : R) + C.d * x * 0 * y * 1 = 1 from by grind, show (1 : R) - C.d * x * 0 * y * 1 = 1 from by grind, inv_one]
  congr 1 <;> grind
theorem zero_add (P : R × R) : add C zero P = P := by rw [add_comm, add_zero]
theorem add_neg {P : R × R} (h : On C P) : add C P (neg P) = zero := by
  have ⟨d1, d2⟩ := dens C h (on_neg C h)
  obtain ⟨x, y⟩ := P
  unfold add neg zero On at *
  simp only at *
  congr 1
  · grind
  · rw [← d2]; grind

theorem mix (k m t a b y x : R) (d1 : (1 + t) * k = 1) (d2 : (1 - t) * m = 1) : a * k * y + b * m * x = (k * m) * (a * (1 - t) * y + b * (1 + t) * x) := by grind
theorem denp (d k m t a b y x : R) (d1 : (1 + t) * k = 1) (d2 : (1 - t) * m = 1) : 1 + d * (a * k) * x * (b * m) * y = (k * m) * ((1 + t) * (1 - t) + d * a * b * x * y) := by grind
theorem denm (d k m t a b y x : R) (d1 : (1 + t) * k = 1) (d2 : (1 - t) * m = 1) : 1 - d * (a * k) * x * (b * m) * y = (k * m) * ((1 + t) * (1 - t) - d * a * b * x * y) := by grind
theorem crossx {A B A' B' c c' : R} (h : A * B' = A' * B) : (c * A) * (c' * B') = (c' * A') * (c * B) := by grind
theorem add_assoc {P Q S : R × R} (h1 : On C P) (h2 : On C Q) (h3 : On C S) : add C (add C P Q) S = add C P (add C Q S) := by
  have ⟨d1, d2⟩ := dens C h1 h2
  have ⟨d3, d4⟩ := dens C h2 h3
  have ⟨d5, d6⟩ := dens C (on_add C h1 h2) h3
  have ⟨d7, d8⟩ := dens C h1 (on_add C h2 h3)
  obtain ⟨x1, y1⟩ := P
  obtain ⟨x2, y2⟩ := Q
  obtain ⟨x3, y3⟩ := S
  unfold On at h1 h2 h3
  unfold add at *
  simp only at *
  generalize C.inv (1 + C.d * x1 * x2 * y1 * y2) = k at *
  generalize C.inv (1 - C.d * x1 * x2 * y1 * y2) = m at *
  generalize C.inv (1 + C.d * x2 * x3 * y2 * y3) = k' at *
  generalize C.inv (1 - C.d * x2 * x3 * y2 * y3) = m' at *
  generalize C.d = d at *
  have X : ((x1 * y2 + y1 * x2) * (1 - d * x1 * x2 * y1 * y2) * y3 + (y1 * y2 + x1 * x2) * (1 + d * x1 * x2 * y1 * y2) * x3) * ((1 + d * x2 * x3 * y2 * y3) * (1 - d * x2 * x3 * y2 * y3) + d * (x2 * y3 + y2 * x3) * (y2 * y3 + x2 * x3) * x1 * y1) = ((x2 * y3 + y2 * x3) * (1 - d * x2 * x3 * y2 * y3) * y1 + (y2 * y3 + x2 * x3) * (1 + d * x2 * x3 * y2 * y3) * x1) * ((1 + d * x1 * x2 * y1 * y2) * (1 - d * x1 * x2 * y1 * y2) + d * (x1 * y2 + y1 * x2) * (y1 * y2 + x1 * x2) * x3 * y3) := by
    clear d1 d2 d3 d4 d5 d6 d7 d8; grind
  have Y : ((y1 * y2 + x1 * x2) * (1 + d * x1 * x2 * y1 * y2) * y3 + (x1 * y2 + y1 * x2) * (1 - d * x1 * x2 * y1 * y2) * x3) * ((1 + d * x2 * x3 * y2 * y3) * (1 - d * x2 * x3 * y2 * y3) - d * (x2 * y3 + y2 * x3) * (y2 * y3 + x2 * x3) * x1 * y1) = ((y2 * y3 + x2 * x3) * (1 + d * x2 * x3 * y2 * y3) * y1 + (x2 * y3 + y2 * x3) * (1 - d * x2 * x3 * y2 * y3) * x1) * ((1 + d * x1 * x2 * y1 * y2) * (1 - d * x1 * x2 * y1 * y2) - d * (x1 * y2 + y1 * x2) * (y1 * y2 + x1 * x2) * x3 * y3) := by
    clear d1 d2 d3 d4 d5 d6 d7 d8; grind
  clear h1 h2 h3
  generalize x1 * y2 + y1 * x2 = a at *
  generalize y1 * y2 + x1 * x2 = b at *
  generalize d * x1 * x2 * y1 * y2 = t at *
  generalize x2 * y3 + y2 * x3 = a' at *
  generalize y2 * y3 + x2 * x3 = b' at *
  generalize d * x2 * x3 * y2 * y3 = s at *
  generalize C.inv (1 + d * (a * k) * x3 * (b * m) * y3) = e5 at *
  generalize C.inv (1 - d * (a * k) * x3 * (b * m) * y3) = e6 at *
  generalize C.inv (1 + d * x1 * (a' * k') * y1 * (b' * m')) = e7 at *
  generalize C.inv (1 - d * x1 * (a' * k') * y1 * (b' * m')) = e8 at *
  -- each side times both denominators
  have lx : (a * k * y3 + b * m * x3) * (1 + d * x1 * (a' * k') * y1 * (b' * m')) = (a' * k' * y1 + b' * m' * x1) * (1 + d * (a * k) * x3 * (b * m) * y3) := by
    have e2 : 1 + d * x1 * (a' * k') * y1 * (b' * m') = (k' * m') * ((1 + s) * (1 - s) + d * a' * b' * x1 * y1) := by
      rw [← denp d k' m' s a' b' y1 x1 d3 d4]; clear d1 d2 d3 d4 d5 d6 d7 d8 X Y; grind
    rw [mix k m t a b y3 x3 d1 d2, e2, mix k' m' s a' b' y1 x1 d3 d4, denp d k m t a b y3 x3 d1 d2]
    exact crossx X
  have ly : (b * m * y3 + a * k * x3) * (1 - d * x1 * (a' * k') * y1 * (b' * m')) = (b' * m' * y1 + a' * k' * x1) * (1 - d * (a * k) * x3 * (b * m) * y3) := by
    have e2 : 1 - d * x1 * (a' * k') * y1 * (b' * m') = (k' * m') * ((1 + s) * (1 - s) - d * a' * b' * x1 * y1) := by
      rw [← denm d k' m' s a' b' y1 x1 d3 d4]; clear d1 d2 d3 d4 d5 d6 d7 d8 X Y; grind
    have f1 : b * m * y3 + a * k * x3 = (k * m) * (b * (1 + t) * y3 + a * (1 - t) * x3) := by
      have := mix k m t a b x3 y3 d1 d2; clear d3 d4 d5 d6 d7 d8 X Y lx e2; grind
    have f2 : b' * m' * y1 + a' * k' * x1 = (k' * m') * (b' * (1 + s) * y1 + a' * (1 - s) * x1) := by
      have := mix k' m' s a' b' x1 y1 d3 d4; clear d1 d2 d5 d6 d7 d8 X Y lx e2 f1; grind
    rw [f1, e2, f2, denm d k m t a b y3 x3 d1 d2]
    exact crossx Y
  clear d1 d2 d3 d4 X Y
  generalize 1 + d * (a * k) * x3 * (b * m) * y3 = D5 at *
  generalize 1 - d * (a * k) * x3 * (b * m) * y3 = D6 at *
  generalize 1 + d * x1 * (a' * k') * y1 * (b' * m') = D7 at *
  generalize 1 - d * x1 * (a' * k') * y1 * (b' * m') = D8 at *
  congr 1
  · have q : x1 * (b' * m') + y1 * (a' * k') = a' * k' * y1 + b' * m' * x1 := by grind
    rw [q]
    generalize a * k * y3 + b * m * x3 = U at *
    generalize a' * k' * y1 + b' * m' * x1 = V at *
    clear ly d6 d8
    grind
  · have q : y1 * (b' * m') + x1 * (a' * k') = b' * m' * y1 + a' * k' * x1 := by grind
    rw [q]
    generalize b * m * y3 + a * k * x3 = U at *
    generalize b' * m' * y1 + a' * k' * x1 = V at *
    clear lx d5 d7
    grind

/-- So often a point. -/
def times (P : R × R) : Nat → R × R
  | 0 => zero
  | n + 1 => add C (times P n) P
theorem on_times {P : R × R} (h : On C P) : ∀ n, On C (times C P n)
  | 0 => on_zero C
  | n + 1 => on_add C (on_times h n) h
theorem times_add {P : R × R} (h : On C P) (a : Nat) : ∀ b, times C P (a + b) = add C (times C P a) (times C P b)
  | 0 => by rw [Nat.add_zero]; exact (add_zero C _).symm
  | b + 1 => by
    show add C (times C P (a + b)) P = add C (times C P a) (add C (times C P b) P)
    rw [times_add h a b, add_assoc C (on_times C h a) (on_times C h b) h]
theorem times_one (P : R × R) : times C P 1 = P := by show add C zero P = P; exact zero_add C P
theorem times_zero : ∀ n, times C zero n = zero
  | 0 => rfl
  | n + 1 => by show add C (times C zero n) zero = zero; rw [add_zero, times_zero n]
theorem times_mul {P : R × R} (h : On C P) (a : Nat) : ∀ b, times C P (a * b) = times C (times C P a) b
  | 0 => rfl
  | b + 1 => by
    rw [Nat.mul_succ, times_add C h, times_mul h a b]; rfl
theorem swap4 {P Q S T : R × R} (h1 : On C P) (h2 : On C Q) (h3 : On C S) (h4 : On C T) : add C (add C P Q) (add C S T) = add C (add C P S) (add C Q T) := by
  rw [add_assoc C h1 h2 (on_add C h3 h4), ← add_assoc C h2 h3 h4, add_comm C Q S, add_assoc C h3 h2 h4, ← add_assoc C h1 h3 (on_add C h2 h4)]
theorem times_of_add {P Q : R × R} (h1 : On C P) (h2 : On C Q) : ∀ n, times C (add C P Q) n = add C (times C P n) (times C Q n)
  | 0 => (add_zero C zero).symm
  | n + 1 => by
    show add C (times C (add C P Q) n) (add C P Q) = _
    rw [times_of_add h1 h2 n, swap4 C (on_times C h1 n) (on_times C h2 n) h1 h2]; rfl
theorem neg_zero : neg (zero : R × R) = zero := by unfold neg zero; congr 1; grind
theorem times_neg {P : R × R} (h : On C P) (n : Nat) : times C (neg P) n = neg (times C P n) := by
  have e : add C (times C (neg P) n) (times C P n) = zero := by
    rw [← times_of_add C (on_neg C h) h, add_comm, add_neg C h, times_zero]
  have f : add C (times C P n) (neg (times C P n)) = zero := add_neg C (on_times C h n)
  rw [← add_zero C (times C (neg P) n), ← f, ← add_assoc C (on_times C (on_neg C h) n) (on_times C h n) (on_neg C (on_times C h n)), e, zero_add]

end Go.Proofs.Ytnobobdgoccmcaa.Cv


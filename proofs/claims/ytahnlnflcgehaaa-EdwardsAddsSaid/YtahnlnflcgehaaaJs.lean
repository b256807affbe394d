/-
  What Decode finds is a point of the curve; its bytes are those.
-/
import Derived.Test.YtahnlnflcgehaaaJr
namespace Go.Proofs.Ytahnlnflcgehaaa
open Go.RowKit Pri
set_option linter.unusedVariables false
set_option linter.unusedSimpArgs false

theorem ax_on (Y : Nat) (h : axB Y = true) : Cv.On cC (fv (axN Y), fv Y) := by
  have h1 := root_sq _ _ h
  have e := fv_eq.2 h1
  rw [fv_mod, fv_mul, fv_mod, fv_mul, fv_ma, fv_ms, fv_mm, fv_mm, fv_one] at e
  show fv Y * fv Y = 1 + fv (axN Y) * fv (axN Y) + fv dD * fv (axN Y) * fv (axN Y) * fv Y * fv Y
  unfold axN
  generalize fv (rootN (ms (mm Y Y) 1) (ma (mm dD (mm Y Y)) 1)) = x at *
  generalize fv Y = y at *
  generalize fv dD = d at *
  grind
theorem one_ne_zero_fp : (1 : Fp) ≠ 0 := by decide +kernel
theorem pt_mk (x Y : Nat) (hx : x < p25519) (hY : Y < p25519) (on : Cv.On cC (fv x, fv Y)) :
    pq x (ms Y 1) = pv (fv x, fv Y) ∧ RW (fv x, fv Y) ⟨x, Y, 1⟩ ∧ encn (fv x, fv Y) = Y + 57896044618658097711785492504343953926634992332820282019728792003956564819968 * (x % 2) := by
  have e1 : (fv x).val = x := by rw [fv_val, Nat.mod_eq_of_lt hx]
  have e2 : (fv Y).val = Y := by rw [fv_val, Nat.mod_eq_of_lt hY]
  have e3 : ms Y 1 = (fv Y - 1 : Fp).val := val_fv (ms_lt Y 1) (by rw [fv_ms, fv_one])
  refine ⟨?_, ⟨on, ⟨?_, ?_, ?_⟩, hx, hY, one_ltp⟩, ?_⟩
  · show pq x (ms Y 1) = pq (fv x).val (fv Y - 1 : Fp).val
    rw [e1, e3]
  · show fv 1 ≠ 0
    rw [fv_one]; exact one_ne_zero_fp
  · show fv x = fv x * fv 1
    rw [fv_one]; generalize fv x = a; grind
  · show fv Y = fv Y * fv 1
    rw [fv_one]; generalize fv Y = a; grind
  · show (fv Y).val + _ * ((fv x).val % 2) = _
    rw [e1, e2]
theorem par_opp {p a c : Nat} (hp : p % 2 = 1) (h : a ≤ p) (ho : ¬ a % 2 = c) (hc : c < 2) : (p - a) % 2 = c := by omega
theorem sub_lt_of {p a : Nat} (h : a < p) (h0 : ¬ a = 0) : p - a < p := by omega
theorem on_opp (a b : Fp) (h : Cv.On cC (a, b)) : Cv.On cC (-a, b) := Cv.on_neg cC h
theorem dcode_pt {Y c x : Nat} (hc : c < 2) (h : dcode Y c = some x) :
    ∃ P, Cv.On cC P ∧ pq x (ms Y 1) = pv P ∧ RW P ⟨x, Y, 1⟩ ∧ encn P = Y + 57896044618658097711785492504343953926634992332820282019728792003956564819968 * c := by
  by_cases hp : p25519 ≤ Y
  · rw [dcode_bad hp] at h; cases h
  have hlt := Nat.lt_of_not_le hp
  have hx := axN_lt Y
  cases hb : axB Y
  · rw [dcode_none hp hb] at h; cases h
  have on := ax_on Y hb
  by_cases ho : axN Y % 2 = c
  · rw [dcode_keep hp hb ho] at h
    have hx2 := Option.some.inj h
    subst hx2
    obtain ⟨h1, h2, h3⟩ := pt_mk (axN Y) Y hx hlt on
    rw [ho] at h3
    exact ⟨(fv (axN Y), fv Y), on, h1, h2, h3⟩
  by_cases h0 : axN Y = 0
  · rw [dcode_zero hp ho h0] at h; cases h
  rw [dcode_neg hp hb ho h0] at h
  have hx2 := Option.some.inj h
  subst hx2
  have on2 : Cv.On cC (fv (p25519 - axN Y), fv Y) := by
    rw [fv_neg _ (Nat.le_of_lt hx)]
    exact on_opp _ _ on
  obtain ⟨h1, h2, h3⟩ := pt_mk (p25519 - axN Y) Y (sub_lt_of hx h0) hlt on2
  have hpo := p_odd2
  have m2 : axN Y % 2 < 2 := Nat.mod_lt _ (by decide)
  rw [par_opp hpo (Nat.le_of_lt hx) ho hc] at h3
  exact ⟨(fv (p25519 - axN Y), fv Y), on2, h1, h2, h3⟩
end Go.Proofs.Ytahnlnflcgehaaa

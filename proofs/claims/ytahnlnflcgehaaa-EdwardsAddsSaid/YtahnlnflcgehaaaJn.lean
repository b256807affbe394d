/-
  Points by the document's numbers.
-/
import Derived.Test.YtahnlnflcgehaaaJm
import Derived.Test.YtahnlnflcgehaaaJg
namespace Go.Proofs.Ytahnlnflcgehaaa
open Go.RowKit Pri
set_option linter.unusedVariables false
set_option linter.unusedSimpArgs false

structure R3 where
  x : Nat
  y : Nat
  z : Nat
def R3.ok (q : R3) : Prop := q.x < p25519 ∧ q.y < p25519 ∧ q.z < p25519
def rqq (q : R3) : Array Value := rq q.x q.y q.z
theorem sz_rqq (q : R3) : Sz 48 (rqq q) := sz3 (sz_nd _) (sz_nd _) (sz_nd _)
def ms5 (X Y : Nat) : Nat := (X + (p25519 - Y) % p25519) % p25519
theorem ms5_lt (X Y : Nat) : ms5 X Y < p25519 := Nat.mod_lt _ p_pos
theorem fv_ms5 (X Y : Nat) (h : Y ≤ p25519) : fv (ms5 X Y) = fv X - fv Y := by unfold ms5; rw [fv_mod, fv_add, fv_mod, fv_neg Y h]; grind
def raddn (q r : R3) : R3 :=
  let a := mm q.z r.z
  let b := mm a a
  let c := mm q.x r.x
  let d := mm q.y r.y
  let e := mm dD (mm c d)
  ⟨mm (mm a (ms5 b e)) (ms5 (mm (ma q.x q.y) (ma r.x r.y)) (ma c d)), mm (mm a (ma b e)) (ma c d), mm (ms5 b e) (ma b e)⟩
theorem raddn_ok (q r : R3) : (raddn q r).ok := ⟨mm_lt _ _, mm_lt _ _, mm_lt _ _⟩
theorem P_of {a : Nat} (h : a < p25519) : a < 115792089237316195423570985008687907853269984665640564039457584007913129639936 := Nat.lt_trans h p_lt
theorem mul5_ans (X Y : Nat) (hX : X < p25519) (hY : Y < p25519) : Ans Try.prog 23 #[.agg (nd X), .agg (nd Y)] (.agg (nd (mm X Y))) := fun W => mul5_any X Y (P_of hX) (P_of hY) W
theorem add5_ans (X Y : Nat) (hX : X < p25519) (hY : Y < p25519) : Ans Try.prog 19 #[.agg (nd X), .agg (nd Y)] (.agg (nd (ma X Y))) := fun W => add5_any X Y (P_of hX) (P_of hY) W
theorem sub5_ans (X Y : Nat) (hX : X < p25519) (hY : Y < p25519) : Ans Try.prog 21 #[.agg (nd X), .agg (nd Y)] (.agg (nd (ms5 X Y))) := fun W => sub5_any X Y (P_of hX) (Nat.le_of_lt hY) W
theorem dD_ltp : dD < p25519 := by decide +kernel
theorem radd_ans (q r : R3) (hq : q.ok) (hr : r.ok) : Ans Try.prog 63 #[.agg (rqq q), .agg (rqq r)] (.agg (rqq (raddn q r))) := fun W => by
  obtain ⟨h1, h2, h3⟩ := hq
  obtain ⟨k1, k2, k3⟩ := hr
  exact radd_op (rqq q) (rqq r) (nd q.x) (nd q.y) (nd q.z) (nd r.x) (nd r.y) (nd r.z) _ _ _ _ _ _ _ _ _ _ _ _ _ _ _ _ _ _ _ W
    (mul5_ans _ _ h3 k3) (mul5_ans _ _ (mm_lt _ _) (mm_lt _ _)) (mul5_ans _ _ h1 k1) (mul5_ans _ _ h2 k2) d7_any (mul5_ans _ _ (mm_lt _ _) (mm_lt _ _)) (mul5_ans _ _ dD_ltp (mm_lt _ _)) (sub5_ans _ _ (mm_lt _ _) (mm_lt _ _)) (add5_ans _ _ (mm_lt _ _) (mm_lt _ _)) (add5_ans _ _ h1 h2) (add5_ans _ _ k1 k2) (mul5_ans _ _ (ma_lt _ _) (ma_lt _ _)) (mul5_ans _ _ (mm_lt _ _) (ms5_lt _ _)) (add5_ans _ _ (mm_lt _ _) (mm_lt _ _)) (sub5_ans _ _ (mm_lt _ _) (ma_lt _ _)) (mul5_ans _ _ (mm_lt _ _) (ms5_lt _ _)) (mul5_ans _ _ (mm_lt _ _) (ma_lt _ _)) (mul5_ans _ _ (mm_lt _ _) (ma_lt _ _)) (mul5_ans _ _ (ms5_lt _ _) (ma_lt _ _))
    (part3_0 _ _ _) (part3_1 (sz_nd _) _ _) (part3_2 (sz_nd _) (sz_nd _) _) (part3_0 _ _ _) (part3_1 (sz_nd _) _ _) (part3_2 (sz_nd _) (sz_nd _) _) (sz_rqq _) (sz_rqq _) (sz_nd _) (sz_nd _) (sz_nd _) (sz_nd _) (sz_nd _) (sz_nd _) (sz_nd _) (sz_nd _) (sz_nd _) (sz_nd _) (sz_nd _) (sz_nd _) (sz_nd _) (sz_nd _) (sz_nd _) (sz_nd _) (sz_nd _)
def RW (P : Fp × Fp) (q : R3) : Prop := Cv.On cC P ∧ Rep (fv q.x) (fv q.y) (fv q.z) P ∧ q.ok
theorem RW.add {P Q : Fp × Fp} {q r : R3} (hq : RW P q) (hr : RW Q r) : RW (Cv.add cC P Q) (raddn q r) := by
  obtain ⟨h1, h2, h3⟩ := hq
  obtain ⟨k1, k2, k3⟩ := hr
  have := Cv.rep_add cC h1 k1 h2 k2
  refine ⟨Cv.on_add cC h1 k1, ?_, raddn_ok q r⟩
  show Rep (fv (mm _ _)) (fv (mm _ _)) (fv (mm _ _)) _
  simp only [fv_mm, fv_ma, fv_ms5 _ _ (Nat.le_of_lt (mm_lt _ _)), fv_ms5 _ _ (Nat.le_of_lt (ma_lt _ _))]
  exact this
theorem RW_zero : RW Cv.zero ⟨0, 1, 1⟩ := ⟨Cv.on_zero cC, nrep_zero, p_pos, (by decide +kernel), (by decide +kernel)⟩
theorem RW_base : RW bB ⟨bX, bY, 1⟩ := ⟨bB_on, nums_rep bX bY, (by decide +kernel), (by decide +kernel), (by decide +kernel)⟩
theorem zero7_ans : Ans Try.prog 104 #[] (.agg (rqq ⟨0, 1, 1⟩)) := fun W => by
  show Calls _ _ _ W fun e w' => e = .returned (.agg (rq 0 1 1)) ∧ _
  rw [rq_zero_]; exact zero7_op #[] W ⟨rfl, by simp⟩
theorem base7_ans : Ans Try.prog 95 #[] (.agg (rqq ⟨bX, bY, 1⟩)) := fun W => by
  show Calls _ _ _ W fun e w' => e = .returned (.agg (rq bX bY 1)) ∧ _
  rw [rq_base_]; exact base7_op #[] W ⟨rfl, by simp⟩
/-- The document's sum from the highest bit on. -/
def racc (q : R3) (X : Nat) : Nat → R3
  | 0 => ⟨0, 1, 1⟩
  | d + 1 => if X / 2 ^ (255 - d) % 2 = 1 then raddn (raddn (racc q X d) (racc q X d)) q else raddn (racc q X d) (racc q X d)
theorem racc_rw {P : Fp × Fp} {q : R3} (h : RW P q) (X : Nat) (hX : X < 115792089237316195423570985008687907853269984665640564039457584007913129639936) : ∀ d, d ≤ 256 → RW (Cv.times cC P (X / 2 ^ (256 - d))) (racc q X d)
  | 0, _ => by
    rw [show X / 2 ^ (256 - 0) = 0 from Nat.div_eq_of_lt (Nat.lt_of_lt_of_le hX (by decide +kernel))]
    exact RW_zero
  | d + 1, hd => by
    have ih := racc_rw h X hX d (by omega)
    have h2 := ih.add ih
    rw [← Cv.times_add cC h.1] at h2
    have e : X / 2 ^ (256 - (d + 1)) = X / 2 ^ (256 - d) + X / 2 ^ (256 - d) + X / 2 ^ (255 - d) % 2 := by
      rw [show 256 - (d + 1) = 255 - d by omega, show 256 - d = (255 - d) + 1 by omega, Nat.pow_succ, ← Nat.div_div_eq_div_mul]
      omega
    rw [e]
    unfold racc
    rcases Nat.mod_two_eq_zero_or_one (X / 2 ^ (255 - d)) with c | c
    · rw [if_neg (by omega), c, Nat.add_zero]; exact h2
    · rw [if_pos c, c, Cv.times_add cC h.1, Cv.times_one]; exact h2.add h
theorem racc_ok {P : Fp × Fp} {q : R3} (h : RW P q) (X : Nat) (hX : X < 115792089237316195423570985008687907853269984665640564039457584007913129639936) (d : Nat) (hd : d ≤ 256) : (racc q X d).ok := (racc_rw h X hX d hd).2.2
theorem rtimes_rw {P : Fp × Fp} {q : R3} (h : RW P q) (X : Nat) (hX : X < 115792089237316195423570985008687907853269984665640564039457584007913129639936) : RW (Cv.times cC P X) (racc q X 256) ∧ Ans Try.prog 61 #[.agg (rqq q), .string ⟨(bl 32 X).toArray⟩] (.agg (rqq (racc q X 256))) := by
  refine ⟨?_, fun W => ?_⟩
  · have := racc_rw h X hX 256 (by omega)
    rwa [show X / 2 ^ (256 - 256) = X by rw [Nat.sub_self, Nat.pow_zero, Nat.div_one]] at this
  · refine rtimes_op X (rqq q) _ W (fun m => rqq (racc q X (256 - m))) (fun m => rqq (raddn (racc q X (256 - (m + 1))) (racc q X (256 - (m + 1))))) (fun m => sz_rqq _) (fun m => sz_rqq _) ?_ ?_ ?_ rfl zero7_ans (sz_rqq _)
    · intro m hm
      exact radd_ans _ _ (racc_ok h X hX _ (by omega)) (racc_ok h X hX _ (by omega))
    · intro m hm hb
      have e : racc q X (256 - m) = raddn (raddn (racc q X (256 - (m + 1))) (racc q X (256 - (m + 1)))) q := by
        rw [show 256 - m = (256 - (m + 1)) + 1 by omega, racc, show 255 - (256 - (m + 1)) = m by omega, if_pos hb]
      show Ans _ _ _ (.agg (rqq (racc q X (256 - m))))
      rw [e]
      exact radd_ans _ _ (raddn_ok _ _) h.2.2
    · intro m hm hb
      have e : racc q X (256 - m) = raddn (racc q X (256 - (m + 1))) (racc q X (256 - (m + 1))) := by
        rw [show 256 - m = (256 - (m + 1)) + 1 by omega, racc, show 255 - (256 - (m + 1)) = m by omega, if_neg (by omega)]
      show rqq (racc q X (256 - m)) = _
      rw [e]
theorem str_at (W : World) (g c : Nat) (Y : Nat) (h : ∀ j, j < 32 → W.cell? ⟨g, j, none⟩ = some (.int .u8 ((Y / 256 ^ j % 256 : Nat) : Int))) : (convert 40 9 (.slice (some ⟨g, 0, none⟩) 32 c)).run Try.prog W = .ok (.string ⟨(bl 32 Y).toArray⟩) W := by
  have hl : Lies W (some ⟨g, 0, none⟩) (bl 32 Y) := Or.inr ⟨g, 0, rfl, fun j hj => by
    rw [bl_length] at hj
    rw [Nat.zero_add, h j hj]
    simp only [bl, List.getElem_map, List.getElem_range]
    rw [byte_toNat]; rfl⟩
  have := run_str hl c 9 Try.underlying9
  rwa [bl_length] at this
theorem cell_set_other {W : World} {g i j : Nat} {v u : Value} (h : W.cell? ⟨g, j, none⟩ = some u) (hne : i ≠ j) : (W.setCell ⟨g, i, none⟩ v).cell? ⟨g, j, none⟩ = some u := by
  exact (World.cell?_setCell_other (w := W) (a := ⟨g, i, none⟩) (b := ⟨g, j, none⟩) (v := v) (fun e => hne (by injection e))).trans h
theorem rencode_rw {P : Fp × Fp} {q : R3} (h : RW P q) : Ans Try.prog 97 #[.agg (rqq q)] (.string ⟨(bl 32 (encn P)).toArray⟩) := fun W => by
  obtain ⟨_, ⟨z0, hx, hy⟩, k1, k2, k3⟩ := h
  have hi := inv_fv q.z z0
  have hI : pwr q.z (p25519 - 2) < p25519 := Nat.mod_lt _ p_pos
  have ex : mm q.x (pwr q.z (p25519 - 2)) = P.1.val := val_fv (mm_lt _ _) (by rw [fv_mm, hx]; generalize fv q.z = z at *; generalize fv (pwr q.z (p25519 - 2)) = i at *; grind)
  have ey : mm q.y (pwr q.z (p25519 - 2)) = P.2.val := val_fv (mm_lt _ _) (by rw [fv_mm, hy]; generalize fv q.z = z at *; generalize fv (pwr q.z (p25519 - 2)) = i at *; grind)
  have M1 := mul5_ans q.x _ k1 hI
  have M2 := mul5_ans q.y _ k2 hI
  rw [ex] at M1
  rw [ey] at M2
  have x0 : (nd P.1.val)[0]? = some (.int .i64 (dig 65536 P.1.val 0 : Int)) := iq_get 16 _ 0 (by decide)
  have hpar : (dig 65536 P.1.val 0 : Int).tmod 2 = ((P.1.val % 2 : Nat) : Int) := by
    rw [tmod_two]; unfold dig; rw [Nat.pow_zero, Nat.div_one]; omega
  have hy2 : P.2.val < 57896044618658097711785492504343953926634992332820282019728792003956564819968 := by have := Nat.lt_of_lt_of_eq P.2.isLt P_val; omega
  unfold encn
  rcases Nat.mod_two_eq_zero_or_one P.1.val with c | c
  · rw [c] at hpar ⊢
    rw [Nat.mul_zero, Nat.add_zero]
    exact renc_even _ 0 0 _ ⟨#[]⟩ (rqq q) (nd q.x) (nd q.y) (nd q.z) _ _ _ W (inv5_any q.z (P_of k3)) M1 M2 (bytes5_any P.2.val) (part3_0 _ _ _) (part3_1 (sz_nd _) _ _) (part3_2 (sz_nd _) (sz_nd _) _) x0 hpar (bl_size _) (bl_conv _) (fun W c => str_at _ _ _ _ (fun j hj => bw_cell _ _ j hj)) (sz_rqq _) (sz_nd _) (sz_nd _) (sz_nd _) (sz_nd _) (sz_nd _) (sz_nd _)
  · rw [c] at hpar ⊢
    obtain ⟨h1, h2⟩ := high_byte P.2.val hy2
    exact renc_odd _ (P.2.val / 256 ^ 31 % 256) (P.2.val / 256 ^ 31 % 256 + 128) _ _ (rqq q) (nd q.x) (nd q.y) (nd q.z) _ _ _ W (inv5_any q.z (P_of k3)) M1 M2 (bytes5_any P.2.val) (part3_0 _ _ _) (part3_1 (sz_nd _) _ _) (part3_2 (sz_nd _) (sz_nd _) _) x0 hpar (bl_size _) (bl_conv _) (fun W => bw_cell _ _ 31 (by decide)) (fun W => bw_free _ _ 31 (by rw [bl_size]; decide)) (or_top _ h1)
      (fun W c => str_at _ _ _ _ (fun j hj => by
        by_cases e : j = 31
        · subst e
          rw [h2]
          exact World.cell?_setCell_same _ _ _ (bw_cell _ _ 31 (by decide))
        · rw [low_byte _ _ j (by omega)]
          exact cell_set_other (bw_cell _ _ j hj) (fun e2 => e e2.symm))) (sz_rqq _) (sz_nd _) (sz_nd _) (sz_nd _) (sz_nd _) (sz_nd _) (sz_nd _)
theorem RW.neg {P : Fp × Fp} {q : R3} (h : RW P q) : RW (Cv.neg P) ⟨(p25519 - q.x) % p25519, q.y, q.z⟩ ∧ Ans Try.prog 65 #[.agg (rqq q)] (.agg (rqq ⟨(p25519 - q.x) % p25519, q.y, q.z⟩)) := by
  obtain ⟨h1, ⟨z0, hx, hy⟩, k1, k2, k3⟩ := h
  refine ⟨⟨Cv.on_neg cC h1, ⟨z0, ?_, hy⟩, Nat.mod_lt _ p_pos, k2, k3⟩, fun W => ?_⟩
  · show fv ((p25519 - q.x) % p25519) = - P.1 * fv q.z
    rw [fv_mod, fv_neg _ (Nat.le_of_lt k1), hx]; grind
  · exact rneg_op (rqq q) (nd q.x) (nd q.y) (nd q.z) _ W (neg5_any q.x (Nat.le_of_lt k1)) (part3_0 _ _ _) (part3_1 (sz_nd _) _ _) (part3_2 (sz_nd _) (sz_nd _) _) (sz_rqq _) (sz_nd _) (sz_nd _) (sz_nd _) (sz_nd _)
theorem RW.eight {P : Fp × Fp} {q : R3} (h : RW P q) : ∃ r, RW (Cv.times cC P 8) r ∧ Ans Try.prog 67 #[.agg (rqq q)] (.agg (rqq r)) := by
  have h2 := h.add h
  have h4 := h2.add h2
  have h8 := h4.add h4
  have e1 := Cv.times_one cC P
  have e2 : Cv.add cC P P = Cv.times cC P 2 := by rw [show (2 : Nat) = 1 + 1 from rfl, Cv.times_add cC h.1, e1]
  have e4 : Cv.add cC (Cv.times cC P 2) (Cv.times cC P 2) = Cv.times cC P 4 := by rw [← Cv.times_add cC h.1]
  have e8 : Cv.add cC (Cv.times cC P 4) (Cv.times cC P 4) = Cv.times cC P 8 := by rw [← Cv.times_add cC h.1]
  rw [e2, e4, e8] at h8
  exact ⟨_, h8, fun W => reight_op (rqq q) _ _ _ W (radd_ans _ _ h.2.2 h.2.2) (radd_ans _ _ (raddn_ok _ _) (raddn_ok _ _)) (radd_ans _ _ (raddn_ok _ _) (raddn_ok _ _)) (sz_rqq _) (sz_rqq _) (sz_rqq _) (sz_rqq _)⟩
theorem mm_eq {a b c d : Nat} : mm a b = mm c d ↔ fv a * fv b = fv c * fv d := by
  rw [← fv_mul, ← fv_mul, fv_eq]; rfl
theorem cross_same {a b z t : Fp} (hz : z ≠ 0) (ht : t ≠ 0) : a * z * t = b * t * z ↔ a = b := by
  constructor
  · intro h
    have i := cC.inv_mul z hz
    have j := cC.inv_mul t ht
    generalize cC.inv z = u at *
    generalize cC.inv t = v at *
    grind
  · intro h; rw [h]; grind
theorem RW.same {P Q : Fp × Fp} {q r : R3} (hq : RW P q) (hr : RW Q r) (c : Bool) (hc : c = true ↔ P = Q) : Ans Try.prog 69 #[.agg (rqq q), .agg (rqq r)] (.bool c) := fun W => by
  obtain ⟨_, ⟨z0, hx, hy⟩, k1, k2, k3⟩ := hq
  obtain ⟨_, ⟨t0, gx, gy⟩, l1, l2, l3⟩ := hr
  have ex : mm q.x r.z = mm r.x q.z ↔ P.1 = Q.1 := by rw [mm_eq, hx, gx]; exact cross_same z0 t0
  have ey : mm q.y r.z = mm r.y q.z ↔ P.2 = Q.2 := by rw [mm_eq, hy, gy]; exact cross_same z0 t0
  have E1 := fun W : World => eql_nd5 (mm q.x r.z) (mm r.x q.z) (P_of (mm_lt _ _)) (P_of (mm_lt _ _)) W
  have E2 := fun W : World => eql_nd5 (mm q.y r.z) (mm r.y q.z) (P_of (mm_lt _ _)) (P_of (mm_lt _ _)) W
  by_cases h : P.1 = Q.1
  · rw [decide_eq_true (ex.2 h)] at E1
    have e : decide (mm q.y r.z = mm r.y q.z) = c := by
      rw [Bool.eq_iff_iff, hc, decide_eq_true_iff, ey]
      exact ⟨fun k => Prod.ext h k, fun k => by rw [k]⟩
    rw [e] at E2
    exact rsame_a c (rqq q) (rqq r) (nd q.x) (nd q.y) (nd q.z) (nd r.x) (nd r.y) (nd r.z) _ _ _ _ W (mul5_ans _ _ k1 l3) (mul5_ans _ _ l1 k3) (mul5_ans _ _ k2 l3) (mul5_ans _ _ l2 k3) (part3_0 _ _ _) (part3_1 (sz_nd _) _ _) (part3_2 (sz_nd _) (sz_nd _) _) (part3_0 _ _ _) (part3_1 (sz_nd _) _ _) (part3_2 (sz_nd _) (sz_nd _) _) E1 E2 (sz_rqq _) (sz_rqq _) (sz_nd _) (sz_nd _) (sz_nd _) (sz_nd _) (sz_nd _) (sz_nd _)
  · rw [decide_eq_false (fun k => h (ex.1 k))] at E1
    have e : c = false := Bool.eq_false_iff.2 (fun k => h (by rw [hc.1 k]))
    subst e
    exact rsame_b _ (rqq q) (rqq r) (nd q.x) (nd q.y) (nd q.z) (nd r.x) (nd r.y) (nd r.z) _ _ _ _ W (mul5_ans _ _ k1 l3) (mul5_ans _ _ l1 k3) (mul5_ans _ _ k2 l3) (mul5_ans _ _ l2 k3) (part3_0 _ _ _) (part3_1 (sz_nd _) _ _) (part3_2 (sz_nd _) (sz_nd _) _) (part3_0 _ _ _) (part3_1 (sz_nd _) _ _) (part3_2 (sz_nd _) (sz_nd _) _) E1 E2 (sz_rqq _) (sz_rqq _) (sz_nd _) (sz_nd _) (sz_nd _) (sz_nd _) (sz_nd _) (sz_nd _)
end Go.Proofs.Ytahnlnflcgehaaa

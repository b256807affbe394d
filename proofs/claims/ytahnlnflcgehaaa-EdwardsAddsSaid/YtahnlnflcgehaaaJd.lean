/-
  Points by numbers: what package edwards' functions answer, and which point it is.
-/
import Derived.Test.YtahnlnflcgehaaaJc
import Derived.Test.YtahnlnflcgehaaaGx
import Derived.Test.YtahnlnflcgehaaaQa
namespace Go.Proofs.Ytahnlnflcgehaaa
open Go.RowKit Pri
set_option linter.unusedVariables false
set_option linter.unusedSimpArgs false

/-- The four numbers of a wide point. -/
structure W4 where
  x : Nat
  y : Nat
  z : Nat
  t : Nat
def W4.ok (q : W4) : Prop := q.x < 115792089237316195423570985008687907853269984665640564039457584007913129639936 ∧ q.y < 115792089237316195423570985008687907853269984665640564039457584007913129639936 ∧ q.z < 115792089237316195423570985008687907853269984665640564039457584007913129639936 ∧ q.t < 115792089237316195423570985008687907853269984665640564039457584007913129639936
def wq (q : W4) : Array Value := cat4 (nc q.x) (nc q.y) (nc q.z) (nc q.t)
def pq (x r : Nat) : Array Value := cat2 (nc x) (nc r)
theorem sz_wq (q : W4) : Sz 16 (wq q) := sz4 (sz_nc _) (sz_nc _) (sz_nc _) (sz_nc _)
theorem sz_pq (x r : Nat) : Sz 8 (pq x r) := sz2 (sz_nc _) (sz_nc _)
/-- A difference; a sum; a product. -/
def ms (X Y : Nat) : Nat := (X % p25519 + (p25519 - Y % p25519)) % p25519
def ma (X Y : Nat) : Nat := (X + Y) % p25519
def mm (X Y : Nat) : Nat := X * Y % p25519
theorem ms_lt (X Y : Nat) : ms X Y < p25519 := Nat.mod_lt _ p_pos
theorem ma_lt (X Y : Nat) : ma X Y < p25519 := Nat.mod_lt _ p_pos
theorem mm_lt (X Y : Nat) : mm X Y < p25519 := Nat.mod_lt _ p_pos
theorem msP (X Y : Nat) : ms X Y < 115792089237316195423570985008687907853269984665640564039457584007913129639936 := mod_p_lt _
theorem maP (X Y : Nat) : ma X Y < 115792089237316195423570985008687907853269984665640564039457584007913129639936 := mod_p_lt _
theorem mmP (X Y : Nat) : mm X Y < 115792089237316195423570985008687907853269984665640564039457584007913129639936 := mod_p_lt _
theorem fv_ms (X Y : Nat) : fv (ms X Y) = fv X - fv Y := by unfold ms; rw [fv_mod, fv_sub_mod, fv_mod]
theorem fv_ma (X Y : Nat) : fv (ma X Y) = fv X + fv Y := by unfold ma; rw [fv_mod, fv_add]
theorem fv_mm (X Y : Nat) : fv (mm X Y) = fv X * fv Y := by unfold mm; rw [fv_mod, fv_mul]
theorem dD2_lt : dD2 < 115792089237316195423570985008687907853269984665640564039457584007913129639936 := by decide +kernel
theorem dD_lt : dD < 115792089237316195423570985008687907853269984665640564039457584007913129639936 := by decide +kernel
theorem fv_dD2 : fv dD2 = fv dD + fv dD := by rw [← fv_add]; exact fv_eq.2 (by decide +kernel)
def waddn (q r : W4) : W4 :=
  let a := mm (ms q.y q.x) (ms r.y r.x)
  let b := mm (ma q.y q.x) (ma r.y r.x)
  let c := mm (mm q.t r.t) dD2
  let d := mm q.z (ma r.z r.z)
  ⟨mm (ms b a) (ms d c), mm (ma d c) (ma b a), mm (ms d c) (ma d c), mm (ms b a) (ma b a)⟩
theorem waddn_ok (q r : W4) : (waddn q r).ok := ⟨mmP _ _, mmP _ _, mmP _ _, mmP _ _⟩
theorem sub_ans (X Y : Nat) (hX : X < 115792089237316195423570985008687907853269984665640564039457584007913129639936) (hY : Y < 115792089237316195423570985008687907853269984665640564039457584007913129639936) : Ans Try.prog 20 #[.agg (nc X), .agg (nc Y)] (.agg (nc (ms X Y))) := fun W => fsub_any X Y hX hY W
theorem add_ans (X Y : Nat) (hX : X < 115792089237316195423570985008687907853269984665640564039457584007913129639936) (hY : Y < 115792089237316195423570985008687907853269984665640564039457584007913129639936) : Ans Try.prog 18 #[.agg (nc X), .agg (nc Y)] (.agg (nc (ma X Y))) := fun W => fadd_any X Y hX hY W
theorem mul_ans (X Y : Nat) (hX : X < 115792089237316195423570985008687907853269984665640564039457584007913129639936) (hY : Y < 115792089237316195423570985008687907853269984665640564039457584007913129639936) : Ans Try.prog 22 #[.agg (nc X), .agg (nc Y)] (.agg (nc (mm X Y))) := fun W => fmul_any X Y hX hY W
theorem small_one : Ans Try.prog 32 #[.int .u64 1] (.agg (nc 1)) := fun W => fsmall_any 1 (by decide) W
theorem wadd_ans (q r : W4) (hq : q.ok) (hr : r.ok) : Ans Try.prog 102 #[.agg (wq q), .agg (wq r)] (.agg (wq (waddn q r))) := fun W => by
  obtain ⟨qx, qy, qz, qt⟩ := q
  obtain ⟨rx, ry, rz, rt⟩ := r
  obtain ⟨h1, h2, h3, h4⟩ := hq
  obtain ⟨k1, k2, k3, k4⟩ := hr
  exact wadd_op (wq ⟨qx, qy, qz, qt⟩) (wq ⟨rx, ry, rz, rt⟩) (nc qx) (nc qy) (nc qz) (nc qt) (nc rx) (nc ry) (nc rz) (nc rt) _ _ _ _ _ _ _ _ _ _ _ _ _ _ _ _ _ _ _ W
    (sub_ans _ _ h2 h1) (sub_ans _ _ k2 k1) (mul_ans _ _ (msP _ _) (msP _ _)) (add_ans _ _ h2 h1) (add_ans _ _ k2 k1) (mul_ans _ _ (maP _ _) (maP _ _)) (mul_ans _ _ h4 k4) bend2_any (mul_ans _ _ (mmP _ _) dD2_lt) (add_ans _ _ k3 k3) (mul_ans _ _ h3 (maP _ _))
    (sub_ans _ _ (mmP _ _) (mmP _ _)) (sub_ans _ _ (mmP _ _) (mmP _ _)) (add_ans _ _ (mmP _ _) (mmP _ _)) (add_ans _ _ (mmP _ _) (mmP _ _)) (mul_ans _ _ (msP _ _) (msP _ _)) (mul_ans _ _ (maP _ _) (maP _ _)) (mul_ans _ _ (msP _ _) (maP _ _)) (mul_ans _ _ (msP _ _) (maP _ _))
    (part4_0 _ _ _ _) (part4_1 (sz_nc _) _ _ _) (part4_2 (sz_nc _) (sz_nc _) _ _) (part4_3 (sz_nc _) (sz_nc _) (sz_nc _) _) (part4_0 _ _ _ _) (part4_1 (sz_nc _) _ _ _) (part4_2 (sz_nc _) (sz_nc _) _ _) (part4_3 (sz_nc _) (sz_nc _) (sz_nc _) _)
    (sz_wq _) (sz_wq _) (sz_nc _) (sz_nc _) (sz_nc _) (sz_nc _) (sz_nc _) (sz_nc _) (sz_nc _) (sz_nc _) (sz_nc _) (sz_nc _) (sz_nc _) (sz_nc _) (sz_nc _) (sz_nc _) (sz_nc _) (sz_nc _) (sz_nc _) (sz_nc _) (sz_nc _) (sz_nc _)
theorem y_ans (x r : Nat) (hr : r < 115792089237316195423570985008687907853269984665640564039457584007913129639936) : Ans Try.prog 107 #[.agg (pq x r)] (.agg (nc (ma r 1))) := fun W =>
  py_op (pq x r) (nc x) (nc r) _ _ W small_one (add_ans r 1 hr (by decide)) (part2_0 _ _) (part2_1 (sz_nc _) _) (sz_pq _ _) (sz_nc _) (sz_nc _) (sz_nc _)
theorem pair_ans (x y : Nat) (hy : y < 115792089237316195423570985008687907853269984665640564039457584007913129639936) : Ans Try.prog 106 #[.agg (nc x), .agg (nc y)] (.agg (pq x (ms y 1))) := fun W =>
  pair_op (nc x) (nc y) _ _ W small_one (sub_ans y 1 hy (by decide)) (sz_nc _) (sz_nc _) (sz_nc _)
def widen (x r : Nat) : W4 := ⟨x, ma r 1, 1, mm x (ma r 1)⟩
theorem widen_ok (x r : Nat) (hx : x < 115792089237316195423570985008687907853269984665640564039457584007913129639936) : (widen x r).ok := ⟨hx, maP _ _, (show 1 < 115792089237316195423570985008687907853269984665640564039457584007913129639936 by decide), mmP _ _⟩
theorem wide_ans (x r : Nat) (hx : x < 115792089237316195423570985008687907853269984665640564039457584007913129639936) (hr : r < 115792089237316195423570985008687907853269984665640564039457584007913129639936) : Ans Try.prog 99 #[.agg (pq x r)] (.agg (wq (widen x r))) := fun W =>
  pwide_op (pq x r) (nc x) (nc r) _ _ _ W small_one (y_ans x r hr) (mul_ans x _ hx (maP _ _)) (part2_0 _ _) (part2_1 (sz_nc _) _) (sz_pq _ _) (sz_nc _) (sz_nc _) (sz_nc _) (sz_nc _) (sz_nc _)
def pointx (q : W4) : Nat := mm q.x (pwr q.z (p25519 - 2))
def pointr (q : W4) : Nat := ms (mm q.y (pwr q.z (p25519 - 2))) 1
theorem point_ans (q : W4) (hq : q.ok) : Ans Try.prog 103 #[.agg (wq q)] (.agg (pq (pointx q) (pointr q))) := fun W => by
  obtain ⟨qx, qy, qz, qt⟩ := q
  obtain ⟨h1, h2, h3, h4⟩ := hq
  exact wpoint_op (wq ⟨qx, qy, qz, qt⟩) (nc qx) (nc qy) (nc qz) _ _ _ _ W (finv_any qz h3) (mul_ans qx _ h1 (pwr_lt _ _)) (mul_ans qy _ h2 (pwr_lt _ _)) (pair_ans _ _ (mmP _ _)) (part4_0 _ _ _ _) (part4_1 (sz_nc _) _ _ _) (part4_2 (sz_nc _) (sz_nc _) _ _) (sz_wq _) (sz_nc _) (sz_nc _) (sz_nc _) (sz_nc _) (sz_pq _ _)
theorem twice_ans (q : W4) (hq : q.ok) : Ans Try.prog 101 #[.agg (wq q)] (.agg (wq (waddn q q))) := fun W => twice_op _ _ W (wadd_ans q q hq hq) (sz_wq _) (sz_wq _)
def weightn (q : W4) : W4 := waddn (waddn (waddn q q) (waddn q q)) (waddn (waddn q q) (waddn q q))
theorem weight_ans (q : W4) (hq : q.ok) : Ans Try.prog 100 #[.agg (wq q)] (.agg (wq (weightn q))) := fun W => weight_op _ _ _ _ W (twice_ans q hq) (twice_ans _ (waddn_ok _ _)) (twice_ans _ (waddn_ok _ _)) (sz_wq _) (sz_wq _)

/-- Which point it is. -/
def PW (P : Fp × Fp) (q : W4) : Prop := Cv.On cC P ∧ Rep (fv q.x) (fv q.y) (fv q.z) P ∧ fv q.t = P.1 * P.2 * fv q.z
theorem PW.add {P Q : Fp × Fp} {q r : W4} (hq : PW P q) (hr : PW Q r) : PW (Cv.add cC P Q) (waddn q r) := by
  obtain ⟨h1, h2, h3⟩ := hq
  obtain ⟨k1, k2, k3⟩ := hr
  have := Cv.rep_wide cC h1 k1 h2 k2 h3 k3 (fv (mm (ms q.y q.x) (ms r.y r.x))) (fv (mm (ma q.y q.x) (ma r.y r.x))) (fv (mm (mm q.t r.t) dD2)) (fv (mm q.z (ma r.z r.z))) _ _ _ _ (by rw [fv_mm, fv_ms, fv_ms]) (by rw [fv_mm, fv_ma, fv_ma]) (by rw [fv_mm, fv_mm, fv_dD2]; rfl) (by rw [fv_mm, fv_ma]) rfl rfl rfl rfl
  refine ⟨Cv.on_add cC h1 k1, ?_, ?_⟩
  · show Rep (fv (mm _ _)) (fv (mm _ _)) (fv (mm _ _)) _
    rw [fv_mm (ms _ _) (ms _ _), fv_mm (ma _ _) (ma _ _), fv_mm (ms _ _) (ma _ _), fv_ms, fv_ms, fv_ma, fv_ma]
    exact this.1
  · show fv (mm _ _) = _ * fv (mm _ _)
    rw [fv_mm (ms _ _) (ma _ _), fv_mm (ms _ _) (ma _ _), fv_ms, fv_ms, fv_ma, fv_ma]
    exact this.2
/-- The numbers of a point: its x, and its y less one. -/
def px (P : Fp × Fp) : Nat := P.1.val
def pr (P : Fp × Fp) : Nat := (P.2 - 1).val
theorem px_lt (P : Fp × Fp) : px P < p25519 := P.1.isLt
theorem pr_lt (P : Fp × Fp) : pr P < p25519 := (P.2 - 1).isLt
theorem pxP (P : Fp × Fp) : px P < 115792089237316195423570985008687907853269984665640564039457584007913129639936 := Nat.lt_trans (px_lt P) p_lt
theorem prP (P : Fp × Fp) : pr P < 115792089237316195423570985008687907853269984665640564039457584007913129639936 := Nat.lt_trans (pr_lt P) p_lt
theorem fv_px (P : Fp × Fp) : fv (px P) = P.1 := fv_of_val _
theorem fv_pr (P : Fp × Fp) : fv (pr P) = P.2 - 1 := fv_of_val _
theorem val_fv {a : Nat} {x : Fp} (ha : a < p25519) (h : fv a = x) : a = x.val := by
  rw [← h, fv_val, Nat.mod_eq_of_lt ha]
theorem widen_pw (P : Fp × Fp) (hP : Cv.On cC P) : PW P (widen (px P) (pr P)) := by
  have e : fv (ma (pr P) 1) = P.2 := by rw [fv_ma, fv_pr, fv_one]; grind
  refine ⟨hP, ⟨?_, ?_, ?_⟩, ?_⟩
  · show fv 1 ≠ 0; rw [fv_one]; exact cC.one
  · show fv (px P) = P.1 * fv 1; rw [fv_px, fv_one]; grind
  · show fv (ma (pr P) 1) = P.2 * fv 1; rw [e, fv_one]; grind
  · show fv (mm (px P) (ma (pr P) 1)) = P.1 * P.2 * fv 1; rw [fv_mm, fv_px, e, fv_one]; grind
theorem inv_fv (z : Nat) (h : fv z ≠ 0) : fv z * fv (pwr z (p25519 - 2)) = 1 := by
  have hz : z % p25519 ≠ 0 := fun e => h (by rw [← fv_mod, e, fv_zero])
  rw [← fv_mul, ← fv_one]
  refine fv_eq.2 ?_
  rw [inv_one z hz, one_mod_p]
theorem point_pw {P : Fp × Fp} {q : W4} (h : PW P q) : pointx q = px P ∧ pointr q = pr P := by
  obtain ⟨_, ⟨z0, hx, hy⟩, _⟩ := h
  have hi := inv_fv q.z z0
  refine ⟨val_fv (mm_lt _ _) ?_, val_fv (ms_lt _ _) ?_⟩
  · unfold pointx; rw [fv_mm, hx]; generalize fv q.z = z at *; generalize fv (pwr q.z (p25519 - 2)) = i at *; grind
  · unfold pointr; rw [fv_ms, fv_mm, hy, fv_one]; generalize fv q.z = z at *; generalize fv (pwr q.z (p25519 - 2)) = i at *; grind
/-- A point's array. -/
def pv (P : Fp × Fp) : Array Value := pq (px P) (pr P)
theorem sz_pv (P : Fp × Fp) : Sz 8 (pv P) := sz_pq _ _
theorem pwide_pv (P : Fp × Fp) : Ans Try.prog 99 #[.agg (pv P)] (.agg (wq (widen (px P) (pr P)))) := wide_ans _ _ (pxP P) (prP P)
theorem point_pv {P : Fp × Fp} {q : W4} (hq : q.ok) (h : PW P q) : Ans Try.prog 103 #[.agg (wq q)] (.agg (pv P)) := by
  have := point_ans q hq
  rwa [(point_pw h).1, (point_pw h).2] at this
theorem padd_pv (P Q : Fp × Fp) (hP : Cv.On cC P) (hQ : Cv.On cC Q) : Ans Try.prog 62 #[.agg (pv P), .agg (pv Q)] (.agg (pv (Cv.add cC P Q))) := fun W =>
  padd_op _ _ _ _ _ _ W (pwide_pv P) (pwide_pv Q) (wadd_ans _ _ (widen_ok _ _ (pxP P)) (widen_ok _ _ (pxP Q))) (point_pv (waddn_ok _ _) ((widen_pw P hP).add (widen_pw Q hQ))) (sz_pv _) (sz_pv _) (sz_pv _)
theorem peight_pv (P : Fp × Fp) (hP : Cv.On cC P) : Ans Try.prog 66 #[.agg (pv P)] (.agg (pv (Cv.times cC P 8))) := fun W => by
  have h1 := widen_pw P hP
  have h8 : PW (Cv.times cC P 8) (weightn (widen (px P) (pr P))) := by
    have h2 := h1.add h1
    have h4 := h2.add h2
    have h8 := h4.add h4
    have e1 := Cv.times_one cC P
    have e2 : Cv.add cC P P = Cv.times cC P 2 := by rw [show (2 : Nat) = 1 + 1 from rfl, Cv.times_add cC hP, e1]
    have e4 : Cv.add cC (Cv.times cC P 2) (Cv.times cC P 2) = Cv.times cC P 4 := by rw [← Cv.times_add cC hP]
    have e8 : Cv.add cC (Cv.times cC P 4) (Cv.times cC P 4) = Cv.times cC P 8 := by rw [← Cv.times_add cC hP]
    rw [e2, e4, e8] at h8
    exact h8
  exact peight_op _ _ _ _ W (pwide_pv P) (weight_ans _ (widen_ok _ _ (pxP P))) (point_pv (waddn_ok _ _) h8) (sz_pv _) (sz_pv _)
theorem pneg_pv (P : Fp × Fp) : Ans Try.prog 64 #[.agg (pv P)] (.agg (pv (Cv.neg P))) := fun W => by
  have NE := fun W : World => fneg_any (px P) (pxP P) W
  have e : (p25519 - px P % p25519) % p25519 = px (Cv.neg P) := val_fv (Nat.mod_lt _ p_pos) (by rw [fv_negm, fv_px]; rfl)
  rw [e] at NE
  exact pneg_op (pv P) (nc (px P)) (nc (pr P)) _ W NE (part2_0 _ _) (part2_1 (sz_nc _) _) (sz_pv _) (sz_nc _) (sz_nc _) (sz_nc _)
end Go.Proofs.Ytahnlnflcgehaaa

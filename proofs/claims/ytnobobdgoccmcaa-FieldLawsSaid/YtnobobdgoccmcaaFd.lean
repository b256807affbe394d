/-
  The contract of product of package field.
-/
import Derived.Test.YtnobobdgoccmcaaFc
namespace Go.Proofs.Ytnobobdgoccmcaa
open Go.RowKit Pri
set_option linter.unusedVariables false

theorem keep4 {w : World} {b g : Nat} {o : Obj} (h : w.heap[b]? = some o) (hne : ¬ b = g) (u0 u1 u2 u3 : Value) : ((((w.setCell ⟨g, 0, none⟩ u0).setCell ⟨g, 1, none⟩ u1).setCell ⟨g, 2, none⟩ u2).setCell ⟨g, 3, none⟩ u3).heap[b]? = some o :=
  keep_set (keep_set (keep_set (keep_set h hne u0) hne u1) hne u2) hne u3
theorem Fr.set4 {w W : World} {g : Nat} (h : Fr (fun _ => False) w W) (hg : w.heap.size ≤ g) (u0 u1 u2 u3 : Value) : Fr (fun _ => False) w ((((W.setCell ⟨g, 0, none⟩ u0).setCell ⟨g, 1, none⟩ u1).setCell ⟨g, 2, none⟩ u2).setCell ⟨g, 3, none⟩ u3) :=
  (((h.setCell (Or.inr hg) u0).setCell (Or.inr hg) u1).setCell (Or.inr hg) u2).setCell (Or.inr hg) u3
theorem prod_num (x0 x1 x2 x3 Y : Nat) : nv x0 x1 x2 x3 * Y = x0 * Y + 18446744073709551616 * (x1 * Y) + 340282366920938463463374607431768211456 * (x2 * Y) + 6277101735386680763835789423207666416102355444464034512896 * (x3 * Y) := by
  unfold nv
  simp only [Nat.add_mul, Nat.mul_assoc]
/-- The steps of a product. -/
theorem prod_steps (m0 m1 m2 m3 H1 H2 H3 H4 a b c d : Nat) (h1 : H1 = (m0 + 0) / 18446744073709551616) (h2 : H2 = (m1 + H1) / 18446744073709551616) (h3 : H3 = (m2 + H2) / 18446744073709551616) (h4 : H4 = (m3 + H3) / 18446744073709551616)
    (ha : a = (m0 + 0) % 18446744073709551616) (hb : b = (m1 + H1) % 18446744073709551616) (hc : c = (m2 + H2) % 18446744073709551616) (hd : d = (m3 + H3) % 18446744073709551616) :
    m0 + 18446744073709551616 * m1 + 340282366920938463463374607431768211456 * m2 + 6277101735386680763835789423207666416102355444464034512896 * m3 = nv a b c d + 115792089237316195423570985008687907853269984665640564039457584007913129639936 * H4 := by
  unfold nv; omega
theorem prod_end (L H g e : Nat) (hL : L < 115792089237316195423570985008687907853269984665640564039457584007913129639936) (hH : H < 115792089237316195423570985008687907853269984665640564039457584007913129639936) (hg : g = (38 * H + L) / 18446744073709551616) (he : e = (38 * H + L) % 18446744073709551616) (g0 g1 g2 g3 : Nat) (b0 : g0 < 18446744073709551616) (b1 : g1 < 18446744073709551616) (b2 : g2 < 18446744073709551616) (b3 : g3 < 18446744073709551616) (hn : g = nv g0 g1 g2 g3) :
    g3 ≤ 38 ∧ (nv e g0 g1 g2 + 115792089237316195423570985008687907853269984665640564039457584007913129639936 * g3) % p25519 = (L + 115792089237316195423570985008687907853269984665640564039457584007913129639936 * H) % p25519 := by
  have : nv e g0 g1 g2 + 115792089237316195423570985008687907853269984665640564039457584007913129639936 * g3 = 38 * H + L := by
    unfold nv at *; omega
  rw [this, P_val]
  unfold nv at *
  refine ⟨by omega, by omega⟩
theorem line_hi (n X Y : Nat) (hn : n < 18446744073709551616) (hX : X < 115792089237316195423570985008687907853269984665640564039457584007913129639936) (hY : Y < 115792089237316195423570985008687907853269984665640564039457584007913129639936) : (n * X + Y) / 18446744073709551616 < 115792089237316195423570985008687907853269984665640564039457584007913129639936 := by
  have := line_bd n X Y hn hX hY
  omega
set_option maxRecDepth 100000 in
set_option maxHeartbeats 1000000 in
theorem fproduct_any (X Y : Nat) (hX : X < 115792089237316195423570985008687907853269984665640564039457584007913129639936) (hY : Y < 115792089237316195423570985008687907853269984665640564039457584007913129639936) (w : World) :
    Calls Try.prog 84 #[.agg (nc X), .agg (nc Y)] w fun e w' => e = .returned (.agg (nc (X * Y % p25519))) ∧ Fr (fun _ => False) w w' := by
  obtain ⟨x0, x1, x2, x3, hx0, hx1, hx2, hx3, hx, ex⟩ := nc_open X hX
  have hP := prod_num x0 x1 x2 x3 Y
  rw [← hx] at hP
  have l0 := line_hi x0 Y 0 hx0 hY (by decide)
  have L0 := fun (W : World) => fline_any x0 Y 0 hx0 hY (by decide) W
  obtain ⟨H1, e1⟩ : ∃ s, s = (x0 * Y + 0) / 18446744073709551616 := ⟨_, rfl⟩
  obtain ⟨a, f1⟩ : ∃ s, s = (x0 * Y + 0) % 18446744073709551616 := ⟨_, rfl⟩
  have k0 : a < 18446744073709551616 := by rw [f1]; exact Nat.mod_lt _ (by decide)
  rw [← e1, ← f1] at L0
  have b1 : H1 < 115792089237316195423570985008687907853269984665640564039457584007913129639936 := by rw [e1]; exact l0
  have l1 := line_hi x1 Y H1 hx1 hY b1
  have L1 := fun (W : World) => fline_any x1 Y H1 hx1 hY b1 W
  obtain ⟨H2, e2⟩ : ∃ s, s = (x1 * Y + H1) / 18446744073709551616 := ⟨_, rfl⟩
  obtain ⟨b, f2⟩ : ∃ s, s = (x1 * Y + H1) % 18446744073709551616 := ⟨_, rfl⟩
  have k1 : b < 18446744073709551616 := by rw [f2]; exact Nat.mod_lt _ (by decide)
  rw [← e2, ← f2] at L1
  have b2 : H2 < 115792089237316195423570985008687907853269984665640564039457584007913129639936 := by rw [e2]; exact l1
  have l2 := line_hi x2 Y H2 hx2 hY b2
  have L2 := fun (W : World) => fline_any x2 Y H2 hx2 hY b2 W
  obtain ⟨H3, e3⟩ : ∃ s, s = (x2 * Y + H2) / 18446744073709551616 := ⟨_, rfl⟩
  obtain ⟨c, f3⟩ : ∃ s, s = (x2 * Y + H2) % 18446744073709551616 := ⟨_, rfl⟩
  have k2 : c < 18446744073709551616 := by rw [f3]; exact Nat.mod_lt _ (by decide)
  rw [← e3, ← f3] at L2
  have b3 : H3 < 115792089237316195423570985008687907853269984665640564039457584007913129639936 := by rw [e3]; exact l2
  have l3 := line_hi x3 Y H3 hx3 hY b3
  have L3 := fun (W : World) => fline_any x3 Y H3 hx3 hY b3 W
  obtain ⟨H4, e4⟩ : ∃ s, s = (x3 * Y + H3) / 18446744073709551616 := ⟨_, rfl⟩
  obtain ⟨d, f4⟩ : ∃ s, s = (x3 * Y + H3) % 18446744073709551616 := ⟨_, rfl⟩
  have k3 : d < 18446744073709551616 := by rw [f4]; exact Nat.mod_lt _ (by decide)
  rw [← e4, ← f4] at L3
  have b4 : H4 < 115792089237316195423570985008687907853269984665640564039457584007913129639936 := by rw [e4]; exact l3
  have hst := prod_steps _ _ _ _ H1 H2 H3 H4 a b c d e1 e2 e3 e4 f1 f2 f3 f4
  rw [← hP] at hst
  have nl := nv_lt a b c d k0 k1 k2 k3
  have L4 := fun (W : World) => fline_any 38 H4 (nv a b c d) (by decide) b4 nl W
  have l4 := line_hi 38 H4 (nv a b c d) (by decide) b4 nl
  obtain ⟨H5, e5⟩ : ∃ s, s = (38 * H4 + nv a b c d) / 18446744073709551616 := ⟨_, rfl⟩
  obtain ⟨e, f5⟩ : ∃ s, s = (38 * H4 + nv a b c d) % 18446744073709551616 := ⟨_, rfl⟩
  have k4 : e < 18446744073709551616 := by rw [f5]; exact Nat.mod_lt _ (by decide)
  rw [← e5, ← f5] at L4
  rw [← nc_of a b c d k0 k1 k2 k3] at L4
  have b5 : H5 < 115792089237316195423570985008687907853269984665640564039457584007913129639936 := by rw [e5]; exact l4
  obtain ⟨r0, r1, r2, r3, hr0, hr1, hr2, hr3, hr, er⟩ := nc_open H5 b5
  obtain ⟨p1, p2⟩ := prod_end (nv a b c d) H4 H5 e nl b4 e5 f5 r0 r1 r2 r3 hr0 hr1 hr2 hr3 hr
  have FL := fun (W : World) => ffolded_any (nv e r0 r1 r2) r3 (nv_lt _ _ _ _ k4 hr0 hr1 hr2) p1 W
  rw [p2, ← hst, ← nc_of e r0 r1 r2 k4 hr0 hr1 hr2] at FL
  rw [er] at L4
  have hR : X * Y % p25519 < 115792089237316195423570985008687907853269984665640564039457584007913129639936 := Nat.lt_trans (Nat.mod_lt _ p_pos) (by decide +kernel)
  generalize X * Y % p25519 = R at *
  obtain ⟨t0, t1, t2, t3, _, _, _, _, _, et⟩ := nc_open R hR
  rw [et] at FL ⊢
  obtain ⟨y0, y1, y2, y3, _, _, _, _, _, ey⟩ := nc_open Y hY
  rw [ex, ey]
  rw [ey] at L0 L1 L2 L3
  obtain ⟨h0, h1, h2, h3, _, _, _, _, _, eh⟩ := nc_open H1 b1
  obtain ⟨i0, i1, i2, i3, _, _, _, _, _, ei⟩ := nc_open H2 b2
  obtain ⟨j0, j1, j2, j3, _, _, _, _, _, ej⟩ := nc_open H3 b3
  obtain ⟨m0, m1, m2, m3, _, _, _, _, _, em⟩ := nc_open H4 b4
  rw [eh] at L0 L1
  rw [ei] at L1 L2
  rw [ej] at L2 L3
  rw [em] at L3 L4
  rw [show nc 0 = #[.int .u64 0, .int .u64 0, .int .u64 0, .int .u64 0] from rfl] at L0
  rw [show ((38 : Nat) : Int) = 38 from rfl] at L4
  clear hP hst nl p1 p2 e1 e2 e3 e4 e5 f1 f2 f3 f4 f5 l0 l1 l2 l3 l4 b1 b2 b3 b4 b5 k0 k1 k2 k3 k4 hr et ex ey eh ei ej em er hX hY hR hx
  go_enter Try.func84, Try.ntmps84
  go_wp2_with fail
  refine (L0 _).mono ?_
  rintro e w1 ⟨rfl, F1⟩
  have X1 := F1.keep ((Below.heap_alloc ((w.alloc (.cells #[.int .u64 (x0 : Int), .int .u64 (x1 : Int), .int .u64 (x2 : Int), .int .u64 (x3 : Int)] 100)).alloc (.cells #[.int .u64 (y0 : Int), .int .u64 (y1 : Int), .int .u64 (y2 : Int), .int .u64 (y3 : Int)] 100)) (.cells #[.int .u64 0, .int .u64 0, .int .u64 0, .int .u64 0] 100) _ (by simp; omega)).trans (heap_alloc2_old w _ _))
  have Y1 := F1.keep ((Below.heap_alloc ((w.alloc (.cells #[.int .u64 (x0 : Int), .int .u64 (x1 : Int), .int .u64 (x2 : Int), .int .u64 (x3 : Int)] 100)).alloc (.cells #[.int .u64 (y0 : Int), .int .u64 (y1 : Int), .int .u64 (y2 : Int), .int .u64 (y3 : Int)] 100)) (.cells #[.int .u64 0, .int .u64 0, .int .u64 0, .int .u64 0] 100) _ (by simp)).trans (heap_alloc2_new w _ _))
  have R1 := F1.keep (heap_at ((w.alloc (.cells #[.int .u64 (x0 : Int), .int .u64 (x1 : Int), .int .u64 (x2 : Int), .int .u64 (x3 : Int)] 100)).alloc (.cells #[.int .u64 (y0 : Int), .int .u64 (y1 : Int), .int .u64 (y2 : Int), .int .u64 (y3 : Int)] 100)) #[.int .u64 0, .int .u64 0, .int .u64 0, .int .u64 0] 100 (w.heap.size + 1 + 1) (by simp))
  have G1 : Fr (fun _ => False) w w1 := ((((Fr.refl _ w).alloc _).alloc _).alloc _).trans F1 (fun _ h => h.elim)
  have zl := lt_of_block R1
  have zl0 : w.heap.size < w1.heap.size := by omega
  have zl1 : w.heap.size + 1 < w1.heap.size := by omega
  clear F1 L0
  obtain ⟨c0, c1, c2, c3, _, _, _, _⟩ := blk4 X1
  obtain ⟨d0, d1, d2, d3, _, _, _, _⟩ := blk4 Y1
  have HX := Lib.hid ((Below.heap_alloc w1 (.cells #[.int .u64 (h0 : Int), .int .u64 (h1 : Int), .int .u64 (h2 : Int), .int .u64 (h3 : Int)] 100) _ zl0).trans X1)
  have HY := Lib.hid ((Below.heap_alloc w1 (.cells #[.int .u64 (h0 : Int), .int .u64 (h1 : Int), .int .u64 (h2 : Int), .int .u64 (h3 : Int)] 100) _ zl1).trans Y1)
  have HR := Lib.hid ((Below.heap_alloc w1 (.cells #[.int .u64 (h0 : Int), .int .u64 (h1 : Int), .int .u64 (h2 : Int), .int .u64 (h3 : Int)] 100) _ zl).trans R1)
  have HH := Lib.hid (heap_alloc_new w1 (.cells #[.int .u64 (h0 : Int), .int .u64 (h1 : Int), .int .u64 (h2 : Int), .int .u64 (h3 : Int)] 100))
  have HG := Lib.hid (G1.alloc (.cells #[.int .u64 (h0 : Int), .int .u64 (h1 : Int), .int .u64 (h2 : Int), .int .u64 (h3 : Int)] 100))
  have HZ := Lib.hid (And.intro zl G1.size)
  clear X1 Y1 R1 G1
  go_wp2_with fail
  refine (L1 _).mono ?_
  rintro e w2 ⟨rfl, F2⟩
  have X2 := F2.keep HX.out
  have Y2 := F2.keep HY.out
  have R2 := F2.keep HR.out
  have H2 := F2.keep HH.out
  have G2 := HG.out.trans F2 (fun _ h => h.elim)
  clear HX HY HR HH HG L1 F2
  have hw : w.heap.size ≤ w1.heap.size := by omega
  generalize w1.heap.size = g at *
  have n0 : ¬ w.heap.size = g := by omega
  have n1 : ¬ w.heap.size + 1 = g := by omega
  have n2 : ¬ w.heap.size + 1 + 1 = g := by omega
  have n3 : w.heap.size ≤ g := hw
  clear zl zl0 zl1 hw HZ
  obtain ⟨c0, c1, c2, c3, _, _, _, _⟩ := blk4 X2
  obtain ⟨d0, d1, d2, d3, _, _, _, _⟩ := blk4 Y2
  obtain ⟨e0, e1, e2, e3, e4, e5, e6, e7⟩ := blk4 H2
  have HX := Lib.hid (keep4 X2 n0 (.int .u64 (i0 : Int)) (.int .u64 (i1 : Int)) (.int .u64 (i2 : Int)) (.int .u64 (i3 : Int)))
  have HY := Lib.hid (keep4 Y2 n1 (.int .u64 (i0 : Int)) (.int .u64 (i1 : Int)) (.int .u64 (i2 : Int)) (.int .u64 (i3 : Int)))
  have HR := Lib.hid (keep4 R2 n2 (.int .u64 (i0 : Int)) (.int .u64 (i1 : Int)) (.int .u64 (i2 : Int)) (.int .u64 (i3 : Int)))
  have HH := Lib.hid (set4 H2 (.int .u64 (i0 : Int)) (.int .u64 (i1 : Int)) (.int .u64 (i2 : Int)) (.int .u64 (i3 : Int)))
  have HG := Lib.hid (G2.set4 n3 (.int .u64 (i0 : Int)) (.int .u64 (i1 : Int)) (.int .u64 (i2 : Int)) (.int .u64 (i3 : Int)))
  clear X2 Y2 R2 H2 G2
  go_wp2_with fail
  clear c0 c1 c2 c3 d0 d1 d2 d3 e0 e1 e2 e3 e4 e5 e6 e7
  refine (L2 _).mono ?_
  rintro e w3 ⟨rfl, F3⟩
  have X3 := F3.keep HX.out
  have Y3 := F3.keep HY.out
  have R3 := F3.keep HR.out
  have H3 := F3.keep HH.out
  have G3 := HG.out.trans F3 (fun _ h => h.elim)
  clear HX HY HR HH HG L2 F3
  obtain ⟨c0, c1, c2, c3, _, _, _, _⟩ := blk4 X3
  obtain ⟨d0, d1, d2, d3, _, _, _, _⟩ := blk4 Y3
  obtain ⟨e0, e1, e2, e3, e4, e5, e6, e7⟩ := blk4 H3
  have HX := Lib.hid (keep4 X3 n0 (.int .u64 (j0 : Int)) (.int .u64 (j1 : Int)) (.int .u64 (j2 : Int)) (.int .u64 (j3 : Int)))
  have HY := Lib.hid (keep4 Y3 n1 (.int .u64 (j0 : Int)) (.int .u64 (j1 : Int)) (.int .u64 (j2 : Int)) (.int .u64 (j3 : Int)))
  have HR := Lib.hid (keep4 R3 n2 (.int .u64 (j0 : Int)) (.int .u64 (j1 : Int)) (.int .u64 (j2 : Int)) (.int .u64 (j3 : Int)))
  have HH := Lib.hid (set4 H3 (.int .u64 (j0 : Int)) (.int .u64 (j1 : Int)) (.int .u64 (j2 : Int)) (.int .u64 (j3 : Int)))
  have HG := Lib.hid (G3.set4 n3 (.int .u64 (j0 : Int)) (.int .u64 (j1 : Int)) (.int .u64 (j2 : Int)) (.int .u64 (j3 : Int)))
  clear X3 Y3 R3 H3 G3
  go_wp2_with fail
  clear c0 c1 c2 c3 d0 d1 d2 d3 e0 e1 e2 e3 e4 e5 e6 e7
  refine (L3 _).mono ?_
  rintro e w4 ⟨rfl, F4⟩
  have X4 := F4.keep HX.out
  have Y4 := F4.keep HY.out
  have R4 := F4.keep HR.out
  have H4 := F4.keep HH.out
  have G4 := HG.out.trans F4 (fun _ h => h.elim)
  clear HX HY HR HH HG L3 F4
  obtain ⟨c0, c1, c2, c3, _, _, _, _⟩ := blk4 X4
  obtain ⟨d0, d1, d2, d3, _, _, _, _⟩ := blk4 Y4
  obtain ⟨e0, e1, e2, e3, e4, e5, e6, e7⟩ := blk4 H4
  have HX := Lib.hid (keep4 X4 n0 (.int .u64 (m0 : Int)) (.int .u64 (m1 : Int)) (.int .u64 (m2 : Int)) (.int .u64 (m3 : Int)))
  have HY := Lib.hid (keep4 Y4 n1 (.int .u64 (m0 : Int)) (.int .u64 (m1 : Int)) (.int .u64 (m2 : Int)) (.int .u64 (m3 : Int)))
  have HR := Lib.hid (keep4 R4 n2 (.int .u64 (m0 : Int)) (.int .u64 (m1 : Int)) (.int .u64 (m2 : Int)) (.int .u64 (m3 : Int)))
  have HH := Lib.hid (set4 H4 (.int .u64 (m0 : Int)) (.int .u64 (m1 : Int)) (.int .u64 (m2 : Int)) (.int .u64 (m3 : Int)))
  have HG := Lib.hid (G4.set4 n3 (.int .u64 (m0 : Int)) (.int .u64 (m1 : Int)) (.int .u64 (m2 : Int)) (.int .u64 (m3 : Int)))
  clear X4 Y4 R4 H4 G4
  go_wp2_with fail
  clear c0 c1 c2 c3 d0 d1 d2 d3 e0 e1 e2 e3 e4 e5 e6 e7
  refine (L4 _).mono ?_
  rintro e w5 ⟨rfl, F5⟩
  have X5 := F5.keep HX.out
  have Y5 := F5.keep HY.out
  have R5 := F5.keep HR.out
  have H5 := F5.keep HH.out
  have G5 := HG.out.trans F5 (fun _ h => h.elim)
  clear HX HY HR HH HG L4 F5
  obtain ⟨c0, c1, c2, c3, _, _, _, _⟩ := blk4 X5
  obtain ⟨d0, d1, d2, d3, _, _, _, _⟩ := blk4 Y5
  obtain ⟨e0, e1, e2, e3, e4, e5, e6, e7⟩ := blk4 H5
  have HX := Lib.hid (keep4 X5 n0 (.int .u64 (r0 : Int)) (.int .u64 (r1 : Int)) (.int .u64 (r2 : Int)) (.int .u64 (r3 : Int)))
  have HY := Lib.hid (keep4 Y5 n1 (.int .u64 (r0 : Int)) (.int .u64 (r1 : Int)) (.int .u64 (r2 : Int)) (.int .u64 (r3 : Int)))
  have HR := Lib.hid (keep4 R5 n2 (.int .u64 (r0 : Int)) (.int .u64 (r1 : Int)) (.int .u64 (r2 : Int)) (.int .u64 (r3 : Int)))
  have HH := Lib.hid (set4 H5 (.int .u64 (r0 : Int)) (.int .u64 (r1 : Int)) (.int .u64 (r2 : Int)) (.int .u64 (r3 : Int)))
  have HG := Lib.hid (G5.set4 n3 (.int .u64 (r0 : Int)) (.int .u64 (r1 : Int)) (.int .u64 (r2 : Int)) (.int .u64 (r3 : Int)))
  clear X5 Y5 R5 H5 G5
  go_wp2_with fail
  clear c0 c1 c2 c3 d0 d1 d2 d3 e0 e1 e2 e3 e4 e5 e6 e7
  refine (FL _).mono ?_
  rintro e w6 ⟨rfl, F6⟩
  have R6 := F6.keep HR.out
  have G6 := HG.out.trans F6 (fun _ h => h.elim)
  clear HX HY HR HH HG FL F6
  obtain ⟨e0, e1, e2, e3, e4, e5, e6, e7⟩ := blk4 R6
  have HR := Lib.hid (set4 R6 (.int .u64 (t0 : Int)) (.int .u64 (t1 : Int)) (.int .u64 (t2 : Int)) (.int .u64 (t3 : Int)))
  have HG := Lib.hid (G6.set4 (g := w.heap.size + 1 + 1) (by omega) (.int .u64 (t0 : Int)) (.int .u64 (t1 : Int)) (.int .u64 (t2 : Int)) (.int .u64 (t3 : Int)))
  clear R6 G6
  go_wp2_with fail
  refine bodyPost_ret (results_cell_row rfl _ _ (w.heap.size + 1 + 1) 100 #[.int .u64 (t0 : Int), .int .u64 (t1 : Int), .int .u64 (t2 : Int), .int .u64 (t3 : Int)] (0, 0) _ rfl HR.out Try.underlying100 rfl Try.size4f) rfl ?_
  exact ⟨rfl, HG.out⟩
end Go.Proofs.Ytnobobdgoccmcaa


/-
  The contracts of rest, sum, longer, Add and Neg of package scalar.
-/
import Derived.Test.YtnobobdgoccmcaaFo
namespace Go.Proofs.Ytnobobdgoccmcaa
open Go.RowKit
set_option linter.unusedVariables false

theorem LL_lt : LL < 115792089237316195423570985008687907853269984665640564039457584007913129639936 := by decide
theorem mod_LL (X : Nat) : X % LL < LL := Nat.mod_lt _ (by decide)
theorem mod_LP (X : Nat) : X % LL < 115792089237316195423570985008687907853269984665640564039457584007913129639936 := Nat.lt_trans (mod_LL X) LL_lt
theorem Try.size4l {a b c d : Value} : (Try.prog.info? 77).map (·.size) = some (#[a, b, c, d] : Array Value).size := by
  show _ = some 4
  kernel_rfl
theorem blk4 {w : World} {b : Nat} {y0 y1 y2 y3 : Value} {t : TypeId} (h : w.heap[b]? = some (.cells #[y0, y1, y2, y3] t (0, 0))) :
    w.cell? ⟨b, 0, none⟩ = some y0 ∧ w.cell? ⟨b, 1, none⟩ = some y1 ∧ w.cell? ⟨b, 2, none⟩ = some y2 ∧ w.cell? ⟨b, 3, none⟩ = some y3 ∧ w.frozen? ⟨b, 0, none⟩ = false ∧ w.frozen? ⟨b, 1, none⟩ = false ∧ w.frozen? ⟨b, 2, none⟩ = false ∧ w.frozen? ⟨b, 3, none⟩ = false :=
  ⟨(cell_of_block h 0).trans rfl, (cell_of_block h 1).trans rfl, (cell_of_block h 2).trans rfl, (cell_of_block h 3).trans rfl, free_of_block h 0, free_of_block h 1, free_of_block h 2, free_of_block h 3⟩
set_option maxRecDepth 100000 in
set_option maxHeartbeats 800000 in
theorem srest_any (X : Nat) (hX : X < 115792089237316195423570985008687907853269984665640564039457584007913129639936) (w : World) :
    Calls Try.prog 103 #[.agg (nc X)] w fun e w' => e = .returned (.agg (nc (X % LL))) ∧ Fr (fun _ => False) w w' := by
  obtain ⟨x0, x1, x2, x3, b0, b1, b2, b3, hx, e⟩ := nc_open X hX
  have hd : (x3 : Int) / 1152921504606846976 = ((x3 / 1152921504606846976 : Nat) : Int) := by omega
  have FO := fun (W : World) => folded_any X (x3 / 1152921504606846976) hX (by omega) W
  rw [show X % 7237005577332262213973186563042994240829374041602535252466099000494570602496 + x3 / 1152921504606846976 * 7237005577332262213973186563042994240829374041602535252466099000494570602496 = X by rw [hx]; unfold nv; omega] at FO
  rw [e] at FO ⊢
  generalize x3 / 1152921504606846976 = v at hd FO
  obtain ⟨q0, q1, q2, q3, _, _, _, _, _, eq⟩ := nc_open (X % LL) (mod_LP _)
  rw [eq] at FO ⊢
  clear eq
  clear e hx
  go_enter Try.func103, Try.ntmps103
  go_wp2_with fail
  refine (FO _).mono ?_
  rintro e w1 ⟨rfl, F1⟩
  have Z1 := (F1.block (w.heap.size + 1) (by simp) (fun h => h)).trans (heap_at _ _ _ _ (by simp))
  obtain ⟨c0, c1, c2, c3, c4, c5, c6, c7⟩ := blk4 Z1
  have G1 : Fr (fun _ => False) w w1 := (((Fr.refl _ w).alloc _).alloc _).trans F1 (fun _ h => h.elim)
  have HZ := Lib.hid Z1
  clear F1 FO Z1
  go_wp2_with fail
  refine bodyPost_ret (results_cell_row rfl _ _ (w.heap.size + 1) 77 #[.int .u64 (q0 : Int), .int .u64 (q1 : Int), .int .u64 (q2 : Int), .int .u64 (q3 : Int)] (0, 0) _ rfl (set4 HZ.out _ _ _ _) Try.underlying77 rfl Try.size4l) rfl ?_
  exact ⟨rfl, (((G1.setCell (Or.inr (by simp)) _).setCell (Or.inr (by simp)) _).setCell (Or.inr (by simp)) _).setCell (Or.inr (by simp)) _⟩
set_option maxRecDepth 100000 in
set_option maxHeartbeats 800000 in
theorem ssum_any (X Y : Nat) (hX : X < LL) (hY : Y < LL) (w : World) :
    Calls Try.prog 104 #[.agg (nc X), .agg (nc Y)] w fun e w' => e = .returned (.agg (nc ((X + Y) % LL))) ∧ Fr (fun _ => False) w w' := by
  have hl : (X + Y) % 115792089237316195423570985008687907853269984665640564039457584007913129639936 = X + Y := by unfold LL at *; omega
  have PL := fun (W : World) => plus_any X Y W
  rw [hl] at PL
  have RE := fun (W : World) => srest_any (X + Y) (by unfold LL at *; omega) W
  obtain ⟨x0, x1, x2, x3, _, _, _, _, _, ex⟩ := nc_open (X) (Nat.lt_trans hX LL_lt)
  rw [ex] at PL ⊢
  clear ex
  obtain ⟨y0, y1, y2, y3, _, _, _, _, _, ey⟩ := nc_open (Y) (Nat.lt_trans hY LL_lt)
  rw [ey] at PL ⊢
  clear ey
  obtain ⟨s0, s1, s2, s3, _, _, _, _, _, es⟩ := nc_open (X + Y) (by unfold LL at *; omega)
  rw [es] at PL RE
  clear es
  obtain ⟨q0, q1, q2, q3, _, _, _, _, _, eq⟩ := nc_open ((X + Y) % LL) (mod_LP _)
  rw [eq] at RE ⊢
  clear eq
  clear hl hX hY
  go_enter Try.func104, Try.ntmps104
  go_wp2_with fail
  refine (PL _).mono ?_
  rintro e w1 ⟨rfl, F1⟩
  have Z1 := (F1.block (w.heap.size + 1 + 1) (by simp) (fun h => h)).trans (heap_at _ _ _ _ (by simp))
  have G1 : Fr (fun _ => False) w w1 := ((((Fr.refl _ w).alloc _).alloc _).alloc _).trans F1 (fun _ h => h.elim)
  clear F1 PL
  go_wp2_with fail
  refine (RE _).mono ?_
  rintro e w2 ⟨rfl, F2⟩
  have Z2 := (F2.block (w.heap.size + 1 + 1) (lt_of_block Z1) (fun h => h)).trans Z1
  obtain ⟨c0, c1, c2, c3, c4, c5, c6, c7⟩ := blk4 Z2
  have G2 : Fr (fun _ => False) w w2 := G1.trans F2 (fun _ h => h.elim)
  have HZ := Lib.hid Z2
  clear F2 RE Z1 Z2
  go_wp2_with fail
  refine bodyPost_ret (results_cell_row rfl _ _ (w.heap.size + 1 + 1) 77 #[.int .u64 (q0 : Int), .int .u64 (q1 : Int), .int .u64 (q2 : Int), .int .u64 (q3 : Int)] (0, 0) _ rfl (set4 HZ.out _ _ _ _) Try.underlying77 rfl Try.size4l) rfl ?_
  exact ⟨rfl, (((G2.setCell (Or.inr (by simp; omega)) _).setCell (Or.inr (by simp; omega)) _).setCell (Or.inr (by simp; omega)) _).setCell (Or.inr (by simp; omega)) _⟩
set_option maxRecDepth 100000 in
set_option maxHeartbeats 1600000 in
theorem sadd_any (X Y : Nat) (hX : X < 115792089237316195423570985008687907853269984665640564039457584007913129639936) (hY : Y < 115792089237316195423570985008687907853269984665640564039457584007913129639936) (w : World) :
    Calls Try.prog 61 #[.agg (nc X), .agg (nc Y)] w fun e w' => e = .returned (.agg (nc ((X + Y) % LL))) ∧ Fr (fun _ => False) w w' := by
  have RX := fun (W : World) => srest_any X hX W
  have RY := fun (W : World) => srest_any Y hY W
  have SU := fun (W : World) => ssum_any (X % LL) (Y % LL) (mod_LL _) (mod_LL _) W
  rw [← Nat.add_mod] at SU
  obtain ⟨x0, x1, x2, x3, _, _, _, _, _, ex⟩ := nc_open (X) (hX)
  rw [ex] at RX ⊢
  clear ex
  obtain ⟨y0, y1, y2, y3, _, _, _, _, _, ey⟩ := nc_open (Y) (hY)
  rw [ey] at RY ⊢
  clear ey
  obtain ⟨s0, s1, s2, s3, _, _, _, _, _, es⟩ := nc_open (X % LL) (mod_LP _)
  rw [es] at RX SU
  clear es
  obtain ⟨t0, t1, t2, t3, _, _, _, _, _, et⟩ := nc_open (Y % LL) (mod_LP _)
  rw [et] at RY SU
  clear et
  obtain ⟨q0, q1, q2, q3, _, _, _, _, _, eq⟩ := nc_open ((X + Y) % LL) (mod_LP _)
  rw [eq] at SU ⊢
  clear eq
  have A0 := fun (V : World) (o : Obj) => Below.heap_alloc V o
  go_enter Try.func61, Try.ntmps61
  go_wp2_with fail
  have E0 : Fr (fun _ => False) w _ := ((((Fr.refl _ w).alloc (.cells #[.int .u64 (x0 : Int), .int .u64 (x1 : Int), .int .u64 (x2 : Int), .int .u64 (x3 : Int)] 77)).alloc (.cells #[.int .u64 (y0 : Int), .int .u64 (y1 : Int), .int .u64 (y2 : Int), .int .u64 (y3 : Int)] 77)).alloc (.cells #[.int .u64 0, .int .u64 0, .int .u64 0, .int .u64 0] 77))
  have A1 : (((w.alloc (.cells #[.int .u64 (x0 : Int), .int .u64 (x1 : Int), .int .u64 (x2 : Int), .int .u64 (x3 : Int)] 77)).alloc (.cells #[.int .u64 (y0 : Int), .int .u64 (y1 : Int), .int .u64 (y2 : Int), .int .u64 (y3 : Int)] 77)).alloc (.cells #[.int .u64 0, .int .u64 0, .int .u64 0, .int .u64 0] 77)).heap[w.heap.size]? = some (.cells #[.int .u64 (x0 : Int), .int .u64 (x1 : Int), .int .u64 (x2 : Int), .int .u64 (x3 : Int)] 77 (0, 0)) := by
    rw [Below.heap_alloc _ _ _ (by simp; omega), Below.heap_alloc _ _ _ (by simp)]; exact heap_alloc_new w _
  have B1 : (((w.alloc (.cells #[.int .u64 (x0 : Int), .int .u64 (x1 : Int), .int .u64 (x2 : Int), .int .u64 (x3 : Int)] 77)).alloc (.cells #[.int .u64 (y0 : Int), .int .u64 (y1 : Int), .int .u64 (y2 : Int), .int .u64 (y3 : Int)] 77)).alloc (.cells #[.int .u64 0, .int .u64 0, .int .u64 0, .int .u64 0] 77)).heap[w.heap.size + 1]? = some (.cells #[.int .u64 (y0 : Int), .int .u64 (y1 : Int), .int .u64 (y2 : Int), .int .u64 (y3 : Int)] 77 (0, 0)) := by
    rw [Below.heap_alloc _ _ _ (by simp)]; exact heap_at _ _ _ _ (by simp)
  have C1 : (((w.alloc (.cells #[.int .u64 (x0 : Int), .int .u64 (x1 : Int), .int .u64 (x2 : Int), .int .u64 (x3 : Int)] 77)).alloc (.cells #[.int .u64 (y0 : Int), .int .u64 (y1 : Int), .int .u64 (y2 : Int), .int .u64 (y3 : Int)] 77)).alloc (.cells #[.int .u64 0, .int .u64 0, .int .u64 0, .int .u64 0] 77)).heap[w.heap.size + 1 + 1]? = some (.cells #[.int .u64 0, .int .u64 0, .int .u64 0, .int .u64 0] 77 (0, 0)) := heap_at _ _ _ _ (by simp)
  generalize ((w.alloc (.cells #[.int .u64 (x0 : Int), .int .u64 (x1 : Int), .int .u64 (x2 : Int), .int .u64 (x3 : Int)] 77)).alloc (.cells #[.int .u64 (y0 : Int), .int .u64 (y1 : Int), .int .u64 (y2 : Int), .int .u64 (y3 : Int)] 77)).alloc (.cells #[.int .u64 0, .int .u64 0, .int .u64 0, .int .u64 0] 77) = W0 at *
  obtain ⟨i0, i1, i2, i3, i4, i5, i6, i7⟩ := blk4 A1
  obtain ⟨j0, j1, j2, j3, j4, j5, j6, j7⟩ := blk4 B1
  clear A0
  have HA := Lib.hid A1
  have HB := Lib.hid B1
  have HC := Lib.hid C1
  clear A1 B1 C1
  go_region_with ((first
    | (go_at_call 103; (with_reducible refine (RX _).mono ?_); rintro e w1 ⟨rfl, F1⟩; have B2 := (F1.block (w.heap.size + 1) (lt_of_block HB.out) (fun h => h)).trans HB.out; have C2 := (F1.block (w.heap.size + 1 + 1) (lt_of_block HC.out) (fun h => h)).trans HC.out; obtain ⟨k0, k1, k2, k3, k4, k5, k6, k7⟩ := blk4 B2; have HB2 := Lib.hid B2; have HC2 := Lib.hid C2; clear B2 C2)
    | (go_at_call 103; (with_reducible refine (RY _).mono ?_); rintro e w2 ⟨rfl, F2⟩; have C3 := (F2.block (w.heap.size + 1 + 1) (lt_of_block HC2.out) (fun h => h)).trans HC2.out; have HC3 := Lib.hid C3; clear C3)
    | (go_at_call 104; (with_reducible refine (SU _).mono ?_); rintro e w3 ⟨rfl, F3⟩; have C4 := (F3.block (w.heap.size + 1 + 1) (lt_of_block HC3.out) (fun h => h)).trans HC3.out; obtain ⟨m0, m1, m2, m3, m4, m5, m6, m7⟩ := blk4 C4; have HC4 := Lib.hid C4; clear C4)))
  all_goals
    have G1 : Fr (fun _ => False) w w1 := by first | exact Fr.trans (T := fun _ => False) E0 F1 (fun _ h => False.elim h) | exact Fr.trans (T := fun _ => False) E0.drew F1 (fun _ h => False.elim h)
    have G2 : Fr (fun _ => False) w w2 := by first | exact Fr.trans (T := fun _ => False) G1 F2 (fun _ h => False.elim h) | exact Fr.trans (T := fun _ => False) G1.drew F2 (fun _ h => False.elim h)
    have G3 : Fr (fun _ => False) w w3 := by first | exact Fr.trans (T := fun _ => False) G2 F3 (fun _ h => False.elim h) | exact Fr.trans (T := fun _ => False) G2.drew F3 (fun _ h => False.elim h)
    have HG := Lib.hid G3
    clear E0 F1 F2 F3 G1 G2 G3 RX RY SU
    go_wp2_with fail
    refine bodyPost_ret (results_cell_row rfl _ _ (w.heap.size + 1 + 1) 77 #[.int .u64 (q0 : Int), .int .u64 (q1 : Int), .int .u64 (q2 : Int), .int .u64 (q3 : Int)] (0, 0) _ rfl (set4 HC4.out _ _ _ _) Try.underlying77 rfl Try.size4l) rfl ?_
    exact ⟨rfl, (((HG.out.setCell (Or.inr (by simp; omega)) _).setCell (Or.inr (by simp; omega)) _).setCell (Or.inr (by simp; omega)) _).setCell (Or.inr (by simp; omega)) _⟩
end Go.Proofs.Ytnobobdgoccmcaa


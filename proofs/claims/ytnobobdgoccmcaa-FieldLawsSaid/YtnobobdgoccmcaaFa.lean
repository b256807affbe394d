/-
  The contracts of parts, elem, sum, difference, step and line of package field.
-/
import Derived.Test.YtnobobdgoccmcaaSl
namespace Go.Proofs.Ytnobobdgoccmcaa
open Go.RowKit
set_option linter.unusedVariables false

theorem Try.size4f {a b c d : Value} : (Try.prog.info? 100).map (·.size) = some (#[a, b, c, d] : Array Value).size := by
  show _ = some 4
  kernel_rfl
theorem Try.size4e {a b c d : Value} : (Try.prog.info? 24).map (·.size) = some (#[a, b, c, d] : Array Value).size := by
  show _ = some 4
  kernel_rfl
theorem results_tmp_cell {P : Program} {fn : Func} {p t : Tmp} {ty : TypeId} (h : fn.results = #[.tmp t, .cell p ty]) (tmps : Array Value) (w : World) (g : Nat) (ct : TypeId) (cs : Array Value) (fr : Nat × Nat) (d : TypeDesc)
    (hp : tmps.getD p undef = .pointer (some ⟨g, 0, none⟩)) (hg : w.heap[g]? = some (.cells cs ct fr))
    (hu : P.underlying ty = some d) (hd : (match d with | .struct _ | .array _ _ => true | _ => false) = true) (hi : (P.info? ty).map (·.size) = some cs.size) :
    (results fn tmps).run P w = .ok (.tuple #[tmps.getD t undef, .agg cs]) w := by
  have hp' : tmps[p]?.getD undef = .pointer (some ⟨g, 0, none⟩) := by simpa using hp
  simp [results, h, hp', asAddr, run_loadVar_row w g ct ty cs fr d hg hu hd hi]
set_option maxRecDepth 100000 in
theorem fparts_any (X : Nat) (hX : X < 115792089237316195423570985008687907853269984665640564039457584007913129639936) (w : World) :
    Calls Try.prog 78 #[.agg (nc X)] w fun e w' => e = .returned (.agg (nc X)) ∧ Fr (fun _ => False) w w' := by
  obtain ⟨x0, x1, x2, x3, _, _, _, _, _, ex⟩ := nc_open (X) (hX)
  rw [ex] at ⊢
  clear ex
  go_enter Try.func78, Try.ntmps78
  go_wp2
  refine bodyPost_ret (results_cell_row rfl _ _ (w.heap.size + 1) 100 #[.int .u64 (x0 : Int), .int .u64 (x1 : Int), .int .u64 (x2 : Int), .int .u64 (x3 : Int)] (0, 0) _ rfl (heap_alloc2_new w _ _) Try.underlying100 rfl Try.size4f) rfl ?_
  exact ⟨rfl, ((Fr.refl _ w).alloc _).alloc _⟩
set_option maxRecDepth 100000 in
theorem felem_any (X : Nat) (hX : X < 115792089237316195423570985008687907853269984665640564039457584007913129639936) (w : World) :
    Calls Try.prog 76 #[.agg (nc X)] w fun e w' => e = .returned (.agg (nc X)) ∧ Fr (fun _ => False) w w' := by
  obtain ⟨x0, x1, x2, x3, _, _, _, _, _, ex⟩ := nc_open (X) (hX)
  rw [ex] at ⊢
  clear ex
  go_enter Try.func76, Try.ntmps76
  go_wp2
  refine bodyPost_ret (results_cell_row rfl _ _ (w.heap.size + 1) 24 #[.int .u64 (x0 : Int), .int .u64 (x1 : Int), .int .u64 (x2 : Int), .int .u64 (x3 : Int)] (0, 0) _ rfl (heap_alloc2_new w _ _) Try.underlying24 rfl Try.size4e) rfl ?_
  exact ⟨rfl, ((Fr.refl _ w).alloc _).alloc _⟩
set_option maxRecDepth 100000 in
theorem fsum_any (X Y : Nat) (hX : X < 115792089237316195423570985008687907853269984665640564039457584007913129639936) (hY : Y < 115792089237316195423570985008687907853269984665640564039457584007913129639936) (w : World) :
    Calls Try.prog 80 #[.agg (nc X), .agg (nc Y)] w fun e w' => e = .returned (.tuple #[.agg (nc ((X + Y) % 115792089237316195423570985008687907853269984665640564039457584007913129639936)), .int .u64 (((X + Y) / 115792089237316195423570985008687907853269984665640564039457584007913129639936 : Nat) : Int)]) ∧ Fr (fun _ => False) w w' := by
  obtain ⟨x0, x1, x2, x3, hx0, hx1, hx2, hx3, hx, ex⟩ := nc_open X hX
  obtain ⟨y0, y1, y2, y3, hy0, hy1, hy2, hy3, hy, ey⟩ := nc_open Y hY
  rw [ex, ey]
  have hc : ∀ a b c : Nat, a < 18446744073709551616 → b < 18446744073709551616 → c ≤ 1 → (a + b + c) / 18446744073709551616 ≤ 1 := fun a b c _ _ _ => by omega
  have r0 := fun (W : World) => run_A x0 y0 0 (by omega) W
  have l1 := hc x0 y0 0 hx0 hy0 (by omega)
  obtain ⟨s0, e0⟩ : ∃ s, s = (x0 + y0 + 0) % 18446744073709551616 := ⟨_, rfl⟩
  obtain ⟨c1, d1⟩ : ∃ s, s = (x0 + y0 + 0) / 18446744073709551616 := ⟨_, rfl⟩
  rw [← e0, ← d1, show ((0 : Nat) : Int) = 0 from rfl] at r0
  rw [← d1] at l1
  have r1 := fun (W : World) => run_A x1 y1 c1 l1 W
  have l2 := hc x1 y1 c1 hx1 hy1 l1
  obtain ⟨s1, e1⟩ : ∃ s, s = (x1 + y1 + c1) % 18446744073709551616 := ⟨_, rfl⟩
  obtain ⟨c2, d2⟩ : ∃ s, s = (x1 + y1 + c1) / 18446744073709551616 := ⟨_, rfl⟩
  rw [← e1, ← d2] at r1
  rw [← d2] at l2
  have r2 := fun (W : World) => run_A x2 y2 c2 l2 W
  have l3 := hc x2 y2 c2 hx2 hy2 l2
  obtain ⟨s2, e2⟩ : ∃ s, s = (x2 + y2 + c2) % 18446744073709551616 := ⟨_, rfl⟩
  obtain ⟨c3, d3⟩ : ∃ s, s = (x2 + y2 + c2) / 18446744073709551616 := ⟨_, rfl⟩
  rw [← e2, ← d3] at r2
  rw [← d3] at l3
  have r3 := fun (W : World) => run_A x3 y3 c3 l3 W
  obtain ⟨s3, e3⟩ : ∃ s, s = (x3 + y3 + c3) % 18446744073709551616 := ⟨_, rfl⟩
  obtain ⟨c4, d4⟩ : ∃ s, s = (x3 + y3 + c3) / 18446744073709551616 := ⟨_, rfl⟩
  rw [← e3, ← d4] at r3
  have R1 : nc ((X + Y) % 115792089237316195423570985008687907853269984665640564039457584007913129639936) = #[.int .u64 (s0 : Int), .int .u64 (s1 : Int), .int .u64 (s2 : Int), .int .u64 (s3 : Int)] := by
    rw [nc_of s0 s1 s2 s3 (by omega) (by omega) (by omega) (by omega)]; congr 1; rw [hx, hy]; unfold nv; omega
  have R2 : (X + Y) / 115792089237316195423570985008687907853269984665640564039457584007913129639936 = c4 := by rw [hx, hy]; unfold nv; omega
  rw [R1, R2]
  clear R1 R2 e0 d1 e1 d2 e2 d3 e3 d4 l1 l2 l3 hc ex ey hx hy
  go_enter Try.func80, Try.ntmps80
  go_wp2
  refine bodyPost_ret (results_cell_tmp rfl _ _ (w.heap.size + 1 + 1) 100 #[.int .u64 (s0 : Int), .int .u64 (s1 : Int), .int .u64 (s2 : Int), .int .u64 (s3 : Int)] (0, 0) _ rfl (heap_at _ _ _ _ (by simp)) Try.underlying100 rfl Try.size4f) rfl ?_
  exact ⟨rfl, (((Fr.refl _ w).alloc _).alloc _).alloc _⟩
set_option maxRecDepth 100000 in
theorem fdiff_any (X Y : Nat) (hX : X < 115792089237316195423570985008687907853269984665640564039457584007913129639936) (hY : Y < 115792089237316195423570985008687907853269984665640564039457584007913129639936) (w : World) :
    Calls Try.prog 82 #[.agg (nc X), .agg (nc Y)] w fun e w' => e = .returned (.tuple #[.agg (nc ((X + 115792089237316195423570985008687907853269984665640564039457584007913129639936 - Y) % 115792089237316195423570985008687907853269984665640564039457584007913129639936)), .int .u64 ((if X < Y then 1 else 0 : Nat) : Int)]) ∧ Fr (fun _ => False) w w' := by
  obtain ⟨x0, x1, x2, x3, hx0, hx1, hx2, hx3, hx, ex⟩ := nc_open X hX
  obtain ⟨y0, y1, y2, y3, hy0, hy1, hy2, hy3, hy, ey⟩ := nc_open Y hY
  rw [ex, ey]
  have r0 := fun (W : World) => run_S x0 y0 0 (by omega) W
  obtain ⟨s0, e0⟩ : ∃ s, s = (x0 + 18446744073709551616 - y0 - 0) % 18446744073709551616 := ⟨_, rfl⟩
  obtain ⟨c1, d1⟩ : ∃ s, s = (if x0 < y0 + 0 then 1 else 0) := ⟨_, rfl⟩
  rw [← e0, ← d1, show ((0 : Nat) : Int) = 0 from rfl] at r0
  have l1 : c1 ≤ 1 := by rw [d1]; split <;> omega
  have f0 : s0 + y0 + 0 = x0 + 18446744073709551616 * c1 := by rw [e0, d1]; split <;> omega
  have r1 := fun (W : World) => run_S x1 y1 c1 (by omega) W
  obtain ⟨s1, e1⟩ : ∃ s, s = (x1 + 18446744073709551616 - y1 - c1) % 18446744073709551616 := ⟨_, rfl⟩
  obtain ⟨c2, d2⟩ : ∃ s, s = (if x1 < y1 + c1 then 1 else 0) := ⟨_, rfl⟩
  rw [← e1, ← d2] at r1
  have l2 : c2 ≤ 1 := by rw [d2]; split <;> omega
  have f1 : s1 + y1 + c1 = x1 + 18446744073709551616 * c2 := by rw [e1, d2]; split <;> omega
  have r2 := fun (W : World) => run_S x2 y2 c2 (by omega) W
  obtain ⟨s2, e2⟩ : ∃ s, s = (x2 + 18446744073709551616 - y2 - c2) % 18446744073709551616 := ⟨_, rfl⟩
  obtain ⟨c3, d3⟩ : ∃ s, s = (if x2 < y2 + c2 then 1 else 0) := ⟨_, rfl⟩
  rw [← e2, ← d3] at r2
  have l3 : c3 ≤ 1 := by rw [d3]; split <;> omega
  have f2 : s2 + y2 + c2 = x2 + 18446744073709551616 * c3 := by rw [e2, d3]; split <;> omega
  have r3 := fun (W : World) => run_S x3 y3 c3 (by omega) W
  obtain ⟨s3, e3⟩ : ∃ s, s = (x3 + 18446744073709551616 - y3 - c3) % 18446744073709551616 := ⟨_, rfl⟩
  obtain ⟨c4, d4⟩ : ∃ s, s = (if x3 < y3 + c3 then 1 else 0) := ⟨_, rfl⟩
  rw [← e3, ← d4] at r3
  have l4 : c4 ≤ 1 := by rw [d4]; split <;> omega
  have f3 : s3 + y3 + c3 = x3 + 18446744073709551616 * c4 := by rw [e3, d4]; split <;> omega
  have R1 : nc ((X + 115792089237316195423570985008687907853269984665640564039457584007913129639936 - Y) % 115792089237316195423570985008687907853269984665640564039457584007913129639936) = #[.int .u64 (s0 : Int), .int .u64 (s1 : Int), .int .u64 (s2 : Int), .int .u64 (s3 : Int)] := by
    rw [nc_of s0 s1 s2 s3 (by omega) (by omega) (by omega) (by omega)]; congr 1; rw [hx, hy]; unfold nv; clear r0 r1 r2 r3 ex ey hx hy d1 d2 d3 d4 hX hY
    have : s0 < 18446744073709551616 := by omega
    have : s1 < 18446744073709551616 := by omega
    have : s2 < 18446744073709551616 := by omega
    have : s3 < 18446744073709551616 := by omega
    clear e0 e1 e2 e3
    omega
  have R2 : (if X < Y then 1 else 0) = c4 := by
    rw [hx, hy]; unfold nv
    have : s0 < 18446744073709551616 := by omega
    have : s1 < 18446744073709551616 := by omega
    have : s2 < 18446744073709551616 := by omega
    have : s3 < 18446744073709551616 := by omega
    clear r0 r1 r2 r3 ex ey hx hy e0 e1 e2 e3 R1 d1 d2 d3 d4 hX hY
    split <;> omega
  rw [R1, R2]
  clear R1 R2 e0 d1 e1 d2 e2 d3 e3 d4 l1 l2 l3 l4 ex ey hx hy f0 f1 f2 f3
  go_enter Try.func82, Try.ntmps82
  go_wp2
  refine bodyPost_ret (results_cell_tmp rfl _ _ (w.heap.size + 1 + 1) 100 #[.int .u64 (s0 : Int), .int .u64 (s1 : Int), .int .u64 (s2 : Int), .int .u64 (s3 : Int)] (0, 0) _ rfl (heap_at _ _ _ _ (by simp)) Try.underlying100 rfl Try.size4f) rfl ?_
  exact ⟨rfl, (((Fr.refl _ w).alloc _).alloc _).alloc _⟩

theorem step_bd (n x y v : Nat) (hn : n < 18446744073709551616) (hx : x < 18446744073709551616) (hy : y < 18446744073709551616) (hv : v < 18446744073709551616) : n * x + y + v < 340282366920938463463374607431768211456 := by
  have : n * x ≤ 18446744073709551615 * 18446744073709551615 := Nat.mul_le_mul (by omega) (by omega)
  omega
set_option maxRecDepth 100000 in
theorem fstep_any (n x y v : Nat) (hn : n < 18446744073709551616) (hx : x < 18446744073709551616) (hy : y < 18446744073709551616) (hv : v < 18446744073709551616) (w : World) :
    Calls Try.prog 117 #[.int .u64 (n : Int), .int .u64 (x : Int), .int .u64 (y : Int), .int .u64 (v : Int)] w fun e w' => e = .returned (.tuple #[.int .u64 (((n * x + y + v) % 18446744073709551616 : Nat) : Int), .int .u64 (((n * x + y + v) / 18446744073709551616 : Nat) : Int)]) ∧ w' = w := by
  have MU := fun (W : World) => mul64_any n x hn hx W
  have bd := step_bd n x y v hn hx hy hv
  generalize n * x = m at *
  obtain ⟨h, eh⟩ : ∃ s, s = m / 18446744073709551616 := ⟨_, rfl⟩
  obtain ⟨l, el⟩ : ∃ s, s = m % 18446744073709551616 := ⟨_, rfl⟩
  rw [← eh, ← el] at MU
  have r0 := fun (W : World) => run_A l y 0 (by omega) W
  obtain ⟨s0, e0⟩ : ∃ s, s = (l + y + 0) % 18446744073709551616 := ⟨_, rfl⟩
  obtain ⟨c1, d1⟩ : ∃ s, s = (l + y + 0) / 18446744073709551616 := ⟨_, rfl⟩
  rw [← e0, ← d1, show ((0 : Nat) : Int) = 0 from rfl] at r0
  have r1 := fun (W : World) => run_A s0 v 0 (by omega) W
  obtain ⟨s1, e1⟩ : ∃ s, s = (s0 + v + 0) % 18446744073709551616 := ⟨_, rfl⟩
  obtain ⟨c2, d2⟩ : ∃ s, s = (s0 + v + 0) / 18446744073709551616 := ⟨_, rfl⟩
  rw [← e1, ← d2, show ((0 : Nat) : Int) = 0 from rfl] at r1
  have w1 : IntKind.u64.wrap ((h : Int) + (c1 : Int)) = (h : Int) + (c1 : Int) := by rw [IntKind.wrap_u64]; omega
  have w2 : IntKind.u64.wrap ((h : Int) + (c1 : Int) + (c2 : Int)) = (((m + y + v) / 18446744073709551616 : Nat) : Int) := by rw [IntKind.wrap_u64]; omega
  have R1 : (m + y + v) % 18446744073709551616 = s1 := by omega
  rw [R1]
  generalize (m + y + v) / 18446744073709551616 = R at *
  clear R1 bd e0 d1 e1 d2 eh el
  go_enter Try.func117, Try.ntmps117
  go_wp2_with fail
  refine (MU _).mono ?_
  rintro e w' ⟨rfl, rfl⟩
  go_wp2
  go_ret2
  exact ⟨rfl, rfl⟩
theorem nv_mul (n a b c d : Nat) : n * nv a b c d = n * a + 18446744073709551616 * (n * b) + 340282366920938463463374607431768211456 * (n * c) + 6277101735386680763835789423207666416102355444464034512896 * (n * d) := by
  unfold nv
  simp only [Nat.mul_add, Nat.mul_left_comm n]
theorem line_bd (n X Y : Nat) (hn : n < 18446744073709551616) (hX : X < 115792089237316195423570985008687907853269984665640564039457584007913129639936) (hY : Y < 115792089237316195423570985008687907853269984665640564039457584007913129639936) : n * X + Y < 18446744073709551616 * 115792089237316195423570985008687907853269984665640564039457584007913129639936 := by
  have : n * X ≤ 18446744073709551615 * X := Nat.mul_le_mul_right X (by omega)
  omega
set_option maxRecDepth 100000 in
theorem fline_any (n X Y : Nat) (hn : n < 18446744073709551616) (hX : X < 115792089237316195423570985008687907853269984665640564039457584007913129639936) (hY : Y < 115792089237316195423570985008687907853269984665640564039457584007913129639936) (w : World) :
    Calls Try.prog 111 #[.int .u64 (n : Int), .agg (nc X), .agg (nc Y)] w fun e w' => e = .returned (.tuple #[.int .u64 (((n * X + Y) % 18446744073709551616 : Nat) : Int), .agg (nc ((n * X + Y) / 18446744073709551616))]) ∧ Fr (fun _ => False) w w' := by
  have hbd := line_bd n X Y hn hX hY
  obtain ⟨x0, x1, x2, x3, hx0, hx1, hx2, hx3, hx, ex⟩ := nc_open X hX
  obtain ⟨y0, y1, y2, y3, hy0, hy1, hy2, hy3, hy, ey⟩ := nc_open Y hY
  rw [ex, ey]
  have r0 := fun (W : World) => fstep_any n x0 y0 0 hn hx0 hy0 (by omega) W
  have b0 := step_bd n x0 y0 0 hn hx0 hy0 (by omega)
  obtain ⟨s0, e0⟩ : ∃ s, s = (n * x0 + y0 + 0) % 18446744073709551616 := ⟨_, rfl⟩
  obtain ⟨c1, d1⟩ : ∃ s, s = (n * x0 + y0 + 0) / 18446744073709551616 := ⟨_, rfl⟩
  rw [← e0, ← d1, show ((0 : Nat) : Int) = 0 from rfl] at r0
  have l1 : c1 < 18446744073709551616 := by omega
  have r1 := fun (W : World) => fstep_any n x1 y1 c1 hn hx1 hy1 (by omega) W
  have b1 := step_bd n x1 y1 c1 hn hx1 hy1 (by omega)
  obtain ⟨s1, e1⟩ : ∃ s, s = (n * x1 + y1 + c1) % 18446744073709551616 := ⟨_, rfl⟩
  obtain ⟨c2, d2⟩ : ∃ s, s = (n * x1 + y1 + c1) / 18446744073709551616 := ⟨_, rfl⟩
  rw [← e1, ← d2] at r1
  have l2 : c2 < 18446744073709551616 := by omega
  have r2 := fun (W : World) => fstep_any n x2 y2 c2 hn hx2 hy2 (by omega) W
  have b2 := step_bd n x2 y2 c2 hn hx2 hy2 (by omega)
  obtain ⟨s2, e2⟩ : ∃ s, s = (n * x2 + y2 + c2) % 18446744073709551616 := ⟨_, rfl⟩
  obtain ⟨c3, d3⟩ : ∃ s, s = (n * x2 + y2 + c2) / 18446744073709551616 := ⟨_, rfl⟩
  rw [← e2, ← d3] at r2
  have l3 : c3 < 18446744073709551616 := by omega
  have r3 := fun (W : World) => fstep_any n x3 y3 c3 hn hx3 hy3 (by omega) W
  have b3 := step_bd n x3 y3 c3 hn hx3 hy3 (by omega)
  obtain ⟨s3, e3⟩ : ∃ s, s = (n * x3 + y3 + c3) % 18446744073709551616 := ⟨_, rfl⟩
  obtain ⟨c4, d4⟩ : ∃ s, s = (n * x3 + y3 + c3) / 18446744073709551616 := ⟨_, rfl⟩
  rw [← e3, ← d4] at r3
  have l4 : c4 < 18446744073709551616 := by omega
  have E : n * X + Y = s0 + 18446744073709551616 * nv s1 s2 s3 c4 := by
    rw [hx, hy, nv_mul]; unfold nv
    clear r0 r1 r2 r3 ex ey hx hy hbd
    generalize n * x0 = m0 at *
    generalize n * x1 = m1 at *
    generalize n * x2 = m2 at *
    generalize n * x3 = m3 at *
    omega
  have R1 : (n * X + Y) % 18446744073709551616 = s0 := by rw [E]; omega
  have R2 : nc ((n * X + Y) / 18446744073709551616) = #[.int .u64 (s1 : Int), .int .u64 (s2 : Int), .int .u64 (s3 : Int), .int .u64 (c4 : Int)] := by
    rw [nc_of s1 s2 s3 c4 (by omega) (by omega) (by omega) (by omega)]; congr 1; rw [E]; omega
  rw [R1, R2]
  clear R1 R2 E e0 d1 e1 d2 e2 d3 e3 d4 l1 l2 l3 l4 b0 b1 b2 b3 ex ey hx hy hbd
  go_enter Try.func111, Try.ntmps111
  go_wp2_with fail
  refine (r0 _).mono ?_
  rintro e w' ⟨rfl, rfl⟩
  go_wp2_with fail
  refine (r1 _).mono ?_
  rintro e w' ⟨rfl, rfl⟩
  go_wp2_with fail
  refine (r2 _).mono ?_
  rintro e w' ⟨rfl, rfl⟩
  go_wp2_with fail
  refine (r3 _).mono ?_
  rintro e w' ⟨rfl, rfl⟩
  go_wp2
  go_region
  all_goals
    go_wp2
    refine bodyPost_ret (results_tmp_cell rfl _ _ (w.heap.size + 1 + 1) 100 #[.int .u64 (s1 : Int), .int .u64 (s2 : Int), .int .u64 (s3 : Int), .int .u64 (c4 : Int)] (0, 0) _ rfl (heap_at _ _ _ _ (by simp)) Try.underlying100 rfl Try.size4f) rfl ?_
    first | exact ⟨rfl, (((Fr.refl _ w).alloc _).alloc _).alloc _⟩ | exact ⟨rfl, ((((Fr.refl _ w).alloc _).alloc _).alloc _).drew⟩
end Go.Proofs.Ytnobobdgoccmcaa


/-
  The contracts of folded, rest, sum, longer, Order, Add, Neg and Mul of package scalar.
-/
import Derived.Test.YtnobobdgoccmcaaPl
namespace Go.Proofs.Ytnobobdgoccmcaa
open Go.RowKit
set_option linter.unusedVariables false

theorem run_A0 (x y : Nat) (w : World) : (callFunc 108 #[.int .u64 (x : Int), .int .u64 (y : Int), .int .u64 0]).run Try.prog w = .ok (.value (.tuple #[.int .u64 (((x + y) % 18446744073709551616 : Nat) : Int), .int .u64 (((x + y) / 18446744073709551616 : Nat) : Int)])) w := run_A x y 0 (by omega) w
theorem nc_of0 (a b c : Nat) (ha : a < 18446744073709551616) (hb : b < 18446744073709551616) (hc : c < 18446744073709551616) : #[.int .u64 (a : Int), .int .u64 (b : Int), .int .u64 (c : Int), .int .u64 0] = nc (nv a b c 0) := nc_of a b c 0 ha hb hc (by decide)
/-- The order; and what it is more than 2 ^ 252. -/
def LL : Nat := 7237005577332262213973186563042994240857116359379907606001950938285454250989
def tail2 : Nat := 27742317777372353535851937790883648493
theorem LL_nv : LL = nv 6346243789798364141 1503914060200516822 0 1152921504606846976 := by unfold nv LL; decide
theorem fold0 (X v Y : Nat) (hX : X < 7237005577332262213973186563042994240829374041602535252466099000494570602496) (hY : Y = v * 27742317777372353535851937790883648493) (h : Y ≤ X) : (X + v * 7237005577332262213973186563042994240829374041602535252466099000494570602496) % LL = X - Y := by
  rw [show X + v * 7237005577332262213973186563042994240829374041602535252466099000494570602496 = (X - Y) + LL * v by unfold LL; omega, Nat.add_mul_mod_self_left, Nat.mod_eq_of_lt (by unfold LL; omega)]
theorem fold1 (X v Y : Nat) (hX : X < 7237005577332262213973186563042994240829374041602535252466099000494570602496) (hv : v ≤ 256) (hY : Y = v * 27742317777372353535851937790883648493) (h : X < Y) : (X + v * 7237005577332262213973186563042994240829374041602535252466099000494570602496) % LL = X + LL - Y := by
  obtain ⟨k, rfl⟩ : ∃ k, v = k + 1 := ⟨v - 1, by omega⟩
  rw [show X + (k + 1) * 7237005577332262213973186563042994240829374041602535252466099000494570602496 = (X + LL - Y) + LL * k by unfold LL; omega, Nat.add_mul_mod_self_left, Nat.mod_eq_of_lt (by unfold LL; omega)]
set_option maxRecDepth 100000 in
set_option maxHeartbeats 400000 in
theorem order_any (w : World) : Calls Try.prog 68 #[] w fun e w' => e = .returned (.agg (nc LL)) ∧ Fr (fun _ => False) w w' := by
  go_enter Try.func68, Try.ntmps68
  go_wp2
  refine bodyPost_ret (results_cell_row rfl _ _ w.heap.size 77 _ (0, 0) _ rfl (heap_alloc_new w _) Try.underlying77 rfl (by show _ = some 4; kernel_rfl)) rfl ?_
  exact ⟨by rw [LL_nv, ← nc_of _ _ _ _ (by decide) (by decide) (by decide) (by decide)]; rfl, (Fr.refl _ w).alloc _⟩
set_option maxRecDepth 100000 in
set_option maxHeartbeats 1600000 in
theorem folded_any (X v : Nat) (hX : X < 115792089237316195423570985008687907853269984665640564039457584007913129639936) (hv : v ≤ 256) (w : World) :
    Calls Try.prog 114 #[.agg (nc X), .int .u64 v] w fun e w' => e = .returned (.agg (nc ((X % 7237005577332262213973186563042994240829374041602535252466099000494570602496 + v * 7237005577332262213973186563042994240829374041602535252466099000494570602496) % LL))) ∧ Fr (fun _ => False) w w' := by
  obtain ⟨x0, x1, x2, x3, b0, b1, b2, b3, hx, e⟩ := nc_open X hX
  rw [e]
  have hm : bits .and .u64 (x3 : Int) 1152921504606846975 = ((x3 % 1152921504606846976 : Nat) : Int) := by
    rw [show (1152921504606846975 : Int) = ((1152921504606846975 : Nat) : Int) from rfl, (bits_u64_N x3 _ b3 (by decide)).2.1, show (1152921504606846975 : Nat) = 2 ^ 60 - 1 from rfl, Nat.and_two_pow_sub_one_eq_mod]
  have hX2 : X % 7237005577332262213973186563042994240829374041602535252466099000494570602496 = nv x0 x1 x2 (x3 % 1152921504606846976) := by rw [hx]; unfold nv; omega
  have y3b : x3 % 1152921504606846976 < 1152921504606846976 := Nat.mod_lt _ (by decide)
  rw [hX2]
  generalize x3 % 1152921504606846976 = y3 at hm y3b ⊢
  have M1 := fun W : World => mul64_any v 6346243789798364141 (by omega) (by decide) W
  have M2 := fun W : World => mul64_any v 1503914060200516822 (by omega) (by decide) W
  obtain ⟨c1, hc1⟩ : ∃ c1, c1 = v * 6346243789798364141 / 18446744073709551616 := ⟨_, rfl⟩
  obtain ⟨l1, hl1⟩ : ∃ l1, l1 = v * 6346243789798364141 % 18446744073709551616 := ⟨_, rfl⟩
  obtain ⟨h2, hh2⟩ : ∃ h2, h2 = v * 1503914060200516822 / 18446744073709551616 := ⟨_, rfl⟩
  obtain ⟨l2, hl2⟩ : ∃ l2, l2 = v * 1503914060200516822 % 18446744073709551616 := ⟨_, rfl⟩
  rw [← hc1, ← hl1] at M1
  rw [← hh2, ← hl2] at M2
  have A1 := fun W : World => run_A0 l2 c1 W
  obtain ⟨m3, hm3⟩ : ∃ m3, m3 = (l2 + c1) % 18446744073709551616 := ⟨_, rfl⟩
  obtain ⟨k3, hk3⟩ : ∃ k3, k3 = (l2 + c1) / 18446744073709551616 := ⟨_, rfl⟩
  rw [← hm3, ← hk3] at A1
  obtain ⟨h3, he3⟩ : ∃ h3, h3 = h2 + k3 := ⟨_, rfl⟩
  have hh3 : IntKind.u64.wrap ((h2 : Int) + (k3 : Int)) = (h3 : Int) := by
    rw [IntKind.wrap_u64]; omega
  obtain ⟨Y, hY⟩ : ∃ Y, Y = nv l1 m3 h3 0 := ⟨_, rfl⟩
  have hYv : Y = v * 27742317777372353535851937790883648493 := by rw [hY]; unfold nv; omega
  obtain ⟨X2, hXX⟩ : ∃ X2, X2 = nv x0 x1 x2 y3 := ⟨_, rfl⟩
  have hX2l : X2 < 7237005577332262213973186563042994240829374041602535252466099000494570602496 := by rw [hXX]; unfold nv; omega
  obtain ⟨ll, hll⟩ : ∃ ll : Nat, ll = if X2 < Y then 1 else 0 := ⟨_, rfl⟩
  have D := fun (W : World) => difference_any X2 Y ll hll (by omega) (by omega) W
  obtain ⟨R, hR⟩ : ∃ R, R = (X2 + 115792089237316195423570985008687907853269984665640564039457584007913129639936 - Y) % 115792089237316195423570985008687907853269984665640564039457584007913129639936 := ⟨_, rfl⟩
  rw [← hR] at D
  obtain ⟨r0, r1, r2, r3, d0, d1, d2, d3, hr, er⟩ := nc_open R (by omega)
  rw [er] at D
  have PL := fun W : World => plus_any R LL W
  rw [er] at PL
  have OR := fun W : World => order_any W
  rw [hXX, hY, ← nc_of x0 x1 x2 y3 b0 b1 b2 (by omega), ← nc_of0 l1 m3 h3 (by omega) (by omega) (by omega)] at D
  rw [← hXX]
  have Hf := Lib.hid (And.intro hX2l (And.intro hR (And.intro hYv (And.intro hll er))))
  have hl1' : ll = 0 ∨ ll = 1 := by rw [hll]; split <;> simp
  clear he3 hll er hc1 hl1 hh2 hl2 hm3 hk3 hX2 hXX hYv hY hR hx e y3b d0 d1 d2 d3
  go_enter Try.func114, Try.ntmps114
  go_wp2_with fail
  refine (M1 _).mono ?_
  rintro e w1 ⟨rfl, rfl⟩
  go_wp2_with fail
  refine (M2 _).mono ?_
  rintro e w1 ⟨rfl, rfl⟩
  go_wp2_with fail
  refine (D _).mono ?_
  rintro e w1 ⟨rfl, F1⟩
  have Z1 := (F1.block (w.heap.size + 1) (by simp) (fun h => h)).trans (heap_at _ _ _ _ (by simp))
  have G1 : Fr (fun _ => False) w w1 := (((Fr.refl _ w).alloc _).alloc _).trans F1 (fun _ h => h.elim)
  clear F1 D M1 M2 A1
  have Z2 : ∀ o : Obj, (w1.alloc o).heap[w.heap.size + 1]? = _ := fun o => (Below.heap_alloc w1 o _ (lt_of_block Z1)).trans Z1
  have z5 := lt_of_block Z1
  have HZ2 := Lib.hid Z2
  have hs4 : (Try.prog.info? 77).map (·.size) = some (4 : Nat) := by kernel_rfl
  have HS4 := Lib.hid hs4
  obtain ⟨q0, q1, q2, q3, _, _, _, _, hq, eq⟩ := nc_open ((R + LL) % 115792089237316195423570985008687907853269984665640564039457584007913129639936) (Nat.mod_lt _ (by decide))
  rw [eq] at PL
  have HQ := Lib.hid eq
  clear Z1 Z2 hs4 eq hq
  rcases hl1' with rfl | rfl
  · have h1 : (#[.int .u64 (r0 : Int), .int .u64 (r1 : Int), .int .u64 (r2 : Int), .int .u64 (r3 : Int)] : Array Value).all (·.oneCell') = true := by simp [Value.oneCell']
    have h2 : (#[.int .u64 0, .int .u64 0, .int .u64 0, .int .u64 0] : Array Value).size = (#[.int .u64 (r0 : Int), .int .u64 (r1 : Int), .int .u64 (r2 : Int), .int .u64 (r3 : Int)] : Array Value).size := rfl
    have h3 : (Try.prog.info? 77).map (·.size) = some (#[.int .u64 (r0 : Int), .int .u64 (r1 : Int), .int .u64 (r2 : Int), .int .u64 (r3 : Int)] : Array Value).size := HS4.out
    have h4 := HZ2.out (.cells #[.int .u64 (r0 : Int), .int .u64 (r1 : Int), .int .u64 (r2 : Int), .int .u64 (r3 : Int)] 77)
    go_wp2_with (with_reducible refine wpList_store_row rfl 77 (.tmp 4) (.tmp 47) rfl (w.heap.size + 1) #[.int .u64 (r0 : Int), .int .u64 (r1 : Int), .int .u64 (r2 : Int), .int .u64 (r3 : Int)] rfl rfl 77 _ h4 h3 h2 h1 ?_)
    refine bodyPost_ret (results_cell_row rfl _ _ (w.heap.size + 1) 77 #[.int .u64 (r0 : Int), .int .u64 (r1 : Int), .int .u64 (r2 : Int), .int .u64 (r3 : Int)] (0, 0) _ rfl (setRow_heap _ _ _ _ _ _ h4) Try.underlying77 rfl h3) rfl ?_
    refine ⟨?_, (G1.alloc _).trans (Fr.setRow (S := fun k => k = w.heap.size + 1) (Fr.refl _ _) rfl _) (fun i hi => Or.inr (by omega))⟩
    obtain ⟨p1, p2, p3, p4, p5⟩ := Hf.out
    have hle : ¬ X2 < Y := fun hlt => by rw [if_pos hlt] at p4; exact absurd p4 (by decide)
    rw [fold0 X2 v Y p1 p3 (by omega), show X2 - Y = R by omega, p5]
  · have h0 := heap_alloc_new w1 (.cells #[.int .u64 (r0 : Int), .int .u64 (r1 : Int), .int .u64 (r2 : Int), .int .u64 (r3 : Int)] 77)
    go_wp2_with fail
    go_region_with ((first
      | (go_at_call 68; refine (OR _).mono ?_; rintro e w2 ⟨rfl, F2⟩; have B2 := (F2.block w1.heap.size (by simp) (fun h => h)).trans h0; have C2 := (F2.block (w.heap.size + 1) (by simp; omega) (fun h => h)).trans (HZ2.out _); have k0 := cell_of_block B2 0; have k1 := cell_of_block B2 1; have k2 := cell_of_block B2 2; have k3 := cell_of_block B2 3; simp at k0 k1 k2 k3)
      | (go_at_call 115; refine (PL _).mono ?_; rintro e w3 ⟨rfl, F3⟩; have C3 := (F3.block (w.heap.size + 1) (lt_of_block C2) (fun h => h)).trans C2; have o0 := cell_of_block C3 0; have o1 := cell_of_block C3 1; have o2 := cell_of_block C3 2; have o3 := cell_of_block C3 3; have n0 := free_of_block C3 0; have n1 := free_of_block C3 1; have n2 := free_of_block C3 2; have n3 := free_of_block C3 3; simp at o0 o1 o2 o3)))
    all_goals
      clear k0 k1 k2 k3
      have G2 : Fr (fun _ => False) w w2 := (G1.alloc _).drew.trans F2 (fun _ h => h.elim)
      have G3 := G2.trans F3 (fun _ h => h.elim)
      have H3 := Lib.hid C3
      clear B2 C2 C3 h0
      go_wp2_with fail
      refine bodyPost_ret (results_cell_row rfl _ _ (w.heap.size + 1) 77 #[.int .u64 (q0 : Int), .int .u64 (q1 : Int), .int .u64 (q2 : Int), .int .u64 (q3 : Int)] (0, 0) _ rfl (set4 H3.out _ _ _ _) Try.underlying77 rfl HS4.out) rfl ?_
      refine ⟨?_, (((G3.setCell (Or.inr (by simp)) _).setCell (Or.inr (by simp)) _).setCell (Or.inr (by simp)) _).setCell (Or.inr (by simp)) _⟩
      obtain ⟨p1, p2, p3, p4, p5⟩ := Hf.out
      have hlt : X2 < Y := Decidable.byContradiction fun hn => by rw [if_neg hn] at p4; exact absurd p4 (by decide)
      rw [fold1 X2 v Y p1 hv p3 hlt, ← HQ.out, show (R + LL) % 115792089237316195423570985008687907853269984665640564039457584007913129639936 = X2 + LL - Y by unfold LL; omega]
end Go.Proofs.Ytnobobdgoccmcaa


/-
  The contracts of Neg and Mul of package scalar.
  The contract of Mul of package scalar.
  Numbers in sixteen parts of 16 bits; the contracts of less and L of package custumalref06.
  The bytes of a number; the contracts of Raw and Bytes of package custumalref06.
  The contract of Bytes of package scalar.
  The contracts of L and Add of package custumalref06.
  The contract of carry of package custumalref05.
  The contract of tidy of package custumalref05.
-/
import Derived.Test.YtahnlnflcgehaaaQb
import Derived.Deep.RegionHeld3
import Derived.Test.YtahnlnflcgehaaaQa
namespace Go.Proofs.Ytahnlnflcgehaaa
open Go.RowKit
set_option linter.unusedVariables false

theorem keep_set {w : World} {b : Nat} {o : Obj} {a : Addr} (h : w.heap[b]? = some o) (hne : ¬ (b = a.block)) (v : Value) : (w.setCell a v).heap[b]? = some o :=
  (Below.heap_setCell _ _ _ _ hne).trans h
theorem Fr.keep {w w2 : World} (F : Fr (fun _ => False) w w2) {i : Nat} {o : Obj} (h : w.heap[i]? = some o) : w2.heap[i]? = some o :=
  (F.block i (lt_of_block h) (fun h => h)).trans h
set_option maxRecDepth 100000 in
set_option maxHeartbeats 16000000 in
theorem sneg_any (X : Nat) (hX : X < 115792089237316195423570985008687907853269984665640564039457584007913129639936) (w : World) :
    Calls Try.prog 47 #[.agg (nc X)] w fun e w' => e = .returned (.agg (nc ((LL - X % LL) % LL))) ∧ Fr (fun _ => False) w w' := by
  have RX := fun (W : World) => srest_any X hX W
  have hm := mod_LL X
  have hd : (LL + 115792089237316195423570985008687907853269984665640564039457584007913129639936 - X % LL) % 115792089237316195423570985008687907853269984665640564039457584007913129639936 = LL - X % LL := by unfold LL at *; omega
  have DI := fun (W : World) => difference_any LL (X % LL) 0 (by rw [if_neg (by omega)]) LL_lt (mod_LP _) W
  rw [hd] at DI
  have RE := fun (W : World) => srest_any (LL - X % LL) (by have := LL_lt; omega) W
  have OR := fun (W : World) => order_any W
  obtain ⟨x0, x1, x2, x3, _, _, _, _, _, ex⟩ := nc_open (X) (hX)
  rw [ex] at RX ⊢
  clear ex
  obtain ⟨s0, s1, s2, s3, _, _, _, _, _, es⟩ := nc_open (X % LL) (mod_LP _)
  rw [es] at RX DI
  clear es
  obtain ⟨t0, t1, t2, t3, _, _, _, _, _, et⟩ := nc_open (LL - X % LL) (by have := LL_lt; omega)
  rw [et] at DI RE
  clear et
  obtain ⟨l0, l1, l2, l3, _, _, _, _, _, el⟩ := nc_open (LL) (LL_lt)
  rw [el] at OR DI
  clear el
  obtain ⟨q0, q1, q2, q3, _, _, _, _, _, eq⟩ := nc_open ((LL - X % LL) % LL) (mod_LP _)
  rw [eq] at RE ⊢
  clear eq
  clear hm hd hX
  go_enter Try.func47, Try.ntmps47
  go_wp2_with fail
  have E0 : Fr (fun _ => False) w _ := (((Fr.refl _ w).alloc (.cells #[.int .u64 (x0 : Int), .int .u64 (x1 : Int), .int .u64 (x2 : Int), .int .u64 (x3 : Int)] 52)).alloc (.cells #[.int .u64 0, .int .u64 0, .int .u64 0, .int .u64 0] 52))
  have A1 : ((w.alloc (.cells #[.int .u64 (x0 : Int), .int .u64 (x1 : Int), .int .u64 (x2 : Int), .int .u64 (x3 : Int)] 52)).alloc (.cells #[.int .u64 0, .int .u64 0, .int .u64 0, .int .u64 0] 52)).heap[w.heap.size]? = some (.cells #[.int .u64 (x0 : Int), .int .u64 (x1 : Int), .int .u64 (x2 : Int), .int .u64 (x3 : Int)] 52 (0, 0)) := by
    rw [Below.heap_alloc _ _ _ (by simp)]; exact heap_alloc_new w _
  have C1 : ((w.alloc (.cells #[.int .u64 (x0 : Int), .int .u64 (x1 : Int), .int .u64 (x2 : Int), .int .u64 (x3 : Int)] 52)).alloc (.cells #[.int .u64 0, .int .u64 0, .int .u64 0, .int .u64 0] 52)).heap[w.heap.size + 1]? = some (.cells #[.int .u64 0, .int .u64 0, .int .u64 0, .int .u64 0] 52 (0, 0)) := heap_at _ _ _ _ (by simp)
  have hW0 : ((w.alloc (.cells #[.int .u64 (x0 : Int), .int .u64 (x1 : Int), .int .u64 (x2 : Int), .int .u64 (x3 : Int)] 52)).alloc (.cells #[.int .u64 0, .int .u64 0, .int .u64 0, .int .u64 0] 52)).heap.size = w.heap.size + 2 := by simp
  generalize (w.alloc (.cells #[.int .u64 (x0 : Int), .int .u64 (x1 : Int), .int .u64 (x2 : Int), .int .u64 (x3 : Int)] 52)).alloc (.cells #[.int .u64 0, .int .u64 0, .int .u64 0, .int .u64 0] 52) = W0 at *
  have HE := Lib.hid E0
  have HW0 := Lib.hid hW0
  clear E0 hW0
  have HA := Lib.hid A1
  have HC := Lib.hid C1
  have hS : ∀ w' : World, Fr (fun k => W0.heap.size ≤ k) W0 w' → (Fr (fun k => W0.heap.size ≤ k) W0 w' ∧ w'.cell? ⟨w.heap.size, 0, none⟩ = some (.int .u64 (x0 : Int)) ∧ w'.cell? ⟨w.heap.size, 1, none⟩ = some (.int .u64 (x1 : Int)) ∧ w'.cell? ⟨w.heap.size, 2, none⟩ = some (.int .u64 (x2 : Int)) ∧ w'.cell? ⟨w.heap.size, 3, none⟩ = some (.int .u64 (x3 : Int))) := fun w' F => by
    obtain ⟨i0, i1, i2, i3, i4, i5, i6, i7⟩ := blk4 ((F.block _ (lt_of_block HA.out) (by have := lt_of_block HA.out; omega)).trans HA.out)
    exact ⟨F, i0, i1, i2, i3⟩
  obtain ⟨i0, i1, i2, i3, i4, i5, i6, i7⟩ := blk4 A1
  have zz : w.heap.size + 1 < W0.heap.size := lt_of_block C1
  clear A1 C1
  go_region_held3 (fun w' => Fr (fun k => W0.heap.size ≤ k) W0 w' ∧ w'.cell? ⟨w.heap.size, 0, none⟩ = some (.int .u64 (x0 : Int)) ∧ w'.cell? ⟨w.heap.size, 1, none⟩ = some (.int .u64 (x1 : Int)) ∧ w'.cell? ⟨w.heap.size, 2, none⟩ = some (.int .u64 (x2 : Int)) ∧ w'.cell? ⟨w.heap.size, 3, none⟩ = some (.int .u64 (x3 : Int)))
    ((refine hS _ ?_; (repeat (first | exact Fr.refl _ _ | assumption | (exact (‹Fr (fun k => W0.heap.size ≤ k) W0 _ ∧ _›).1) | (refine Fr.drew ?_) | (refine Fr.alloc ?_ _) | (refine Fr.setCell ?_ (Or.inl ?_) _; rotate_left; (focus (show W0.heap.size ≤ _; simp <;> omega)))))))
    ((first
      | (go_at_call 50
         with_reducible refine (OR _).mono ?_
         rintro e w1 ⟨rfl, F1⟩
         have S1 : Fr (fun k => W0.heap.size ≤ k) W0 w1 := (‹Fr (fun k => W0.heap.size ≤ k) W0 _ ∧ _›).1.trans F1 (fun _ h => h.elim)
         have z1 : W0.heap.size ≤ w1.heap.size := S1.size
         (try (have L1 : w1.heap[W0.heap.size]? = some (.cells #[.int .u64 0, .int .u64 0, .int .u64 0, .int .u64 0] 52 (0, 0)) := F1.keep (heap_alloc_new W0.drew (.cells #[.int .u64 0, .int .u64 0, .int .u64 0, .int .u64 0] 52)))))
      | (go_at_call 90
         with_reducible refine (RX _).mono ?_
         rintro e w2 ⟨rfl, F2⟩
         have S2 : Fr (fun k => W0.heap.size ≤ k) W0 w2 := (‹Fr (fun k => W0.heap.size ≤ k) W0 _ ∧ _›).1.trans F2 (fun _ h => h.elim)
         have z2 : W0.heap.size ≤ w2.heap.size := S2.size
         (try (have L2 := F2.keep L1))
         (try (have L2 := F2.keep (heap_alloc_new w1 (.cells #[.int .u64 0, .int .u64 0, .int .u64 0, .int .u64 0] 52)))))
      | (go_at_call 93
         with_reducible refine (DI _).mono ?_
         rintro e w3 ⟨rfl, F3⟩
         have S3 : Fr (fun k => W0.heap.size ≤ k) W0 w3 := (‹Fr (fun k => W0.heap.size ≤ k) W0 _ ∧ _›).1.trans F3 (fun _ h => h.elim)
         have z3 : W0.heap.size ≤ w3.heap.size := S3.size
         (try (have L3 := F3.keep L2; obtain ⟨m0, m1, m2, m3, m4, m5, m6, m7⟩ := blk4 L3))
         (try (have L3 := F3.keep (heap_alloc_new w2 (.cells #[.int .u64 0, .int .u64 0, .int .u64 0, .int .u64 0] 52)); obtain ⟨n0, n1, n2, n3, n4, n5, n6, n7⟩ := blk4 L3)))))
  all_goals
    have C4 : w3.heap[w.heap.size + 1]? = some (.cells #[.int .u64 0, .int .u64 0, .int .u64 0, .int .u64 0] 52 (0, 0)) := (S3.block _ zz (by omega)).trans HC.out
    have G3 : Fr (fun _ => False) w w3 := HE.out.trans S3 (fun _ h => Or.inr (by have := HW0.out; omega))
    have HC4 := Lib.hid C4
    have hG3 := Lib.hid G3
    clear F1 F2 F3 S1 S2 S3 C4 G3 OR RX DI hS
    go_wp2_with (go_at_call 90; (with_reducible refine (RE _).mono ?_); rintro e w4 ⟨rfl, F4⟩; have C5 : w4.heap[w.heap.size + 1]? = some (.cells #[.int .u64 0, .int .u64 0, .int .u64 0, .int .u64 0] 52 (0, 0)) := (by refine F4.keep ?_; repeat (first | exact HC4.out | (refine keep_set ?_ ?_ _; rotate_left; (focus (have hW0 := HW0.out; show ¬ (_ = _); simp; omega))) | (refine (Below.heap_alloc _ _ _ (lt_of_block HC4.out)).trans ?_))); obtain ⟨p0, p1, p2, p3, p4, p5, p6, p7⟩ := blk4 C5; have G4 : Fr (fun _ => False) w w4 := (by refine Fr.trans (T := fun _ => False) ?_ F4 (fun _ h => False.elim h); repeat (first | exact hG3.out | (refine Fr.setCell ?_ (Or.inr ?_) _; rotate_left; (focus (have hW0 := HW0.out; show _ ≤ _; simp; omega))) | refine Fr.alloc ?_ _ | refine Fr.drew ?_)); have HC5 := Lib.hid C5; have HG4 := Lib.hid G4; clear C5 F4 G4)
    refine bodyPost_ret (results_cell_row rfl _ _ (w.heap.size + 1) 52 #[.int .u64 (q0 : Int), .int .u64 (q1 : Int), .int .u64 (q2 : Int), .int .u64 (q3 : Int)] (0, 0) _ rfl (set4 HC5.out _ _ _ _) Try.underlying52 rfl Try.size4l) rfl ?_
    exact ⟨rfl, (((HG4.out.setCell (Or.inr (by simp)) _).setCell (Or.inr (by simp)) _).setCell (Or.inr (by simp)) _).setCell (Or.inr (by simp)) _⟩
end Go.Proofs.Ytahnlnflcgehaaa
namespace Go.Proofs.Ytahnlnflcgehaaa
open Go.RowKit
set_option linter.unusedVariables false

theorem keep_setM {w : World} {b : Nat} {o : Obj} {a : Addr} (h : w.heap[b]? = some o) (hne : ¬ (b = a.block)) (v : Value) : (w.setCell a v).heap[b]? = some o :=
  (Below.heap_setCell _ _ _ _ hne).trans h
theorem Fr.keepM {w w2 : World} (F : Fr (fun _ => False) w w2) {i : Nat} {o : Obj} (h : w.heap[i]? = some o) : w2.heap[i]? = some o :=
  (F.block i (lt_of_block h) (fun h => h)).trans h
theorem bit_dig (Y m : Nat) : dig 18446744073709551616 Y (m / 64) / 2 ^ (m % 64) % 2 = Y / 2 ^ m % 2 := by
  unfold dig
  have h64 : m % 64 < 64 := Nat.mod_lt _ (by decide)
  obtain ⟨k, hk⟩ : ∃ k, 64 = m % 64 + 1 + k := ⟨64 - (m % 64) - 1, by omega⟩
  have e1 : (18446744073709551616 : Nat) ^ (m / 64) = 2 ^ (64 * (m / 64)) := by rw [show (18446744073709551616 : Nat) = 2 ^ 64 from rfl, ← Nat.pow_mul]
  have e2 : ∀ z : Nat, z % 18446744073709551616 / 2 ^ (m % 64) % 2 = z / 2 ^ (m % 64) % 2 := fun z => by
    rw [show (18446744073709551616 : Nat) = 2 ^ (m % 64) * 2 * 2 ^ k by rw [← Nat.pow_succ, ← Nat.pow_add, ← hk], Nat.mul_assoc, Nat.mod_mul_right_div_self, Nat.mod_mul_right_mod]
  rw [e2, e1, Nat.div_div_eq_div_mul, ← Nat.pow_add, show 64 * (m / 64) + m % 64 = m by omega]
theorem bit_and (z : Nat) (hz : z < 18446744073709551616) : bits .and .u64 (z : Int) 1 = ((z % 2 : Nat) : Int) := by
  rw [show (1 : Int) = ((1 : Nat) : Int) from rfl, (bits_u64_N z 1 hz (by decide)).2.1, show (1 : Nat) = 2 ^ 1 - 1 from rfl, Nat.and_two_pow_sub_one_eq_mod]
theorem dbl (A Y m : Nat) : (A * (Y / 2 ^ (m + 1)) % LL + A * (Y / 2 ^ (m + 1)) % LL) % LL = A * (2 * (Y / 2 ^ (m + 1))) % LL := by
  rw [← Nat.add_mod]; congr 1; rw [Nat.mul_left_comm, Nat.two_mul]
theorem half (Y m : Nat) : Y / 2 ^ m = 2 * (Y / 2 ^ (m + 1)) + Y / 2 ^ m % 2 := by
  rw [Nat.pow_succ, ← Nat.div_div_eq_div_mul]; omega
/-- So many times, behind the bits from m on. -/
def tm (A Y m : Nat) : Nat := A * (Y / 2 ^ m) % LL
theorem tm_lt (A Y m : Nat) : tm A Y m < LL := mod_LL _
theorem tm_256 (A Y : Nat) (hY : Y < 115792089237316195423570985008687907853269984665640564039457584007913129639936) : tm A Y 256 = 0 := by
  unfold tm; rw [Nat.div_eq_of_lt (by simpa using hY)]; rfl
theorem tm_even (A Y m : Nat) (h : Y / 2 ^ m % 2 = 0) : (tm A Y (m + 1) + tm A Y (m + 1)) % LL = tm A Y m := by
  unfold tm; rw [dbl, half Y m, h]; rfl
theorem tm_odd (A Y m : Nat) (hA : A < LL) (h : Y / 2 ^ m % 2 = 1) : ((tm A Y (m + 1) + tm A Y (m + 1)) % LL + A) % LL = tm A Y m := by
  unfold tm; rw [dbl, half Y m, h, Nat.mul_add, Nat.mul_one, Nat.add_mod, Nat.mod_mod, ← Nat.add_mod]

set_option maxRecDepth 100000 in
set_option maxHeartbeats 3200000 in
theorem smul_any (X Y : Nat) (hX : X < 115792089237316195423570985008687907853269984665640564039457584007913129639936) (hY : Y < 115792089237316195423570985008687907853269984665640564039457584007913129639936) (w : World) :
    Calls Try.prog 45 #[.agg (nc X), .agg (nc Y)] w fun e w' => e = .returned (.agg (nc (tm (X % LL) Y 0))) ∧ Fr (fun _ => False) w w' := by
  have RX := fun (W : World) => srest_any X hX W
  have hA := mod_LL X
  generalize X % LL = A at hA RX ⊢
  obtain ⟨x0, x1, x2, x3, _, _, _, _, _, ex⟩ := nc_open (X) (hX)
  rw [ex] at RX ⊢
  clear ex
  obtain ⟨a0, a1, a2, a3, _, _, _, _, _, ea⟩ := nc_open (A) (Nat.lt_trans hA LL_lt)
  rw [ea] at RX
  have Ea := Lib.hid ea
  clear ea
  rw [nc_uq Y]
  go_enter Try.func45, Try.ntmps45
  go_wp2_with fail
  refine (RX _).mono ?_
  rintro e w1 ⟨rfl, F1⟩
  have A1 : w1.heap[w.heap.size]? = some (.cells #[.int .u64 (x0 : Int), .int .u64 (x1 : Int), .int .u64 (x2 : Int), .int .u64 (x3 : Int)] 52 (0, 0)) := F1.keepM (by rw [Below.heap_alloc _ _ _ (by simp; omega), Below.heap_alloc _ _ _ (by simp)]; exact heap_alloc_new w _)
  have B1 : w1.heap[w.heap.size + 1]? = some (.cells (uq 4 (dig 18446744073709551616 Y)) 52 (0, 0)) := F1.keepM (by rw [Below.heap_alloc _ _ _ (by simp)]; exact heap_at _ _ _ _ (by simp))
  have C1 : w1.heap[w.heap.size + 1 + 1]? = some (.cells #[.int .u64 0, .int .u64 0, .int .u64 0, .int .u64 0] 52 (0, 0)) := F1.keepM (heap_at _ _ _ _ (by simp))
  have G1 : Fr (fun _ => False) w w1 := (((((Fr.refl _ w).alloc _).alloc _).alloc _)).trans F1 (fun _ h => h.elim)
  obtain ⟨i0, i1, i2, i3, i4, i5, i6, i7⟩ := blk4 A1
  have HA1 := Lib.hid A1
  have HB1 := Lib.hid B1
  have HC1 := Lib.hid C1
  have HG1 := Lib.hid G1
  clear RX A1 B1 C1 G1 F1
  go_wp2_with fail
  have T2 := heap_alloc_new ((((w1.setCell ⟨w.heap.size, 0, none⟩ (.int .u64 (a0 : Int))).setCell ⟨w.heap.size, 1, none⟩ (.int .u64 (a1 : Int))).setCell ⟨w.heap.size, 2, none⟩ (.int .u64 (a2 : Int))).setCell ⟨w.heap.size, 3, none⟩ (.int .u64 (a3 : Int))) (.cells #[.int .u64 0, .int .u64 0, .int .u64 0, .int .u64 0] 52)
  have zT : ((((w1.setCell ⟨w.heap.size, 0, none⟩ (.int .u64 (a0 : Int))).setCell ⟨w.heap.size, 1, none⟩ (.int .u64 (a1 : Int))).setCell ⟨w.heap.size, 2, none⟩ (.int .u64 (a2 : Int))).setCell ⟨w.heap.size, 3, none⟩ (.int .u64 (a3 : Int))).heap.size = w1.heap.size := by simp
  rw [zT] at T2
  have A2 := (Below.heap_alloc _ (.cells #[.int .u64 0, .int .u64 0, .int .u64 0, .int .u64 0] 52) _ (lt_of_block (set4 HA1.out _ _ _ _))).trans (set4 HA1.out (.int .u64 (a0 : Int)) (.int .u64 (a1 : Int)) (.int .u64 (a2 : Int)) (.int .u64 (a3 : Int)))
  have lB := lt_of_block HB1.out
  have lC := lt_of_block HC1.out
  have B2 : (((((w1.setCell ⟨w.heap.size, 0, none⟩ (.int .u64 (a0 : Int))).setCell ⟨w.heap.size, 1, none⟩ (.int .u64 (a1 : Int))).setCell ⟨w.heap.size, 2, none⟩ (.int .u64 (a2 : Int))).setCell ⟨w.heap.size, 3, none⟩ (.int .u64 (a3 : Int))).alloc (.cells #[.int .u64 0, .int .u64 0, .int .u64 0, .int .u64 0] 52)).heap[w.heap.size + 1]? = some (.cells (uq 4 (dig 18446744073709551616 Y)) 52 (0, 0)) :=
    (Below.heap_alloc _ _ _ (by simpa using lB)).trans (keep_setM (keep_setM (keep_setM (keep_setM HB1.out (by simp) _) (by simp) _) (by simp) _) (by simp) _)
  have C2 : (((((w1.setCell ⟨w.heap.size, 0, none⟩ (.int .u64 (a0 : Int))).setCell ⟨w.heap.size, 1, none⟩ (.int .u64 (a1 : Int))).setCell ⟨w.heap.size, 2, none⟩ (.int .u64 (a2 : Int))).setCell ⟨w.heap.size, 3, none⟩ (.int .u64 (a3 : Int))).alloc (.cells #[.int .u64 0, .int .u64 0, .int .u64 0, .int .u64 0] 52)).heap[w.heap.size + 1 + 1]? = some (.cells #[.int .u64 0, .int .u64 0, .int .u64 0, .int .u64 0] 52 (0, 0)) :=
    (Below.heap_alloc _ _ _ (by simpa using lC)).trans (keep_setM (keep_setM (keep_setM (keep_setM HC1.out (by simp; omega) _) (by simp; omega) _) (by simp; omega) _) (by simp; omega) _)
  have G2 : Fr (fun _ => False) w (((((w1.setCell ⟨w.heap.size, 0, none⟩ (.int .u64 (a0 : Int))).setCell ⟨w.heap.size, 1, none⟩ (.int .u64 (a1 : Int))).setCell ⟨w.heap.size, 2, none⟩ (.int .u64 (a2 : Int))).setCell ⟨w.heap.size, 3, none⟩ (.int .u64 (a3 : Int))).alloc (.cells #[.int .u64 0, .int .u64 0, .int .u64 0, .int .u64 0] 52)) :=
    ((((HG1.out.setCell (Or.inr (by simp)) _).setCell (Or.inr (by simp)) _).setCell (Or.inr (by simp)) _).setCell (Or.inr (by simp)) _).alloc _
  generalize ((((w1.setCell ⟨w.heap.size, 0, none⟩ (.int .u64 (a0 : Int))).setCell ⟨w.heap.size, 1, none⟩ (.int .u64 (a1 : Int))).setCell ⟨w.heap.size, 2, none⟩ (.int .u64 (a2 : Int))).setCell ⟨w.heap.size, 3, none⟩ (.int .u64 (a3 : Int))).alloc (.cells #[.int .u64 0, .int .u64 0, .int .u64 0, .int .u64 0] 52) = W2 at *
  generalize w1.heap.size = T at *
  rw [show (#[.int .u64 0, .int .u64 0, .int .u64 0, .int .u64 0] : Array Value) = nc (tm A Y 256) by rw [tm_256 A Y hY]; rfl] at T2
  clear i0 i1 i2 i3 i4 i5 i6 i7 HA1 HB1 HC1 HG1 zT
  go_loopw [6] (fun i wr => ∃ n : Nat, n ≤ 256 ∧ i = .int .i64 ((n : Int) - 1) ∧ wr.heap[T]? = some (.cells (nc (tm A Y n)) 52 (0, 0)) ∧ wr.heap[w.heap.size]? = some (.cells #[.int .u64 (a0 : Int), .int .u64 (a1 : Int), .int .u64 (a2 : Int), .int .u64 (a3 : Int)] 52 (0, 0)) ∧ wr.heap[w.heap.size + 1]? = some (.cells (uq 4 (dig 18446744073709551616 Y)) 52 (0, 0)) ∧ wr.heap[w.heap.size + 1 + 1]? = some (.cells #[.int .u64 0, .int .u64 0, .int .u64 0, .int .u64 0] 52 (0, 0)) ∧ Fr (fun _ => False) w wr) (fun i _ => (intOf i + 1).toNat)
  case atStart => exact ⟨256, by omega, by simp, T2, A2, B2, C2, G2⟩
  case round =>
    clear T2 A2 B2 C2 G2
    obtain ⟨n, hn, rfl, hT, hAb, hB, hC, hF⟩ := hrel
    by_cases h0 : n = 0
    · subst h0
      obtain ⟨t0, t1, t2, t3, _, _, _, _, _, et⟩ := nc_open (tm A Y 0) (mod_LP _)
      rw [et] at hT
      have HE := Lib.hid et
      obtain ⟨i0, i1, i2, i3, i4, i5, i6, i7⟩ := blk4 hT
      obtain ⟨j0, j1, j2, j3, j4, j5, j6, j7⟩ := blk4 hC
      have HC := Lib.hid hC
      clear et hT hAb hB hC
      rw [show ((0 : Nat) : Int) - 1 = -1 from rfl]
      go_wp2_with fail
      refine bodyPost_ret (results_cell_row rfl _ _ (w.heap.size + 1 + 1) 52 #[.int .u64 (t0 : Int), .int .u64 (t1 : Int), .int .u64 (t2 : Int), .int .u64 (t3 : Int)] (0, 0) _ rfl (set4 HC.out _ _ _ _) Try.underlying52 rfl Try.size4l) rfl ?_
      exact ⟨by rw [HE.out], (((hF.setCell (Or.inr (by simp; omega)) _).setCell (Or.inr (by simp; omega)) _).setCell (Or.inr (by simp; omega)) _).setCell (Or.inr (by simp; omega)) _⟩
    · obtain ⟨m, rfl⟩ : ∃ m, n = m + 1 := ⟨n - 1, by omega⟩
      rw [show ((m + 1 : Nat) : Int) - 1 = (m : Int) by omega]
      have SU := fun (W : World) => ssum_any (tm A Y (m + 1)) (tm A Y (m + 1)) (tm_lt _ _ _) (tm_lt _ _ _) W
      obtain ⟨u, hu⟩ : ∃ u, u = (tm A Y (m + 1) + tm A Y (m + 1)) % LL := ⟨_, rfl⟩
      have hul : u < LL := by rw [hu]; exact mod_LL _
      have SV := fun (W : World) => ssum_any u A hul hA W
      have he := tm_even A Y m
      have ho := tm_odd A Y m hA
      rw [← hu] at SU he ho
      have hbit := bit_dig Y m
      have hz := dig_lt 18446744073709551616 Y (m / 64) (by decide)
      have hq4 : m / 64 < 4 := by omega
      have hr64 : m % 64 < 64 := by omega
      have cB := cell_of_block hB (m / 64)
      rw [uq_get 4 _ _ hq4] at cB
      have hq : ((m : Int)).tdiv 64 = ((m / 64 : Nat) : Int) := by rw [Int.tdiv_eq_ediv_of_nonneg (by omega)]; omega
      have hr : ((m : Int)).tmod 64 = ((m % 64 : Nat) : Int) := by rw [Int.tmod_eq_emod_of_nonneg (by omega)]; omega
      generalize dig 18446744073709551616 Y (m / 64) = z at cB hbit hz
      generalize m / 64 = q at hq hq4 cB
      generalize m % 64 = r at hr hr64 hbit
      have qa : (0 : Int) ≤ (q : Int) := by omega
      have qb : (q : Int) < 4 := by omega
      have ra : (0 : Int) ≤ (r : Int) := by omega
      have rb : (r : Int) ≤ 64 := by omega
      have ma : (0 : Int) ≤ (m : Int) := by omega
      have hsh : (z : Int) / 2 ^ r = ((z / 2 ^ r : Nat) : Int) := by simp
      have hba := bit_and (z / 2 ^ r) (Nat.lt_of_le_of_lt (Nat.div_le_self _ _) hz)
      rw [hbit] at hba
      generalize z / 2 ^ r = y at hsh hba hbit
      have HE := Lib.hid he
      have HO := Lib.hid ho
      clear hbit he ho hu hz
      obtain ⟨t0, t1, t2, t3, _, _, _, _, _, et⟩ := nc_open (tm A Y (m + 1)) (mod_LP _)
      rw [et] at SU hT
      have Et := Lib.hid et
      clear et
      obtain ⟨u0, u1, u2, u3, _, _, _, _, _, eu⟩ := nc_open (u) (Nat.lt_trans hul LL_lt)
      rw [eu] at SU SV
      have Eu := Lib.hid eu
      clear eu
      rw [Ea.out] at SV
      obtain ⟨v0, v1, v2, v3, _, _, _, _, _, ev⟩ := nc_open ((u + A) % LL) (mod_LP _)
      rw [ev] at SV
      have Ev := Lib.hid ev
      clear ev
      obtain ⟨i0, i1, i2, i3, i4, i5, i6, i7⟩ := blk4 hT
      have HB := Lib.hid hB
      have HC := Lib.hid hC
      have HT := Lib.hid hT
      have HA := Lib.hid hAb
      have HF := Lib.hid hF
      clear hB hC hT hAb hF
      go_wp2_with fail
      refine (SU _).mono ?_
      rintro e w3 ⟨rfl, F3⟩
      have T3 := F3.keepM HT.out
      have cB3 := (F3.cellSome (p := ⟨w.heap.size + 1, q, none⟩) (fun h => h) cB)
      obtain ⟨j0, j1, j2, j3, j4, j5, j6, j7⟩ := blk4 T3
      have A3 := F3.keepM HA.out
      obtain ⟨k0, k1, k2, k3, k4, k5, k6, k7⟩ := blk4 A3
      have HT3 := Lib.hid T3
      have HA3 := Lib.hid A3
      have F3' := Lib.hid F3
      clear i0 i1 i2 i3 i4 i5 i6 i7 cB T3 A3 F3 SU
      have z0 : ¬ (w.heap.size = T) := by omega
      have z1 : ¬ (w.heap.size + 1 = T) := by omega
      have z2 : ¬ (w.heap.size + 1 + 1 = T) := by omega
      have KK : ∀ (V : World) (b : Nat) (o : Obj) (x y z t : Value), V.heap[b]? = some o → ¬ (b = T) → ((((V.setCell ⟨T, 0, none⟩ x).setCell ⟨T, 1, none⟩ y).setCell ⟨T, 2, none⟩ z).setCell ⟨T, 3, none⟩ t).heap[b]? = some o :=
        fun V b o x y z t h hne => keep_setM (keep_setM (keep_setM (keep_setM h hne _) hne _) hne _) hne _
      have A4 := KK w3 _ _ (.int .u64 (u0 : Int)) (.int .u64 (u1 : Int)) (.int .u64 (u2 : Int)) (.int .u64 (u3 : Int)) HA3.out z0
      have B4 := KK w3 _ _ (.int .u64 (u0 : Int)) (.int .u64 (u1 : Int)) (.int .u64 (u2 : Int)) (.int .u64 (u3 : Int)) (F3'.out.keepM HB.out) z1
      have C4 := KK w3 _ _ (.int .u64 (u0 : Int)) (.int .u64 (u1 : Int)) (.int .u64 (u2 : Int)) (.int .u64 (u3 : Int)) (F3'.out.keepM HC.out) z2
      have G3 : Fr (fun _ => False) w w3 := HF.out.trans F3'.out (fun _ h => h.elim)
      have G4 : Fr (fun _ => False) w ((((w3.setCell ⟨T, 0, none⟩ (.int .u64 (u0 : Int))).setCell ⟨T, 1, none⟩ (.int .u64 (u1 : Int))).setCell ⟨T, 2, none⟩ (.int .u64 (u2 : Int))).setCell ⟨T, 3, none⟩ (.int .u64 (u3 : Int))) :=
        (((G3.setCell (Or.inr (by show _ ≤ T; omega)) _).setCell (Or.inr (by show _ ≤ T; omega)) _).setCell (Or.inr (by show _ ≤ T; omega)) _).setCell (Or.inr (by show _ ≤ T; omega)) _
      have T4 := set4 HT3.out (.int .u64 (u0 : Int)) (.int .u64 (u1 : Int)) (.int .u64 (u2 : Int)) (.int .u64 (u3 : Int))
      have HH := Lib.hid (And.intro T4 (And.intro A4 (And.intro B4 (And.intro C4 G4))))
      have HKK := Lib.hid KK
      clear T4 A4 B4 C4 G3 G4 z0 z1 z2 KK
      rcases Nat.mod_two_eq_zero_or_one (Y / 2 ^ m) with hb | hb
      · rw [hb] at hba
        have Hb := Lib.hid hb
        clear hb
        go_wp2_with fail
        obtain ⟨T4, A4, B4, C4, G4⟩ := HH.out
        rw [← Eu.out, HE.out Hb.out] at T4
        go_roundw
        case rel => exact ⟨m, by omega, rfl, T4, A4, B4, C4, G4⟩
        case measure => simp [intOf]
      · rw [hb] at hba
        have Hb := Lib.hid hb
        clear hb
        go_wp2_with fail
        obtain ⟨T4, A4, B4, C4, G4⟩ := HH.out
        refine (SV _).mono ?_
        rintro e w4 ⟨rfl, F4⟩
        have T5 := F4.keepM T4
        obtain ⟨n0, n1, n2, n3, n4, n5, n6, n7⟩ := blk4 T5
        have A5 := HKK.out w4 _ _ (.int .u64 (v0 : Int)) (.int .u64 (v1 : Int)) (.int .u64 (v2 : Int)) (.int .u64 (v3 : Int)) (F4.keepM A4) (by omega)
        have B5 := HKK.out w4 _ _ (.int .u64 (v0 : Int)) (.int .u64 (v1 : Int)) (.int .u64 (v2 : Int)) (.int .u64 (v3 : Int)) (F4.keepM B4) (by omega)
        have C5 := HKK.out w4 _ _ (.int .u64 (v0 : Int)) (.int .u64 (v1 : Int)) (.int .u64 (v2 : Int)) (.int .u64 (v3 : Int)) (F4.keepM C4) (by omega)
        have G5 : Fr (fun _ => False) w w4 := G4.trans F4 (fun _ h => h.elim)
        have G6 : Fr (fun _ => False) w ((((w4.setCell ⟨T, 0, none⟩ (.int .u64 (v0 : Int))).setCell ⟨T, 1, none⟩ (.int .u64 (v1 : Int))).setCell ⟨T, 2, none⟩ (.int .u64 (v2 : Int))).setCell ⟨T, 3, none⟩ (.int .u64 (v3 : Int))) :=
          (((G5.setCell (Or.inr (by show _ ≤ T; omega)) _).setCell (Or.inr (by show _ ≤ T; omega)) _).setCell (Or.inr (by show _ ≤ T; omega)) _).setCell (Or.inr (by show _ ≤ T; omega)) _
        have T6 := set4 T5 (.int .u64 (v0 : Int)) (.int .u64 (v1 : Int)) (.int .u64 (v2 : Int)) (.int .u64 (v3 : Int))
        rw [← Ev.out, HO.out Hb.out] at T6
        have HJ := Lib.hid (And.intro T6 (And.intro A5 (And.intro B5 (And.intro C5 G6))))
        clear HH T4 A4 B4 C4 G4 T5 A5 B5 C5 G5 G6 T6 F4 SV j0 j1 j2 j3 j4 j5 j6 j7 k0 k1 k2 k3 k4 k5 k6 k7
        go_wp2_with fail
        go_roundw
        case rel => exact ⟨m, by omega, rfl, HJ.out.1, HJ.out.2.1, HJ.out.2.2.1, HJ.out.2.2.2.1, HJ.out.2.2.2.2⟩
        case measure => simp [intOf]
end Go.Proofs.Ytahnlnflcgehaaa
namespace Go.Proofs.Ytahnlnflcgehaaa
open Go.RowKit
set_option linter.unusedVariables false

/-- The first n values of f as whole numbers. -/
def iq (n : Nat) (f : Nat → Nat) : Array Value := ((List.range n).map fun j => Value.int .i64 (f j : Int)).toArray
theorem iq_size (n : Nat) (f : Nat → Nat) : (iq n f).size = n := by simp [iq]
theorem iq_get (n : Nat) (f : Nat → Nat) (j : Nat) (hj : j < n) : (iq n f)[j]? = some (.int .i64 (f j : Int)) := by simp [iq, hj]
theorem iq_one (n : Nat) (f : Nat → Nat) : (iq n f).all (·.oneCell') = true := by simp [iq, Value.oneCell']
theorem iq_ext {cs : Array Value} {n : Nat} {f : Nat → Nat} (h : cs.size = n) (h2 : ∀ j, j < n → cs[j]? = some (.int .i64 (f j : Int))) : cs = iq n f := by
  apply Array.ext
  · rw [h, iq_size]
  · intro i h3 h4
    have a := h2 i (by omega)
    have b := iq_get n f i (by omega)
    rw [Array.getElem?_eq_getElem h3] at a
    rw [Array.getElem?_eq_getElem h4] at b
    exact (Option.some.inj a).trans (Option.some.inj b).symm
theorem iq_set (n : Nat) (f : Nat → Nat) (i b : Nat) (hi : i < n) : (iq n f).setIfInBounds i (.int .i64 (b : Int)) = iq n (fun j => if j = i then b else f j) := by
  refine iq_ext (by simp [iq_size]) (fun j hj => ?_)
  rw [Array.getElem?_setIfInBounds]
  by_cases h : i = j
  · subst h; simp [iq_size, hj]
  · rw [if_neg h, iq_get n f j hj, if_neg (fun e => h e.symm)]
theorem iq_congr {n : Nat} {f g : Nat → Nat} (h : ∀ j, j < n → f j = g j) : iq n f = iq n g := iq_ext (iq_size n f) (fun j hj => by rw [iq_get n f j hj, h j hj])
/-- A number's sixteen parts. -/
def nd (X : Nat) : Array Value := iq 16 (dig 65536 X)
theorem Try.size16 {f : Nat → Nat} : (Try.prog.info? 53).map (·.size) = some (iq 16 f).size := by
  rw [iq_size]; kernel_rfl
theorem dig_top (B X k : Nat) : X / B ^ k = B * (X / B ^ (k + 1)) + dig B X k := by
  unfold dig
  rw [Nat.pow_succ, ← Nat.div_div_eq_div_mul, Nat.div_add_mod]
theorem cmp_eq (X Y m : Nat) (h : X / 65536 ^ (m + 1) = Y / 65536 ^ (m + 1)) (hd : dig 65536 X m = dig 65536 Y m) : X / 65536 ^ m = Y / 65536 ^ m := by
  rw [dig_top, dig_top 65536 Y, h, hd]
theorem cmp_ne (X Y m : Nat) (h : X / 65536 ^ (m + 1) = Y / 65536 ^ (m + 1)) (hd : dig 65536 X m ≠ dig 65536 Y m) : (X < Y) ↔ dig 65536 X m < dig 65536 Y m := by
  have hp : 0 < 65536 ^ m := Nat.pow_pos (by decide)
  have e1 := dig_top 65536 X m
  have e2 := dig_top 65536 Y m
  have m1 := Nat.div_add_mod X (65536 ^ m)
  have m2 := Nat.div_add_mod Y (65536 ^ m)
  have l1 := Nat.mod_lt X hp
  have l2 := Nat.mod_lt Y hp
  rw [← h] at e2
  constructor
  · intro hlt
    have : X / 65536 ^ m ≤ Y / 65536 ^ m := Nat.div_le_div_right (Nat.le_of_lt hlt)
    omega
  · intro hlt
    have h1 : X / 65536 ^ m + 1 ≤ Y / 65536 ^ m := by omega
    have h2 := Nat.mul_le_mul_left (65536 ^ m) h1
    rw [Nat.mul_add, Nat.mul_one] at h2
    omega

set_option maxRecDepth 100000 in
set_option maxHeartbeats 1600000 in
theorem less_any (X Y : Nat) (hX : X < 65536 ^ 16) (hY : Y < 65536 ^ 16) (w : World) :
    Calls Try.prog 92 #[.agg (nd X), .agg (nd Y)] w fun e w' => e = .returned (.bool (decide (X < Y))) ∧ Fr (fun _ => False) w w' := by
  unfold nd
  go_enter Try.func92, Try.ntmps92
  go_wp2_with fail
  have A0 := heap_alloc2_old w (.cells (iq 16 (dig 65536 X)) 53) (.cells (iq 16 (dig 65536 Y)) 53)
  have B0 := heap_alloc2_new w (.cells (iq 16 (dig 65536 X)) 53) (.cells (iq 16 (dig 65536 Y)) 53)
  have F0 := ((Fr.refl (fun _ => False) w).alloc (.cells (iq 16 (dig 65536 X)) 53)).alloc (.cells (iq 16 (dig 65536 Y)) 53)
  go_loopw [5] (fun i wr => ∃ n : Nat, n ≤ 16 ∧ i = .int .i64 ((n : Int) - 1) ∧ X / 65536 ^ n = Y / 65536 ^ n ∧ wr.heap[w.heap.size]? = some (.cells (iq 16 (dig 65536 X)) 53 (0, 0)) ∧ wr.heap[w.heap.size + 1]? = some (.cells (iq 16 (dig 65536 Y)) 53 (0, 0)) ∧ Fr (fun _ => False) w wr) (fun i _ => (intOf i + 1).toNat)
  case atStart => exact ⟨16, by omega, by simp, by rw [Nat.div_eq_of_lt hX, Nat.div_eq_of_lt hY], A0, B0, F0⟩
  case round =>
    clear A0 B0 F0
    obtain ⟨n, hn, rfl, hxy, hA, hB, hF⟩ := hrel
    by_cases h0 : n = 0
    · subst h0
      rw [Nat.pow_zero, Nat.div_one, Nat.div_one] at hxy
      have hd : decide (X < Y) = false := by simp; omega
      rw [show ((0 : Nat) : Int) - 1 = -1 from rfl]
      have HD := Lib.hid hd
      clear hd hA hB hxy
      go_wp2_with fail
      go_ret
      exact ⟨by rw [HD.out]; rfl, hF⟩
    · obtain ⟨m, rfl⟩ : ∃ m, n = m + 1 := ⟨n - 1, by omega⟩
      rw [show ((m + 1 : Nat) : Int) - 1 = (m : Int) by omega]
      have cA := cell_of_block hA m
      rw [iq_get 16 _ m (by omega)] at cA
      have cB := cell_of_block hB m
      rw [iq_get 16 _ m (by omega)] at cB
      have q0 : (0 : Int) ≤ (m : Int) := by omega
      have q1 : (m : Int) < 16 := by omega
      have he := cmp_eq X Y m hxy
      have hne := cmp_ne X Y m hxy
      generalize dig 65536 X m = x at cA he hne
      generalize dig 65536 Y m = y at cB he hne
      by_cases hd : x = y
      · subst hd
        have HE := Lib.hid (he rfl)
        clear he hne hxy
        go_wp2_with fail
        go_quiet (fail)
        go_wp2_with fail
        go_roundw
        case rel => exact ⟨m, by omega, rfl, HE.out, hA, hB, hF.drewN nq⟩
        case measure => simp [intOf]
      · have hbn : ((x : Int) != (y : Int)) = true := by simp; omega
        have hde : decide (X < Y) = decide (x < y) := by
          rw [decide_eq_decide, hne hd]
        have HDE := Lib.hid hde
        clear he hne hxy hde
        go_wp2_with fail
        go_quiet (fail)
        replace cA : (wr.drewN nq).cell? ⟨w.heap.size, m, none⟩ = some (.int .i64 (x : Int)) := cA
        replace cB : (wr.drewN nq).cell? ⟨w.heap.size + 1, m, none⟩ = some (.int .i64 (y : Int)) := cB
        replace hF := hF.drewN nq
        generalize wr.drewN nq = wq at *
        go_wp2_with fail
        go_quiet (fail)
        go_wp2_with fail
        go_ret
        exact ⟨by rw [HDE.out]; rfl, hF.drewN _⟩
end Go.Proofs.Ytahnlnflcgehaaa
namespace Go.Proofs.Ytahnlnflcgehaaa
open Go.RowKit
set_option linter.unusedVariables false

/-- The first n bytes of a number, the lowest first. -/
def bl (n X : Nat) : List UInt8 := (List.range n).map fun i => UInt8.ofNat (X / 256 ^ i % 256)
theorem bl_length (n X : Nat) : (bl n X).length = n := by simp [bl]
theorem bl_succ (n X : Nat) : bl (n + 1) X = bl n X ++ [UInt8.ofNat (X / 256 ^ n % 256)] := by
  simp [bl, List.range_succ]
theorem byte_toNat (z : Nat) : ((UInt8.ofNat (z % 256)).toNat : Int) = (z : Int) % 256 := by
  rw [UInt8.toNat_ofNat']; omega
theorem byte_word (X i : Nat) : dig 18446744073709551616 X (i / 8) / 2 ^ (8 * (i % 8)) % 256 = X / 256 ^ i % 256 := by
  unfold dig
  obtain ⟨k, hk⟩ : ∃ k, 64 = 8 * (i % 8) + 8 + k := ⟨64 - 8 * (i % 8) - 8, by omega⟩
  have e2 : ∀ z : Nat, z % 18446744073709551616 / 2 ^ (8 * (i % 8)) % 256 = z / 2 ^ (8 * (i % 8)) % 256 := fun z => by
    rw [show (18446744073709551616 : Nat) = 2 ^ (8 * (i % 8)) * 256 * 2 ^ k by rw [show (256 : Nat) = 2 ^ 8 from rfl, ← Nat.pow_add, ← Nat.pow_add, ← hk], Nat.mul_assoc, Nat.mod_mul_right_div_self, Nat.mod_mul_right_mod]
  rw [e2, show (18446744073709551616 : Nat) ^ (i / 8) = 2 ^ (64 * (i / 8)) by rw [show (18446744073709551616 : Nat) = 2 ^ 64 from rfl, ← Nat.pow_mul], Nat.div_div_eq_div_mul, ← Nat.pow_add,
    show 64 * (i / 8) + 8 * (i % 8) = 8 * i by omega, Nat.pow_mul]
theorem byte_part0 (X i : Nat) : dig 65536 X i % 256 = X / 256 ^ (2 * i) % 256 := by
  unfold dig
  rw [show (65536 : Nat) ^ i = 256 ^ (2 * i) by rw [show (65536 : Nat) = 256 ^ 2 from rfl, ← Nat.pow_mul]]
  omega
theorem byte_part1 (X i : Nat) : dig 65536 X i / 256 % 256 = X / 256 ^ (2 * i + 1) % 256 := by
  unfold dig
  rw [show (65536 : Nat) ^ i = 256 ^ (2 * i) by rw [show (65536 : Nat) = 256 ^ 2 from rfl, ← Nat.pow_mul], Nat.pow_succ, ← Nat.div_div_eq_div_mul]
  omega

set_option maxRecDepth 100000 in
set_option maxHeartbeats 1600000 in
theorem raw6_any (X : Nat) (w : World) :
    Calls Try.prog 89 #[.agg (nc X)] w fun e w' => e = .returned (.string ⟨(bl 32 X).toArray⟩) ∧ Fr (fun _ => False) w w' := by
  rw [nc_uq X]
  go_enter Try.func89, Try.ntmps89
  go_wp2_with fail
  have A0 := heap_alloc2_old w (.cells (uq 4 (dig 18446744073709551616 X)) 23) (.cells #[] 5)
  have F0 := ((Fr.refl (fun _ => False) w).alloc (.cells (uq 4 (dig 18446744073709551616 X)) 23)).alloc (.cells #[] 5)
  have own0 : Own ((w.alloc (.cells (uq 4 (dig 18446744073709551616 X)) 23)).alloc (.cells #[] 5)) (w.heap.size + 1) (.slice (some ⟨w.heap.size + 1, 0, none⟩) 0 0) [] := Or.inr ⟨w.heap.size + 1, 0, #[], (0, 0), rfl, Nat.le_refl _, heap_alloc2_new w _ _, Or.inl rfl, Nat.le_refl _, Nat.zero_le _, rfl, rfl⟩
  go_loopw [3, 4] (fun v i wr => ∃ k : Nat, k ≤ 32 ∧ i = .int .i64 k ∧ Own wr (w.heap.size + 1) v (bl k X) ∧ wr.heap[w.heap.size]? = some (.cells (uq 4 (dig 18446744073709551616 X)) 23 (0, 0)) ∧ Fr (fun _ => False) w wr) (fun _ i _ => 32 - (intOf i).toNat)
  case atStart => exact ⟨0, by omega, by simp, own0, A0, F0⟩
  case round =>
    clear own0 A0 F0
    obtain ⟨k, hk, rfl, own, hA, hF⟩ := hrel
    obtain ⟨a2, c2, rfl⟩ := own.slice
    have hl := bl_length k X
    rw [hl] at own ⊢
    by_cases h32 : k < 32
    · have q0 : (0 : Int) ≤ (k : Int) := by omega
      have q1 : (k : Int) < 32 := by omega
      have hq4 : k / 8 < 4 := by omega
      have cA := cell_of_block hA (k / 8)
      rw [uq_get 4 _ _ hq4] at cA
      have hbw := byte_word X k
      have hsucc := bl_succ k X
      rw [← hbw] at hsucc
      have hz := dig_lt 18446744073709551616 X (k / 8) (by decide)
      have hq : ((k : Int)).tdiv 8 = ((k / 8 : Nat) : Int) := by rw [Int.tdiv_eq_ediv_of_nonneg (by omega)]; omega
      have hr : ((k : Int)).tmod 8 = ((k % 8 : Nat) : Int) := by rw [Int.tmod_eq_emod_of_nonneg (by omega)]; omega
      have hr64 : k % 8 < 8 := by omega
      clear hbw
      generalize dig 18446744073709551616 X (k / 8) = z at cA hz hsucc
      generalize k / 8 = q at hq hq4 cA
      generalize hrr : k % 8 = r at hr hr64 hsucc
      obtain ⟨s, hs⟩ : ∃ s, s = 8 * r := ⟨_, rfl⟩
      rw [← hs] at hsucc
      have hs1 : (8 : Int) * (r : Int) = (s : Int) := by omega
      have qa : (0 : Int) ≤ (q : Int) := by omega
      have qb : (q : Int) < 4 := by omega
      have ra : (0 : Int) ≤ (s : Int) := by omega
      have rb : (s : Int) ≤ 64 := by omega
      have hsh : (z : Int) / 2 ^ s = ((z / 2 ^ s : Nat) : Int) := by simp
      have hby := byte_toNat (z / 2 ^ s)
      generalize UInt8.ofNat (z / 2 ^ s % 256) = y at hsucc hby
      generalize z / 2 ^ s = zz at hsh hby
      have own1 := own.fr ((Fr.refl (fun _ => False) wr).alloc (.cells #[.int .u8 ((zz : Int) % 256)] 5)) (fun _ _ h => h)
      have hsrc := src_b1 y (heap_alloc_new wr (.cells #[.int .u8 ((zz : Int) % 256)] 5)) (by rw [hby])
      have F1 := hF.alloc (.cells #[.int .u8 ((zz : Int) % 256)] 5)
      have hz1 : w.heap.size + 1 ≤ (wr.alloc (.cells #[.int .u8 ((zz : Int) % 256)] 5)).heap.size := by have := lt_of_block hA; simp; omega
      have hb1 : (bl k X).length + [y].length ≤ 140737488355328 := by rw [hl]; simp; omega
      have hAlt := lt_of_block hA
      have A1 := (Below.heap_alloc wr (.cells #[.int .u8 ((zz : Int) % 256)] 5) _ hAlt).trans hA
      have own1lt := own1.lt
      have HS := Lib.hid hsucc
      generalize hx0 : bl k X = x0 at *
      clear hs hrr hby hsucc
      go_wp2_with (at_builtin; refine wpList_own _ rfl (.tmp 10) (.tmp 20) 40 rfl (w.heap.size + 1) (.slice a2 k c2) x0 [y] rfl own1 (.slice (some ⟨wr.heap.size, 0, none⟩) 1 1) rfl hsrc hb1 hz1 ?k)
      case k =>
      intro v3 w3 own3 hg3 hb3
      have F3 : Fr (fun _ => False) w w3 := F1.trans (Fr.ofGrown hg3) (fun i hi => Or.inr (by have := (own1lt i hi).1; omega))
      have A3 : w3.heap[w.heap.size]? = some (.cells (uq 4 (dig 18446744073709551616 X)) 23 (0, 0)) := ((Fr.ofGrown hg3).block _ (lt_of_block A1) (fun hi => by have := (own1lt _ hi).1; omega)).trans A1
      rw [← HS.out] at own3
      clear own own1 hsrc hg3 hb3 F1 hF hA A1
      go_wp2
      go_roundw
      case rel => exact ⟨k + 1, by omega, by go_num, own3, A3, F3⟩
      case measure => simp [intOf]; omega
    · obtain rfl : k = 32 := by omega
      obtain ⟨_, _, _, hl7⟩ := own.lies
      have hs7 := run_str hl7 c2 9 Try.underlying9
      have hs8 := hs7
      rw [hl] at hs7
      clear own hl7 hA hl h32 hk
      generalize hbb : bl 32 X = bb at *
      have HBB := Lib.hid hbb
      clear hbb
      rw [show ((32 : Nat) : Int) = 32 from rfl]
      go_wp2_with fail
      go_ret
      exact ⟨by rw [HBB.out]; rfl, hF⟩
set_option maxRecDepth 100000 in
set_option maxHeartbeats 1600000 in
theorem bytes6_any (X : Nat) (w : World) :
    Calls Try.prog 49 #[.agg (nd X)] w fun e w' => e = .returned (.string ⟨(bl 32 X).toArray⟩) ∧ Fr (fun _ => False) w w' := by
  unfold nd
  go_enter Try.func49, Try.ntmps49
  go_wp2_with fail
  have A0 := heap_alloc2_old w (.cells (iq 16 (dig 65536 X)) 53) (.cells #[] 5)
  have F0 := ((Fr.refl (fun _ => False) w).alloc (.cells (iq 16 (dig 65536 X)) 53)).alloc (.cells #[] 5)
  have own0 : Own ((w.alloc (.cells (iq 16 (dig 65536 X)) 53)).alloc (.cells #[] 5)) (w.heap.size + 1) (.slice (some ⟨w.heap.size + 1, 0, none⟩) 0 0) [] := Or.inr ⟨w.heap.size + 1, 0, #[], (0, 0), rfl, Nat.le_refl _, heap_alloc2_new w _ _, Or.inl rfl, Nat.le_refl _, Nat.zero_le _, rfl, rfl⟩
  go_loopw [3, 4] (fun v i wr => ∃ k : Nat, k ≤ 16 ∧ i = .int .i64 k ∧ Own wr (w.heap.size + 1) v (bl (2 * k) X) ∧ wr.heap[w.heap.size]? = some (.cells (iq 16 (dig 65536 X)) 53 (0, 0)) ∧ Fr (fun _ => False) w wr) (fun _ i _ => 16 - (intOf i).toNat)
  case atStart => exact ⟨0, by omega, by simp, own0, A0, F0⟩
  case round =>
    clear own0 A0 F0
    obtain ⟨k, hk, rfl, own, hA, hF⟩ := hrel
    obtain ⟨a2, c2, rfl⟩ := own.slice
    have hl := bl_length (2 * k) X
    rw [hl] at own ⊢
    by_cases h32 : k < 16
    · have q0 : (0 : Int) ≤ (k : Int) := by omega
      have q1 : (k : Int) < 16 := by omega
      have cA := cell_of_block hA k
      rw [iq_get 16 _ _ h32] at cA
      have hsucc : bl (2 * (k + 1)) X = bl (2 * k) X ++ [UInt8.ofNat (dig 65536 X k % 256), UInt8.ofNat (dig 65536 X k / 256 % 256)] := by
        rw [show 2 * (k + 1) = 2 * k + 1 + 1 by omega, bl_succ, bl_succ, byte_part0, byte_part1, List.append_assoc]; rfl
      have hz := dig_lt 65536 X k (by decide)
      generalize dig 65536 X k = z at cA hz hsucc
      have hsh : (z : Int) / 256 = ((z / 256 : Nat) : Int) := by omega
      have hby0 := byte_toNat z
      have hby := byte_toNat (z / 256)
      generalize UInt8.ofNat (z / 256 % 256) = y at hsucc hby
      generalize UInt8.ofNat (z % 256) = y0 at hsucc hby0
      generalize z / 256 = zz at hsh hby
      have own1 := own.fr (((Fr.refl (fun _ => False) wr).drew).alloc (.cells #[.int .u8 ((z : Int) % 256), .int .u8 ((zz : Int) % 256)] 5)) (fun _ _ h => h)
      have hsrc : Src Try.prog 1 40 (.slice (some ⟨wr.heap.size, 0, none⟩) 2 2) [y0, y].length (bv [y0, y]) (wr.drew.alloc (.cells #[.int .u8 ((z : Int) % 256), .int .u8 ((zz : Int) % 256)] 5)) := by
        have := src_block (heap_alloc_new wr.drew (.cells #[.int .u8 ((z : Int) % 256), .int .u8 ((zz : Int) % 256)] 5)) (by simp [Value.oneCell']) 2
        rw [← hby0, ← hby] at this
        rw [← hby0, ← hby]
        exact this
      have F1 := hF.drew.alloc (.cells #[.int .u8 ((z : Int) % 256), .int .u8 ((zz : Int) % 256)] 5)
      have hz1 : w.heap.size + 1 ≤ (wr.drew.alloc (.cells #[.int .u8 ((z : Int) % 256), .int .u8 ((zz : Int) % 256)] 5)).heap.size := by have := lt_of_block hA; simp; omega
      have hb1 : (bl (2 * k) X).length + [y0, y].length ≤ 140737488355328 := by rw [hl]; simp; omega
      have hAlt := lt_of_block hA
      have A1 := (Below.heap_alloc wr.drew (.cells #[.int .u8 ((z : Int) % 256), .int .u8 ((zz : Int) % 256)] 5) _ hAlt).trans hA
      have own1lt := own1.lt
      have HS := Lib.hid hsucc
      generalize hx0 : bl (2 * k) X = x0 at *
      clear hby hby0 hsucc
      have cA2 : ∀ o : Obj, (wr.drew.alloc o).cell? ⟨w.heap.size, k, none⟩ = some (.int .i64 (z : Int)) := fun o => (((Fr.refl (fun _ => False) wr).drew).alloc o).cellSome (p := ⟨w.heap.size, k, none⟩) (fun h => h) cA
      have hne2 : ¬ ((Value.slice a2 (2 * k) c2).ownBlock = some w.heap.size) := fun h => by have := (own1lt _ h).1; omega
      go_wp2_with fail
      go_region_held3 (fun w' => w'.cell? ⟨w.heap.size, k, none⟩ = some (.int .i64 (z : Int)))
        (first | go_keep | (exact cA2 _) | (exact (Fr.ofGrown hg3).cellSome (p := ⟨w.heap.size, k, none⟩) hne2 (cA2 _)))
        ((refine wp_own _ (.tmp 10) (.tmp 20) 40 rfl (w.heap.size + 1) (.slice a2 (2 * k) c2) x0 [y0, y] rfl own1 (.slice (some ⟨wr.heap.size, 0, none⟩) 2 2) rfl hsrc hb1 hz1 ?_; intro v3 w3 own3 hg3 hb3))
      have F3 : Fr (fun _ => False) w w3 := F1.trans (Fr.ofGrown hg3) (fun i hi => Or.inr (by have := (own1lt i hi).1; omega))
      have A3 : w3.heap[w.heap.size]? = some (.cells (iq 16 (dig 65536 X)) 53 (0, 0)) := ((Fr.ofGrown hg3).block _ (lt_of_block A1) (fun hi => by have := (own1lt _ hi).1; omega)).trans A1
      rw [← HS.out] at own3
      clear own own1 hsrc hg3 hb3 F1 hF hA A1
      go_wp2
      go_roundw
      case rel => exact ⟨k + 1, by omega, by go_num, own3, A3, F3⟩
      case measure => simp [intOf]; omega
    · obtain rfl : k = 16 := by omega
      obtain ⟨_, _, _, hl7⟩ := own.lies
      have hs7 := run_str hl7 c2 9 Try.underlying9
      have hs8 := hs7
      rw [hl] at hs7
      clear own hl7 hA hl h32 hk
      generalize hbb : bl (2 * 16) X = bb at *
      have HBB := Lib.hid hbb
      clear hbb
      rw [show ((16 : Nat) : Int) = 16 from rfl]
      go_wp2_with fail
      go_ret
      exact ⟨by rw [HBB.out]; rfl, hF⟩
end Go.Proofs.Ytahnlnflcgehaaa
namespace Go.Proofs.Ytahnlnflcgehaaa
open Go.RowKit
set_option linter.unusedVariables false

theorem z32_bv : (#[.int .u8 0, .int .u8 0, .int .u8 0, .int .u8 0, .int .u8 0, .int .u8 0, .int .u8 0, .int .u8 0, .int .u8 0, .int .u8 0, .int .u8 0, .int .u8 0, .int .u8 0, .int .u8 0, .int .u8 0, .int .u8 0, .int .u8 0, .int .u8 0, .int .u8 0, .int .u8 0, .int .u8 0, .int .u8 0, .int .u8 0, .int .u8 0, .int .u8 0, .int .u8 0, .int .u8 0, .int .u8 0, .int .u8 0, .int .u8 0, .int .u8 0, .int .u8 0] : Array Value) = (bv (List.replicate 32 0)).toArray := by kernel_rfl
theorem bytes_set (R k : Nat) (hk : k < 32) : ((bv (bl k R ++ List.replicate (32 - k) 0)).toArray).setIfInBounds k (.int .u8 ((UInt8.ofNat (R / 256 ^ k % 256)).toNat : Int)) = (bv (bl (k + 1) R ++ List.replicate (32 - (k + 1)) 0)).toArray := by
  apply Array.toList_inj.1
  rw [Array.toList_setIfInBounds]
  apply List.ext_getElem
  · simp [bl_length]; omega
  · intro i h1 h2
    simp [bl_length] at h1 h2
    simp only [List.getElem_set, bv, List.getElem_map, List.getElem_append, bl_length]
    by_cases e : k = i
    · subst e
      simp [bl]
    · rw [if_neg e]
      by_cases e2 : i < k
      · simp [e2, bl, show i < k + 1 by omega]
      · simp [e2, show ¬ i < k + 1 by omega]
theorem bytes_size (l : List UInt8) (h : l.length = 32) : ((bv l).toArray).size = 32 := by simp [h]
theorem Try.sizeB32 (l : List UInt8) (h : l.length = 32) : (Try.prog.info? 36).map (·.size) = some ((bv l).toArray).size := by
  rw [bytes_size l h]; kernel_rfl
theorem bv_oneA (l : List UInt8) : ((bv l).toArray).all (·.oneCell') = true := by
  rw [List.all_toArray, List.all_eq_true]; exact bv_one l
set_option maxRecDepth 100000 in
set_option maxHeartbeats 1600000 in
theorem sbytes_any (X : Nat) (hX : X < 115792089237316195423570985008687907853269984665640564039457584007913129639936) (w : World) :
    Calls Try.prog 40 #[.agg (nc X)] w fun e w' => e = .returned (.agg (bv (bl 32 (X % LL))).toArray) ∧ Fr (fun _ => False) w w' := by
  have RX := fun (W : World) => srest_any X hX W
  generalize hRe : X % LL = R at RX ⊢
  have hR : R < 115792089237316195423570985008687907853269984665640564039457584007913129639936 := by rw [← hRe]; exact mod_LP _
  clear hRe
  obtain ⟨x0, x1, x2, x3, _, _, _, _, _, ex⟩ := nc_open (X) (hX)
  rw [ex] at RX ⊢
  clear ex
  have enq : nc R = uq 4 (dig 18446744073709551616 R) := nc_uq R
  obtain ⟨a0, a1, a2, a3, _, _, _, _, _, ea⟩ := nc_open R hR
  rw [ea] at RX enq
  clear ea hR
  go_enter Try.func40, Try.ntmps40
  go_wp2_with fail
  refine (RX _).mono ?_
  rintro e w1 ⟨rfl, F1⟩
  have A1 : w1.heap[w.heap.size]? = some (.cells #[.int .u64 (x0 : Int), .int .u64 (x1 : Int), .int .u64 (x2 : Int), .int .u64 (x3 : Int)] 52 (0, 0)) := F1.keepM (heap_alloc2_old w _ _)
  have C1 : w1.heap[w.heap.size + 1]? = some (.cells #[.int .u8 0, .int .u8 0, .int .u8 0, .int .u8 0, .int .u8 0, .int .u8 0, .int .u8 0, .int .u8 0, .int .u8 0, .int .u8 0, .int .u8 0, .int .u8 0, .int .u8 0, .int .u8 0, .int .u8 0, .int .u8 0, .int .u8 0, .int .u8 0, .int .u8 0, .int .u8 0, .int .u8 0, .int .u8 0, .int .u8 0, .int .u8 0, .int .u8 0, .int .u8 0, .int .u8 0, .int .u8 0, .int .u8 0, .int .u8 0, .int .u8 0, .int .u8 0] 36 (0, 0)) := F1.keepM (heap_alloc2_new w _ _)
  have G1 : Fr (fun _ => False) w w1 := (((Fr.refl _ w).alloc _).alloc _).trans F1 (fun _ h => h.elim)
  obtain ⟨i0, i1, i2, i3, i4, i5, i6, i7⟩ := blk4 A1
  have HA1 := Lib.hid A1
  have HC1 := Lib.hid C1
  have HG1 := Lib.hid G1
  have ENQ := Lib.hid enq
  clear RX A1 C1 G1 F1 enq
  go_wp2_with fail
  have zT : ((((w1.setCell ⟨w.heap.size, 0, none⟩ (.int .u64 (a0 : Int))).setCell ⟨w.heap.size, 1, none⟩ (.int .u64 (a1 : Int))).setCell ⟨w.heap.size, 2, none⟩ (.int .u64 (a2 : Int))).setCell ⟨w.heap.size, 3, none⟩ (.int .u64 (a3 : Int))).heap.size = w1.heap.size := by simp
  have T2 := heap_alloc_new ((((w1.setCell ⟨w.heap.size, 0, none⟩ (.int .u64 (a0 : Int))).setCell ⟨w.heap.size, 1, none⟩ (.int .u64 (a1 : Int))).setCell ⟨w.heap.size, 2, none⟩ (.int .u64 (a2 : Int))).setCell ⟨w.heap.size, 3, none⟩ (.int .u64 (a3 : Int))) (.cells #[.int .u8 0, .int .u8 0, .int .u8 0, .int .u8 0, .int .u8 0, .int .u8 0, .int .u8 0, .int .u8 0, .int .u8 0, .int .u8 0, .int .u8 0, .int .u8 0, .int .u8 0, .int .u8 0, .int .u8 0, .int .u8 0, .int .u8 0, .int .u8 0, .int .u8 0, .int .u8 0, .int .u8 0, .int .u8 0, .int .u8 0, .int .u8 0, .int .u8 0, .int .u8 0, .int .u8 0, .int .u8 0, .int .u8 0, .int .u8 0, .int .u8 0, .int .u8 0] 36)
  rw [zT] at T2
  have A2 := (Below.heap_alloc _ (.cells #[.int .u8 0, .int .u8 0, .int .u8 0, .int .u8 0, .int .u8 0, .int .u8 0, .int .u8 0, .int .u8 0, .int .u8 0, .int .u8 0, .int .u8 0, .int .u8 0, .int .u8 0, .int .u8 0, .int .u8 0, .int .u8 0, .int .u8 0, .int .u8 0, .int .u8 0, .int .u8 0, .int .u8 0, .int .u8 0, .int .u8 0, .int .u8 0, .int .u8 0, .int .u8 0, .int .u8 0, .int .u8 0, .int .u8 0, .int .u8 0, .int .u8 0, .int .u8 0] 36) _ (lt_of_block (set4 HA1.out _ _ _ _))).trans (set4 HA1.out (.int .u64 (a0 : Int)) (.int .u64 (a1 : Int)) (.int .u64 (a2 : Int)) (.int .u64 (a3 : Int)))
  have lC := lt_of_block HC1.out
  have C2 : (((((w1.setCell ⟨w.heap.size, 0, none⟩ (.int .u64 (a0 : Int))).setCell ⟨w.heap.size, 1, none⟩ (.int .u64 (a1 : Int))).setCell ⟨w.heap.size, 2, none⟩ (.int .u64 (a2 : Int))).setCell ⟨w.heap.size, 3, none⟩ (.int .u64 (a3 : Int))).alloc (.cells #[.int .u8 0, .int .u8 0, .int .u8 0, .int .u8 0, .int .u8 0, .int .u8 0, .int .u8 0, .int .u8 0, .int .u8 0, .int .u8 0, .int .u8 0, .int .u8 0, .int .u8 0, .int .u8 0, .int .u8 0, .int .u8 0, .int .u8 0, .int .u8 0, .int .u8 0, .int .u8 0, .int .u8 0, .int .u8 0, .int .u8 0, .int .u8 0, .int .u8 0, .int .u8 0, .int .u8 0, .int .u8 0, .int .u8 0, .int .u8 0, .int .u8 0, .int .u8 0] 36)).heap[w.heap.size + 1]? = some (.cells #[.int .u8 0, .int .u8 0, .int .u8 0, .int .u8 0, .int .u8 0, .int .u8 0, .int .u8 0, .int .u8 0, .int .u8 0, .int .u8 0, .int .u8 0, .int .u8 0, .int .u8 0, .int .u8 0, .int .u8 0, .int .u8 0, .int .u8 0, .int .u8 0, .int .u8 0, .int .u8 0, .int .u8 0, .int .u8 0, .int .u8 0, .int .u8 0, .int .u8 0, .int .u8 0, .int .u8 0, .int .u8 0, .int .u8 0, .int .u8 0, .int .u8 0, .int .u8 0] 36 (0, 0)) :=
    (Below.heap_alloc _ _ _ (by simpa using lC)).trans (keep_setM (keep_setM (keep_setM (keep_setM HC1.out (by simp) _) (by simp) _) (by simp) _) (by simp) _)
  have G2 : Fr (fun _ => False) w (((((w1.setCell ⟨w.heap.size, 0, none⟩ (.int .u64 (a0 : Int))).setCell ⟨w.heap.size, 1, none⟩ (.int .u64 (a1 : Int))).setCell ⟨w.heap.size, 2, none⟩ (.int .u64 (a2 : Int))).setCell ⟨w.heap.size, 3, none⟩ (.int .u64 (a3 : Int))).alloc (.cells #[.int .u8 0, .int .u8 0, .int .u8 0, .int .u8 0, .int .u8 0, .int .u8 0, .int .u8 0, .int .u8 0, .int .u8 0, .int .u8 0, .int .u8 0, .int .u8 0, .int .u8 0, .int .u8 0, .int .u8 0, .int .u8 0, .int .u8 0, .int .u8 0, .int .u8 0, .int .u8 0, .int .u8 0, .int .u8 0, .int .u8 0, .int .u8 0, .int .u8 0, .int .u8 0, .int .u8 0, .int .u8 0, .int .u8 0, .int .u8 0, .int .u8 0, .int .u8 0] 36)) :=
    ((((HG1.out.setCell (Or.inr (by simp)) _).setCell (Or.inr (by simp)) _).setCell (Or.inr (by simp)) _).setCell (Or.inr (by simp)) _).alloc _
  generalize ((((w1.setCell ⟨w.heap.size, 0, none⟩ (.int .u64 (a0 : Int))).setCell ⟨w.heap.size, 1, none⟩ (.int .u64 (a1 : Int))).setCell ⟨w.heap.size, 2, none⟩ (.int .u64 (a2 : Int))).setCell ⟨w.heap.size, 3, none⟩ (.int .u64 (a3 : Int))).alloc (.cells #[.int .u8 0, .int .u8 0, .int .u8 0, .int .u8 0, .int .u8 0, .int .u8 0, .int .u8 0, .int .u8 0, .int .u8 0, .int .u8 0, .int .u8 0, .int .u8 0, .int .u8 0, .int .u8 0, .int .u8 0, .int .u8 0, .int .u8 0, .int .u8 0, .int .u8 0, .int .u8 0, .int .u8 0, .int .u8 0, .int .u8 0, .int .u8 0, .int .u8 0, .int .u8 0, .int .u8 0, .int .u8 0, .int .u8 0, .int .u8 0, .int .u8 0, .int .u8 0] 36) = W2 at *
  generalize w1.heap.size = T at *
  rw [ENQ.out] at A2
  rw [z32_bv] at T2 C2
  clear i0 i1 i2 i3 i4 i5 i6 i7 HA1 HC1 HG1 zT
  go_loopw [4, 7] (fun i c wr => ∃ k : Nat, k ≤ 32 ∧ c = .int .i64 k ∧ wr.heap[T]? = some (.cells ((bv (bl k R ++ List.replicate (32 - k) 0)).toArray) 36 (0, 0)) ∧ wr.heap[w.heap.size]? = some (.cells (uq 4 (dig 18446744073709551616 R)) 52 (0, 0)) ∧ wr.heap[w.heap.size + 1]? = some (.cells (bv (List.replicate 32 0)).toArray 36 (0, 0)) ∧ Fr (fun _ => False) w wr) (fun _ c _ => 32 - (intOf c).toNat)
  case atStart => exact ⟨0, by omega, by simp, T2, A2, C2, G2⟩
  case round =>
    clear T2 A2 C2 G2
    obtain ⟨k, hk, rfl, hT, hA, hC, hF⟩ := hrel
    by_cases h32 : k < 32
    · have q0 : (0 : Int) ≤ (k : Int) := by omega
      have q1 : (k : Int) < 32 := by omega
      have hq4 : k / 8 < 4 := by omega
      have cA := cell_of_block hA (k / 8)
      rw [uq_get 4 _ _ hq4] at cA
      have cT := cell_of_block hT k
      have cT2 : ∃ v, ((bv (bl k R ++ List.replicate (32 - k) 0)).toArray)[k]? = some v := ⟨_, Array.getElem?_eq_getElem (by simp [bl_length]; omega)⟩
      obtain ⟨vo, hvo⟩ := cT2
      rw [hvo] at cT
      have fT := free_of_block hT k
      have hbw := byte_word R k
      have hset := bytes_set R k h32
      rw [← hbw] at hset
      have hq : ((k : Int)).tdiv 8 = ((k / 8 : Nat) : Int) := by rw [Int.tdiv_eq_ediv_of_nonneg (by omega)]; omega
      have hr : ((k : Int)).tmod 8 = ((k % 8 : Nat) : Int) := by rw [Int.tmod_eq_emod_of_nonneg (by omega)]; omega
      have hr64 : k % 8 < 8 := by omega
      clear hbw hvo
      generalize dig 18446744073709551616 R (k / 8) = z at cA hset
      generalize k / 8 = q at hq hq4 cA
      generalize hrr : k % 8 = r at hr hr64 hset
      obtain ⟨s, hs⟩ : ∃ s, s = 8 * r := ⟨_, rfl⟩
      rw [← hs] at hset
      have hs1 : (r : Int) * 8 = (s : Int) := by omega
      have qa : (0 : Int) ≤ (q : Int) := by omega
      have qb : (q : Int) < 4 := by omega
      have ra : (0 : Int) ≤ (s : Int) := by omega
      have rb : (s : Int) ≤ 64 := by omega
      have hsh : (z : Int) / 2 ^ s = ((z / 2 ^ s : Nat) : Int) := by simp
      have hby := byte_toNat (z / 2 ^ s)
      generalize UInt8.ofNat (z / 2 ^ s % 256) = y at hset hby
      generalize z / 2 ^ s = zz at hsh hby
      have B1 := block_setCell hT k (.int .u8 (y.toNat : Int))
      rw [hset, hby] at B1
      have E1 : Fr (fun i => i = T) wr (wr.setCell ⟨T, k, none⟩ (.int .u8 ((zz : Int) % 256))) := Fr.setCell (S := fun i => i = T) (Fr.refl _ wr) (Or.inl rfl) _
      have E5 := Lib.hid ((E1.block w.heap.size (lt_of_block hA) (by omega)).trans hA)
      have E6 := Lib.hid ((E1.block (w.heap.size + 1) (lt_of_block hC) (by omega)).trans hC)
      have E7 := Lib.hid (hF.setCell (p := ⟨T, k, none⟩) (Or.inr (by show w.heap.size ≤ T; omega)) (.int .u8 ((zz : Int) % 256)))
      have HB := Lib.hid B1
      clear hs hrr hby hset B1 E1 hT hA hC hF
      go_wp2_with fail
      go_roundw
      case rel => exact ⟨k + 1, by omega, by go_num, HB.out, E5.out, E6.out, E7.out⟩
      case measure => simp [intOf]; omega
    · obtain rfl : k = 32 := by omega
      rw [show 32 - 32 = 0 from rfl, List.replicate_zero, List.append_nil] at hT
      have hl := bl_length 32 R
      have s3 := Try.sizeB32 (bl 32 R) hl
      have s1 : ((bv (List.replicate 32 0)).toArray).size = ((bv (bl 32 R)).toArray).size := by rw [bytes_size _ hl, bytes_size _ (by simp)]
      have s2 := bv_oneA (bl 32 R)
      generalize hRR : (bv (bl 32 R)).toArray = RR at *
      have HR := Lib.hid hRR
      generalize (bv (List.replicate 32 0)).toArray = ZZ at *
      clear hA hRR h32 hk hl
      rw [show ((32 : Nat) : Int) = 32 from rfl]
      go_wp2_with (first
        | (with_reducible refine wpList_load_row rfl 36 (.tmp 3) rfl T rfl 36 RR (0, 0) _ hT Try.underlying36 rfl s3 ?_)
        | (with_reducible refine wpList_store_row rfl 36 (.tmp 2) (.tmp 22) rfl (w.heap.size + 1) RR rfl rfl 36 _ hC s3 s1 s2 ?_))
      refine bodyPost_ret (results_cell_row rfl _ _ (w.heap.size + 1) 36 RR (0, 0) _ rfl (setRow_heap _ _ _ _ _ _ hC) Try.underlying36 rfl s3) rfl ?_
      exact ⟨by rw [HR.out], hF.trans (Fr.setRow (S := fun k => k = w.heap.size + 1) (Fr.refl _ _) rfl _) (fun i hi => Or.inr (by omega))⟩
end Go.Proofs.Ytahnlnflcgehaaa
namespace Go.Proofs.Ytahnlnflcgehaaa
open Go.RowKit
set_option linter.unusedVariables false

theorem p16 : (65536 : Nat) ^ 16 = 115792089237316195423570985008687907853269984665640564039457584007913129639936 := by decide
set_option maxRecDepth 100000 in
set_option maxHeartbeats 400000 in
theorem L6_any (w : World) : Calls Try.prog 51 #[] w fun e w' => e = .returned (.agg (nd LL)) ∧ Fr (fun _ => False) w w' := by
  go_enter Try.func51, Try.ntmps51
  go_wp2
  refine bodyPost_ret (results_cell_row rfl _ _ w.heap.size 53 _ (0, 0) _ rfl (heap_alloc_new w _) Try.underlying53 rfl (by show _ = some 16; kernel_rfl)) rfl ?_
  exact ⟨by kernel_rfl, (Fr.refl _ w).alloc _⟩
theorem mask16 (x : Nat) (hx : x < 4611686018427387904) : bits .and .i64 (x : Int) 65535 = ((x % 65536 : Nat) : Int) := by
  have h1 : (BitVec.ofInt 64 (x : Int)).toNat = x := by
    rw [BitVec.ofInt_natCast, BitVec.toNat_ofNat]; exact Nat.mod_eq_of_lt (by omega)
  show IntKind.i64.wrap ((BitVec.ofInt 64 (x : Int) &&& BitVec.ofInt 64 65535).toNat : Int) = _
  rw [BitVec.toNat_and, h1, show (BitVec.ofInt 64 65535).toNat = 2 ^ 16 - 1 from rfl, Nat.and_two_pow_sub_one_eq_mod]
  exact IntWalk.i64_in _ (by omega)
theorem step_set (n : Nat) (f g : Nat → Nat) (k b : Nat) (hk : k < n) (hb : b = f k) : (iq n (fun j => if j < k then f j else g j)).setIfInBounds k (.int .i64 (b : Int)) = iq n (fun j => if j < k + 1 then f j else g j) := by
  rw [iq_set n _ k b hk]
  refine iq_congr (fun j hj => ?_)
  by_cases e : j = k
  · subst e; simp [hb]
  · rw [if_neg e]
    by_cases e2 : j < k
    · rw [if_pos e2, if_pos (by omega)]
    · rw [if_neg e2, if_neg (by omega)]
section
variable {P : Program}
theorem wpList_store_rowR {ops : Array Oper} {rest : List Oper} {o : Oper} {a : Act} {w : World} {Q : Exit → Act → World → Prop} (hgd : o.guard = none) (ty : TypeId) (x y : Operand) (ho : o.op = .store ty x y)
    (g : Nat) (cells : Array Value) (hx : a.eval x = .pointer (some ⟨g, 0, none⟩)) (hy : a.eval y = .agg cells)
    (t : TypeId) (old : Array Value) (hg : w.heap[g]? = some (.cells old t (0, 0))) (hi : (P.info? ty).map (·.size) = some cells.size)
    (hold : old.size = cells.size) (h1 : cells.all (·.oneCell') = true)
    (h : ∀ w2 : World, w2.heap[g]? = some (.cells cells t (0, 0)) → Fr (fun k => k = g) w w2 → wpList P ops Q rest (a.put o.dst undef) w2) : wpList P ops Q (o :: rest) a w :=
  wpList_store_row hgd ty x y ho g cells hx hy t old hg hi hold h1 (h _ (setRow_heap _ _ _ _ _ _ hg) (Fr.setRow (S := fun k => k = g) (Fr.refl _ _) rfl _))
end
theorem z16_size (f : Nat → Nat) : (#[.int .i64 0, .int .i64 0, .int .i64 0, .int .i64 0, .int .i64 0, .int .i64 0, .int .i64 0, .int .i64 0, .int .i64 0, .int .i64 0, .int .i64 0, .int .i64 0, .int .i64 0, .int .i64 0, .int .i64 0, .int .i64 0] : Array Value).size = (iq 16 f).size := by rw [iq_size]; rfl
theorem iq_szs (f g : Nat → Nat) : (iq 16 f).size = (iq 16 g).size := by rw [iq_size, iq_size]
theorem zero16 : (#[.int .i64 0, .int .i64 0, .int .i64 0, .int .i64 0, .int .i64 0, .int .i64 0, .int .i64 0, .int .i64 0, .int .i64 0, .int .i64 0, .int .i64 0, .int .i64 0, .int .i64 0, .int .i64 0, .int .i64 0, .int .i64 0] : Array Value) = iq 16 (fun _ => 0) := by kernel_rfl
set_option maxRecDepth 100000 in
set_option maxHeartbeats 3200000 in
theorem add6_any (X Y : Nat) (hX : X < LL) (hY : Y < LL) (w : World) :
    Calls Try.prog 44 #[.agg (nd X), .agg (nd Y)] w fun e w' => e = .returned (.agg (nd ((X + Y) % LL))) ∧ Fr (fun _ => False) w w' := by
  unfold nd
  have hLP : LL + LL < 65536 ^ 16 := by rw [p16]; decide
  go_enter Try.func44, Try.ntmps44
  go_wp2_with fail
  have A0 : (((w.alloc (.cells (iq 16 (dig 65536 X)) 53)).alloc (.cells (iq 16 (dig 65536 Y)) 53)).alloc (.cells #[.int .i64 0, .int .i64 0, .int .i64 0, .int .i64 0, .int .i64 0, .int .i64 0, .int .i64 0, .int .i64 0, .int .i64 0, .int .i64 0, .int .i64 0, .int .i64 0, .int .i64 0, .int .i64 0, .int .i64 0, .int .i64 0] 53)).heap[w.heap.size]? = some (.cells (iq 16 (dig 65536 X)) 53 (0, 0)) := by
    rw [Below.heap_alloc _ _ _ (by simp; omega), Below.heap_alloc _ _ _ (by simp)]; exact heap_alloc_new w _
  have B0 : (((w.alloc (.cells (iq 16 (dig 65536 X)) 53)).alloc (.cells (iq 16 (dig 65536 Y)) 53)).alloc (.cells #[.int .i64 0, .int .i64 0, .int .i64 0, .int .i64 0, .int .i64 0, .int .i64 0, .int .i64 0, .int .i64 0, .int .i64 0, .int .i64 0, .int .i64 0, .int .i64 0, .int .i64 0, .int .i64 0, .int .i64 0, .int .i64 0] 53)).heap[w.heap.size + 1]? = some (.cells (iq 16 (dig 65536 Y)) 53 (0, 0)) := by
    rw [Below.heap_alloc _ _ _ (by simp)]; exact heap_at _ _ _ _ (by simp)
  have C0 : (((w.alloc (.cells (iq 16 (dig 65536 X)) 53)).alloc (.cells (iq 16 (dig 65536 Y)) 53)).alloc (.cells #[.int .i64 0, .int .i64 0, .int .i64 0, .int .i64 0, .int .i64 0, .int .i64 0, .int .i64 0, .int .i64 0, .int .i64 0, .int .i64 0, .int .i64 0, .int .i64 0, .int .i64 0, .int .i64 0, .int .i64 0, .int .i64 0] 53)).heap[w.heap.size + 1 + 1]? = some (.cells #[.int .i64 0, .int .i64 0, .int .i64 0, .int .i64 0, .int .i64 0, .int .i64 0, .int .i64 0, .int .i64 0, .int .i64 0, .int .i64 0, .int .i64 0, .int .i64 0, .int .i64 0, .int .i64 0, .int .i64 0, .int .i64 0] 53 (0, 0)) := heap_at _ _ _ _ (by simp)
  have F0 : Fr (fun _ => False) w (((w.alloc (.cells (iq 16 (dig 65536 X)) 53)).alloc (.cells (iq 16 (dig 65536 Y)) 53)).alloc (.cells #[.int .i64 0, .int .i64 0, .int .i64 0, .int .i64 0, .int .i64 0, .int .i64 0, .int .i64 0, .int .i64 0, .int .i64 0, .int .i64 0, .int .i64 0, .int .i64 0, .int .i64 0, .int .i64 0, .int .i64 0, .int .i64 0] 53)) := (((Fr.refl _ w).alloc _).alloc _).alloc _
  rw [zero16] at C0
  have A0' := A0
  rw [show iq 16 (dig 65536 X) = iq 16 (fun j => if j < 0 then dig 65536 (X + Y) j else dig 65536 X j) from rfl] at A0'
  go_loopw [5, 6] (fun c i wr => ∃ k : Nat, k ≤ 16 ∧ i = .int .i64 k ∧ c = .int .i64 (cry 65536 X Y k : Nat) ∧ wr.heap[w.heap.size]? = some (.cells (iq 16 (fun j => if j < k then dig 65536 (X + Y) j else dig 65536 X j)) 53 (0, 0)) ∧ wr.heap[w.heap.size + 1]? = some (.cells (iq 16 (dig 65536 Y)) 53 (0, 0)) ∧ wr.heap[w.heap.size + 1 + 1]? = some (.cells (iq 16 (fun _ => 0)) 53 (0, 0)) ∧ Fr (fun _ => False) w wr) (fun _ i _ => 16 - (intOf i).toNat)
  case atStart => exact ⟨0, by omega, by simp, by simp [cry_zero], A0', B0, C0, F0⟩
  case round =>
    clear A0 A0' B0 C0 F0
    obtain ⟨k, hk, rfl, rfl, hA, hB, hC, hF⟩ := hrel
    by_cases h16 : k < 16
    · have q0 : (0 : Int) ≤ (k : Int) := by omega
      have q1 : (k : Int) < 16 := by omega
      have c0 := cell_of_block hA k
      rw [iq_get 16 _ k h16, if_neg (by omega)] at c0
      have c1 := cell_of_block hB k
      rw [iq_get 16 _ k h16] at c1
      have f0 := free_of_block hA k
      have hcl := cry_le 65536 X Y k (by decide)
      have hs := cry_succ 65536 X Y k (by decide)
      have hd := dig_add 65536 X Y k (by decide)
      have hx := dig_lt 65536 X k (by decide)
      have hy := dig_lt 65536 Y k (by decide)
      generalize dig 65536 X k = x at c0 hs hd hx
      generalize dig 65536 Y k = y at c1 hs hd hy
      generalize cry 65536 X Y k = c at hcl hs hd ⊢
      obtain ⟨s, hse⟩ : ∃ s, s = x + y + c := ⟨_, rfl⟩
      rw [← hse] at hs hd
      have e1 : IntKind.i64.wrap ((x : Int) + (y : Int)) = (x : Int) + (y : Int) := IntWalk.i64_in _ (by omega)
      have e2 : IntKind.i64.wrap ((x : Int) + (y : Int) + (c : Int)) = (s : Int) := by rw [IntWalk.i64_in _ (by omega)]; omega
      have e2' : (x : Int) + (y : Int) + (c : Int) = (s : Int) := by omega
      have e3 := mask16 s (by omega)
      have e4 : (s : Int) / 65536 = ((s / 65536 : Nat) : Int) := by omega
      rw [← hd] at e3
      rw [← hs] at e4
      have xb : (x : Int) < 65536 := by omega
      have yb : (y : Int) < 65536 := by omega
      generalize hz : dig 65536 (X + Y) k = z at e3
      generalize hc2 : cry 65536 X Y (k + 1) = c2 at e4
      have HC2 := Lib.hid hc2
      have HZ := Lib.hid hz
      have hA2 := Lib.hid hA
      have hB2 := Lib.hid hB
      have hC2 := Lib.hid hC
      have hF2 := Lib.hid hF
      clear hs hd hse hz hc2 hA hB hC hF
      go_wp2_with fail
      go_quiet (fail)
      have hA : (wr.drewN nq).heap[w.heap.size]? = _ := hA2.out
      have hB : (wr.drewN nq).heap[w.heap.size + 1]? = _ := hB2.out
      have hC : (wr.drewN nq).heap[w.heap.size + 1 + 1]? = _ := hC2.out
      have hF := hF2.out.drewN nq
      replace c0 : (wr.drewN nq).cell? ⟨w.heap.size, k, none⟩ = some (.int .i64 (x : Int)) := c0
      replace f0 : (wr.drewN nq).frozen? ⟨w.heap.size, k, none⟩ = false := f0
      clear hA2 hB2 hC2 hF2 c1
      generalize wr.drewN nq = wq at *
      have hst := block_setCell hA k (.int .i64 (z : Int))
      rw [step_set 16 (dig 65536 (X + Y)) _ k _ h16 HZ.out.symm] at hst
      have HS := Lib.hid hst
      have E1 : Fr (fun i => i = w.heap.size) wq (wq.setCell ⟨w.heap.size, k, none⟩ (.int .i64 (z : Int))) := Fr.setCell (S := fun i => i = w.heap.size) (Fr.refl _ wq) (Or.inl rfl) _
      have E2 : Fr (fun _ => False) w (wq.setCell ⟨w.heap.size, k, none⟩ (.int .i64 (z : Int))) := hF.setCell (Or.inr (Nat.le_refl _)) _
      have E5 := Lib.hid ((E1.block (w.heap.size + 1) (lt_of_block hB) (by omega)).trans hB)
      have E6 := Lib.hid ((E1.block (w.heap.size + 1 + 1) (lt_of_block hC) (by omega)).trans hC)
      clear hst hA hB hC hF E1
      go_wp2_with fail
      go_roundw
      case rel => exact ⟨k + 1, by omega, by go_num, by rw [HC2.out], HS.out, E5.out, E6.out, E2⟩
      case measure => simp [intOf]; omega
    · obtain rfl : k = 16 := by omega
      rw [show (iq 16 (fun j => if j < 16 then dig 65536 (X + Y) j else dig 65536 X j)) = iq 16 (dig 65536 (X + Y)) from iq_congr (fun j hj => by rw [if_pos hj])] at hA
      have hZ : (X + Y) < 65536 ^ 16 := by omega
      have LC := fun W : World => L6_any W
      have LE := fun W : World => less_any (X + Y) LL hZ (by rw [p16]; decide) W
      unfold nd at LC LE
      have HA := Lib.hid hA
      have HB := Lib.hid hB
      have HC := Lib.hid hC
      have HF := Lib.hid hF
      clear hA hB hC hF
      rw [show ((16 : Nat) : Int) = 16 from rfl]
      go_wp2_with fail
      refine (LC _).mono ?_
      rintro e w1 ⟨rfl, F1⟩
      have A1 := (F1.block _ (lt_of_block HA.out) (fun h => h)).trans HA.out
      have C1 := (F1.block _ (lt_of_block HC.out) (fun h => h)).trans HC.out
      have G1 : Fr (fun _ => False) w w1 := HF.out.trans F1 (fun _ h => h.elim)
      have s1 := z16_size (dig 65536 LL)
      have s2 := iq_one 16 (dig 65536 LL)
      have s3 := Try.size16 (f := dig 65536 LL)
      have z1 := lt_of_block A1
      have z2 := lt_of_block C1
      clear F1 LC HA HB HC HF
      go_wp2_with (with_reducible refine wpList_store_rowR rfl 53 (.tmp 8) (.tmp 31) rfl w1.heap.size (iq 16 (dig 65536 LL)) rfl rfl 53 _ (heap_alloc_new w1 _) s3 s1 s2 ?k)
      case k =>
      intro w2 L2 hG2
      have A2 := (hG2.block _ (by simp; omega) (by omega)).trans ((Below.heap_alloc _ _ _ z1).trans A1)
      have C2 := (hG2.block _ (by simp; omega) (by omega)).trans ((Below.heap_alloc _ _ _ z2).trans C1)
      have G2 : Fr (fun _ => False) w w2 := (G1.alloc _).trans hG2 (fun i hi => Or.inr (by have := G1.size; omega))
      have t3 := Try.size16 (f := dig 65536 (X + Y))
      clear A1 C1 G1 hG2 s1 s2
      generalize w1.heap.size = T at *
      by_cases hlt : (X + Y) < LL
      · have hdec : decide ((X + Y) < LL) = true := decide_eq_true hlt
        rw [hdec] at LE
        have HR := Lib.hid (show dig 65536 ((X + Y) % LL) = dig 65536 (X + Y) by rw [Nat.mod_eq_of_lt hlt])
        go_wp2_with (first
          | (with_reducible refine wpList_load_row rfl 53 (.tmp 2) rfl w.heap.size rfl 53 (iq 16 (dig 65536 (X + Y))) (0, 0) _ A2 Try.underlying53 rfl t3 ?_)
          | (with_reducible refine wpList_load_row rfl 53 (.tmp 8) rfl T rfl 53 (iq 16 (dig 65536 LL)) (0, 0) _ L2 Try.underlying53 rfl s3 ?_))
        refine (LE _).mono ?_
        rintro e w3 ⟨rfl, F3⟩
        have A3 := (F3.block _ (lt_of_block A2) (fun h => h)).trans A2
        have C3 := (F3.block _ (lt_of_block C2) (fun h => h)).trans C2
        have G3 : Fr (fun _ => False) w w3 := G2.trans F3 (fun _ h => h.elim)
        have s1 := iq_szs (fun _ => 0) (dig 65536 (X + Y))
        have s2 := iq_one 16 (dig 65536 (X + Y))
        clear A2 C2 L2 G2 F3 LE
        go_wp2_with (first
          | (with_reducible refine wpList_load_row rfl 53 (.tmp 2) rfl w.heap.size rfl 53 (iq 16 (dig 65536 (X + Y))) (0, 0) _ A3 Try.underlying53 rfl t3 ?_)
          | (with_reducible refine wpList_store_row rfl 53 (.tmp 4) (.tmp 35) rfl (w.heap.size + 1 + 1) (iq 16 (dig 65536 (X + Y))) rfl rfl 53 _ C3 t3 s1 s2 ?_))
        refine bodyPost_ret (results_cell_row rfl _ _ (w.heap.size + 1 + 1) 53 (iq 16 (dig 65536 (X + Y))) (0, 0) _ rfl (setRow_heap _ _ _ _ _ _ C3) Try.underlying53 rfl t3) rfl ?_
        exact ⟨by rw [HR.out], G3.trans (Fr.setRow (S := fun k => k = w.heap.size + 1 + 1) (Fr.refl _ _) rfl _) (fun i hi => Or.inr (by omega))⟩
      · have hdec : decide ((X + Y) < LL) = false := decide_eq_false hlt
        rw [hdec] at LE
        go_wp2_with (first
          | (with_reducible refine wpList_load_row rfl 53 (.tmp 2) rfl w.heap.size rfl 53 (iq 16 (dig 65536 (X + Y))) (0, 0) _ A2 Try.underlying53 rfl t3 ?_)
          | (with_reducible refine wpList_load_row rfl 53 (.tmp 8) rfl T rfl 53 (iq 16 (dig 65536 LL)) (0, 0) _ L2 Try.underlying53 rfl s3 ?_))
        refine (LE _).mono ?_
        rintro e w3 ⟨rfl, F3⟩
        have A3 := (F3.block _ (lt_of_block A2) (fun h => h)).trans A2
        have C3 := (F3.block _ (lt_of_block C2) (fun h => h)).trans C2
        have L3 := (F3.block _ (lt_of_block L2) (fun h => h)).trans L2
        have G3 : Fr (fun _ => False) w w3 := G2.trans F3 (fun _ h => h.elim)
        clear A2 C2 L2 G2 F3 LE
        have hge : LL ≤ (X + Y) := by omega
        have A3' : w3.heap[w.heap.size]? = some (.cells (iq 16 (fun j => if j < 0 then dig 65536 (X + Y + 65536 ^ 16 - LL) j else dig 65536 (X + Y) j)) 53 (0, 0)) := A3
        have hTn := lt_of_block L3
        go_wp2_with fail
        go_loopw [9, 10] (fun u i wr => ∃ k : Nat, k ≤ 16 ∧ i = .int .i64 k ∧ u = .int .i64 (lck 65536 (X + Y) LL k : Nat) ∧ wr.heap[w.heap.size]? = some (.cells (iq 16 (fun j => if j < k then dig 65536 (X + Y + 65536 ^ 16 - LL) j else dig 65536 (X + Y) j)) 53 (0, 0)) ∧ wr.heap[T]? = some (.cells (iq 16 (dig 65536 LL)) 53 (0, 0)) ∧ wr.heap[w.heap.size + 1 + 1]? = some (.cells (iq 16 (fun _ => 0)) 53 (0, 0)) ∧ Fr (fun _ => False) w wr) (fun _ i _ => 16 - (intOf i).toNat)
        case atStart => exact ⟨0, by omega, by simp, by simp [lck_zero], A3', L3, C3, G3⟩
        case round =>
          clear A3 A3' L3 C3 G3
          obtain ⟨k, hk, rfl, rfl, hA, hB, hC, hF⟩ := hrel
          by_cases h16 : k < 16
          · have q0 : (0 : Int) ≤ (k : Int) := by omega
            have q1 : (k : Int) < 16 := by omega
            have c0 := cell_of_block hA k
            rw [iq_get 16 _ k h16, if_neg (by omega)] at c0
            have c1 := cell_of_block hB k
            rw [iq_get 16 _ k h16] at c1
            have f0 := free_of_block hA k
            have hcl := lck_le 65536 (X + Y) LL k
            have hs := lck_succ 65536 (X + Y) LL k (by decide)
            have hd := dig_sub 65536 (X + Y) LL 16 k (by decide) h16 (by omega)
            have hx := dig_lt 65536 (X + Y) k (by decide)
            have hy := dig_lt 65536 LL k (by decide)
            generalize dig 65536 (X + Y) k = x at c0 hs hd hx
            generalize dig 65536 LL k = y at c1 hs hd hy
            generalize lck 65536 (X + Y) LL k = c at hcl hs hd ⊢
            have e1 : IntKind.i64.wrap ((x : Int) - (y : Int)) = (x : Int) - (y : Int) := IntWalk.i64_in _ (by omega)
            have e2 : IntKind.i64.wrap ((x : Int) - (y : Int) - (c : Int)) = (x : Int) - (y : Int) - (c : Int) := IntWalk.i64_in _ (by omega)
            have e3 : IntKind.i64.wrap ((x : Int) - (y : Int) - (c : Int) + 65536) = (x : Int) - (y : Int) - (c : Int) + 65536 := IntWalk.i64_in _ (by omega)
            have xb : (x : Int) < 65536 := by omega
            have yb : (y : Int) < 65536 := by omega
            have hst := block_setCell hA k (.int .i64 ((dig 65536 (X + Y + 65536 ^ 16 - LL) k : Nat) : Int))
            rw [step_set 16 (dig 65536 (X + Y + 65536 ^ 16 - LL)) _ k _ h16 rfl] at hst
            have hv : ((dig 65536 (X + Y + 65536 ^ 16 - LL) k : Nat) : Int) = if x < y + c then (x : Int) - (y : Int) - (c : Int) + 65536 else (x : Int) - (y : Int) - (c : Int) := by
              rw [hd]; split <;> omega
            have E1 : ∀ v : Value, Fr (fun i => i = w.heap.size) wr (wr.setCell ⟨w.heap.size, k, none⟩ v) := fun v => Fr.setCell (S := fun i => i = w.heap.size) (Fr.refl _ wr) (Or.inl rfl) _
            have E5 := Lib.hid (fun v => ((E1 v).block T (lt_of_block hB) (by omega)).trans hB)
            have E6 := Lib.hid (fun v => ((E1 v).block (w.heap.size + 1 + 1) (lt_of_block hC) (by omega)).trans hC)
            have HFF := Lib.hid hF
            have HS := Lib.hid hst
            have HV := Lib.hid hv
            have HL := Lib.hid hs
            by_cases hlt2 : x < y + c
            · have hneg : (x : Int) - (y : Int) - (c : Int) < 0 := by omega
              clear hs hd hst hv E1 hA hB hC hF
              go_wp2_with fail
              go_quiet (fail)
              replace c0 : (wr.drewN nq).cell? ⟨w.heap.size, k, none⟩ = some (.int .i64 (x : Int)) := c0
              replace f0 : (wr.drewN nq).frozen? ⟨w.heap.size, k, none⟩ = false := f0
              go_wp2_with fail
              go_roundw
              case rel =>
                refine ⟨k + 1, by omega, by go_num, by rw [HL.out, if_pos hlt2]; rfl, ?_, E5.out _, E6.out _, (HFF.out.drewN nq).setCell (Or.inr (Nat.le_refl _)) _⟩
                have h1 := HS.out
                rw [HV.out, if_pos hlt2] at h1
                exact h1
              case measure => simp [intOf]; omega
            · obtain ⟨d, hdd⟩ : ∃ d : Nat, (x : Int) - (y : Int) - (c : Int) = (d : Int) := ⟨x - y - c, by omega⟩
              rw [hdd] at e2 e3
              replace hv := HV.out
              rw [if_neg hlt2, hdd] at hv
              have HV2 := Lib.hid hv
              have d1 : decide ((d : Int) < 0) = false := by simp
              have d0 : (0 : Int) ≤ (d : Int) := by omega
              clear hs hd hst hv E1 hA hB hC hF e3 e1 hcl hx hy
              go_wp2_with fail
              go_quiet (fail)
              replace c0 : (wr.drewN nq).cell? ⟨w.heap.size, k, none⟩ = some (.int .i64 (x : Int)) := c0
              replace f0 : (wr.drewN nq).frozen? ⟨w.heap.size, k, none⟩ = false := f0
              clear hdd e2 c1 xb yb
              go_wp2_with fail
              go_roundw
              case rel =>
                refine ⟨k + 1, by omega, by go_num, by rw [HL.out, if_neg hlt2]; rfl, ?_, E5.out _, E6.out _, (HFF.out.drewN nq).setCell (Or.inr (Nat.le_refl _)) _⟩
                have h1 := HS.out
                rw [HV2.out] at h1
                exact h1
              case measure => simp [intOf]; omega
          · obtain rfl : k = 16 := by omega
            rw [show (iq 16 (fun j => if j < 16 then dig 65536 (X + Y + 65536 ^ 16 - LL) j else dig 65536 (X + Y) j)) = iq 16 (dig 65536 ((X + Y) % LL)) from iq_congr (fun j hj => by
              have e : (X + Y + 65536 ^ 16 - LL) % 65536 ^ 16 = (X + Y) % LL := by
                rw [Nat.mod_eq_sub_mod hge, Nat.mod_eq_of_lt (a := X + Y - LL) (by omega), show (X + Y + 65536 ^ 16 - LL) = (X + Y - LL) + 65536 ^ 16 by omega, Nat.add_mod_right, Nat.mod_eq_of_lt (by omega)]
              rw [if_pos hj, ← dig_of_mod 65536 (X + Y + 65536 ^ 16 - LL) 16 j hj, e])] at hA
            have t4 := Try.size16 (f := dig 65536 ((X + Y) % LL))
            have s1 := iq_szs (fun _ => 0) (dig 65536 ((X + Y) % LL))
            have s2 := iq_one 16 (dig 65536 ((X + Y) % LL))
            rw [show ((16 : Nat) : Int) = 16 from rfl]
            go_wp2_with (first
              | (with_reducible refine wpList_load_row rfl 53 (.tmp 2) rfl w.heap.size rfl 53 (iq 16 (dig 65536 ((X + Y) % LL))) (0, 0) _ hA Try.underlying53 rfl t4 ?_)
              | (with_reducible refine wpList_store_row rfl 53 (.tmp 4) (.tmp 56) rfl (w.heap.size + 1 + 1) (iq 16 (dig 65536 ((X + Y) % LL))) rfl rfl 53 _ hC t4 s1 s2 ?_))
            refine bodyPost_ret (results_cell_row rfl _ _ (w.heap.size + 1 + 1) 53 (iq 16 (dig 65536 ((X + Y) % LL))) (0, 0) _ rfl (setRow_heap _ _ _ _ _ _ hC) Try.underlying53 rfl t4) rfl ?_
            exact ⟨rfl, hF.trans (Fr.setRow (S := fun k => k = w.heap.size + 1 + 1) (Fr.refl _ _) rfl _) (fun i hi => Or.inr (by omega))⟩
end Go.Proofs.Ytahnlnflcgehaaa
namespace Go.Proofs.Ytahnlnflcgehaaa
open Go.RowKit
set_option linter.unusedVariables false

theorem ov_le (g : Nat → Nat) (c : Nat) : ∀ n, (∀ j, j < n → g j < c) → ov 65536 g n ≤ c
  | 0, _ => by rw [ov_zero]; omega
  | n + 1, h => by
    have := ov_le g c n (fun j hj => h j (by omega))
    have := h n (by omega)
    rw [ov_succ _ _ _ (by decide)]
    omega
theorem val_le (g : Nat → Nat) (c : Nat) (h : ∀ j, j < 16 → g j < c) : val 65536 g 16 < (c + 1) * 115792089237316195423570985008687907853269984665640564039457584007913129639936 := by
  have h1 := ov_le g c 16 h
  unfold ov at h1
  rw [b16] at h1
  omega
theorem rpart_le (g : Nat → Nat) (c : Nat) (h : ov 65536 g 16 ≤ c) (j : Nat) : rpart g j < 65536 + 38 * c + 1 := by
  unfold rpart
  have := dig_lt 65536 (val 65536 g 16) j (by decide)
  split <;> omega
/-- The parts behind so many rounds. -/
def rit (g : Nat → Nat) : Nat → Nat → Nat
  | 0 => g
  | r + 1 => rpart (rit g r)
theorem rit_bd (g : Nat → Nat) (h : ∀ j, j < 16 → g j < 70368744177664) (r : Nat) (hr : r < 3) (j : Nat) (hj : j < 16) : rit g r j < 4503599627370496 := by
  have o0 := ov_le g 70368744177664 16 h
  have v0 := val_le g 70368744177664 h
  rcases r with _ | _ | _ | r
  · have := h j hj; show g j < _; omega
  · have := rpart_le g _ o0 j; show rpart g j < _; omega
  · have e : ov 65536 (rpart g) 16 ≤ 1 := by
      unfold ov
      rw [val_rpart, b16]
      unfold rnd
      omega
    have := rpart_le (rpart g) _ e j
    show rpart (rpart g) j < _
    omega
  · omega
theorem Try.sizeV {f : Nat → Nat} : (Try.prog.info? 26).map (·.size) = some (iq 16 f).size := by
  rw [iq_size]; kernel_rfl
theorem rpart_set (f : Nat → Nat) (V c : Nat) (hV : val 65536 f 16 = V) (hc : ov 65536 f 16 = c) : iq 16 (rpart f) = (iq 16 (fun j => if j < 16 then dig 65536 V j else f j)).setIfInBounds 0 (.int .i64 ((dig 65536 V 0 + 38 * c : Nat) : Int)) := by
  rw [iq_set 16 _ 0 _ (by omega)]
  refine iq_congr (fun j hj => ?_)
  unfold rpart
  rw [hV, hc]
  by_cases e : j = 0
  · rw [if_pos e, if_pos e, e]
  · rw [if_neg e, if_neg e, if_pos hj, Nat.add_zero]
set_option maxRecDepth 100000 in
set_option maxHeartbeats 3200000 in
theorem carry_any (g : Nat → Nat) (h : ∀ j, j < 16 → g j < 70368744177664) (w : World) :
    Calls Try.prog 109 #[.agg (iq 16 g)] w fun e w' => e = .returned (.agg (nd (rnd (rnd (rnd (val 65536 g 16)))))) ∧ Fr (fun _ => False) w w' := by
  have hend : iq 16 (rit g 3) = nd (rnd (rnd (rnd (val 65536 g 16)))) := by
    have := val_le g 70368744177664 h
    exact iq_congr (fun j hj => rnd3_dig g (by omega) j hj)
  rw [← hend]
  have HBD := Lib.hid (rit_bd g h)
  clear hend h
  have A0 := heap_alloc2_old w (.cells (iq 16 g) 26) (.cells #[.int .i64 0, .int .i64 0, .int .i64 0, .int .i64 0, .int .i64 0, .int .i64 0, .int .i64 0, .int .i64 0, .int .i64 0, .int .i64 0, .int .i64 0, .int .i64 0, .int .i64 0, .int .i64 0, .int .i64 0, .int .i64 0] 26)
  have B0 := heap_alloc2_new w (.cells (iq 16 g) 26) (.cells #[.int .i64 0, .int .i64 0, .int .i64 0, .int .i64 0, .int .i64 0, .int .i64 0, .int .i64 0, .int .i64 0, .int .i64 0, .int .i64 0, .int .i64 0, .int .i64 0, .int .i64 0, .int .i64 0, .int .i64 0, .int .i64 0] 26)
  have F0 : Fr (fun _ => False) w ((w.alloc (.cells (iq 16 g) 26)).alloc (.cells #[.int .i64 0, .int .i64 0, .int .i64 0, .int .i64 0, .int .i64 0, .int .i64 0, .int .i64 0, .int .i64 0, .int .i64 0, .int .i64 0, .int .i64 0, .int .i64 0, .int .i64 0, .int .i64 0, .int .i64 0, .int .i64 0] 26)) := ((Fr.refl _ w).alloc _).alloc _
  go_enter Try.func109, Try.ntmps109
  go_wp2_with fail
  go_loopw [3, 4, 5, 6] (fun r _ _ _ wr => ∃ n : Nat, n ≤ 3 ∧ r = .int .i64 n ∧ wr.heap[w.heap.size]? = some (.cells (iq 16 (rit g n)) 26 (0, 0)) ∧ wr.heap[w.heap.size + 1]? = some (.cells #[.int .i64 0, .int .i64 0, .int .i64 0, .int .i64 0, .int .i64 0, .int .i64 0, .int .i64 0, .int .i64 0, .int .i64 0, .int .i64 0, .int .i64 0, .int .i64 0, .int .i64 0, .int .i64 0, .int .i64 0, .int .i64 0] 26 (0, 0)) ∧ Fr (fun _ => False) w wr) (fun r _ _ _ _ => 3 - (intOf r).toNat)
  case atStart => exact ⟨0, by omega, by simp, A0, B0, F0⟩
  case round =>
    clear A0 B0 F0
    obtain ⟨n, hn, rfl, hA, hB, hF⟩ := hrel
    by_cases h3 : n < 3
    · have hbd := HBD.out n h3
      have HR := Lib.hid (show rpart (rit g n) = rit g (n + 1) from rfl)
      generalize rit g n = f at *
      have A1 : wr.heap[w.heap.size]? = some (.cells (iq 16 (fun j => if j < 0 then dig 65536 (val 65536 f 16) j else f j)) 26 (0, 0)) := by simpa using hA
      have HO := Lib.hid (ov_le f 4503599627370496)
      have HB := Lib.hid hbd
      have hlt : decide ((n : Int) < 3) = true := by simp; omega
      clear hA hbd
      go_wp2_with fail
      clear hlt
      obtain ⟨wo, rfl⟩ : ∃ wo : World, wo = wr := ⟨_, rfl⟩
      go_loopw [4, 5, 6] (fun o i _ wi => ∃ k : Nat, k ≤ 16 ∧ i = .int .i64 k ∧ o = .int .i64 (ov 65536 f k : Nat) ∧ wi.heap[w.heap.size]? = some (.cells (iq 16 (fun j => if j < k then dig 65536 (val 65536 f 16) j else f j)) 26 (0, 0)) ∧ wi.heap[w.heap.size + 1]? = some (.cells #[.int .i64 0, .int .i64 0, .int .i64 0, .int .i64 0, .int .i64 0, .int .i64 0, .int .i64 0, .int .i64 0, .int .i64 0, .int .i64 0, .int .i64 0, .int .i64 0, .int .i64 0, .int .i64 0, .int .i64 0, .int .i64 0] 26 (0, 0)) ∧ Fr (fun _ => False) w wi) (fun _ i _ _ => 16 - (intOf i).toNat)
      case atStart => exact ⟨0, by omega, by simp, by simp [ov_zero], A1, hB, hF⟩
      case round =>
        clear A1 hB hF
        obtain ⟨k, hk, rfl, rfl, hA, hB, hF⟩ := hrel
        by_cases h16 : k < 16
        · as_aux_lemma =>
          have q0 : (0 : Int) ≤ (k : Int) := by omega
          have q1 : (k : Int) < 16 := by omega
          have c0 := cell_of_block hA k
          rw [iq_get 16 _ k h16, if_neg (by omega)] at c0
          have f0 := free_of_block hA k
          have hx := HB.out k h16
          have hc := HO.out k (fun j hj => HB.out j (by omega))
          have hs := ov_succ 65536 f k (by decide)
          have hd := dig_val 65536 f 16 k (by decide) h16
          have hst := fun m hm => block_setCell hA k (.int .i64 ((m : Nat) : Int)) |>.trans (by rw [step_set 16 (dig 65536 (val 65536 f 16)) _ k m h16 hm])
          generalize f k = x at c0 hs hd hx
          generalize ov 65536 f k = c at hc hs hd ⊢
          obtain ⟨s, hse⟩ : ∃ s, s = x + c := ⟨_, rfl⟩
          rw [← hse] at hs hd
          have e2 : IntKind.i64.wrap ((x : Int) + (c : Int)) = (s : Int) := by rw [IntWalk.i64_in _ (by omega)]; omega
          have e2' : (x : Int) + (c : Int) = (s : Int) := by omega
          have e3 := mask16 s (by omega)
          have e4 : (s : Int) / 65536 = ((s / 65536 : Nat) : Int) := by omega
          rw [← hd] at e3
          rw [← hs] at e4
          have s0 : (0 : Int) ≤ (s : Int) := by omega
          have s9 : (s : Int) < 18014398509481984 := by omega
          have HS := Lib.hid (hst _ rfl)
          generalize hz : dig 65536 (val 65536 f 16) k = z at e3
          generalize hc2 : ov 65536 f (k + 1) = c2 at e4
          have HC2 := Lib.hid hc2
          have HZ := Lib.hid hz
          have HB2 := Lib.hid hB
          have HF := Lib.hid hF
          have E1 : Fr (fun i => i = w.heap.size) wr (wr.setCell ⟨w.heap.size, k, none⟩ (.int .i64 (z : Int))) := Fr.setCell (S := fun i => i = w.heap.size) (Fr.refl _ wr) (Or.inl rfl) _
          have E5 := Lib.hid ((E1.block (w.heap.size + 1) (lt_of_block hB) (by omega)).trans hB)
          have E2 : Fr (fun _ => False) w (wr.setCell ⟨w.heap.size, k, none⟩ (.int .i64 (z : Int))) := hF.setCell (Or.inr (Nat.le_refl _)) _
          clear hs hd hse hz hc2 hA hB hF hst E1
          go_wp2_with fail
          go_roundw
          case rel => exact ⟨k + 1, by omega, by go_num, by rw [HC2.out], by rw [← HZ.out]; exact HS.out, E5.out, E2⟩
          case measure => simp [intOf]; omega
        · as_aux_lemma =>
          obtain rfl : k = 16 := by omega
          have hc := HO.out 16 (fun j hj => HB.out j (by omega))
          have hR := rpart_set f _ _ rfl rfl
          generalize val 65536 f 16 = V at *
          generalize ov 65536 f 16 = c at *
          have c0 := cell_of_block hA 0
          rw [iq_get 16 _ 0 (by omega), if_pos (by omega)] at c0
          have f0 := free_of_block hA 0
          have hx := dig_lt 65536 V 0 (by decide)
          have hst := block_setCell hA 0 (.int .i64 ((dig 65536 V 0 + 38 * c : Nat) : Int))
          rw [← hR, HR.out] at hst
          generalize dig 65536 V 0 = x at c0 hx hst
          have e2 : IntKind.i64.wrap (38 * (c : Int)) = 38 * (c : Int) := IntWalk.i64_in _ (by omega)
          have e3 : IntKind.i64.wrap ((x : Int) + 38 * (c : Int)) = ((x + 38 * c : Nat) : Int) := by rw [IntWalk.i64_in _ (by omega)]; omega
          have e4 : (x : Int) + 38 * (c : Int) = ((x + 38 * c : Nat) : Int) := by omega
          generalize x + 38 * c = s at *
          have HS := Lib.hid hst
          have E1 : Fr (fun i => i = w.heap.size) wr (wr.setCell ⟨w.heap.size, 0, none⟩ (.int .i64 (s : Int))) := Fr.setCell (S := fun i => i = w.heap.size) (Fr.refl _ wr) (Or.inl rfl) _
          have E5 := Lib.hid ((E1.block (w.heap.size + 1) (lt_of_block hB) (by omega)).trans hB)
          have E2 : Fr (fun _ => False) w (wr.setCell ⟨w.heap.size, 0, none⟩ (.int .i64 (s : Int))) := hF.setCell (Or.inr (Nat.le_refl _)) _
          clear hst hA hB hF E1 hR
          rw [show ((16 : Nat) : Int) = 16 from rfl]
          go_wp2_with fail
          go_roundw
          case rel => exact ⟨n + 1, by omega, by go_num, HS.out, E5.out, E2⟩
          case measure => simp [intOf]; omega
    · as_aux_lemma =>
      obtain rfl : n = 3 := by omega
      have s3 := Try.sizeV (f := rit g 3)
      have hsz := z16_size (rit g 3)
      have hone := iq_one 16 (rit g 3)
      generalize hRR : iq 16 (rit g 3) = R at *
      have HRR := Lib.hid hRR
      clear hRR
      rw [show ((3 : Nat) : Int) = 3 from rfl]
      go_wp2_with (first
        | (with_reducible refine wpList_load_row rfl 26 (.tmp 1) rfl w.heap.size rfl 26 R (0, 0) _ hA Try.underlying26 rfl s3 ?_)
        | (with_reducible refine wpList_store_row rfl 26 (.tmp 2) (.tmp 32) rfl (w.heap.size + 1) R rfl rfl 26 _ hB s3 hsz hone ?_))
      refine bodyPost_ret (results_cell_row rfl _ _ (w.heap.size + 1) 26 R (0, 0) _ rfl (setRow_heap _ _ _ _ _ _ hB) Try.underlying26 rfl s3) rfl ?_
      exact ⟨by rw [HRR.out], hF.trans (Fr.setRow (S := fun k => k = w.heap.size + 1) (Fr.refl _ _) rfl _) (fun i hi => Or.inr (by omega))⟩
end Go.Proofs.Ytahnlnflcgehaaa
namespace Go.Proofs.Ytahnlnflcgehaaa
open Go.RowKit Pri
set_option linter.unusedVariables false

/-- The first n values of f, which may be below nought. -/
def zq (n : Nat) (f : Nat → Int) : Array Value := ((List.range n).map fun j => Value.int .i64 (f j)).toArray
theorem zq_size (n : Nat) (f : Nat → Int) : (zq n f).size = n := by simp [zq]
theorem zq_get (n : Nat) (f : Nat → Int) (j : Nat) (hj : j < n) : (zq n f)[j]? = some (.int .i64 (f j)) := by simp [zq, hj]
theorem zq_ext {cs : Array Value} {n : Nat} {f : Nat → Int} (h : cs.size = n) (h2 : ∀ j, j < n → cs[j]? = some (.int .i64 (f j))) : cs = zq n f := by
  apply Array.ext
  · rw [h, zq_size]
  · intro i h3 h4
    have a := h2 i (by omega)
    have b := zq_get n f i (by omega)
    rw [Array.getElem?_eq_getElem h3] at a
    rw [Array.getElem?_eq_getElem h4] at b
    exact (Option.some.inj a).trans (Option.some.inj b).symm
theorem zq_set (n : Nat) (f : Nat → Int) (i : Nat) (b : Int) (hi : i < n) : (zq n f).setIfInBounds i (.int .i64 b) = zq n (fun j => if j = i then b else f j) := by
  refine zq_ext (by simp [zq_size]) (fun j hj => ?_)
  rw [Array.getElem?_setIfInBounds]
  by_cases h : i = j
  · subst h; simp [zq_size, hj]
  · rw [if_neg h, zq_get n f j hj, if_neg (fun e => h e.symm)]
theorem zq_congr {n : Nat} {f g : Nat → Int} (h : ∀ j, j < n → f j = g j) : zq n f = zq n g := zq_ext (zq_size n f) (fun j hj => by rw [zq_get n f j hj, h j hj])
theorem iq_zq (n : Nat) (f : Nat → Nat) : iq n f = zq n (fun j => (f j : Int)) := rfl

/-- p's digits. -/
def pdg (k : Nat) : Nat := if k = 0 then 65517 else if k = 15 then 32767 else 65535
theorem pdg_dig (k : Nat) (hk : k < 16) : dig 65536 p25519 k = pdg k := by
  have h : ∀ k : Fin 16, dig 65536 p25519 k.val = pdg k.val := by decide +kernel
  exact h ⟨k, hk⟩
theorem p_b16 : p25519 < 65536 ^ 16 := by decide +kernel
/-- What stands in the difference's parts behind k steps. -/
def tpart (X k j : Nat) : Int := if j < k then (dig 65536 (X + 65536 ^ 16 - p25519) j : Int) else if j = 0 then (dig 65536 X 0 : Int) - 65517 else (dig 65536 X j : Int)
theorem tpart_start (X : Nat) : (zq 16 (fun j => (dig 65536 X j : Int))).setIfInBounds 0 (.int .i64 ((dig 65536 X 0 : Int) - 65517)) = zq 16 (tpart X 0) := by
  rw [zq_set 16 _ 0 _ (by omega)]
  refine zq_congr (fun j hj => ?_)
  unfold tpart
  rw [if_neg (show ¬ j < 0 by omega)]
theorem tpart_step (X k : Nat) (hk : k < 16) (z : Int) (hz : z = (dig 65536 (X + 65536 ^ 16 - p25519) k : Int)) : (zq 16 (tpart X k)).setIfInBounds k (.int .i64 z) = zq 16 (tpart X (k + 1)) := by
  rw [zq_set 16 _ k _ hk]
  refine zq_congr (fun j hj => ?_)
  unfold tpart
  by_cases e : j = k
  · subst e; rw [if_pos rfl, if_pos (show j < j + 1 by omega), hz]
  · rw [if_neg e]
    by_cases e2 : j < k
    · rw [if_pos e2, if_pos (show j < k + 1 by omega)]
    · rw [if_neg e2, if_neg (show ¬ j < k + 1 by omega)]
/-- One digit of the difference. -/
theorem tstep (X k : Nat) (hk : k < 16) : ∃ x l : Nat, x < 65536 ∧ l ≤ 1 ∧ x = dig 65536 X k ∧ l = lck 65536 X p25519 k ∧
    (((x : Int) - pdg k - l < 0 ∧ lck 65536 X p25519 (k + 1) = 1 ∧ (dig 65536 (X + 65536 ^ 16 - p25519) k : Int) = (x : Int) - pdg k - l + 65536) ∨
     (¬ (x : Int) - pdg k - l < 0 ∧ lck 65536 X p25519 (k + 1) = 0 ∧ (dig 65536 (X + 65536 ^ 16 - p25519) k : Int) = (x : Int) - pdg k - l)) := by
  have h1 := dig_sub 65536 X p25519 16 k (by decide) hk (Nat.le_trans (Nat.le_of_lt p_b16) (Nat.le_add_left _ _))
  have h2 := lck_succ 65536 X p25519 k (by decide)
  have h3 := dig_lt 65536 X k (by decide)
  have h4 := lck_le 65536 X p25519 k
  rw [pdg_dig k hk] at h1 h2
  have h5 : pdg k < 65536 := by unfold pdg; split; omega; split <;> omega
  refine ⟨_, _, h3, h4, rfl, rfl, ?_⟩
  generalize dig 65536 X k = x at *
  generalize lck 65536 X p25519 k = l at *
  generalize pdg k = q at *
  rw [h1, h2]
  by_cases c : x < q + l
  · rw [if_pos c]; left; refine ⟨by omega, rfl, by omega⟩
  · rw [if_neg c]; right; refine ⟨by omega, rfl, by omega⟩

theorem tpart_end (X : Nat) (h : p25519 ≤ X) (hX : X < 65536 ^ 16) : zq 16 (tpart X 16) = nd (X - p25519) := by
  refine zq_congr (fun j hj => ?_)
  unfold tpart
  rw [if_pos hj, show X + 65536 ^ 16 - p25519 = (X - p25519) + 65536 ^ 16 by omega, ← dig_of_mod 65536 _ 16 j hj, Nat.add_mod_right, dig_of_mod 65536 _ 16 j hj]
theorem mod_of (X n V : Nat) (h : X + n * p25519 = V) (hX : X < p25519) : V % p25519 = X := by
  rw [← h, Nat.add_mul_mod_self_right, Nat.mod_eq_of_lt hX]
theorem n_le (X n V : Nat) (h : X + n * p25519 = V) (hX : p25519 ≤ X) (hV : V < 115792089237316195423570985008687907853269984665640564039457584007913129639936) (hn : n ≤ 2) : n + 1 ≤ 2 := by
  rw [p_val] at *
  omega
theorem next_of (X n V : Nat) (h : X + n * p25519 = V) (hX : p25519 ≤ X) : X - p25519 + (n + 1) * p25519 = V := by
  rw [Nat.add_mul, Nat.one_mul]
  omega
set_option maxRecDepth 100000 in
set_option maxHeartbeats 6400000 in
theorem tidy_any (g : Nat → Nat) (h : ∀ j, j < 16 → g j < 70368744177664) (w : World) :
    Calls Try.prog 81 #[.agg (iq 16 g)] w fun e w' => e = .returned (.agg (nd (val 65536 g 16 % p25519))) ∧ Fr (fun _ => False) w w' := by
  have hv := val_le g 70368744177664 h
  have CA := fun W : World => carry_any g h W
  have hm : val 65536 g 16 % p25519 = rnd (rnd (rnd (val 65536 g 16))) % p25519 := by rw [rnd_mod, rnd_mod, rnd_mod]
  have hlt := (rnd3_lt (val 65536 g 16) (by omega)).1
  rw [hm]
  clear hm hv h
  generalize rnd (rnd (rnd (val 65536 g 16))) = V at *
  have A0 := heap_alloc2_old w (.cells (iq 16 g) 26) (.cells #[.int .i64 0, .int .i64 0, .int .i64 0, .int .i64 0, .int .i64 0, .int .i64 0, .int .i64 0, .int .i64 0, .int .i64 0, .int .i64 0, .int .i64 0, .int .i64 0, .int .i64 0, .int .i64 0, .int .i64 0, .int .i64 0] 26)
  have B0 := heap_alloc2_new w (.cells (iq 16 g) 26) (.cells #[.int .i64 0, .int .i64 0, .int .i64 0, .int .i64 0, .int .i64 0, .int .i64 0, .int .i64 0, .int .i64 0, .int .i64 0, .int .i64 0, .int .i64 0, .int .i64 0, .int .i64 0, .int .i64 0, .int .i64 0, .int .i64 0] 26)
  have F0 : Fr (fun _ => False) w ((w.alloc (.cells (iq 16 g) 26)).alloc (.cells #[.int .i64 0, .int .i64 0, .int .i64 0, .int .i64 0, .int .i64 0, .int .i64 0, .int .i64 0, .int .i64 0, .int .i64 0, .int .i64 0, .int .i64 0, .int .i64 0, .int .i64 0, .int .i64 0, .int .i64 0, .int .i64 0] 26)) := ((Fr.refl _ w).alloc _).alloc _
  have s0 := Try.sizeV (f := g)
  have s1 : (iq 16 g).size = (nd V).size := by unfold nd; rw [iq_size, iq_size]
  have s2 : (nd V).all (·.oneCell') = true := iq_one 16 _
  have s3 : (Try.prog.info? 26).map (·.size) = some (nd V).size := Try.sizeV
  generalize iq 16 g = G0 at *
  go_enter Try.func81, Try.ntmps81
  go_wp2_with (with_reducible refine wpList_load_row rfl 26 (.tmp 1) rfl w.heap.size rfl 26 G0 (0, 0) _ A0 Try.underlying26 rfl s0 ?_)
  refine (CA _).mono ?_
  rintro e w1 ⟨rfl, F1⟩
  have A1 := F1.keepM A0
  have B1 := F1.keepM B0
  have G1 := F0.trans F1 (fun _ h => h.elim)
  clear F1 A0 B0 F0 CA
  have F2 : Fr (fun _ => False) w (w1.setRow w.heap.size (nd V)) := G1.trans (Fr.setRow (S := fun k => k = w.heap.size) (Fr.refl _ _) rfl _) (fun i hi => Or.inr (by omega))
  have A2 := setRow_heap _ _ _ (nd V) _ _ A1
  have B2 := (setRow_other w1 w.heap.size (w.heap.size + 1) (nd V) (by omega)).trans B1
  go_wp2_with (with_reducible refine wpList_store_row rfl 26 (.tmp 1) (.tmp 8) rfl w.heap.size (nd V) rfl rfl 26 G0 A1 s3 s1 s2 ?_)
  clear A1 B1 G1 s0 s1 s2 s3
  generalize w1.setRow w.heap.size (nd V) = w2 at *
  have Hlt := Lib.hid hlt
  clear hlt
  go_loopw [3, 4, 5, 6] (fun k _ _ _ wr => ∃ n X : Nat, n ≤ 2 ∧ k = .int .i64 n ∧ X + n * p25519 = V ∧ wr.heap[w.heap.size]? = some (.cells (nd X) 26 (0, 0)) ∧ wr.heap[w.heap.size + 1]? = some (.cells #[.int .i64 0, .int .i64 0, .int .i64 0, .int .i64 0, .int .i64 0, .int .i64 0, .int .i64 0, .int .i64 0, .int .i64 0, .int .i64 0, .int .i64 0, .int .i64 0, .int .i64 0, .int .i64 0, .int .i64 0, .int .i64 0] 26 (0, 0)) ∧ Fr (fun _ => False) w wr) (fun k _ _ _ _ => 3 - (intOf k).toNat)
  case atStart => exact ⟨0, V, by omega, by simp, by omega, A2, B2, F2⟩
  case round =>
    clear A2 B2 F2
    obtain ⟨n, X, hn, rfl, hX, hA, hB, hF⟩ := hrel
    have HX := Lib.hid hX
    have hXlt : X < 115792089237316195423570985008687907853269984665640564039457584007913129639936 := by have := Hlt.out; omega
    clear hX
    have HXlt := Lib.hid hXlt
    clear hXlt
    have hn3 : decide ((n : Int) < 3) = true := by simp; omega
    have M0 := heap_alloc_new wr (.cells #[.int .i64 0, .int .i64 0, .int .i64 0, .int .i64 0, .int .i64 0, .int .i64 0, .int .i64 0, .int .i64 0, .int .i64 0, .int .i64 0, .int .i64 0, .int .i64 0, .int .i64 0, .int .i64 0, .int .i64 0, .int .i64 0] 26)
    have s1 : (#[.int .i64 0, .int .i64 0, .int .i64 0, .int .i64 0, .int .i64 0, .int .i64 0, .int .i64 0, .int .i64 0, .int .i64 0, .int .i64 0, .int .i64 0, .int .i64 0, .int .i64 0, .int .i64 0, .int .i64 0, .int .i64 0] : Array Value).size = (nd X).size := by unfold nd; rw [iq_size]; rfl
    have s2 : (nd X).all (·.oneCell') = true := iq_one 16 _
    have s3 : (Try.prog.info? 26).map (·.size) = some (nd X).size := Try.sizeV
    have hlb := lt_of_block hB
    go_wp2_with (first
      | (with_reducible refine wpList_load_row rfl 26 (.tmp 1) rfl w.heap.size rfl 26 (nd X) (0, 0) _ hA Try.underlying26 rfl s3 ?_)
      | (with_reducible refine wpList_store_rowR rfl 26 (.tmp 4) (.tmp 13) rfl wr.heap.size (nd X) rfl rfl 26 _ M0 s3 s1 s2 ?k))
    case k =>
    intro w5 M1 hG
    have E1 : Fr (fun _ => False) wr w5 := ((Fr.refl _ wr).alloc _).trans hG (fun i hi => Or.inr (by omega))
    have c0 := cell_of_block M1 0
    unfold nd at c0
    rw [iq_get 16 _ 0 (by omega)] at c0
    have f0 := free_of_block M1 0
    have hx0 := dig_lt 65536 X 0 (by decide)
    have hst := block_setCell M1 0 (.int .i64 ((dig 65536 X 0 : Int) - 65517))
    rw [show nd X = zq 16 (fun j => (dig 65536 X j : Int)) from rfl, tpart_start] at hst
    have E0 : Fr (fun _ => False) wr (w5.setCell ⟨wr.heap.size, 0, none⟩ (.int .i64 ((dig 65536 X 0 : Int) - 65517))) := E1.setCell (Or.inr (Nat.le_refl _)) _
    have W1 : IntKind.i64.wrap ((dig 65536 X 0 : Int) - 65517) = (dig 65536 X 0 : Int) - 65517 := IntWalk.i64_in _ (by omega)
    have HST := Lib.hid hst
    have HA5 := Lib.hid (E0.keepM hA)
    have HB5 := Lib.hid (E0.keepM hB)
    have HF5 := Lib.hid (hF.trans E0 (fun _ h => h.elim))
    have hx9 : (dig 65536 X 0 : Int) < 65536 := by omega
    clear hst E0 E1 hG M1 hB hF hn3 hA M0 s1 s2 s3
    generalize dig 65536 X 0 = x0 at *
    go_wp2_with fail
    clear W1 c0 f0 hx0 hx9
    generalize wr.heap.size = bm at *
    go_loopw [5, 6] (fun u i wi => ∃ k : Nat, k ≤ 16 ∧ i = .int .i64 k ∧ u = .int .i64 (lck 65536 X p25519 k : Nat) ∧ wi.heap[bm]? = some (.cells (zq 16 (tpart X k)) 26 (0, 0)) ∧ wi.heap[w.heap.size]? = some (.cells (nd X) 26 (0, 0)) ∧ wi.heap[w.heap.size + 1]? = some (.cells #[.int .i64 0, .int .i64 0, .int .i64 0, .int .i64 0, .int .i64 0, .int .i64 0, .int .i64 0, .int .i64 0, .int .i64 0, .int .i64 0, .int .i64 0, .int .i64 0, .int .i64 0, .int .i64 0, .int .i64 0, .int .i64 0] 26 (0, 0)) ∧ Fr (fun _ => False) w wi) (fun _ i _ => 16 - (intOf i).toNat)
    case atStart => exact ⟨0, by omega, by simp, by simp [lck_zero], HST.out, HA5.out, HB5.out, HF5.out⟩
    case round =>
      clear HST HA5 HB5 HF5
      obtain ⟨k, hk, rfl, rfl, hM, hA, hB, hF⟩ := hrel
      by_cases h16 : k < 16
      · as_aux_lemma =>
        obtain ⟨x, l, hx, hl, ex, el, hz⟩ := tstep X k h16
        have c0 := cell_of_block hM k
        rw [zq_get 16 _ k h16] at c0
        have f0 := free_of_block hM k
        have q0 : (0 : Int) ≤ (k : Int) := by omega
        have q1 : (k : Int) < 16 := by omega
        have x9 : (x : Int) < 65536 := by omega
        have l9 : (l : Int) ≤ 1 := by omega
        rw [← el]
        rcases hz with ⟨h1, h2, h3⟩ | ⟨h1, h2, h3⟩
        · have HL := Lib.hid h2
          have HD := Lib.hid h3
          have HX1 := Lib.hid ex
          have HM := Lib.hid hM
          have HA := Lib.hid hA
          have HB := Lib.hid hB
          have HF := Lib.hid hF
          clear h2 h3 el ex hM hA hB hF
          by_cases k0 : k = 0
          · subst k0
            have hv : tpart X 0 0 = (x : Int) - 65517 := by rw [HX1.out]; rfl
            have hp : pdg 0 = 65517 := rfl
            rw [hp] at h1
            rw [hv] at c0
            have hz2 : ((x : Int) - 65517 - (l : Int)) + 65536 = (dig 65536 (X + 65536 ^ 16 - p25519) 0 : Int) := by rw [HD.out, hp]; omega
            clear hp hv
            have w2 : IntKind.i64.wrap ((x : Int) - 65517 - (l : Int)) = ((x : Int) - 65517 - (l : Int)) := IntWalk.i64_in _ (by omega)
            have w3 : IntKind.i64.wrap (((x : Int) - 65517 - (l : Int)) + 65536) = ((x : Int) - 65517 - (l : Int)) + 65536 := IntWalk.i64_in _ (by omega)
            have d1 : decide (((x : Int) - 65517 - (l : Int)) < 0) = true := decide_eq_true h1
            have hst : ∀ w9 : World, w9.heap[bm]? = some (.cells ((zq 16 (tpart X 0)).setIfInBounds 0 (.int .i64 (((x : Int) - 65517 - (l : Int)) + 65536))) 26 (0, 0)) → w9.heap[bm]? = some (.cells (zq 16 (tpart X (0 + 1))) 26 (0, 0)) := fun w9 h9 => by rw [tpart_step X 0 (by omega) _ hz2] at h9; exact h9
            have HST := Lib.hid hst
            clear hst hz2 HD HX1 h1
            rw [show ((0 : Nat) : Int) = 0 from rfl] at *
            clear f0
            have i3 : (Try.prog.info? 3).map (·.size) = some 1 := by kernel_rfl
            have hsz : 0 < (zq 16 (tpart X 0)).size := by rw [zq_size]; omega
            go_wp2_with (with_reducible refine wpList_store_int rfl 3 (.tmp 48) (.tmp 47) rfl bm 0 rfl .i64 (((x : Int) - 65517 - (l : Int))) rfl i3 26 _ HM.out hsz ?k0)
            case k0 =>
            intro wa M0 F0
            have c1 : wa.cell? ⟨bm, 0, none⟩ = some (Value.int .i64 (((x : Int) - 65517 - (l : Int)))) := by rw [cell_of_block M0, Array.getElem?_setIfInBounds_self_of_lt]; exact hsz
            have g1 := free_of_block M0 0
            have HM0 := Lib.hid M0
            have HF0 := Lib.hid F0
            clear M0 F0 c0 g1
            have hsz0 : 0 < ((zq 16 (tpart X 0)).setIfInBounds 0 (Value.int .i64 (((x : Int) - 65517 - (l : Int))))).size := by simp only [Array.size_setIfInBounds]; exact hsz
            go_wp2_with (with_reducible refine wpList_store_int rfl 3 (.tmp 58) (.tmp 57) rfl bm 0 rfl .i64 (((x : Int) - 65517 - (l : Int)) + 65536) rfl i3 26 _ HM0.out (by first | exact hsz | (simp only [Array.size_setIfInBounds]; exact hsz) | (simp only [zq_size, Array.size_setIfInBounds]; omega)) ?k1)
            case k1 =>
            intro wb M1 F1
            have c2 : wb.cell? ⟨bm, 0, none⟩ = some (Value.int .i64 (((x : Int) - 65517 - (l : Int)) + 65536)) := by rw [cell_of_block M1, Array.getElem?_setIfInBounds_self_of_lt]; first | exact hsz0 | exact hsz
            have g2 := free_of_block M1 0
            have HM1 := Lib.hid M1
            have HF1 := Lib.hid F1
            clear M1 F1 c1 g2
            have hsz1 : 0 < (((zq 16 (tpart X 0)).setIfInBounds 0 (Value.int .i64 (((x : Int) - 65517 - (l : Int))))).setIfInBounds 0 (Value.int .i64 (((x : Int) - 65517 - (l : Int)) + 65536))).size := by simp only [Array.size_setIfInBounds]; exact hsz
            clear c2
            go_wp2_with fail
            go_roundw
            case rel => exact ⟨0 + 1, by omega, by first | go_num | rfl, by rw [HL.out]; rfl, HST.out _ (by have := HM1.out; (try simp only [Array.setIfInBounds_setIfInBounds] at this); exact this), ((HF1.out.block _ (lt_of_block ((HF0.out.block _ (lt_of_block HA.out) (by omega)).trans HA.out)) (by omega)).trans ((HF0.out.block _ (lt_of_block HA.out) (by omega)).trans HA.out)), ((HF1.out.block _ (lt_of_block ((HF0.out.block _ (lt_of_block HB.out) (by omega)).trans HB.out)) (by omega)).trans ((HF0.out.block _ (lt_of_block HB.out) (by omega)).trans HB.out)), ((HF.out.trans HF0.out (fun i hi => Or.inr (by omega))).trans HF1.out (fun i hi => Or.inr (by omega)))⟩
            case measure => simp [intOf] <;> omega
          · by_cases k15 : k = 15
            · subst k15
              have hv : tpart X 15 15 = (x : Int) := by unfold tpart; rw [if_neg (show ¬ 15 < 15 by omega), if_neg (by omega), HX1.out]
              have hp : pdg 15 = 32767 := by rfl
              have w1 : IntKind.i64.wrap ((x : Int) - 32767) = (x : Int) - 32767 := IntWalk.i64_in _ (by omega)
              rw [hp] at h1
              rw [hv] at c0
              have hz2 : ((x : Int) - 32767 - (l : Int)) + 65536 = (dig 65536 (X + 65536 ^ 16 - p25519) 15 : Int) := by rw [HD.out, hp]; omega
              clear hp hv
              have w2 : IntKind.i64.wrap ((x : Int) - 32767 - (l : Int)) = ((x : Int) - 32767 - (l : Int)) := IntWalk.i64_in _ (by omega)
              have w3 : IntKind.i64.wrap (((x : Int) - 32767 - (l : Int)) + 65536) = ((x : Int) - 32767 - (l : Int)) + 65536 := IntWalk.i64_in _ (by omega)
              have d1 : decide (((x : Int) - 32767 - (l : Int)) < 0) = true := decide_eq_true h1
              have hst : ∀ w9 : World, w9.heap[bm]? = some (.cells ((zq 16 (tpart X 15)).setIfInBounds 15 (.int .i64 (((x : Int) - 32767 - (l : Int)) + 65536))) 26 (0, 0)) → w9.heap[bm]? = some (.cells (zq 16 (tpart X (15 + 1))) 26 (0, 0)) := fun w9 h9 => by rw [tpart_step X 15 (by omega) _ hz2] at h9; exact h9
              have HST := Lib.hid hst
              clear hst hz2 HD HX1 h1
              rw [show ((15 : Nat) : Int) = 15 from rfl] at *
              clear f0
              have i3 : (Try.prog.info? 3).map (·.size) = some 1 := by kernel_rfl
              have hsz : 15 < (zq 16 (tpart X 15)).size := by rw [zq_size]; omega
              go_wp2_with (with_reducible refine wpList_store_int rfl 3 (.tmp 41) (.tmp 40) rfl bm 15 rfl .i64 (((x : Int) - 32767)) rfl i3 26 _ HM.out hsz ?k0)
              case k0 =>
              intro wa M0 F0
              have c1 : wa.cell? ⟨bm, 15, none⟩ = some (Value.int .i64 (((x : Int) - 32767))) := by rw [cell_of_block M0, Array.getElem?_setIfInBounds_self_of_lt]; exact hsz
              have g1 := free_of_block M0 15
              have HM0 := Lib.hid M0
              have HF0 := Lib.hid F0
              clear M0 F0 c0 g1
              have hsz0 : 15 < ((zq 16 (tpart X 15)).setIfInBounds 15 (Value.int .i64 (((x : Int) - 32767)))).size := by simp only [Array.size_setIfInBounds]; exact hsz
              go_wp2_with (with_reducible refine wpList_store_int rfl 3 (.tmp 48) (.tmp 47) rfl bm 15 rfl .i64 (((x : Int) - 32767 - (l : Int))) rfl i3 26 _ HM0.out (by first | exact hsz | (simp only [Array.size_setIfInBounds]; exact hsz) | (simp only [zq_size, Array.size_setIfInBounds]; omega)) ?k1)
              case k1 =>
              intro wb M1 F1
              have c2 : wb.cell? ⟨bm, 15, none⟩ = some (Value.int .i64 (((x : Int) - 32767 - (l : Int)))) := by rw [cell_of_block M1, Array.getElem?_setIfInBounds_self_of_lt]; first | exact hsz0 | exact hsz
              have g2 := free_of_block M1 15
              have HM1 := Lib.hid M1
              have HF1 := Lib.hid F1
              clear M1 F1 c1 g2
              have hsz1 : 15 < (((zq 16 (tpart X 15)).setIfInBounds 15 (Value.int .i64 (((x : Int) - 32767)))).setIfInBounds 15 (Value.int .i64 (((x : Int) - 32767 - (l : Int))))).size := by simp only [Array.size_setIfInBounds]; exact hsz
              go_wp2_with (with_reducible refine wpList_store_int rfl 3 (.tmp 58) (.tmp 57) rfl bm 15 rfl .i64 (((x : Int) - 32767 - (l : Int)) + 65536) rfl i3 26 _ HM1.out (by first | exact hsz | (simp only [Array.size_setIfInBounds]; exact hsz) | (simp only [zq_size, Array.size_setIfInBounds]; omega)) ?k2)
              case k2 =>
              intro wc M2 F2
              have c3 : wc.cell? ⟨bm, 15, none⟩ = some (Value.int .i64 (((x : Int) - 32767 - (l : Int)) + 65536)) := by rw [cell_of_block M2, Array.getElem?_setIfInBounds_self_of_lt]; first | exact hsz1 | exact hsz
              have g3 := free_of_block M2 15
              have HM2 := Lib.hid M2
              have HF2 := Lib.hid F2
              clear M2 F2 c2 g3
              have hsz2 : 15 < ((((zq 16 (tpart X 15)).setIfInBounds 15 (Value.int .i64 (((x : Int) - 32767)))).setIfInBounds 15 (Value.int .i64 (((x : Int) - 32767 - (l : Int))))).setIfInBounds 15 (Value.int .i64 (((x : Int) - 32767 - (l : Int)) + 65536))).size := by simp only [Array.size_setIfInBounds]; exact hsz
              clear c3
              go_wp2_with fail
              go_roundw
              case rel => exact ⟨15 + 1, by omega, by first | go_num | rfl, by rw [HL.out]; rfl, HST.out _ (by have := HM2.out; (try simp only [Array.setIfInBounds_setIfInBounds] at this); exact this), ((HF2.out.block _ (lt_of_block ((HF1.out.block _ (lt_of_block ((HF0.out.block _ (lt_of_block HA.out) (by omega)).trans HA.out)) (by omega)).trans ((HF0.out.block _ (lt_of_block HA.out) (by omega)).trans HA.out))) (by omega)).trans ((HF1.out.block _ (lt_of_block ((HF0.out.block _ (lt_of_block HA.out) (by omega)).trans HA.out)) (by omega)).trans ((HF0.out.block _ (lt_of_block HA.out) (by omega)).trans HA.out))), ((HF2.out.block _ (lt_of_block ((HF1.out.block _ (lt_of_block ((HF0.out.block _ (lt_of_block HB.out) (by omega)).trans HB.out)) (by omega)).trans ((HF0.out.block _ (lt_of_block HB.out) (by omega)).trans HB.out))) (by omega)).trans ((HF1.out.block _ (lt_of_block ((HF0.out.block _ (lt_of_block HB.out) (by omega)).trans HB.out)) (by omega)).trans ((HF0.out.block _ (lt_of_block HB.out) (by omega)).trans HB.out))), (((HF.out.trans HF0.out (fun i hi => Or.inr (by omega))).trans HF1.out (fun i hi => Or.inr (by omega))).trans HF2.out (fun i hi => Or.inr (by omega)))⟩
              case measure => simp [intOf] <;> omega
            · have hv : tpart X k k = (x : Int) := by unfold tpart; rw [if_neg (show ¬ k < k by omega), if_neg k0, HX1.out]
              have hp : pdg k = 65535 := by unfold pdg; rw [if_neg k0, if_neg k15]
              have w1 : IntKind.i64.wrap ((x : Int) - 65535) = (x : Int) - 65535 := IntWalk.i64_in _ (by omega)
              have t1 : decide ((0 : Int) < (k : Int)) = true := by simp; omega
              have p0 : 0 < k := by omega
              have t1' : decide (0 < k) = true := by simpa using p0
              have t2 : decide ((k : Int) < 15) = true := by simp; omega
              have t3 : ((k : Int) == 15) = false := by rw [beq_eq_false_iff_ne]; omega
              have t3' : (k == 15) = false := by rw [beq_eq_false_iff_ne]; exact k15
              rw [hp] at h1
              rw [hv] at c0
              have hz2 : ((x : Int) - 65535 - (l : Int)) + 65536 = (dig 65536 (X + 65536 ^ 16 - p25519) k : Int) := by rw [HD.out, hp]; omega
              clear hp hv
              have w2 : IntKind.i64.wrap ((x : Int) - 65535 - (l : Int)) = ((x : Int) - 65535 - (l : Int)) := IntWalk.i64_in _ (by omega)
              have w3 : IntKind.i64.wrap (((x : Int) - 65535 - (l : Int)) + 65536) = ((x : Int) - 65535 - (l : Int)) + 65536 := IntWalk.i64_in _ (by omega)
              have d1 : decide (((x : Int) - 65535 - (l : Int)) < 0) = true := decide_eq_true h1
              have hst : ∀ w9 : World, w9.heap[bm]? = some (.cells ((zq 16 (tpart X k)).setIfInBounds k (.int .i64 (((x : Int) - 65535 - (l : Int)) + 65536))) 26 (0, 0)) → w9.heap[bm]? = some (.cells (zq 16 (tpart X (k + 1))) 26 (0, 0)) := fun w9 h9 => by rw [tpart_step X k (by omega) _ hz2] at h9; exact h9
              have HST := Lib.hid hst
              clear hst hz2 HD HX1 h1
              clear f0 k0
              have i3 : (Try.prog.info? 3).map (·.size) = some 1 := by kernel_rfl
              have hsz : k < (zq 16 (tpart X k)).size := by rw [zq_size]; omega
              go_wp2_with (with_reducible refine wpList_store_int rfl 3 (.tmp 33) (.tmp 32) rfl bm k rfl .i64 (((x : Int) - 65535)) rfl i3 26 _ HM.out hsz ?k0)
              case k0 =>
              intro wa M0 F0
              have c1 : wa.cell? ⟨bm, k, none⟩ = some (Value.int .i64 (((x : Int) - 65535))) := by rw [cell_of_block M0, Array.getElem?_setIfInBounds_self_of_lt]; exact hsz
              have g1 := free_of_block M0 k
              have HM0 := Lib.hid M0
              have HF0 := Lib.hid F0
              clear M0 F0 c0 g1
              have hsz0 : k < ((zq 16 (tpart X k)).setIfInBounds k (Value.int .i64 (((x : Int) - 65535)))).size := by simp only [Array.size_setIfInBounds]; exact hsz
              go_wp2_with (with_reducible refine wpList_store_int rfl 3 (.tmp 48) (.tmp 47) rfl bm k rfl .i64 (((x : Int) - 65535 - (l : Int))) rfl i3 26 _ HM0.out (by first | exact hsz | (simp only [Array.size_setIfInBounds]; exact hsz) | (simp only [zq_size, Array.size_setIfInBounds]; omega)) ?k1)
              case k1 =>
              intro wb M1 F1
              have c2 : wb.cell? ⟨bm, k, none⟩ = some (Value.int .i64 (((x : Int) - 65535 - (l : Int)))) := by rw [cell_of_block M1, Array.getElem?_setIfInBounds_self_of_lt]; first | exact hsz0 | exact hsz
              have g2 := free_of_block M1 k
              have HM1 := Lib.hid M1
              have HF1 := Lib.hid F1
              clear M1 F1 c1 g2
              have hsz1 : k < (((zq 16 (tpart X k)).setIfInBounds k (Value.int .i64 (((x : Int) - 65535)))).setIfInBounds k (Value.int .i64 (((x : Int) - 65535 - (l : Int))))).size := by simp only [Array.size_setIfInBounds]; exact hsz
              go_wp2_with (with_reducible refine wpList_store_int rfl 3 (.tmp 58) (.tmp 57) rfl bm k rfl .i64 (((x : Int) - 65535 - (l : Int)) + 65536) rfl i3 26 _ HM1.out (by first | exact hsz | (simp only [Array.size_setIfInBounds]; exact hsz) | (simp only [zq_size, Array.size_setIfInBounds]; omega)) ?k2)
              case k2 =>
              intro wc M2 F2
              have c3 : wc.cell? ⟨bm, k, none⟩ = some (Value.int .i64 (((x : Int) - 65535 - (l : Int)) + 65536)) := by rw [cell_of_block M2, Array.getElem?_setIfInBounds_self_of_lt]; first | exact hsz1 | exact hsz
              have g3 := free_of_block M2 k
              have HM2 := Lib.hid M2
              have HF2 := Lib.hid F2
              clear M2 F2 c2 g3
              have hsz2 : k < ((((zq 16 (tpart X k)).setIfInBounds k (Value.int .i64 (((x : Int) - 65535)))).setIfInBounds k (Value.int .i64 (((x : Int) - 65535 - (l : Int))))).setIfInBounds k (Value.int .i64 (((x : Int) - 65535 - (l : Int)) + 65536))).size := by simp only [Array.size_setIfInBounds]; exact hsz
              clear c3
              go_wp2_with fail
              go_roundw
              case rel => exact ⟨k + 1, by omega, by first | go_num | rfl, by rw [HL.out]; rfl, HST.out _ (by have := HM2.out; (try simp only [Array.setIfInBounds_setIfInBounds] at this); exact this), ((HF2.out.block _ (lt_of_block ((HF1.out.block _ (lt_of_block ((HF0.out.block _ (lt_of_block HA.out) (by omega)).trans HA.out)) (by omega)).trans ((HF0.out.block _ (lt_of_block HA.out) (by omega)).trans HA.out))) (by omega)).trans ((HF1.out.block _ (lt_of_block ((HF0.out.block _ (lt_of_block HA.out) (by omega)).trans HA.out)) (by omega)).trans ((HF0.out.block _ (lt_of_block HA.out) (by omega)).trans HA.out))), ((HF2.out.block _ (lt_of_block ((HF1.out.block _ (lt_of_block ((HF0.out.block _ (lt_of_block HB.out) (by omega)).trans HB.out)) (by omega)).trans ((HF0.out.block _ (lt_of_block HB.out) (by omega)).trans HB.out))) (by omega)).trans ((HF1.out.block _ (lt_of_block ((HF0.out.block _ (lt_of_block HB.out) (by omega)).trans HB.out)) (by omega)).trans ((HF0.out.block _ (lt_of_block HB.out) (by omega)).trans HB.out))), (((HF.out.trans HF0.out (fun i hi => Or.inr (by omega))).trans HF1.out (fun i hi => Or.inr (by omega))).trans HF2.out (fun i hi => Or.inr (by omega)))⟩
              case measure => simp [intOf] <;> omega
        · have HL := Lib.hid h2
          have HD := Lib.hid h3
          have HX1 := Lib.hid ex
          have HM := Lib.hid hM
          have HA := Lib.hid hA
          have HB := Lib.hid hB
          have HF := Lib.hid hF
          clear h2 h3 el ex hM hA hB hF
          by_cases k0 : k = 0
          · subst k0
            have hv : tpart X 0 0 = (x : Int) - 65517 := by rw [HX1.out]; rfl
            have hp : pdg 0 = 65517 := rfl
            rw [hp] at h1
            rw [hv] at c0
            have hz2 : ((x : Int) - 65517 - (l : Int)) = (dig 65536 (X + 65536 ^ 16 - p25519) 0 : Int) := by rw [HD.out, hp]; omega
            clear hp hv
            have w2 : IntKind.i64.wrap ((x : Int) - 65517 - (l : Int)) = ((x : Int) - 65517 - (l : Int)) := IntWalk.i64_in _ (by omega)
            have d1 : decide (((x : Int) - 65517 - (l : Int)) < 0) = false := decide_eq_false h1
            have hst : ∀ w9 : World, w9.heap[bm]? = some (.cells ((zq 16 (tpart X 0)).setIfInBounds 0 (.int .i64 (((x : Int) - 65517 - (l : Int))))) 26 (0, 0)) → w9.heap[bm]? = some (.cells (zq 16 (tpart X (0 + 1))) 26 (0, 0)) := fun w9 h9 => by rw [tpart_step X 0 (by omega) _ hz2] at h9; exact h9
            have HST := Lib.hid hst
            clear hst hz2 HD HX1 h1
            rw [show ((0 : Nat) : Int) = 0 from rfl] at *
            clear f0
            have i3 : (Try.prog.info? 3).map (·.size) = some 1 := by kernel_rfl
            have hsz : 0 < (zq 16 (tpart X 0)).size := by rw [zq_size]; omega
            go_wp2_with (with_reducible refine wpList_store_int rfl 3 (.tmp 48) (.tmp 47) rfl bm 0 rfl .i64 (((x : Int) - 65517 - (l : Int))) rfl i3 26 _ HM.out hsz ?k0)
            case k0 =>
            intro wa M0 F0
            have c1 : wa.cell? ⟨bm, 0, none⟩ = some (Value.int .i64 (((x : Int) - 65517 - (l : Int)))) := by rw [cell_of_block M0, Array.getElem?_setIfInBounds_self_of_lt]; exact hsz
            have g1 := free_of_block M0 0
            have HM0 := Lib.hid M0
            have HF0 := Lib.hid F0
            clear M0 F0 c0 g1
            have hsz0 : 0 < ((zq 16 (tpart X 0)).setIfInBounds 0 (Value.int .i64 (((x : Int) - 65517 - (l : Int))))).size := by simp only [Array.size_setIfInBounds]; exact hsz
            go_wp2_with fail
            go_roundw
            case rel => exact ⟨0 + 1, by omega, by first | go_num | rfl, by rw [HL.out]; rfl, HST.out _ HM0.out, ((HF0.out.block _ (lt_of_block HA.out) (by omega)).trans HA.out), ((HF0.out.block _ (lt_of_block HB.out) (by omega)).trans HB.out), (HF.out.trans HF0.out (fun i hi => Or.inr (by omega)))⟩
            case measure => simp [intOf] <;> omega
          · by_cases k15 : k = 15
            · subst k15
              have hv : tpart X 15 15 = (x : Int) := by unfold tpart; rw [if_neg (show ¬ 15 < 15 by omega), if_neg (by omega), HX1.out]
              have hp : pdg 15 = 32767 := by rfl
              have w1 : IntKind.i64.wrap ((x : Int) - 32767) = (x : Int) - 32767 := IntWalk.i64_in _ (by omega)
              rw [hp] at h1
              rw [hv] at c0
              have hz2 : ((x : Int) - 32767 - (l : Int)) = (dig 65536 (X + 65536 ^ 16 - p25519) 15 : Int) := by rw [HD.out, hp]; omega
              clear hp hv
              have w2 : IntKind.i64.wrap ((x : Int) - 32767 - (l : Int)) = ((x : Int) - 32767 - (l : Int)) := IntWalk.i64_in _ (by omega)
              have d1 : decide (((x : Int) - 32767 - (l : Int)) < 0) = false := decide_eq_false h1
              have hst : ∀ w9 : World, w9.heap[bm]? = some (.cells ((zq 16 (tpart X 15)).setIfInBounds 15 (.int .i64 (((x : Int) - 32767 - (l : Int))))) 26 (0, 0)) → w9.heap[bm]? = some (.cells (zq 16 (tpart X (15 + 1))) 26 (0, 0)) := fun w9 h9 => by rw [tpart_step X 15 (by omega) _ hz2] at h9; exact h9
              have HST := Lib.hid hst
              clear hst hz2 HD HX1 h1
              rw [show ((15 : Nat) : Int) = 15 from rfl] at *
              clear f0
              have i3 : (Try.prog.info? 3).map (·.size) = some 1 := by kernel_rfl
              have hsz : 15 < (zq 16 (tpart X 15)).size := by rw [zq_size]; omega
              go_wp2_with (with_reducible refine wpList_store_int rfl 3 (.tmp 41) (.tmp 40) rfl bm 15 rfl .i64 (((x : Int) - 32767)) rfl i3 26 _ HM.out hsz ?k0)
              case k0 =>
              intro wa M0 F0
              have c1 : wa.cell? ⟨bm, 15, none⟩ = some (Value.int .i64 (((x : Int) - 32767))) := by rw [cell_of_block M0, Array.getElem?_setIfInBounds_self_of_lt]; exact hsz
              have g1 := free_of_block M0 15
              have HM0 := Lib.hid M0
              have HF0 := Lib.hid F0
              clear M0 F0 c0 g1
              have hsz0 : 15 < ((zq 16 (tpart X 15)).setIfInBounds 15 (Value.int .i64 (((x : Int) - 32767)))).size := by simp only [Array.size_setIfInBounds]; exact hsz
              go_wp2_with (with_reducible refine wpList_store_int rfl 3 (.tmp 48) (.tmp 47) rfl bm 15 rfl .i64 (((x : Int) - 32767 - (l : Int))) rfl i3 26 _ HM0.out (by first | exact hsz | (simp only [Array.size_setIfInBounds]; exact hsz) | (simp only [zq_size, Array.size_setIfInBounds]; omega)) ?k1)
              case k1 =>
              intro wb M1 F1
              have c2 : wb.cell? ⟨bm, 15, none⟩ = some (Value.int .i64 (((x : Int) - 32767 - (l : Int)))) := by rw [cell_of_block M1, Array.getElem?_setIfInBounds_self_of_lt]; first | exact hsz0 | exact hsz
              have g2 := free_of_block M1 15
              have HM1 := Lib.hid M1
              have HF1 := Lib.hid F1
              clear M1 F1 c1 g2
              have hsz1 : 15 < (((zq 16 (tpart X 15)).setIfInBounds 15 (Value.int .i64 (((x : Int) - 32767)))).setIfInBounds 15 (Value.int .i64 (((x : Int) - 32767 - (l : Int))))).size := by simp only [Array.size_setIfInBounds]; exact hsz
              go_wp2_with fail
              go_roundw
              case rel => exact ⟨15 + 1, by omega, by first | go_num | rfl, by rw [HL.out]; rfl, HST.out _ (by have := HM1.out; (try simp only [Array.setIfInBounds_setIfInBounds] at this); exact this), ((HF1.out.block _ (lt_of_block ((HF0.out.block _ (lt_of_block HA.out) (by omega)).trans HA.out)) (by omega)).trans ((HF0.out.block _ (lt_of_block HA.out) (by omega)).trans HA.out)), ((HF1.out.block _ (lt_of_block ((HF0.out.block _ (lt_of_block HB.out) (by omega)).trans HB.out)) (by omega)).trans ((HF0.out.block _ (lt_of_block HB.out) (by omega)).trans HB.out)), ((HF.out.trans HF0.out (fun i hi => Or.inr (by omega))).trans HF1.out (fun i hi => Or.inr (by omega)))⟩
              case measure => simp [intOf] <;> omega
            · have hv : tpart X k k = (x : Int) := by unfold tpart; rw [if_neg (show ¬ k < k by omega), if_neg k0, HX1.out]
              have hp : pdg k = 65535 := by unfold pdg; rw [if_neg k0, if_neg k15]
              have w1 : IntKind.i64.wrap ((x : Int) - 65535) = (x : Int) - 65535 := IntWalk.i64_in _ (by omega)
              have t1 : decide ((0 : Int) < (k : Int)) = true := by simp; omega
              have p0 : 0 < k := by omega
              have t1' : decide (0 < k) = true := by simpa using p0
              have t2 : decide ((k : Int) < 15) = true := by simp; omega
              have t3 : ((k : Int) == 15) = false := by rw [beq_eq_false_iff_ne]; omega
              have t3' : (k == 15) = false := by rw [beq_eq_false_iff_ne]; exact k15
              rw [hp] at h1
              rw [hv] at c0
              have hz2 : ((x : Int) - 65535 - (l : Int)) = (dig 65536 (X + 65536 ^ 16 - p25519) k : Int) := by rw [HD.out, hp]; omega
              clear hp hv
              have w2 : IntKind.i64.wrap ((x : Int) - 65535 - (l : Int)) = ((x : Int) - 65535 - (l : Int)) := IntWalk.i64_in _ (by omega)
              have d1 : decide (((x : Int) - 65535 - (l : Int)) < 0) = false := decide_eq_false h1
              have hst : ∀ w9 : World, w9.heap[bm]? = some (.cells ((zq 16 (tpart X k)).setIfInBounds k (.int .i64 (((x : Int) - 65535 - (l : Int))))) 26 (0, 0)) → w9.heap[bm]? = some (.cells (zq 16 (tpart X (k + 1))) 26 (0, 0)) := fun w9 h9 => by rw [tpart_step X k (by omega) _ hz2] at h9; exact h9
              have HST := Lib.hid hst
              clear hst hz2 HD HX1 h1
              clear f0 k0
              have i3 : (Try.prog.info? 3).map (·.size) = some 1 := by kernel_rfl
              have hsz : k < (zq 16 (tpart X k)).size := by rw [zq_size]; omega
              go_wp2_with (with_reducible refine wpList_store_int rfl 3 (.tmp 33) (.tmp 32) rfl bm k rfl .i64 (((x : Int) - 65535)) rfl i3 26 _ HM.out hsz ?k0)
              case k0 =>
              intro wa M0 F0
              have c1 : wa.cell? ⟨bm, k, none⟩ = some (Value.int .i64 (((x : Int) - 65535))) := by rw [cell_of_block M0, Array.getElem?_setIfInBounds_self_of_lt]; exact hsz
              have g1 := free_of_block M0 k
              have HM0 := Lib.hid M0
              have HF0 := Lib.hid F0
              clear M0 F0 c0 g1
              have hsz0 : k < ((zq 16 (tpart X k)).setIfInBounds k (Value.int .i64 (((x : Int) - 65535)))).size := by simp only [Array.size_setIfInBounds]; exact hsz
              go_wp2_with (with_reducible refine wpList_store_int rfl 3 (.tmp 48) (.tmp 47) rfl bm k rfl .i64 (((x : Int) - 65535 - (l : Int))) rfl i3 26 _ HM0.out (by first | exact hsz | (simp only [Array.size_setIfInBounds]; exact hsz) | (simp only [zq_size, Array.size_setIfInBounds]; omega)) ?k1)
              case k1 =>
              intro wb M1 F1
              have c2 : wb.cell? ⟨bm, k, none⟩ = some (Value.int .i64 (((x : Int) - 65535 - (l : Int)))) := by rw [cell_of_block M1, Array.getElem?_setIfInBounds_self_of_lt]; first | exact hsz0 | exact hsz
              have g2 := free_of_block M1 k
              have HM1 := Lib.hid M1
              have HF1 := Lib.hid F1
              clear M1 F1 c1 g2
              have hsz1 : k < (((zq 16 (tpart X k)).setIfInBounds k (Value.int .i64 (((x : Int) - 65535)))).setIfInBounds k (Value.int .i64 (((x : Int) - 65535 - (l : Int))))).size := by simp only [Array.size_setIfInBounds]; exact hsz
              go_wp2_with fail
              go_roundw
              case rel => exact ⟨k + 1, by omega, by first | go_num | rfl, by rw [HL.out]; rfl, HST.out _ (by have := HM1.out; (try simp only [Array.setIfInBounds_setIfInBounds] at this); exact this), ((HF1.out.block _ (lt_of_block ((HF0.out.block _ (lt_of_block HA.out) (by omega)).trans HA.out)) (by omega)).trans ((HF0.out.block _ (lt_of_block HA.out) (by omega)).trans HA.out)), ((HF1.out.block _ (lt_of_block ((HF0.out.block _ (lt_of_block HB.out) (by omega)).trans HB.out)) (by omega)).trans ((HF0.out.block _ (lt_of_block HB.out) (by omega)).trans HB.out)), ((HF.out.trans HF0.out (fun i hi => Or.inr (by omega))).trans HF1.out (fun i hi => Or.inr (by omega)))⟩
              case measure => simp [intOf] <;> omega
      · as_aux_lemma =>
        obtain rfl : k = 16 := by omega
        have hXl := HXlt.out
        have e := lck_of_lt 65536 X p25519 16 (by rw [b16]; exact hXl) p_b16
        rw [e]
        clear e
        have sX : (Try.prog.info? 26).map (·.size) = some (nd X).size := Try.sizeV
        have oX : (nd X).all (·.oneCell') = true := iq_one 16 _
        have zX : (#[.int .i64 0, .int .i64 0, .int .i64 0, .int .i64 0, .int .i64 0, .int .i64 0, .int .i64 0, .int .i64 0, .int .i64 0, .int .i64 0, .int .i64 0, .int .i64 0, .int .i64 0, .int .i64 0, .int .i64 0, .int .i64 0] : Array Value).size = (nd X).size := by unfold nd; rw [iq_size]; rfl
        rw [show ((16 : Nat) : Int) = 16 from rfl]
        by_cases hp : X < p25519
        · have hr := mod_of X n V HX.out hp
          have HR := Lib.hid hr
          have HXl := Lib.hid hXl
          rw [if_pos hp]
          have HF := Lib.hid hF
          have HP := Lib.hid hp
          have bnd := Lib.hid hr
          rw [show ((1 : Nat) : Int) = 1 from rfl]
          clear hr hXl hp hF hM
          go_wp2_with (first
            | (with_reducible refine wpList_load_row rfl 26 (.tmp 1) rfl w.heap.size rfl 26 (nd X) (0, 0) _ hA Try.underlying26 rfl sX ?_)
            | (with_reducible refine wpList_store_row rfl 26 (.tmp 2) (.tmp 61) rfl (w.heap.size + 1) (nd X) rfl rfl 26 _ hB sX zX oX ?_))
          refine bodyPost_ret (results_cell_row rfl _ _ (w.heap.size + 1) 26 (nd X) (0, 0) _ rfl (setRow_heap _ _ _ _ _ _ hB) Try.underlying26 rfl sX) rfl ?_
          exact ⟨by rw [HR.out], HF.out.trans (Fr.setRow (S := fun k => k = w.heap.size + 1) (Fr.refl _ _) rfl _) (fun i hi => Or.inr (by omega))⟩
        · have hp : p25519 ≤ X := by omega
          rw [if_neg (by omega)]
          rw [tpart_end X hp (by rw [b16]; exact hXl)] at hM
          have sY : (Try.prog.info? 26).map (·.size) = some (nd (X - p25519)).size := Try.sizeV
          have oY : (nd (X - p25519)).all (·.oneCell') = true := iq_one 16 _
          have zY : (nd X).size = (nd (X - p25519)).size := by unfold nd; rw [iq_size, iq_size]
          have HN := Lib.hid (n_le X n V HX.out hp Hlt.out hn)
          have HY := Lib.hid (next_of X n V HX.out hp)
          have A9 := Lib.hid (setRow_heap _ _ _ (nd (X - p25519)) _ _ hA)
          have B9 := Lib.hid ((setRow_other wr w.heap.size (w.heap.size + 1) (nd (X - p25519)) (by omega)).trans hB)
          have F9 := Lib.hid (hF.trans (Fr.setRow (S := fun k => k = w.heap.size) (Fr.refl _ wr) rfl (nd (X - p25519))) (fun i hi => Or.inr (by omega)))
          clear hp hXl hF hB
          rw [show ((0 : Nat) : Int) = 0 from rfl]
          generalize X - p25519 = Y at *
          go_wp2_with (first
            | (with_reducible refine wpList_load_row rfl 26 (.tmp 4) rfl bm rfl 26 (nd Y) (0, 0) _ hM Try.underlying26 rfl sY ?_)
            | (with_reducible refine wpList_store_row rfl 26 (.tmp 1) (.tmp 62) rfl w.heap.size (nd Y) rfl rfl 26 _ hA sY zY oY ?_))
          go_roundw
          case rel => exact ⟨n + 1, Y, HN.out, by go_num, HY.out, A9.out, B9.out, F9.out⟩
          case measure => simp [intOf]; omega
end Go.Proofs.Ytahnlnflcgehaaa

/-
  The contracts of Neg and Mul of package scalar.
-/
import Derived.Test.YtnobobdgoccmcaaSl
import Derived.Deep.RegionHeld3
namespace Go.Proofs.Ytnobobdgoccmcaa
open Go.RowKit
set_option linter.unusedVariables false

theorem keep_set {w : World} {b : Nat} {o : Obj} {a : Addr} (h : w.heap[b]? = some o) (hne : ¬ (b = a.block)) (v : Value) : (w.setCell a v).heap[b]? = some o :=
  (Below.heap_setCell _ _ _ _ hne).trans h
theorem Fr.keep {w w2 : World} (F : Fr (fun _ => False) w w2) {i : Nat} {o : Obj} (h : w.heap[i]? = some o) : w2.heap[i]? = some o :=
  (F.block i (lt_of_block h) (fun h => h)).trans h
set_option maxRecDepth 100000 in
set_option maxHeartbeats 16000000 in
theorem sneg_any (X : Nat) (hX : X < 115792089237316195423570985008687907853269984665640564039457584007913129639936) (w : World) :
    Calls Try.prog 65 #[.agg (nc X)] w fun e w' => e = .returned (.agg (nc ((LL - X % LL) % LL))) ∧ Fr (fun _ => False) w w' := by
  have RX := fun (W : World) => srest_any X hX W
  have hm := mod_LL X
  have hd : (LL + 115792089237316195423570985008687907853269984665640564039457584007913129639936 - X % LL) % 115792089237316195423570985008687907853269984665640564039457584007913129639936 = LL - X % LL := by unfold LL at *; omega
  have DI := fun (W : World) => difference_any LL (X % LL) 0 (by rw [if_neg (by omega)]) LL_lt (mod_LP _) W
  rw [hd] at DI
  have RE := fun (W : World) => srest_any (LL - X % LL) (by have := LL_lt; omega) W
  have OR := fun (W : World) => order_any W
  obtain ⟨x0, x1, x2, x3, _, _, _, _, _, ex⟩ := nc_open (X) (hX)
  rw [ex] at RX ⊢
  clear ex
  obtain ⟨s0, s1, s2, s3, _, _, _, _, _, es⟩ := nc_open (X % LL) (mod_LP _)
  rw [es] at RX DI
  clear es
  obtain ⟨t0, t1, t2, t3, _, _, _, _, _, et⟩ := nc_open (LL - X % LL) (by have := LL_lt; omega)
  rw [et] at DI RE
  clear et
  obtain ⟨l0, l1, l2, l3, _, _, _, _, _, el⟩ := nc_open (LL) (LL_lt)
  rw [el] at OR DI
  clear el
  obtain ⟨q0, q1, q2, q3, _, _, _, _, _, eq⟩ := nc_open ((LL - X % LL) % LL) (mod_LP _)
  rw [eq] at RE ⊢
  clear eq
  clear hm hd hX
  go_enter Try.func65, Try.ntmps65
  go_wp2_with fail
  have E0 : Fr (fun _ => False) w _ := (((Fr.refl _ w).alloc (.cells #[.int .u64 (x0 : Int), .int .u64 (x1 : Int), .int .u64 (x2 : Int), .int .u64 (x3 : Int)] 77)).alloc (.cells #[.int .u64 0, .int .u64 0, .int .u64 0, .int .u64 0] 77))
  have A1 : ((w.alloc (.cells #[.int .u64 (x0 : Int), .int .u64 (x1 : Int), .int .u64 (x2 : Int), .int .u64 (x3 : Int)] 77)).alloc (.cells #[.int .u64 0, .int .u64 0, .int .u64 0, .int .u64 0] 77)).heap[w.heap.size]? = some (.cells #[.int .u64 (x0 : Int), .int .u64 (x1 : Int), .int .u64 (x2 : Int), .int .u64 (x3 : Int)] 77 (0, 0)) := by
    rw [Below.heap_alloc _ _ _ (by simp)]; exact heap_alloc_new w _
  have C1 : ((w.alloc (.cells #[.int .u64 (x0 : Int), .int .u64 (x1 : Int), .int .u64 (x2 : Int), .int .u64 (x3 : Int)] 77)).alloc (.cells #[.int .u64 0, .int .u64 0, .int .u64 0, .int .u64 0] 77)).heap[w.heap.size + 1]? = some (.cells #[.int .u64 0, .int .u64 0, .int .u64 0, .int .u64 0] 77 (0, 0)) := heap_at _ _ _ _ (by simp)
  have hW0 : ((w.alloc (.cells #[.int .u64 (x0 : Int), .int .u64 (x1 : Int), .int .u64 (x2 : Int), .int .u64 (x3 : Int)] 77)).alloc (.cells #[.int .u64 0, .int .u64 0, .int .u64 0, .int .u64 0] 77)).heap.size = w.heap.size + 2 := by simp
  generalize (w.alloc (.cells #[.int .u64 (x0 : Int), .int .u64 (x1 : Int), .int .u64 (x2 : Int), .int .u64 (x3 : Int)] 77)).alloc (.cells #[.int .u64 0, .int .u64 0, .int .u64 0, .int .u64 0] 77) = W0 at *
  have HE := Lib.hid E0
  have HW0 := Lib.hid hW0
  clear E0 hW0
  have HA := Lib.hid A1
  have HC := Lib.hid C1
  have hS : ∀ w' : World, Fr (fun k => W0.heap.size ≤ k) W0 w' → (Fr (fun k => W0.heap.size ≤ k) W0 w' ∧ w'.cell? ⟨w.heap.size, 0, none⟩ = some (.int .u64 (x0 : Int)) ∧ w'.cell? ⟨w.heap.size, 1, none⟩ = some (.int .u64 (x1 : Int)) ∧ w'.cell? ⟨w.heap.size, 2, none⟩ = some (.int .u64 (x2 : Int)) ∧ w'.cell? ⟨w.heap.size, 3, none⟩ = some (.int .u64 (x3 : Int))) := fun w' F => by
    obtain ⟨i0, i1, i2, i3, i4, i5, i6, i7⟩ := blk4 ((F.block _ (lt_of_block HA.out) (by have := lt_of_block HA.out; omega)).trans HA.out)
    exact ⟨F, i0, i1, i2, i3⟩
  obtain ⟨i0, i1, i2, i3, i4, i5, i6, i7⟩ := blk4 A1
  have zz : w.heap.size + 1 < W0.heap.size := lt_of_block C1
  clear A1 C1
  go_region_held3 (fun w' => Fr (fun k => W0.heap.size ≤ k) W0 w' ∧ w'.cell? ⟨w.heap.size, 0, none⟩ = some (.int .u64 (x0 : Int)) ∧ w'.cell? ⟨w.heap.size, 1, none⟩ = some (.int .u64 (x1 : Int)) ∧ w'.cell? ⟨w.heap.size, 2, none⟩ = some (.int .u64 (x2 : Int)) ∧ w'.cell? ⟨w.heap.size, 3, none⟩ = some (.int .u64 (x3 : Int)))
    ((refine hS _ ?_; (repeat (first | exact Fr.refl _ _ | assumption | (exact (‹Fr (fun k => W0.heap.size ≤ k) W0 _ ∧ _›).1) | (refine Fr.drew ?_) | (refine Fr.alloc ?_ _) | (refine Fr.setCell ?_ (Or.inl ?_) _; rotate_left; (focus (show W0.heap.size ≤ _; simp <;> omega)))))))
    ((first
      | (go_at_call 68
         with_reducible refine (OR _).mono ?_
         rintro e w1 ⟨rfl, F1⟩
         have S1 : Fr (fun k => W0.heap.size ≤ k) W0 w1 := (‹Fr (fun k => W0.heap.size ≤ k) W0 _ ∧ _›).1.trans F1 (fun _ h => h.elim)
         have z1 : W0.heap.size ≤ w1.heap.size := S1.size
         (try (have L1 : w1.heap[W0.heap.size]? = some (.cells #[.int .u64 0, .int .u64 0, .int .u64 0, .int .u64 0] 77 (0, 0)) := F1.keep (heap_alloc_new W0.drew (.cells #[.int .u64 0, .int .u64 0, .int .u64 0, .int .u64 0] 77)))))
      | (go_at_call 103
         with_reducible refine (RX _).mono ?_
         rintro e w2 ⟨rfl, F2⟩
         have S2 : Fr (fun k => W0.heap.size ≤ k) W0 w2 := (‹Fr (fun k => W0.heap.size ≤ k) W0 _ ∧ _›).1.trans F2 (fun _ h => h.elim)
         have z2 : W0.heap.size ≤ w2.heap.size := S2.size
         (try (have L2 := F2.keep L1))
         (try (have L2 := F2.keep (heap_alloc_new w1 (.cells #[.int .u64 0, .int .u64 0, .int .u64 0, .int .u64 0] 77)))))
      | (go_at_call 106
         with_reducible refine (DI _).mono ?_
         rintro e w3 ⟨rfl, F3⟩
         have S3 : Fr (fun k => W0.heap.size ≤ k) W0 w3 := (‹Fr (fun k => W0.heap.size ≤ k) W0 _ ∧ _›).1.trans F3 (fun _ h => h.elim)
         have z3 : W0.heap.size ≤ w3.heap.size := S3.size
         (try (have L3 := F3.keep L2; obtain ⟨m0, m1, m2, m3, m4, m5, m6, m7⟩ := blk4 L3))
         (try (have L3 := F3.keep (heap_alloc_new w2 (.cells #[.int .u64 0, .int .u64 0, .int .u64 0, .int .u64 0] 77)); obtain ⟨n0, n1, n2, n3, n4, n5, n6, n7⟩ := blk4 L3)))))
  all_goals
    have C4 : w3.heap[w.heap.size + 1]? = some (.cells #[.int .u64 0, .int .u64 0, .int .u64 0, .int .u64 0] 77 (0, 0)) := (S3.block _ zz (by omega)).trans HC.out
    have G3 : Fr (fun _ => False) w w3 := HE.out.trans S3 (fun _ h => Or.inr (by have := HW0.out; omega))
    have HC4 := Lib.hid C4
    have hG3 := Lib.hid G3
    clear F1 F2 F3 S1 S2 S3 C4 G3 OR RX DI hS
    go_wp2_with (go_at_call 103; (with_reducible refine (RE _).mono ?_); rintro e w4 ⟨rfl, F4⟩; have C5 : w4.heap[w.heap.size + 1]? = some (.cells #[.int .u64 0, .int .u64 0, .int .u64 0, .int .u64 0] 77 (0, 0)) := (by refine F4.keep ?_; repeat (first | exact HC4.out | (refine keep_set ?_ ?_ _; rotate_left; (focus (have hW0 := HW0.out; show ¬ (_ = _); simp; omega))) | (refine (Below.heap_alloc _ _ _ (lt_of_block HC4.out)).trans ?_))); obtain ⟨p0, p1, p2, p3, p4, p5, p6, p7⟩ := blk4 C5; have G4 : Fr (fun _ => False) w w4 := (by refine Fr.trans (T := fun _ => False) ?_ F4 (fun _ h => False.elim h); repeat (first | exact hG3.out | (refine Fr.setCell ?_ (Or.inr ?_) _; rotate_left; (focus (have hW0 := HW0.out; show _ ≤ _; simp; omega))) | refine Fr.alloc ?_ _ | refine Fr.drew ?_)); have HC5 := Lib.hid C5; have HG4 := Lib.hid G4; clear C5 F4 G4)
    refine bodyPost_ret (results_cell_row rfl _ _ (w.heap.size + 1) 77 #[.int .u64 (q0 : Int), .int .u64 (q1 : Int), .int .u64 (q2 : Int), .int .u64 (q3 : Int)] (0, 0) _ rfl (set4 HC5.out _ _ _ _) Try.underlying77 rfl Try.size4l) rfl ?_
    exact ⟨rfl, (((HG4.out.setCell (Or.inr (by simp)) _).setCell (Or.inr (by simp)) _).setCell (Or.inr (by simp)) _).setCell (Or.inr (by simp)) _⟩
end Go.Proofs.Ytnobobdgoccmcaa


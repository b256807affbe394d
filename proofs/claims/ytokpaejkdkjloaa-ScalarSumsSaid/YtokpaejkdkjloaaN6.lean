/-
  The contract of Neg of package custumalref06.
-/
import Derived.Test.YtokpaejkdkjloaaO6
import Derived.Test.YtokpaejkdkjloaaEq
namespace Go.Proofs.Ytokpaejkdkjloaa
open Go.RowKit
set_option linter.unusedVariables false

theorem nd_list (A : Nat) : nd A = (((List.range 16).map fun j => (dig 65536 A j : Int)).map (Value.int .i64)).toArray := by
  unfold nd iq; rw [List.map_map]; rfl
theorem z16_list : (#[.int .i64 0, .int .i64 0, .int .i64 0, .int .i64 0, .int .i64 0, .int .i64 0, .int .i64 0, .int .i64 0, .int .i64 0, .int .i64 0, .int .i64 0, .int .i64 0, .int .i64 0, .int .i64 0, .int .i64 0, .int .i64 0] : Array Value) = ((List.replicate 16 (0 : Int)).map (Value.int .i64)).toArray := by kernel_rfl
theorem Try.sizeI : ∀ w, (sizeOf 3).run Try.prog w = .ok 1 w := by
  intro w
  have h : (Try.prog.info? 3).map (·.size) = some 1 := by kernel_rfl
  obtain ⟨i0, hi, hz⟩ := Option.map_eq_some_iff.1 h
  simp [sizeOf, typeInfo, hi, hz]
theorem eql_nd (A : Nat) (hA : A < 65536 ^ 16) (w : World) : (binOp .eql 78 (.agg (nd A)) (.agg #[.int .i64 0, .int .i64 0, .int .i64 0, .int .i64 0, .int .i64 0, .int .i64 0, .int .i64 0, .int .i64 0, .int .i64 0, .int .i64 0, .int .i64 0, .int .i64 0, .int .i64 0, .int .i64 0, .int .i64 0, .int .i64 0])).run Try.prog w = .ok (.bool (decide (A = 0))) w := by
  rw [nd_list, z16_list, eql_ints w 78 3 16 .i64 Try.underlying78 Try.underlying3 Try.sizeI _ _ (by simp) (by simp)]
  congr 2
  rw [Bool.eq_iff_iff, beq_iff_eq, decide_eq_true_iff]
  constructor
  · intro h
    refine dig_ext 65536 16 A 0 hA (Nat.pow_pos (by decide)) (fun k hk => ?_)
    have h1 := (List.eq_replicate_iff.1 h).2 _ (List.mem_map.2 ⟨k, List.mem_range.2 hk, rfl⟩)
    rw [show dig 65536 0 k = 0 by simp [dig]]
    omega
  · rintro rfl; rfl
theorem Try.guardNd : Try.prog.eqGuardType Try.prog.depth 78 = false := by kernel_rfl

set_option maxRecDepth 100000 in
set_option maxHeartbeats 3200000 in
theorem neg6_any (A : Nat) (hA0 : A < LL) (w : World) :
    Calls Try.prog 66 #[.agg (nd A)] w fun e w' => e = .returned (.agg (nd ((LL - A) % LL))) ∧ Fr (fun _ => False) w w' := by
  have hP : LL < 65536 ^ 16 := by rw [p16]; decide
  have EQ := fun (W : World) => eql_nd A (by omega) W
  have EG := Try.guardNd
  have A0 := heap_alloc2_old w (.cells (nd A) 78) (.cells #[.int .i64 0, .int .i64 0, .int .i64 0, .int .i64 0, .int .i64 0, .int .i64 0, .int .i64 0, .int .i64 0, .int .i64 0, .int .i64 0, .int .i64 0, .int .i64 0, .int .i64 0, .int .i64 0, .int .i64 0, .int .i64 0] 78)
  have C0 := heap_alloc2_new w (.cells (nd A) 78) (.cells #[.int .i64 0, .int .i64 0, .int .i64 0, .int .i64 0, .int .i64 0, .int .i64 0, .int .i64 0, .int .i64 0, .int .i64 0, .int .i64 0, .int .i64 0, .int .i64 0, .int .i64 0, .int .i64 0, .int .i64 0, .int .i64 0] 78)
  have F0 : Fr (fun _ => False) w ((w.alloc (.cells (nd A) 78)).alloc (.cells #[.int .i64 0, .int .i64 0, .int .i64 0, .int .i64 0, .int .i64 0, .int .i64 0, .int .i64 0, .int .i64 0, .int .i64 0, .int .i64 0, .int .i64 0, .int .i64 0, .int .i64 0, .int .i64 0, .int .i64 0, .int .i64 0] 78)) := ((Fr.refl _ w).alloc _).alloc _
  have t3 := Try.sizeN (X := A)
  have s1 : (#[.int .i64 0, .int .i64 0, .int .i64 0, .int .i64 0, .int .i64 0, .int .i64 0, .int .i64 0, .int .i64 0, .int .i64 0, .int .i64 0, .int .i64 0, .int .i64 0, .int .i64 0, .int .i64 0, .int .i64 0, .int .i64 0] : Array Value).size = (nd A).size := z16_size _
  have s2 := nd_one' A
  by_cases hz : A = 0
  · have hd : decide (A = 0) = true := decide_eq_true hz
    rw [hd] at EQ
    have HR := Lib.hid (show nd A = nd ((LL - A) % LL) by rw [hz]; congr 1)
    clear hz hd
    go_enter Try.func66, Try.ntmps66
    go_wp2_with (first
      | (with_reducible refine wpList_load_row rfl 78 (.tmp 1) rfl w.heap.size rfl 78 (nd A) (0, 0) _ A0 Try.underlying78 rfl t3 ?_)
      | (with_reducible refine wpList_store_row rfl 78 (.tmp 2) (.tmp 10) rfl (w.heap.size + 1) (nd A) rfl rfl 78 _ C0 t3 s1 s2 ?_))
    refine bodyPost_ret (results_cell_row rfl _ _ (w.heap.size + 1) 78 (nd A) (0, 0) _ rfl (setRow_heap _ _ _ _ _ _ C0) Try.underlying78 rfl t3) rfl ?_
    exact ⟨by rw [HR.out], F0.trans (Fr.setRow (S := fun k => k = w.heap.size + 1) (Fr.refl _ _) rfl _) (fun i hi => Or.inr (by omega))⟩
  · have hd : decide (A = 0) = false := decide_eq_false hz
    rw [hd] at EQ
    have LC := fun (W : World) => L6_any W
    have u1 : (#[.int .i64 0, .int .i64 0, .int .i64 0, .int .i64 0, .int .i64 0, .int .i64 0, .int .i64 0, .int .i64 0, .int .i64 0, .int .i64 0, .int .i64 0, .int .i64 0, .int .i64 0, .int .i64 0, .int .i64 0, .int .i64 0] : Array Value).size = (nd LL).size := z16_size _
    have u2 := nd_one' LL
    have u3 := Try.sizeN (X := LL)
    go_enter Try.func66, Try.ntmps66
    go_wp2_with (with_reducible refine wpList_load_row rfl 78 (.tmp 1) rfl w.heap.size rfl 78 (nd A) (0, 0) _ A0 Try.underlying78 rfl t3 ?_)
    refine (LC _).mono ?_
    rintro e w1 ⟨rfl, F1⟩
    have A1 := F1.keepM A0
    have C1 := F1.keepM C0
    have G1 : Fr (fun _ => False) w w1 := F0.trans F1 (fun _ h => h.elim)
    have z1 := lt_of_block A1
    have z2 := lt_of_block C1
    clear A0 C0 F0 F1 LC EQ s1 s2
    go_wp2_with (with_reducible refine wpList_store_rowR rfl 78 (.tmp 3) (.tmp 11) rfl w1.heap.size (nd LL) rfl rfl 78 _ (heap_alloc_new w1 _) u3 u1 u2 ?k)
    case k =>
    intro w3 A3 hG2
    have L3 := (hG2.block _ (by simp; omega) (by omega)).trans ((Below.heap_alloc _ _ _ z1).trans A1)
    have C3 := (hG2.block _ (by simp; omega) (by omega)).trans ((Below.heap_alloc _ _ _ z2).trans C1)
    have G3 : Fr (fun _ => False) w w3 := (G1.alloc _).trans hG2 (fun i hi => Or.inr (by have := G1.size; omega))
    clear A1 C1 G1 hG2 u1 u2 u3 t3
    generalize w1.heap.size = T at *
    rw [zero16] at C3
    unfold nd at A3 L3 ⊢
    have A3' : w3.heap[T]? = some (.cells (iq 16 (fun j => if j < 0 then dig 65536 (LL + 65536 ^ 16 - A) j else dig 65536 LL j)) 78 (0, 0)) := A3
    have hTn := lt_of_block L3
    go_wp2_with fail
    go_loopw [4, 5] (fun u i wr => ∃ k : Nat, k ≤ 16 ∧ i = .int .i64 k ∧ u = .int .i64 (lck 65536 LL A k : Nat) ∧ wr.heap[T]? = some (.cells (iq 16 (fun j => if j < k then dig 65536 (LL + 65536 ^ 16 - A) j else dig 65536 LL j)) 78 (0, 0)) ∧ wr.heap[w.heap.size]? = some (.cells (iq 16 (dig 65536 A)) 78 (0, 0)) ∧ wr.heap[w.heap.size + 1]? = some (.cells (iq 16 (fun _ => 0)) 78 (0, 0)) ∧ Fr (fun _ => False) w wr) (fun _ i _ => 16 - (intOf i).toNat)
    case atStart => exact ⟨0, by omega, by simp, by simp [lck_zero], A3', L3, C3, G3⟩
    case round =>
      clear A3 A3' L3 C3 G3
      obtain ⟨k, hk, rfl, rfl, hA, hB, hC, hF⟩ := hrel
      by_cases h16 : k < 16
      · have q0 : (0 : Int) ≤ (k : Int) := by omega
        have q1 : (k : Int) < 16 := by omega
        have c0 := cell_of_block hA k
        rw [iq_get 16 _ k h16, if_neg (by omega)] at c0
        have c1 := cell_of_block hB k
        rw [iq_get 16 _ k h16] at c1
        have f0 := free_of_block hA k
        have hcl := lck_le 65536 LL A k
        have hs := lck_succ 65536 LL A k (by decide)
        have hd := dig_sub 65536 LL A 16 k (by decide) h16 (by omega)
        have hx := dig_lt 65536 LL k (by decide)
        have hy := dig_lt 65536 A k (by decide)
        generalize dig 65536 LL k = x at c0 hs hd hx
        generalize dig 65536 A k = y at c1 hs hd hy
        generalize lck 65536 LL A k = c at hcl hs hd ⊢
        have e1 : IntKind.i64.wrap ((x : Int) - (y : Int)) = (x : Int) - (y : Int) := IntWalk.i64_in _ (by omega)
        have e2 : IntKind.i64.wrap ((x : Int) - (y : Int) - (c : Int)) = (x : Int) - (y : Int) - (c : Int) := IntWalk.i64_in _ (by omega)
        have e3 : IntKind.i64.wrap ((x : Int) - (y : Int) - (c : Int) + 65536) = (x : Int) - (y : Int) - (c : Int) + 65536 := IntWalk.i64_in _ (by omega)
        have xb : (x : Int) < 65536 := by omega
        have yb : (y : Int) < 65536 := by omega
        have hst := block_setCell hA k (.int .i64 ((dig 65536 (LL + 65536 ^ 16 - A) k : Nat) : Int))
        rw [step_set 16 (dig 65536 (LL + 65536 ^ 16 - A)) _ k _ h16 rfl] at hst
        have hv : ((dig 65536 (LL + 65536 ^ 16 - A) k : Nat) : Int) = if x < y + c then (x : Int) - (y : Int) - (c : Int) + 65536 else (x : Int) - (y : Int) - (c : Int) := by
          rw [hd]; split <;> omega
        have E1 : ∀ v : Value, Fr (fun i => i = T) wr (wr.setCell ⟨T, k, none⟩ v) := fun v => Fr.setCell (S := fun i => i = T) (Fr.refl _ wr) (Or.inl rfl) _
        have E5 := Lib.hid (fun v => ((E1 v).block w.heap.size (lt_of_block hB) (by omega)).trans hB)
        have E6 := Lib.hid (fun v => ((E1 v).block (w.heap.size + 1) (lt_of_block hC) (by omega)).trans hC)
        have HFF := Lib.hid hF
        have HS := Lib.hid hst
        have HV := Lib.hid hv
        have HL := Lib.hid hs
        by_cases hlt2 : x < y + c
        · have hneg : (x : Int) - (y : Int) - (c : Int) < 0 := by omega
          clear hs hd hst hv E1 hA hB hC hF
          go_wp2_with fail
          go_quiet (fail)
          replace c0 : (wr.drewN nq).cell? ⟨T, k, none⟩ = some (.int .i64 (x : Int)) := c0
          replace f0 : (wr.drewN nq).frozen? ⟨T, k, none⟩ = false := f0
          go_wp2_with fail
          go_roundw
          case rel =>
            refine ⟨k + 1, by omega, by go_num, by rw [HL.out, if_pos hlt2]; rfl, ?_, E5.out _, E6.out _, (HFF.out.drewN nq).setCell (Or.inr (by show w.heap.size ≤ T; omega)) _⟩
            have h1 := HS.out
            rw [HV.out, if_pos hlt2] at h1
            exact h1
          case measure => simp [intOf]; omega
        · obtain ⟨d, hdd⟩ : ∃ d : Nat, (x : Int) - (y : Int) - (c : Int) = (d : Int) := ⟨x - y - c, by omega⟩
          rw [hdd] at e2 e3
          replace hv := HV.out
          rw [if_neg hlt2, hdd] at hv
          have HV2 := Lib.hid hv
          have d1 : decide ((d : Int) < 0) = false := by simp
          have d0 : (0 : Int) ≤ (d : Int) := by omega
          clear hs hd hst hv E1 hA hB hC hF e3 e1 hcl hx hy
          go_wp2_with fail
          go_quiet (fail)
          replace c0 : (wr.drewN nq).cell? ⟨T, k, none⟩ = some (.int .i64 (x : Int)) := c0
          replace f0 : (wr.drewN nq).frozen? ⟨T, k, none⟩ = false := f0
          clear hdd e2 c1 xb yb
          go_wp2_with fail
          go_roundw
          case rel =>
            refine ⟨k + 1, by omega, by go_num, by rw [HL.out, if_neg hlt2]; rfl, ?_, E5.out _, E6.out _, (HFF.out.drewN nq).setCell (Or.inr (by show w.heap.size ≤ T; omega)) _⟩
            have h1 := HS.out
            rw [HV2.out] at h1
            exact h1
          case measure => simp [intOf]; omega
      · obtain rfl : k = 16 := by omega
        rw [show (iq 16 (fun j => if j < 16 then dig 65536 (LL + 65536 ^ 16 - A) j else dig 65536 LL j)) = iq 16 (dig 65536 ((LL - A) % LL)) from iq_congr (fun j hj => by
          have e : (LL + 65536 ^ 16 - A) % 65536 ^ 16 = (LL - A) % LL := by
            rw [show (LL + 65536 ^ 16 - A) = (LL - A) + 65536 ^ 16 by omega, Nat.add_mod_right, Nat.mod_eq_of_lt (by omega), Nat.mod_eq_of_lt (by omega)]
          rw [if_pos hj, ← dig_of_mod 65536 (LL + 65536 ^ 16 - A) 16 j hj, e])] at hA
        have t4 := Try.size16 (f := dig 65536 ((LL - A) % LL))
        have s1 := iq_szs (fun _ => 0) (dig 65536 ((LL - A) % LL))
        have s2 := iq_one 16 (dig 65536 ((LL - A) % LL))
        rw [show ((16 : Nat) : Int) = 16 from rfl]
        go_wp2_with (first
          | (with_reducible refine wpList_load_row rfl 78 (.tmp 3) rfl T rfl 78 (iq 16 (dig 65536 ((LL - A) % LL))) (0, 0) _ hA Try.underlying78 rfl t4 ?_)
          | (with_reducible refine wpList_store_row rfl 78 (.tmp 2) (.tmp 32) rfl (w.heap.size + 1) (iq 16 (dig 65536 ((LL - A) % LL))) rfl rfl 78 _ hC t4 s1 s2 ?_))
        refine bodyPost_ret (results_cell_row rfl _ _ (w.heap.size + 1) 78 (iq 16 (dig 65536 ((LL - A) % LL))) (0, 0) _ rfl (setRow_heap _ _ _ _ _ _ hC) Try.underlying78 rfl t4) rfl ?_
        exact ⟨rfl, hF.trans (Fr.setRow (S := fun k => k = w.heap.size + 1) (Fr.refl _ _) rfl _) (fun i hi => Or.inr (by omega))⟩
end Go.Proofs.Ytokpaejkdkjloaa


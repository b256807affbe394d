/-
  The contracts of L and Add of package custumalref06.
-/
import Derived.Test.YtnobobdgoccmcaaLe
namespace Go.Proofs.Ytnobobdgoccmcaa
open Go.RowKit
set_option linter.unusedVariables false

theorem p16 : (65536 : Nat) ^ 16 = 115792089237316195423570985008687907853269984665640564039457584007913129639936 := by decide
set_option maxRecDepth 100000 in
set_option maxHeartbeats 400000 in
theorem L6_any (w : World) : Calls Try.prog 69 #[] w fun e w' => e = .returned (.agg (nd LL)) ∧ Fr (fun _ => False) w w' := by
  go_enter Try.func69, Try.ntmps69
  go_wp2
  refine bodyPost_ret (results_cell_row rfl _ _ w.heap.size 78 _ (0, 0) _ rfl (heap_alloc_new w _) Try.underlying78 rfl (by show _ = some 16; kernel_rfl)) rfl ?_
  exact ⟨by kernel_rfl, (Fr.refl _ w).alloc _⟩
theorem mask16 (x : Nat) (hx : x < 4611686018427387904) : bits .and .i64 (x : Int) 65535 = ((x % 65536 : Nat) : Int) := by
  have h1 : (BitVec.ofInt 64 (x : Int)).toNat = x := by
    rw [BitVec.ofInt_natCast, BitVec.toNat_ofNat]; exact Nat.mod_eq_of_lt (by omega)
  show IntKind.i64.wrap ((BitVec.ofInt 64 (x : Int) &&& BitVec.ofInt 64 65535).toNat : Int) = _
  rw [BitVec.toNat_and, h1, show (BitVec.ofInt 64 65535).toNat = 2 ^ 16 - 1 from rfl, Nat.and_two_pow_sub_one_eq_mod]
  exact IntWalk.i64_in _ (by omega)
theorem step_set (n : Nat) (f g : Nat → Nat) (k b : Nat) (hk : k < n) (hb : b = f k) : (iq n (fun j => if j < k then f j else g j)).setIfInBounds k (.int .i64 (b : Int)) = iq n (fun j => if j < k + 1 then f j else g j) := by
  rw [iq_set n _ k b hk]
  refine iq_congr (fun j hj => ?_)
  by_cases e : j = k
  · subst e; simp [hb]
  · rw [if_neg e]
    by_cases e2 : j < k
    · rw [if_pos e2, if_pos (by omega)]
    · rw [if_neg e2, if_neg (by omega)]
section
variable {P : Program}
theorem wpList_store_rowR {ops : Array Oper} {rest : List Oper} {o : Oper} {a : Act} {w : World} {Q : Exit → Act → World → Prop} (hgd : o.guard = none) (ty : TypeId) (x y : Operand) (ho : o.op = .store ty x y)
    (g : Nat) (cells : Array Value) (hx : a.eval x = .pointer (some ⟨g, 0, none⟩)) (hy : a.eval y = .agg cells)
    (t : TypeId) (old : Array Value) (hg : w.heap[g]? = some (.cells old t (0, 0))) (hi : (P.info? ty).map (·.size) = some cells.size)
    (hold : old.size = cells.size) (h1 : cells.all (·.oneCell') = true)
    (h : ∀ w2 : World, w2.heap[g]? = some (.cells cells t (0, 0)) → Fr (fun k => k = g) w w2 → wpList P ops Q rest (a.put o.dst undef) w2) : wpList P ops Q (o :: rest) a w :=
  wpList_store_row hgd ty x y ho g cells hx hy t old hg hi hold h1 (h _ (setRow_heap _ _ _ _ _ _ hg) (Fr.setRow (S := fun k => k = g) (Fr.refl _ _) rfl _))
end
theorem z16_size (f : Nat → Nat) : (#[.int .i64 0, .int .i64 0, .int .i64 0, .int .i64 0, .int .i64 0, .int .i64 0, .int .i64 0, .int .i64 0, .int .i64 0, .int .i64 0, .int .i64 0, .int .i64 0, .int .i64 0, .int .i64 0, .int .i64 0, .int .i64 0] : Array Value).size = (iq 16 f).size := by rw [iq_size]; rfl
theorem iq_szs (f g : Nat → Nat) : (iq 16 f).size = (iq 16 g).size := by rw [iq_size, iq_size]
theorem zero16 : (#[.int .i64 0, .int .i64 0, .int .i64 0, .int .i64 0, .int .i64 0, .int .i64 0, .int .i64 0, .int .i64 0, .int .i64 0, .int .i64 0, .int .i64 0, .int .i64 0, .int .i64 0, .int .i64 0, .int .i64 0, .int .i64 0] : Array Value) = iq 16 (fun _ => 0) := by kernel_rfl
set_option maxRecDepth 100000 in
set_option maxHeartbeats 3200000 in
theorem add6_any (X Y : Nat) (hX : X < LL) (hY : Y < LL) (w : World) :
    Calls Try.prog 62 #[.agg (nd X), .agg (nd Y)] w fun e w' => e = .returned (.agg (nd ((X + Y) % LL))) ∧ Fr (fun _ => False) w w' := by
  unfold nd
  have hLP : LL + LL < 65536 ^ 16 := by rw [p16]; decide
  go_enter Try.func62, Try.ntmps62
  go_wp2_with fail
  have A0 : (((w.alloc (.cells (iq 16 (dig 65536 X)) 78)).alloc (.cells (iq 16 (dig 65536 Y)) 78)).alloc (.cells #[.int .i64 0, .int .i64 0, .int .i64 0, .int .i64 0, .int .i64 0, .int .i64 0, .int .i64 0, .int .i64 0, .int .i64 0, .int .i64 0, .int .i64 0, .int .i64 0, .int .i64 0, .int .i64 0, .int .i64 0, .int .i64 0] 78)).heap[w.heap.size]? = some (.cells (iq 16 (dig 65536 X)) 78 (0, 0)) := by
    rw [Below.heap_alloc _ _ _ (by simp; omega), Below.heap_alloc _ _ _ (by simp)]; exact heap_alloc_new w _
  have B0 : (((w.alloc (.cells (iq 16 (dig 65536 X)) 78)).alloc (.cells (iq 16 (dig 65536 Y)) 78)).alloc (.cells #[.int .i64 0, .int .i64 0, .int .i64 0, .int .i64 0, .int .i64 0, .int .i64 0, .int .i64 0, .int .i64 0, .int .i64 0, .int .i64 0, .int .i64 0, .int .i64 0, .int .i64 0, .int .i64 0, .int .i64 0, .int .i64 0] 78)).heap[w.heap.size + 1]? = some (.cells (iq 16 (dig 65536 Y)) 78 (0, 0)) := by
    rw [Below.heap_alloc _ _ _ (by simp)]; exact heap_at _ _ _ _ (by simp)
  have C0 : (((w.alloc (.cells (iq 16 (dig 65536 X)) 78)).alloc (.cells (iq 16 (dig 65536 Y)) 78)).alloc (.cells #[.int .i64 0, .int .i64 0, .int .i64 0, .int .i64 0, .int .i64 0, .int .i64 0, .int .i64 0, .int .i64 0, .int .i64 0, .int .i64 0, .int .i64 0, .int .i64 0, .int .i64 0, .int .i64 0, .int .i64 0, .int .i64 0] 78)).heap[w.heap.size + 1 + 1]? = some (.cells #[.int .i64 0, .int .i64 0, .int .i64 0, .int .i64 0, .int .i64 0, .int .i64 0, .int .i64 0, .int .i64 0, .int .i64 0, .int .i64 0, .int .i64 0, .int .i64 0, .int .i64 0, .int .i64 0, .int .i64 0, .int .i64 0] 78 (0, 0)) := heap_at _ _ _ _ (by simp)
  have F0 : Fr (fun _ => False) w (((w.alloc (.cells (iq 16 (dig 65536 X)) 78)).alloc (.cells (iq 16 (dig 65536 Y)) 78)).alloc (.cells #[.int .i64 0, .int .i64 0, .int .i64 0, .int .i64 0, .int .i64 0, .int .i64 0, .int .i64 0, .int .i64 0, .int .i64 0, .int .i64 0, .int .i64 0, .int .i64 0, .int .i64 0, .int .i64 0, .int .i64 0, .int .i64 0] 78)) := (((Fr.refl _ w).alloc _).alloc _).alloc _
  rw [zero16] at C0
  have A0' := A0
  rw [show iq 16 (dig 65536 X) = iq 16 (fun j => if j < 0 then dig 65536 (X + Y) j else dig 65536 X j) from rfl] at A0'
  go_loopw [5, 6] (fun c i wr => ∃ k : Nat, k ≤ 16 ∧ i = .int .i64 k ∧ c = .int .i64 (cry 65536 X Y k : Nat) ∧ wr.heap[w.heap.size]? = some (.cells (iq 16 (fun j => if j < k then dig 65536 (X + Y) j else dig 65536 X j)) 78 (0, 0)) ∧ wr.heap[w.heap.size + 1]? = some (.cells (iq 16 (dig 65536 Y)) 78 (0, 0)) ∧ wr.heap[w.heap.size + 1 + 1]? = some (.cells (iq 16 (fun _ => 0)) 78 (0, 0)) ∧ Fr (fun _ => False) w wr) (fun _ i _ => 16 - (intOf i).toNat)
  case atStart => exact ⟨0, by omega, by simp, by simp [cry_zero], A0', B0, C0, F0⟩
  case round =>
    clear A0 A0' B0 C0 F0
    obtain ⟨k, hk, rfl, rfl, hA, hB, hC, hF⟩ := hrel
    by_cases h16 : k < 16
    · have q0 : (0 : Int) ≤ (k : Int) := by omega
      have q1 : (k : Int) < 16 := by omega
      have c0 := cell_of_block hA k
      rw [iq_get 16 _ k h16, if_neg (by omega)] at c0
      have c1 := cell_of_block hB k
      rw [iq_get 16 _ k h16] at c1
      have f0 := free_of_block hA k
      have hcl := cry_le 65536 X Y k (by decide)
      have hs := cry_succ 65536 X Y k (by decide)
      have hd := dig_add 65536 X Y k (by decide)
      have hx := dig_lt 65536 X k (by decide)
      have hy := dig_lt 65536 Y k (by decide)
      generalize dig 65536 X k = x at c0 hs hd hx
      generalize dig 65536 Y k = y at c1 hs hd hy
      generalize cry 65536 X Y k = c at hcl hs hd ⊢
      obtain ⟨s, hse⟩ : ∃ s, s = x + y + c := ⟨_, rfl⟩
      rw [← hse] at hs hd
      have e1 : IntKind.i64.wrap ((x : Int) + (y : Int)) = (x : Int) + (y : Int) := IntWalk.i64_in _ (by omega)
      have e2 : IntKind.i64.wrap ((x : Int) + (y : Int) + (c : Int)) = (s : Int) := by rw [IntWalk.i64_in _ (by omega)]; omega
      have e2' : (x : Int) + (y : Int) + (c : Int) = (s : Int) := by omega
      have e3 := mask16 s (by omega)
      have e4 : (s : Int) / 65536 = ((s / 65536 : Nat) : Int) := by omega
      rw [← hd] at e3
      rw [← hs] at e4
      have xb : (x : Int) < 65536 := by omega
      have yb : (y : Int) < 65536 := by omega
      generalize hz : dig 65536 (X + Y) k = z at e3
      generalize hc2 : cry 65536 X Y (k + 1) = c2 at e4
      have HC2 := Lib.hid hc2
      have HZ := Lib.hid hz
      have hA2 := Lib.hid hA
      have hB2 := Lib.hid hB
      have hC2 := Lib.hid hC
      have hF2 := Lib.hid hF
      clear hs hd hse hz hc2 hA hB hC hF
      go_wp2_with fail
      go_quiet (fail)
      have hA : (wr.drewN nq).heap[w.heap.size]? = _ := hA2.out
      have hB : (wr.drewN nq).heap[w.heap.size + 1]? = _ := hB2.out
      have hC : (wr.drewN nq).heap[w.heap.size + 1 + 1]? = _ := hC2.out
      have hF := hF2.out.drewN nq
      replace c0 : (wr.drewN nq).cell? ⟨w.heap.size, k, none⟩ = some (.int .i64 (x : Int)) := c0
      replace f0 : (wr.drewN nq).frozen? ⟨w.heap.size, k, none⟩ = false := f0
      clear hA2 hB2 hC2 hF2 c1
      generalize wr.drewN nq = wq at *
      have hst := block_setCell hA k (.int .i64 (z : Int))
      rw [step_set 16 (dig 65536 (X + Y)) _ k _ h16 HZ.out.symm] at hst
      have HS := Lib.hid hst
      have E1 : Fr (fun i => i = w.heap.size) wq (wq.setCell ⟨w.heap.size, k, none⟩ (.int .i64 (z : Int))) := Fr.setCell (S := fun i => i = w.heap.size) (Fr.refl _ wq) (Or.inl rfl) _
      have E2 : Fr (fun _ => False) w (wq.setCell ⟨w.heap.size, k, none⟩ (.int .i64 (z : Int))) := hF.setCell (Or.inr (Nat.le_refl _)) _
      have E5 := Lib.hid ((E1.block (w.heap.size + 1) (lt_of_block hB) (by omega)).trans hB)
      have E6 := Lib.hid ((E1.block (w.heap.size + 1 + 1) (lt_of_block hC) (by omega)).trans hC)
      clear hst hA hB hC hF E1
      go_wp2_with fail
      go_roundw
      case rel => exact ⟨k + 1, by omega, by go_num, by rw [HC2.out], HS.out, E5.out, E6.out, E2⟩
      case measure => simp [intOf]; omega
    · obtain rfl : k = 16 := by omega
      rw [show (iq 16 (fun j => if j < 16 then dig 65536 (X + Y) j else dig 65536 X j)) = iq 16 (dig 65536 (X + Y)) from iq_congr (fun j hj => by rw [if_pos hj])] at hA
      have hZ : (X + Y) < 65536 ^ 16 := by omega
      have LC := fun W : World => L6_any W
      have LE := fun W : World => less_any (X + Y) LL hZ (by rw [p16]; decide) W
      unfold nd at LC LE
      have HA := Lib.hid hA
      have HB := Lib.hid hB
      have HC := Lib.hid hC
      have HF := Lib.hid hF
      clear hA hB hC hF
      rw [show ((16 : Nat) : Int) = 16 from rfl]
      go_wp2_with fail
      refine (LC _).mono ?_
      rintro e w1 ⟨rfl, F1⟩
      have A1 := (F1.block _ (lt_of_block HA.out) (fun h => h)).trans HA.out
      have C1 := (F1.block _ (lt_of_block HC.out) (fun h => h)).trans HC.out
      have G1 : Fr (fun _ => False) w w1 := HF.out.trans F1 (fun _ h => h.elim)
      have s1 := z16_size (dig 65536 LL)
      have s2 := iq_one 16 (dig 65536 LL)
      have s3 := Try.size16 (f := dig 65536 LL)
      have z1 := lt_of_block A1
      have z2 := lt_of_block C1
      clear F1 LC HA HB HC HF
      go_wp2_with (with_reducible refine wpList_store_rowR rfl 78 (.tmp 8) (.tmp 31) rfl w1.heap.size (iq 16 (dig 65536 LL)) rfl rfl 78 _ (heap_alloc_new w1 _) s3 s1 s2 ?k)
      case k =>
      intro w2 L2 hG2
      have A2 := (hG2.block _ (by simp; omega) (by omega)).trans ((Below.heap_alloc _ _ _ z1).trans A1)
      have C2 := (hG2.block _ (by simp; omega) (by omega)).trans ((Below.heap_alloc _ _ _ z2).trans C1)
      have G2 : Fr (fun _ => False) w w2 := (G1.alloc _).trans hG2 (fun i hi => Or.inr (by have := G1.size; omega))
      have t3 := Try.size16 (f := dig 65536 (X + Y))
      clear A1 C1 G1 hG2 s1 s2
      generalize w1.heap.size = T at *
      by_cases hlt : (X + Y) < LL
      · have hdec : decide ((X + Y) < LL) = true := decide_eq_true hlt
        rw [hdec] at LE
        have HR := Lib.hid (show dig 65536 ((X + Y) % LL) = dig 65536 (X + Y) by rw [Nat.mod_eq_of_lt hlt])
        go_wp2_with (first
          | (with_reducible refine wpList_load_row rfl 78 (.tmp 2) rfl w.heap.size rfl 78 (iq 16 (dig 65536 (X + Y))) (0, 0) _ A2 Try.underlying78 rfl t3 ?_)
          | (with_reducible refine wpList_load_row rfl 78 (.tmp 8) rfl T rfl 78 (iq 16 (dig 65536 LL)) (0, 0) _ L2 Try.underlying78 rfl s3 ?_))
        refine (LE _).mono ?_
        rintro e w3 ⟨rfl, F3⟩
        have A3 := (F3.block _ (lt_of_block A2) (fun h => h)).trans A2
        have C3 := (F3.block _ (lt_of_block C2) (fun h => h)).trans C2
        have G3 : Fr (fun _ => False) w w3 := G2.trans F3 (fun _ h => h.elim)
        have s1 := iq_szs (fun _ => 0) (dig 65536 (X + Y))
        have s2 := iq_one 16 (dig 65536 (X + Y))
        clear A2 C2 L2 G2 F3 LE
        go_wp2_with (first
          | (with_reducible refine wpList_load_row rfl 78 (.tmp 2) rfl w.heap.size rfl 78 (iq 16 (dig 65536 (X + Y))) (0, 0) _ A3 Try.underlying78 rfl t3 ?_)
          | (with_reducible refine wpList_store_row rfl 78 (.tmp 4) (.tmp 35) rfl (w.heap.size + 1 + 1) (iq 16 (dig 65536 (X + Y))) rfl rfl 78 _ C3 t3 s1 s2 ?_))
        refine bodyPost_ret (results_cell_row rfl _ _ (w.heap.size + 1 + 1) 78 (iq 16 (dig 65536 (X + Y))) (0, 0) _ rfl (setRow_heap _ _ _ _ _ _ C3) Try.underlying78 rfl t3) rfl ?_
        exact ⟨by rw [HR.out], G3.trans (Fr.setRow (S := fun k => k = w.heap.size + 1 + 1) (Fr.refl _ _) rfl _) (fun i hi => Or.inr (by omega))⟩
      · have hdec : decide ((X + Y) < LL) = false := decide_eq_false hlt
        rw [hdec] at LE
        go_wp2_with (first
          | (with_reducible refine wpList_load_row rfl 78 (.tmp 2) rfl w.heap.size rfl 78 (iq 16 (dig 65536 (X + Y))) (0, 0) _ A2 Try.underlying78 rfl t3 ?_)
          | (with_reducible refine wpList_load_row rfl 78 (.tmp 8) rfl T rfl 78 (iq 16 (dig 65536 LL)) (0, 0) _ L2 Try.underlying78 rfl s3 ?_))
        refine (LE _).mono ?_
        rintro e w3 ⟨rfl, F3⟩
        have A3 := (F3.block _ (lt_of_block A2) (fun h => h)).trans A2
        have C3 := (F3.block _ (lt_of_block C2) (fun h => h)).trans C2
        have L3 := (F3.block _ (lt_of_block L2) (fun h => h)).trans L2
        have G3 : Fr (fun _ => False) w w3 := G2.trans F3 (fun _ h => h.elim)
        clear A2 C2 L2 G2 F3 LE
        have hge : LL ≤ (X + Y) := by omega
        have A3' : w3.heap[w.heap.size]? = some (.cells (iq 16 (fun j => if j < 0 then dig 65536 (X + Y + 65536 ^ 16 - LL) j else dig 65536 (X + Y) j)) 78 (0, 0)) := A3
        have hTn := lt_of_block L3
        go_wp2_with fail
        go_loopw [9, 10] (fun u i wr => ∃ k : Nat, k ≤ 16 ∧ i = .int .i64 k ∧ u = .int .i64 (lck 65536 (X + Y) LL k : Nat) ∧ wr.heap[w.heap.size]? = some (.cells (iq 16 (fun j => if j < k then dig 65536 (X + Y + 65536 ^ 16 - LL) j else dig 65536 (X + Y) j)) 78 (0, 0)) ∧ wr.heap[T]? = some (.cells (iq 16 (dig 65536 LL)) 78 (0, 0)) ∧ wr.heap[w.heap.size + 1 + 1]? = some (.cells (iq 16 (fun _ => 0)) 78 (0, 0)) ∧ Fr (fun _ => False) w wr) (fun _ i _ => 16 - (intOf i).toNat)
        case atStart => exact ⟨0, by omega, by simp, by simp [lck_zero], A3', L3, C3, G3⟩
        case round =>
          clear A3 A3' L3 C3 G3
          obtain ⟨k, hk, rfl, rfl, hA, hB, hC, hF⟩ := hrel
          by_cases h16 : k < 16
          · have q0 : (0 : Int) ≤ (k : Int) := by omega
            have q1 : (k : Int) < 16 := by omega
            have c0 := cell_of_block hA k
            rw [iq_get 16 _ k h16, if_neg (by omega)] at c0
            have c1 := cell_of_block hB k
            rw [iq_get 16 _ k h16] at c1
            have f0 := free_of_block hA k
            have hcl := lck_le 65536 (X + Y) LL k
            have hs := lck_succ 65536 (X + Y) LL k (by decide)
            have hd := dig_sub 65536 (X + Y) LL 16 k (by decide) h16 (by omega)
            have hx := dig_lt 65536 (X + Y) k (by decide)
            have hy := dig_lt 65536 LL k (by decide)
            generalize dig 65536 (X + Y) k = x at c0 hs hd hx
            generalize dig 65536 LL k = y at c1 hs hd hy
            generalize lck 65536 (X + Y) LL k = c at hcl hs hd ⊢
            have e1 : IntKind.i64.wrap ((x : Int) - (y : Int)) = (x : Int) - (y : Int) := IntWalk.i64_in _ (by omega)
            have e2 : IntKind.i64.wrap ((x : Int) - (y : Int) - (c : Int)) = (x : Int) - (y : Int) - (c : Int) := IntWalk.i64_in _ (by omega)
            have e3 : IntKind.i64.wrap ((x : Int) - (y : Int) - (c : Int) + 65536) = (x : Int) - (y : Int) - (c : Int) + 65536 := IntWalk.i64_in _ (by omega)
            have xb : (x : Int) < 65536 := by omega
            have yb : (y : Int) < 65536 := by omega
            have hst := block_setCell hA k (.int .i64 ((dig 65536 (X + Y + 65536 ^ 16 - LL) k : Nat) : Int))
            rw [step_set 16 (dig 65536 (X + Y + 65536 ^ 16 - LL)) _ k _ h16 rfl] at hst
            have hv : ((dig 65536 (X + Y + 65536 ^ 16 - LL) k : Nat) : Int) = if x < y + c then (x : Int) - (y : Int) - (c : Int) + 65536 else (x : Int) - (y : Int) - (c : Int) := by
              rw [hd]; split <;> omega
            have E1 : ∀ v : Value, Fr (fun i => i = w.heap.size) wr (wr.setCell ⟨w.heap.size, k, none⟩ v) := fun v => Fr.setCell (S := fun i => i = w.heap.size) (Fr.refl _ wr) (Or.inl rfl) _
            have E5 := Lib.hid (fun v => ((E1 v).block T (lt_of_block hB) (by omega)).trans hB)
            have E6 := Lib.hid (fun v => ((E1 v).block (w.heap.size + 1 + 1) (lt_of_block hC) (by omega)).trans hC)
            have HFF := Lib.hid hF
            have HS := Lib.hid hst
            have HV := Lib.hid hv
            have HL := Lib.hid hs
            by_cases hlt2 : x < y + c
            · have hneg : (x : Int) - (y : Int) - (c : Int) < 0 := by omega
              clear hs hd hst hv E1 hA hB hC hF
              go_wp2_with fail
              go_quiet (fail)
              replace c0 : (wr.drewN nq).cell? ⟨w.heap.size, k, none⟩ = some (.int .i64 (x : Int)) := c0
              replace f0 : (wr.drewN nq).frozen? ⟨w.heap.size, k, none⟩ = false := f0
              go_wp2_with fail
              go_roundw
              case rel =>
                refine ⟨k + 1, by omega, by go_num, by rw [HL.out, if_pos hlt2]; rfl, ?_, E5.out _, E6.out _, (HFF.out.drewN nq).setCell (Or.inr (Nat.le_refl _)) _⟩
                have h1 := HS.out
                rw [HV.out, if_pos hlt2] at h1
                exact h1
              case measure => simp [intOf]; omega
            · obtain ⟨d, hdd⟩ : ∃ d : Nat, (x : Int) - (y : Int) - (c : Int) = (d : Int) := ⟨x - y - c, by omega⟩
              rw [hdd] at e2 e3
              replace hv := HV.out
              rw [if_neg hlt2, hdd] at hv
              have HV2 := Lib.hid hv
              have d1 : decide ((d : Int) < 0) = false := by simp
              have d0 : (0 : Int) ≤ (d : Int) := by omega
              clear hs hd hst hv E1 hA hB hC hF e3 e1 hcl hx hy
              go_wp2_with fail
              go_quiet (fail)
              replace c0 : (wr.drewN nq).cell? ⟨w.heap.size, k, none⟩ = some (.int .i64 (x : Int)) := c0
              replace f0 : (wr.drewN nq).frozen? ⟨w.heap.size, k, none⟩ = false := f0
              clear hdd e2 c1 xb yb
              go_wp2_with fail
              go_roundw
              case rel =>
                refine ⟨k + 1, by omega, by go_num, by rw [HL.out, if_neg hlt2]; rfl, ?_, E5.out _, E6.out _, (HFF.out.drewN nq).setCell (Or.inr (Nat.le_refl _)) _⟩
                have h1 := HS.out
                rw [HV2.out] at h1
                exact h1
              case measure => simp [intOf]; omega
          · obtain rfl : k = 16 := by omega
            rw [show (iq 16 (fun j => if j < 16 then dig 65536 (X + Y + 65536 ^ 16 - LL) j else dig 65536 (X + Y) j)) = iq 16 (dig 65536 ((X + Y) % LL)) from iq_congr (fun j hj => by
              have e : (X + Y + 65536 ^ 16 - LL) % 65536 ^ 16 = (X + Y) % LL := by
                rw [Nat.mod_eq_sub_mod hge, Nat.mod_eq_of_lt (a := X + Y - LL) (by omega), show (X + Y + 65536 ^ 16 - LL) = (X + Y - LL) + 65536 ^ 16 by omega, Nat.add_mod_right, Nat.mod_eq_of_lt (by omega)]
              rw [if_pos hj, ← dig_of_mod 65536 (X + Y + 65536 ^ 16 - LL) 16 j hj, e])] at hA
            have t4 := Try.size16 (f := dig 65536 ((X + Y) % LL))
            have s1 := iq_szs (fun _ => 0) (dig 65536 ((X + Y) % LL))
            have s2 := iq_one 16 (dig 65536 ((X + Y) % LL))
            rw [show ((16 : Nat) : Int) = 16 from rfl]
            go_wp2_with (first
              | (with_reducible refine wpList_load_row rfl 78 (.tmp 2) rfl w.heap.size rfl 78 (iq 16 (dig 65536 ((X + Y) % LL))) (0, 0) _ hA Try.underlying78 rfl t4 ?_)
              | (with_reducible refine wpList_store_row rfl 78 (.tmp 4) (.tmp 56) rfl (w.heap.size + 1 + 1) (iq 16 (dig 65536 ((X + Y) % LL))) rfl rfl 78 _ hC t4 s1 s2 ?_))
            refine bodyPost_ret (results_cell_row rfl _ _ (w.heap.size + 1 + 1) 78 (iq 16 (dig 65536 ((X + Y) % LL))) (0, 0) _ rfl (setRow_heap _ _ _ _ _ _ hC) Try.underlying78 rfl t4) rfl ?_
            exact ⟨rfl, hF.trans (Fr.setRow (S := fun k => k = w.heap.size + 1 + 1) (Fr.refl _ _) rfl _) (fun i hi => Or.inr (by omega))⟩
end Go.Proofs.Ytnobobdgoccmcaa


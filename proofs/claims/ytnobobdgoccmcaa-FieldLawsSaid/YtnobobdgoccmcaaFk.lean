/-
  The contracts of Inv of package field and of the laws' halves.
-/
import Derived.Test.YtnobobdgoccmcaaFj
namespace Go.Proofs.Ytnobobdgoccmcaa
open Go.RowKit Pri
set_option linter.unusedVariables false

theorem nc_p2 : nc (p25519 - 2) = #[.int .u64 18446744073709551595, .int .u64 18446744073709551615, .int .u64 18446744073709551615, .int .u64 9223372036854775807] := by
  have := nc_of 18446744073709551595 18446744073709551615 18446744073709551615 9223372036854775807 (by decide) (by decide) (by decide) (by decide)
  rw [show nv 18446744073709551595 18446744073709551615 18446744073709551615 9223372036854775807 = p25519 - 2 from by decide +kernel] at this
  exact this.symm
theorem nc_p1 : nc (p25519 - 1) = #[.int .u64 18446744073709551596, .int .u64 18446744073709551615, .int .u64 18446744073709551615, .int .u64 9223372036854775807] := by
  have := nc_of 18446744073709551596 18446744073709551615 18446744073709551615 9223372036854775807 (by decide) (by decide) (by decide) (by decide)
  rw [show nv 18446744073709551596 18446744073709551615 18446744073709551615 9223372036854775807 = p25519 - 1 from by decide +kernel] at this
  exact this.symm
theorem nc_p_cell : (nc p25519)[0]? = some (.int .u64 18446744073709551597) := by rw [nc_p]; rfl
theorem nc_p_set : (nc p25519).setIfInBounds 0 (.int .u64 18446744073709551595) = nc (p25519 - 2) := by rw [nc_p, nc_p2]; rfl
theorem p2_lt : p25519 - 2 < 115792089237316195423570985008687907853269984665640564039457584007913129639936 := Nat.lt_of_le_of_lt (Nat.sub_le _ _) p_lt
set_option maxRecDepth 100000 in
set_option maxHeartbeats 3200000 in
theorem finv_op (A NP NQ NR : Array Value) (w : World)
    (PR : ∀ W : World, Calls Try.prog 83 #[] W fun e w' => e = .returned (.agg NP) ∧ Fr (fun _ => False) W w')
    (PO : ∀ W : World, Calls Try.prog 34 #[.agg A, .agg NQ] W fun e w' => e = .returned (.agg NR) ∧ Fr (fun _ => False) W w')
    (zA : A.size = 4) (z1 : NP.size = 4) (z2 : NQ.size = 4) (z3 : NR.size = 4) (oP : NP.all (·.oneCell') = true) (oR : NR.all (·.oneCell') = true)
    (ncel : NP[0]? = some (.int .u64 18446744073709551597)) (nset : NP.setIfInBounds 0 (.int .u64 18446744073709551595) = NQ) :
    Calls Try.prog 33 #[.agg A] w fun e w' => e = .returned (.agg NR) ∧ Fr (fun _ => False) w w' := by
  have sX : (Try.prog.info? 24).map (·.size) = some A.size := by rw [zA]; kernel_rfl
  have sP : (Try.prog.info? 24).map (·.size) = some NP.size := by rw [z1]; kernel_rfl
  have sP2 : (Try.prog.info? 24).map (·.size) = some NQ.size := by rw [z2]; kernel_rfl
  have sR : (Try.prog.info? 24).map (·.size) = some NR.size := by rw [z3]; kernel_rfl
  have zP : (#[.int .u64 0, .int .u64 0, .int .u64 0, .int .u64 0] : Array Value).size = NP.size := by rw [z1]; rfl
  have zR : (#[.int .u64 0, .int .u64 0, .int .u64 0, .int .u64 0] : Array Value).size = NR.size := by rw [z3]; rfl
  have A0 := heap_alloc2_old w (.cells (A) 24) (.cells #[.int .u64 0, .int .u64 0, .int .u64 0, .int .u64 0] 24)
  have R0 := heap_alloc2_new w (.cells (A) 24) (.cells #[.int .u64 0, .int .u64 0, .int .u64 0, .int .u64 0] 24)
  have F0 := (((Fr.refl (fun _ => False) w).alloc (.cells (A) 24)).alloc (.cells #[.int .u64 0, .int .u64 0, .int .u64 0, .int .u64 0] 24))
  clear zA z1 z2 z3
  go_enter Try.func33, Try.ntmps33
  go_wp2_with fail
  refine (PR _).mono ?_
  rintro e w1 ⟨rfl, F1⟩
  have A1 := F1.keep A0
  have R1 := F1.keep R0
  have G1 := F0.trans F1 (fun _ h => h.elim)
  have K0 := heap_alloc_new w1 (.cells #[.int .u64 0, .int .u64 0, .int .u64 0, .int .u64 0] 24)
  clear A0 R0 F0 F1 PR
  have zl := lt_of_block R1
  have F2 : Fr (fun _ => False) w1 ((w1.alloc (.cells #[.int .u64 0, .int .u64 0, .int .u64 0, .int .u64 0] 24)).setRow w1.heap.size NP) := ((Fr.refl _ w1).alloc _).trans (Fr.setRow (S := fun k => k = w1.heap.size) (Fr.refl _ _) rfl _) (fun i hi => Or.inr (by have : i = w1.heap.size := hi; omega))
  have A2 := F2.keep A1
  have R2 := F2.keep R1
  have K2 := setRow_heap _ _ _ NP _ _ K0
  have G2 := G1.trans F2 (fun _ h => h.elim)
  have c0 := (cell_of_block K2 0).trans ncel
  have f0 := free_of_block K2 0
  have K3 := block_setCell K2 0 (.int .u64 18446744073709551595)
  rw [nset] at K3
  have F3 : Fr (fun k => k = w1.heap.size) ((w1.alloc (.cells #[.int .u64 0, .int .u64 0, .int .u64 0, .int .u64 0] 24)).setRow w1.heap.size NP) (((w1.alloc (.cells #[.int .u64 0, .int .u64 0, .int .u64 0, .int .u64 0] 24)).setRow w1.heap.size NP).setCell ⟨w1.heap.size, 0, none⟩ (.int .u64 18446744073709551595)) := Fr.setCell (S := fun k => k = w1.heap.size) (p := ⟨w1.heap.size, 0, none⟩) (Fr.refl (fun k => k = w1.heap.size) _) (Or.inl rfl) _
  have A3 := (F3.block _ (lt_of_block A2) (by show w.heap.size ≠ w1.heap.size; omega)).trans A2
  have R3 := (F3.block _ (lt_of_block R2) (by show w.heap.size + 1 ≠ w1.heap.size; omega)).trans R2
  have G3 := G2.trans F3 (fun i hi => Or.inr (by have : i = w1.heap.size := hi; omega))
  have HK := Lib.hid K3
  have HA := Lib.hid A3
  have HR := Lib.hid R3
  have HG := Lib.hid G3
  clear K2 K3 A1 A2 A3 R1 R2 R3 G1 G2 G3 F2 F3
  go_wp2_with (first
    | (with_reducible refine wpList_store_row rfl 24 (.tmp 3) (.tmp 4) rfl w1.heap.size NP rfl rfl 24 _ K0 sP zP oP ?_)
    | (with_reducible refine wpList_load_row rfl 24 (.tmp 1) rfl w.heap.size rfl 24 A (0, 0) _ HA.out Try.underlying24 rfl sX ?_)
    | (with_reducible refine wpList_load_row rfl 24 (.tmp 3) rfl w1.heap.size rfl 24 NQ (0, 0) _ HK.out Try.underlying24 rfl sP2 ?_))
  refine (PO _).mono ?_
  rintro e w5 ⟨rfl, F5⟩
  have R5 := F5.keep HR.out
  have G5 := HG.out.trans F5 (fun _ h => h.elim)
  clear HK HA HR HG F5 PO c0 f0 K0 sP zP oP zl
  go_wp2_with (with_reducible refine wpList_store_row rfl 24 (.tmp 2) (.tmp 11) rfl (w.heap.size + 1) NR rfl rfl 24 #[.int .u64 0, .int .u64 0, .int .u64 0, .int .u64 0] R5 sR zR oR ?_)
  refine bodyPost_ret (results_cell_row rfl _ _ (w.heap.size + 1) 24 NR (0, 0) _ rfl (setRow_heap _ _ _ _ _ _ R5) Try.underlying24 rfl sR) rfl ?_
  exact ⟨rfl, G5.trans (Fr.setRow (S := fun k => k = w.heap.size + 1) (Fr.refl _ _) rfl _) (fun i hi => Or.inr (by have : i = w.heap.size + 1 := hi; omega))⟩
theorem finv_any (X : Nat) (hX : X < 115792089237316195423570985008687907853269984665640564039457584007913129639936) (w : World) :
    Calls Try.prog 33 #[.agg (nc X)] w fun e w' => e = .returned (.agg (nc (pwr X (p25519 - 2)))) ∧ Fr (fun _ => False) w w' :=
  finv_op (nc X) (nc p25519) (nc (p25519 - 2)) (nc (pwr X (p25519 - 2))) w fprime_any (fun W => fpow_any X (p25519 - 2) hX p2_lt W) (nc_size _) (nc_size _) (nc_size _) (nc_size _) (nc_one _) (nc_one _) nc_p_cell nc_p_set
theorem half_gen (n m : Nat) (hn : n + 1 = m) (h : 2 ^ m % p25519 = 1) : 2 * pwr 2 n % p25519 = 1 := by
  subst hn
  unfold pwr
  rw [Nat.mul_mod_mod, ← Nat.pow_succ']; exact h
theorem half_inv : 2 * pwr 2 (p25519 - 2) % p25519 = 1 := half_gen (p25519 - 2) (p25519 - 1) (by decide +kernel) gen_p.2.1
set_option maxRecDepth 100000 in
set_option maxHeartbeats 3200000 in
theorem halves_any (w : World) : Calls Try.prog 15 #[] w fun e w' => e = .returned (.bool true) ∧ Fr (fun _ => False) w w' := by
  have SM := fun W => fsmall_any 2 (by decide) W
  have SN := fun W => fsmall_any 3 (by decide) W
  rw [show ((2 : Nat) : Int) = 2 from rfl] at SM
  rw [show ((3 : Nat) : Int) = 3 from rfl] at SN
  have IN := fun W => finv_any 2 (by decide) W
  have MU := fun W => fmul_any 2 (pwr 2 (p25519 - 2)) (by decide) (pwr_lt _ _) W
  rw [half_inv] at MU
  have SB := fun W => fsub_any 2 3 (by decide) (by decide) W
  rw [show (2 % p25519 + (p25519 - 3 % p25519)) % p25519 = p25519 - 1 by decide +kernel] at SB
  have EQ := fun W => eql_elem 1 1 (by decide) (by decide) W
  rw [decide_eq_true rfl] at EQ
  have n1 : nc 1 = #[.int .u64 1, .int .u64 0, .int .u64 0, .int .u64 0] := by rw [nc0_ 1 (by decide)]; rfl
  have i3 : ∀ W, (Instr.index 24 (.agg (nc (p25519 - 1))) (.int .i64 3)).run Try.prog W = .ok (.int .u64 9223372036854775807) W := fun _ => by rw [nc_p1]; kernel_rfl
  generalize nc (p25519 - 1) = NP at *
  generalize nc (pwr 2 (p25519 - 2)) = NI at *
  generalize nc 2 = N2 at *
  generalize nc 3 = N3 at *
  rw [n1] at EQ MU
  have EG := Try.guardElem
  clear n1
  go_enter Try.func15, Try.ntmps15
  go_wp2_with fail
  refine (SM _).mono ?_
  rintro e w1 ⟨rfl, F1⟩
  go_wp2_with fail
  refine (SM _).mono ?_
  rintro e w2 ⟨rfl, F2⟩
  go_wp2_with fail
  refine (IN _).mono ?_
  rintro e w3 ⟨rfl, F3⟩
  go_wp2_with fail
  refine (MU _).mono ?_
  rintro e w4 ⟨rfl, F4⟩
  go_wp2_with fail
  refine (SM _).mono ?_
  rintro e w5 ⟨rfl, F5⟩
  go_wp2_with fail
  refine (SN _).mono ?_
  rintro e w6 ⟨rfl, F6⟩
  go_wp2_with fail
  refine (SB _).mono ?_
  rintro e w7 ⟨rfl, F7⟩
  go_wp2_with fail
  go_ret
  exact ⟨rfl, ((((((F1.trans F2 (fun _ h => h.elim)).trans F3 (fun _ h => h.elim)).trans F4 (fun _ h => h.elim)).trans F5 (fun _ h => h.elim)).trans F6 (fun _ h => h.elim)).trans F7 (fun _ h => h.elim))⟩
end Go.Proofs.Ytnobobdgoccmcaa


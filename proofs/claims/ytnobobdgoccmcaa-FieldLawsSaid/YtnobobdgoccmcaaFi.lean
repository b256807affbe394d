/-
  The contract of firstPowers of package field.
-/
import Derived.Test.YtnobobdgoccmcaaFh
namespace Go.Proofs.Ytnobobdgoccmcaa
open Go.RowKit Pri
set_option linter.unusedVariables false

theorem rows_start : (#[.int .u64 1, .int .u64 0, .int .u64 0, .int .u64 0, .int .u64 0, .int .u64 0, .int .u64 0, .int .u64 0, .int .u64 0, .int .u64 0, .int .u64 0, .int .u64 0, .int .u64 0, .int .u64 0, .int .u64 0, .int .u64 0, .int .u64 0, .int .u64 0, .int .u64 0, .int .u64 0, .int .u64 0, .int .u64 0, .int .u64 0, .int .u64 0, .int .u64 0, .int .u64 0, .int .u64 0, .int .u64 0, .int .u64 0, .int .u64 0, .int .u64 0, .int .u64 0, .int .u64 0, .int .u64 0, .int .u64 0, .int .u64 0, .int .u64 0, .int .u64 0, .int .u64 0, .int .u64 0, .int .u64 0, .int .u64 0, .int .u64 0, .int .u64 0, .int .u64 0, .int .u64 0, .int .u64 0, .int .u64 0, .int .u64 0, .int .u64 0, .int .u64 0, .int .u64 0, .int .u64 0, .int .u64 0, .int .u64 0, .int .u64 0, .int .u64 0, .int .u64 0, .int .u64 0, .int .u64 0, .int .u64 0, .int .u64 0, .int .u64 0, .int .u64 0] : Array Value) = rows (fun j => if j = 0 then 1 else 0) := by kernel_rfl
theorem wpList_build_as {Pg : Program} {ops : Array Oper} {rest : List Oper} {o : Oper} {a : Act} {w : World} {Q : Exit → Act → World → Prop} (hg : o.guard = none) (t : TypeId) (parts : Array (Nat × Operand)) (ho : o.op = .build t parts)
    (cs : Array Value) (hb : Pg.built t (parts.map fun (i, x) => (i, a.eval x)).toList = some cs) (h : wpList Pg ops Q rest (a.put o.dst (.agg cs)) w) : wpList Pg ops Q (o :: rest) a w :=
  wpList_build hg t parts ho (by rw [hb]; rfl) (by rw [hb]; exact h)
theorem Try.built1 : Try.prog.built 109 [(0, .agg #[.int .u64 1, .int .u64 0, .int .u64 0, .int .u64 0])] = some (rows (fun j => if j = 0 then 1 else 0)) := by rw [← rows_start]; kernel_rfl
theorem Try.alloc64 : ∀ w, (Instr.alloc 109 true (.tuple #[])).run Try.prog w = .ok (.pointer (some ⟨w.heap.size, 0, none⟩)) (w.alloc (.cells #[.int .u64 0, .int .u64 0, .int .u64 0, .int .u64 0, .int .u64 0, .int .u64 0, .int .u64 0, .int .u64 0, .int .u64 0, .int .u64 0, .int .u64 0, .int .u64 0, .int .u64 0, .int .u64 0, .int .u64 0, .int .u64 0, .int .u64 0, .int .u64 0, .int .u64 0, .int .u64 0, .int .u64 0, .int .u64 0, .int .u64 0, .int .u64 0, .int .u64 0, .int .u64 0, .int .u64 0, .int .u64 0, .int .u64 0, .int .u64 0, .int .u64 0, .int .u64 0, .int .u64 0, .int .u64 0, .int .u64 0, .int .u64 0, .int .u64 0, .int .u64 0, .int .u64 0, .int .u64 0, .int .u64 0, .int .u64 0, .int .u64 0, .int .u64 0, .int .u64 0, .int .u64 0, .int .u64 0, .int .u64 0, .int .u64 0, .int .u64 0, .int .u64 0, .int .u64 0, .int .u64 0, .int .u64 0, .int .u64 0, .int .u64 0, .int .u64 0, .int .u64 0, .int .u64 0, .int .u64 0, .int .u64 0, .int .u64 0, .int .u64 0, .int .u64 0] 109)) := fun w => by kernel_rfl
theorem Try.info4 : (Try.prog.info? 24).map (·.size) = some 4 := by kernel_rfl
theorem Try.info64 : (Try.prog.info? 109).map (·.size) = some 64 := by kernel_rfl
set_option maxRecDepth 100000 in
set_option maxHeartbeats 3200000 in
theorem ffirst_any (X : Nat) (hX : X < 115792089237316195423570985008687907853269984665640564039457584007913129639936) (w : World) :
    Calls Try.prog 85 #[.agg (nc X)] w fun e w' => e = .returned (.agg (rows (pwr X))) ∧ Fr (fun _ => False) w w' := by
  have SM := fun W => fsmall_any 1 (by decide) W
  rw [nc0_ 1 (by decide), show ((1 : Nat) : Int) = 1 from rfl] at SM
  have MU := fun m W => fmul_any (pwr X m) X (pwr_lt X m) hX W
  have HM := Lib.hid MU
  have sX : (Try.prog.info? 24).map (·.size) = some (nc X).size := by show _ = some 4; kernel_rfl
  have A0 := heap_alloc2_old w (.cells (nc X) 24) (.cells #[.int .u64 0, .int .u64 0, .int .u64 0, .int .u64 0, .int .u64 0, .int .u64 0, .int .u64 0, .int .u64 0, .int .u64 0, .int .u64 0, .int .u64 0, .int .u64 0, .int .u64 0, .int .u64 0, .int .u64 0, .int .u64 0, .int .u64 0, .int .u64 0, .int .u64 0, .int .u64 0, .int .u64 0, .int .u64 0, .int .u64 0, .int .u64 0, .int .u64 0, .int .u64 0, .int .u64 0, .int .u64 0, .int .u64 0, .int .u64 0, .int .u64 0, .int .u64 0, .int .u64 0, .int .u64 0, .int .u64 0, .int .u64 0, .int .u64 0, .int .u64 0, .int .u64 0, .int .u64 0, .int .u64 0, .int .u64 0, .int .u64 0, .int .u64 0, .int .u64 0, .int .u64 0, .int .u64 0, .int .u64 0, .int .u64 0, .int .u64 0, .int .u64 0, .int .u64 0, .int .u64 0, .int .u64 0, .int .u64 0, .int .u64 0, .int .u64 0, .int .u64 0, .int .u64 0, .int .u64 0, .int .u64 0, .int .u64 0, .int .u64 0, .int .u64 0] 109)
  have R0 := heap_alloc2_new w (.cells (nc X) 24) (.cells #[.int .u64 0, .int .u64 0, .int .u64 0, .int .u64 0, .int .u64 0, .int .u64 0, .int .u64 0, .int .u64 0, .int .u64 0, .int .u64 0, .int .u64 0, .int .u64 0, .int .u64 0, .int .u64 0, .int .u64 0, .int .u64 0, .int .u64 0, .int .u64 0, .int .u64 0, .int .u64 0, .int .u64 0, .int .u64 0, .int .u64 0, .int .u64 0, .int .u64 0, .int .u64 0, .int .u64 0, .int .u64 0, .int .u64 0, .int .u64 0, .int .u64 0, .int .u64 0, .int .u64 0, .int .u64 0, .int .u64 0, .int .u64 0, .int .u64 0, .int .u64 0, .int .u64 0, .int .u64 0, .int .u64 0, .int .u64 0, .int .u64 0, .int .u64 0, .int .u64 0, .int .u64 0, .int .u64 0, .int .u64 0, .int .u64 0, .int .u64 0, .int .u64 0, .int .u64 0, .int .u64 0, .int .u64 0, .int .u64 0, .int .u64 0, .int .u64 0, .int .u64 0, .int .u64 0, .int .u64 0, .int .u64 0, .int .u64 0, .int .u64 0, .int .u64 0] 109)
  have F0 := (((Fr.refl (fun _ => False) w).alloc (.cells (nc X) 24)).alloc (.cells #[.int .u64 0, .int .u64 0, .int .u64 0, .int .u64 0, .int .u64 0, .int .u64 0, .int .u64 0, .int .u64 0, .int .u64 0, .int .u64 0, .int .u64 0, .int .u64 0, .int .u64 0, .int .u64 0, .int .u64 0, .int .u64 0, .int .u64 0, .int .u64 0, .int .u64 0, .int .u64 0, .int .u64 0, .int .u64 0, .int .u64 0, .int .u64 0, .int .u64 0, .int .u64 0, .int .u64 0, .int .u64 0, .int .u64 0, .int .u64 0, .int .u64 0, .int .u64 0, .int .u64 0, .int .u64 0, .int .u64 0, .int .u64 0, .int .u64 0, .int .u64 0, .int .u64 0, .int .u64 0, .int .u64 0, .int .u64 0, .int .u64 0, .int .u64 0, .int .u64 0, .int .u64 0, .int .u64 0, .int .u64 0, .int .u64 0, .int .u64 0, .int .u64 0, .int .u64 0, .int .u64 0, .int .u64 0, .int .u64 0, .int .u64 0, .int .u64 0, .int .u64 0, .int .u64 0, .int .u64 0, .int .u64 0, .int .u64 0, .int .u64 0, .int .u64 0] 109))
  clear MU hX
  go_enter Try.func85, Try.ntmps85
  go_wp2_with fail
  refine (SM _).mono ?_
  rintro e w1 ⟨rfl, F1⟩
  have A1 := F1.keep A0
  have R1 := F1.keep R0
  have G1 := F0.trans F1 (fun _ h => h.elim)
  clear A0 R0 F0 F1 SM
  have hB := Try.built1
  have s64 : (Try.prog.info? 109).map (·.size) = some (rows (fun j => if j = 0 then 1 else 0)).size := by rw [rows_size]; kernel_rfl
  have z64 : (#[.int .u64 0, .int .u64 0, .int .u64 0, .int .u64 0, .int .u64 0, .int .u64 0, .int .u64 0, .int .u64 0, .int .u64 0, .int .u64 0, .int .u64 0, .int .u64 0, .int .u64 0, .int .u64 0, .int .u64 0, .int .u64 0, .int .u64 0, .int .u64 0, .int .u64 0, .int .u64 0, .int .u64 0, .int .u64 0, .int .u64 0, .int .u64 0, .int .u64 0, .int .u64 0, .int .u64 0, .int .u64 0, .int .u64 0, .int .u64 0, .int .u64 0, .int .u64 0, .int .u64 0, .int .u64 0, .int .u64 0, .int .u64 0, .int .u64 0, .int .u64 0, .int .u64 0, .int .u64 0, .int .u64 0, .int .u64 0, .int .u64 0, .int .u64 0, .int .u64 0, .int .u64 0, .int .u64 0, .int .u64 0, .int .u64 0, .int .u64 0, .int .u64 0, .int .u64 0, .int .u64 0, .int .u64 0, .int .u64 0, .int .u64 0, .int .u64 0, .int .u64 0, .int .u64 0, .int .u64 0, .int .u64 0, .int .u64 0, .int .u64 0, .int .u64 0] : Array Value).size = (rows (fun j => if j = 0 then 1 else 0)).size := by rw [rows_size]; rfl
  have o64 := rows_one (fun j => if j = 0 then 1 else 0)
  have K0 := heap_alloc_new w1 (.cells #[.int .u64 0, .int .u64 0, .int .u64 0, .int .u64 0, .int .u64 0, .int .u64 0, .int .u64 0, .int .u64 0, .int .u64 0, .int .u64 0, .int .u64 0, .int .u64 0, .int .u64 0, .int .u64 0, .int .u64 0, .int .u64 0, .int .u64 0, .int .u64 0, .int .u64 0, .int .u64 0, .int .u64 0, .int .u64 0, .int .u64 0, .int .u64 0, .int .u64 0, .int .u64 0, .int .u64 0, .int .u64 0, .int .u64 0, .int .u64 0, .int .u64 0, .int .u64 0, .int .u64 0, .int .u64 0, .int .u64 0, .int .u64 0, .int .u64 0, .int .u64 0, .int .u64 0, .int .u64 0, .int .u64 0, .int .u64 0, .int .u64 0, .int .u64 0, .int .u64 0, .int .u64 0, .int .u64 0, .int .u64 0, .int .u64 0, .int .u64 0, .int .u64 0, .int .u64 0, .int .u64 0, .int .u64 0, .int .u64 0, .int .u64 0, .int .u64 0, .int .u64 0, .int .u64 0, .int .u64 0, .int .u64 0, .int .u64 0, .int .u64 0, .int .u64 0] 109)
  go_wp2_with (first
    | (with_reducible refine wpList_build_as rfl 109 #[(0, .tmp 5)] rfl (rows (fun j => if j = 0 then 1 else 0)) (by exact hB) ?_)
    | (with_reducible refine wpList_store_row rfl 109 (.tmp 3) (.tmp 6) rfl w1.heap.size (rows (fun j => if j = 0 then 1 else 0)) rfl rfl 109 _ K0 s64 z64 o64 ?_))
  have zl := lt_of_block R1
  have F2 : Fr (fun _ => False) w1 ((w1.alloc (.cells #[.int .u64 0, .int .u64 0, .int .u64 0, .int .u64 0, .int .u64 0, .int .u64 0, .int .u64 0, .int .u64 0, .int .u64 0, .int .u64 0, .int .u64 0, .int .u64 0, .int .u64 0, .int .u64 0, .int .u64 0, .int .u64 0, .int .u64 0, .int .u64 0, .int .u64 0, .int .u64 0, .int .u64 0, .int .u64 0, .int .u64 0, .int .u64 0, .int .u64 0, .int .u64 0, .int .u64 0, .int .u64 0, .int .u64 0, .int .u64 0, .int .u64 0, .int .u64 0, .int .u64 0, .int .u64 0, .int .u64 0, .int .u64 0, .int .u64 0, .int .u64 0, .int .u64 0, .int .u64 0, .int .u64 0, .int .u64 0, .int .u64 0, .int .u64 0, .int .u64 0, .int .u64 0, .int .u64 0, .int .u64 0, .int .u64 0, .int .u64 0, .int .u64 0, .int .u64 0, .int .u64 0, .int .u64 0, .int .u64 0, .int .u64 0, .int .u64 0, .int .u64 0, .int .u64 0, .int .u64 0, .int .u64 0, .int .u64 0, .int .u64 0, .int .u64 0] 109)).setRow w1.heap.size (rows (fun j => if j = 0 then 1 else 0))) := ((Fr.refl _ w1).alloc _).trans (Fr.setRow (S := fun k => k = w1.heap.size) (Fr.refl _ _) rfl _) (fun i hi => Or.inr (by omega))
  have A2 := F2.keep A1
  have R2 := F2.keep R1
  have K2 := setRow_heap _ _ _ (rows (fun j => if j = 0 then 1 else 0)) _ _ K0
  have G2 := G1.trans F2 (fun _ h => h.elim)
  clear F2 A1 R1 G1 hB s64 z64 o64 K0
  generalize hg3 : w1.heap.size = g at *
  generalize (w1.alloc (.cells #[.int .u64 0, .int .u64 0, .int .u64 0, .int .u64 0, .int .u64 0, .int .u64 0, .int .u64 0, .int .u64 0, .int .u64 0, .int .u64 0, .int .u64 0, .int .u64 0, .int .u64 0, .int .u64 0, .int .u64 0, .int .u64 0, .int .u64 0, .int .u64 0, .int .u64 0, .int .u64 0, .int .u64 0, .int .u64 0, .int .u64 0, .int .u64 0, .int .u64 0, .int .u64 0, .int .u64 0, .int .u64 0, .int .u64 0, .int .u64 0, .int .u64 0, .int .u64 0, .int .u64 0, .int .u64 0, .int .u64 0, .int .u64 0, .int .u64 0, .int .u64 0, .int .u64 0, .int .u64 0, .int .u64 0, .int .u64 0, .int .u64 0, .int .u64 0, .int .u64 0, .int .u64 0, .int .u64 0, .int .u64 0, .int .u64 0, .int .u64 0, .int .u64 0, .int .u64 0, .int .u64 0, .int .u64 0, .int .u64 0, .int .u64 0, .int .u64 0, .int .u64 0, .int .u64 0, .int .u64 0, .int .u64 0, .int .u64 0, .int .u64 0, .int .u64 0] 109)).setRow g (rows (fun j => if j = 0 then 1 else 0)) = w2 at *
  have hgw : w.heap.size + 1 < g := zl
  clear hg3 zl
  have K2' : w2.heap[g]? = some (.cells (rows (fun j => if j < 1 then pwr X j else 0)) 109 (0, 0)) := K2.trans (congrArg (fun a => some (Obj.cells a 109 (0, 0))) (rows_congr (fun j _ => by
    by_cases c : j = 0
    · subst c; rw [if_pos rfl, if_pos (by omega), pwr_zero]
    · rw [if_neg c, if_neg (by omega)])))
  clear K2
  go_loopw [4] (fun i wr => ∃ n : Nat, 1 ≤ n ∧ n ≤ 16 ∧ i = .int .i64 n ∧ wr.heap[g]? = some (.cells (rows (fun j => if j < n then pwr X j else 0)) 109 (0, 0)) ∧ wr.heap[w.heap.size]? = some (.cells (nc X) 24 (0, 0)) ∧ wr.heap[w.heap.size + 1]? = some (.cells #[.int .u64 0, .int .u64 0, .int .u64 0, .int .u64 0, .int .u64 0, .int .u64 0, .int .u64 0, .int .u64 0, .int .u64 0, .int .u64 0, .int .u64 0, .int .u64 0, .int .u64 0, .int .u64 0, .int .u64 0, .int .u64 0, .int .u64 0, .int .u64 0, .int .u64 0, .int .u64 0, .int .u64 0, .int .u64 0, .int .u64 0, .int .u64 0, .int .u64 0, .int .u64 0, .int .u64 0, .int .u64 0, .int .u64 0, .int .u64 0, .int .u64 0, .int .u64 0, .int .u64 0, .int .u64 0, .int .u64 0, .int .u64 0, .int .u64 0, .int .u64 0, .int .u64 0, .int .u64 0, .int .u64 0, .int .u64 0, .int .u64 0, .int .u64 0, .int .u64 0, .int .u64 0, .int .u64 0, .int .u64 0, .int .u64 0, .int .u64 0, .int .u64 0, .int .u64 0, .int .u64 0, .int .u64 0, .int .u64 0, .int .u64 0, .int .u64 0, .int .u64 0, .int .u64 0, .int .u64 0, .int .u64 0, .int .u64 0, .int .u64 0, .int .u64 0] 109 (0, 0)) ∧ Fr (fun _ => False) w wr) (fun i _ => 16 - (intOf i).toNat)
  case atStart => exact ⟨1, by omega, by omega, by simp, K2', A2, R2, G2⟩
  case round =>
    clear K2' A2 R2 G2
    obtain ⟨n, h1, hn, rfl, hK, hA, hR, hF⟩ := hrel
    by_cases h16 : n < 16
    · as_aux_lemma =>
      obtain ⟨m, rfl⟩ : ∃ m, n = m + 1 := ⟨n - 1, by omega⟩
      have MU := fun W => HM.out m W
      rw [pwr_succ] at MU
      have m0 : (0 : Int) ≤ (m : Int) := by omega
      have m1 : (m : Int) < 15 := by omega
      have e1 : ((m + 1 : Nat) : Int) = (m : Int) + 1 := by omega
      have e2 : IntKind.i64.wrap ((m : Int) + 1 - 1) = (m : Int) := by rw [show (m : Int) + 1 - 1 = (m : Int) by omega]; exact IntWalk.i64_in _ (by omega)
      have e3 : (m : Int) + 1 - 1 = (m : Int) := by omega
      have hK1 := Lib.hid hK
      have HA := Lib.hid hA
      have HR := Lib.hid hR
      have HF := Lib.hid hF
      have hm16 : m < 16 := by omega
      have hm17 : m + 1 < 16 := by omega
      have hv : (fun j => if j < m + 1 then pwr X j else 0) m = pwr X m := by show (if m < m + 1 then _ else _) = _; rw [if_pos (by omega)]
      have HV := Lib.hid hv
      clear hK hA hR hF hv HM
      rw [e1]
      go_wp2_with fail
      have cz := rows_size (fun j => if j < m + 1 then pwr X j else 0)
      refine wp_region_tail 8 [] (by kernel_rfl) (by kernel_rfl) mk_nil ?_
      apply Exists.intro
      refine ⟨?wk, ?fin⟩
      case wk =>
        intro γ
        simp only [List.take_succ_cons, List.take_zero]
        repeat (any_goals (first | (go_big_quiet_want; (with_reducible refine quiet_load_rowsg 24 (.tmp 14) rfl g (m * 4) m (Nat.mul_comm _ _) hm16 rfl (fun j => if j < m + 1 then pwr X j else 0) 109 (0, 0) _ hK1.out Try.underlying24 rfl Try.info4 ?_); simp only [Act.put, List.setIfInBounds_toArray, List.set_cons_zero, List.set_cons_succ]; rw [HV.out]; go_big_quiet_on) | (go_big_quiet_want; (with_reducible refine quiet_load_rowg 24 (.tmp 1) rfl w.heap.size rfl 24 (nc X) (0, 0) _ HA.out Try.underlying24 rfl sX ?_); simp only [Act.put, List.setIfInBounds_toArray, List.set_cons_zero, List.set_cons_succ]; go_big_quiet_on) | go_big_quiet_step (((first | (go_at_call 22; with_reducible exact Calls.keepg (MU _))))) | quiet_step (((first | (go_at_call 22; with_reducible exact Calls.keepg (MU _)))))))
        exact wpQuiet_nil rfl
      case fin =>
        intro gs wx hF hg hne
        simp only [putAll, List.drop_succ_cons, List.drop_zero, List.length_nil, Nat.add_zero]
        have K3 := hF.keep hK1.out
        have A3 := hF.keep HA.out
        have R3 := hF.keep HR.out
        have G3 := HF.out.trans hF (fun _ h => h.elim)
        clear hg hne hF
        clear hK1 HA HR HF
        go_wp2_with (with_reducible refine wpList_store_rows rfl 24 (.tmp 18) (.tmp 17) rfl g ((m + 1) * 4) (m + 1) (Nat.mul_comm _ _) hm17 (pwr X (m + 1)) rfl rfl Try.info4 _ 109 K3 ?_)
        intro w5 K5 F5
        have A5 := F5.block w.heap.size (lt_of_block A3) (by show w.heap.size ≠ g; omega) 
        have R5 := F5.block (w.heap.size + 1) (lt_of_block R3) (by show w.heap.size + 1 ≠ g; omega)
        replace A5 := A5.trans A3
        replace R5 := R5.trans R3
        have G5 := G3.trans F5 (fun i hi => Or.inr (by have : i = g := hi; omega))
        have K6 : w5.heap[g]? = some (.cells (rows (fun j => if j < m + 1 + 1 then pwr X j else 0)) 109 (0, 0)) := K5.trans (congrArg (fun a => some (Obj.cells a 109 (0, 0))) (rows_congr (fun j _ => by
          show (if j = m + 1 then _ else if j < m + 1 then _ else _) = _
          by_cases c : j = m + 1
          · subst c; rw [if_pos rfl, if_pos (by omega)]
          · rw [if_neg c]
            by_cases d : j < m + 1
            · rw [if_pos d, if_pos (by omega)]
            · rw [if_neg d, if_neg (by omega)])))
        clear K5 K3 A3 R3 G3 F5
        go_wp2_with fail
        go_roundw
        case rel => exact ⟨m + 1 + 1, by omega, by omega, by go_num, K6, A5, R5, G5⟩
        case measure => simp [intOf]; omega
    · obtain rfl : n = 16 := by omega
      have e16 : (rows (fun j => if j < 16 then pwr X j else 0)) = rows (pwr X) := rows_congr (fun j hj => by rw [if_pos hj])
      rw [e16] at hK
      have s64 : (Try.prog.info? 109).map (·.size) = some (rows (pwr X)).size := by rw [rows_size]; kernel_rfl
      have z64 : (#[.int .u64 0, .int .u64 0, .int .u64 0, .int .u64 0, .int .u64 0, .int .u64 0, .int .u64 0, .int .u64 0, .int .u64 0, .int .u64 0, .int .u64 0, .int .u64 0, .int .u64 0, .int .u64 0, .int .u64 0, .int .u64 0, .int .u64 0, .int .u64 0, .int .u64 0, .int .u64 0, .int .u64 0, .int .u64 0, .int .u64 0, .int .u64 0, .int .u64 0, .int .u64 0, .int .u64 0, .int .u64 0, .int .u64 0, .int .u64 0, .int .u64 0, .int .u64 0, .int .u64 0, .int .u64 0, .int .u64 0, .int .u64 0, .int .u64 0, .int .u64 0, .int .u64 0, .int .u64 0, .int .u64 0, .int .u64 0, .int .u64 0, .int .u64 0, .int .u64 0, .int .u64 0, .int .u64 0, .int .u64 0, .int .u64 0, .int .u64 0, .int .u64 0, .int .u64 0, .int .u64 0, .int .u64 0, .int .u64 0, .int .u64 0, .int .u64 0, .int .u64 0, .int .u64 0, .int .u64 0, .int .u64 0, .int .u64 0, .int .u64 0, .int .u64 0] : Array Value).size = (rows (pwr X)).size := by rw [rows_size]; rfl
      have o64 := rows_one (pwr X)
      clear e16 HM hA
      rw [show ((16 : Nat) : Int) = 16 from rfl]
      go_wp2_with (first
        | (with_reducible refine wpList_load_row rfl 109 (.tmp 3) rfl g rfl 109 (rows (pwr X)) (0, 0) _ hK Try.underlying109 rfl s64 ?_)
        | (with_reducible refine wpList_store_row rfl 109 (.tmp 2) (.tmp 19) rfl (w.heap.size + 1) (rows (pwr X)) rfl rfl 109 #[.int .u64 0, .int .u64 0, .int .u64 0, .int .u64 0, .int .u64 0, .int .u64 0, .int .u64 0, .int .u64 0, .int .u64 0, .int .u64 0, .int .u64 0, .int .u64 0, .int .u64 0, .int .u64 0, .int .u64 0, .int .u64 0, .int .u64 0, .int .u64 0, .int .u64 0, .int .u64 0, .int .u64 0, .int .u64 0, .int .u64 0, .int .u64 0, .int .u64 0, .int .u64 0, .int .u64 0, .int .u64 0, .int .u64 0, .int .u64 0, .int .u64 0, .int .u64 0, .int .u64 0, .int .u64 0, .int .u64 0, .int .u64 0, .int .u64 0, .int .u64 0, .int .u64 0, .int .u64 0, .int .u64 0, .int .u64 0, .int .u64 0, .int .u64 0, .int .u64 0, .int .u64 0, .int .u64 0, .int .u64 0, .int .u64 0, .int .u64 0, .int .u64 0, .int .u64 0, .int .u64 0, .int .u64 0, .int .u64 0, .int .u64 0, .int .u64 0, .int .u64 0, .int .u64 0, .int .u64 0, .int .u64 0, .int .u64 0, .int .u64 0, .int .u64 0] hR s64 z64 o64 ?_))
      refine bodyPost_ret (results_cell_row rfl _ _ (w.heap.size + 1) 109 (rows (pwr X)) (0, 0) _ rfl (setRow_heap _ _ _ _ _ _ hR) Try.underlying109 rfl s64) rfl ?_
      exact ⟨rfl, hF.trans (Fr.setRow (S := fun k => k = w.heap.size + 1) (Fr.refl _ _) rfl _) (fun i hi => Or.inr (by have : i = w.heap.size + 1 := hi; omega))⟩
end Go.Proofs.Ytnobobdgoccmcaa


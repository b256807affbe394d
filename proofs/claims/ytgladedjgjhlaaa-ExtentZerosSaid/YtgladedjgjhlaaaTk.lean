/-
  Read of package disk.
-/
import Derived.Test.YtgladedjgjhlaaaTj
namespace Go.Proofs.Ytgladedjgjhlaaa
open Go.RowKit
set_option linter.unusedVariables false
set_option linter.unusedSimpArgs false

theorem results_cell_tmpD {P : Program} {w : World} {fn : Func} {p q : Tmp} {ty : TypeId} (h : fn.results = #[.cell p ty, .tmp q]) (tmps : Array Value) (g : Nat) (cs : Array Value) (v : Value) (T : TypeId) (fr : Nat × Nat) (hp : tmps.getD p undef = .pointer (some ⟨g, 0, none⟩)) (hq : tmps.getD q undef = v)
    (d : TypeDesc) (hu : P.underlying ty = some d) (hd : (match d with | .struct _ | .array _ _ => true | _ => false) = true) (hty : (P.info? ty).map (·.size) = some cs.size) (hi : w.heap[g]? = some (.cells cs T fr)) :
    (results fn tmps).run P w = .ok (.tuple #[.agg cs, v]) w := by
  have hp' : tmps[p]?.getD undef = .pointer (some ⟨g, 0, none⟩) := by simpa using hp
  have hq' : tmps[q]?.getD undef = v := by simpa using hq
  simp [results, h, hp', hq', asAddr, run_loadVar_row w g T ty cs fr d hi hu hd hty]
theorem Try.szBk : (Try.prog.info? 30).map (·.size) = some 128 := by kernel_rfl
theorem Try.zBk : Try.zeroCells30 = ub 128 (fun _ => 0) := by kernel_rfl
set_option maxRecDepth 100000 in
theorem Try.alBk : ∀ w, (Instr.alloc 30 true (.tuple #[])).run Try.prog w = .ok (.pointer (some ⟨w.heap.size, 0, none⟩)) (w.alloc (.cells (ub 128 (fun _ => 0)) 30)) := fun w => by kernel_rfl
set_option maxRecDepth 100000 in
theorem Try.bdBk : ∀ w, (Instr.build 30 #[]).run Try.prog w = .ok (.agg (ub 128 (fun _ => 0))) w := fun w => by kernel_rfl
set_option maxRecDepth 100000 in
set_option maxHeartbeats 3200000 in
theorem read_bad (px : Value) (i c : Int) (hc : ¬ (c = 0)) (w : World) (hre : ∀ W : World, Fr (fun _ => False) w W → Calls Try.prog 61 #[px, .int .i64 i] W fun e w' => e = .returned (.int .i64 c) ∧ Fr (fun _ => False) W w') :
    Calls Try.prog 17 #[px, .int .i64 i] w fun e w' => e = .returned (.tuple #[.agg (ub 128 (fun _ => 0)), .int .i64 c]) ∧ Fr (fun _ => False) w w' := by
  have t1 : (c == 0) = false := by simpa using hc
  have t2 : decide (c = 0) = false := by simpa using hc
  have HR := Lib.hid hre
  have sZ : Sz 128 Try.zeroCells30 := by rw [Try.zBk]; exact ⟨ub_size _ _, ub_one _ _⟩
  have K := (Kn.start w).new (w.heap.size) 128 Try.zeroCells30 30 rfl sZ.1
  have HZ := Lib.hid Try.zBk
  have hbd : ∀ w, (Instr.build 30 #[]).run Try.prog w = .ok (.agg Try.zeroCells30) w := fun w => by rw [Try.zBk]; exact Try.bdBk w
  clear hre hc
  go_enter Try.func17, Try.ntmps17
  go_wp2_with fail
  refine (HR.out _ K.fr).mono ?_
  rintro e w2 ⟨rfl, F2⟩
  have K2 := K.call F2
  clear K
  have K := K2
  clear K2
  go_wp2_with ((focus (((with_reducible refine' wpList_store_kn K rfl 30 (.tmp 4) _ rfl 0 _ _ _ _ _ rfl rfl Try.szBk _ _ _); rotate_left 2; (focus exact rfl)); (focus (with_reducible assumption)); intro wz Kz; clear K; have K := Kz; clear Kz; simp only [List.set_cons_zero, List.set_cons_succ] at K; try (simp only [Act.put, List.setIfInBounds_toArray, List.set_cons_zero, List.set_cons_succ]))))
  refine bodyPost_ret (results_cell_tmpD rfl _ w.heap.size Try.zeroCells30 _ 30 (0, 0) rfl rfl _ Try.underlying30 rfl (by rw [sZ.1]; exact Try.szBk) (K.heap 0 rfl)) rfl ?_
  rw [HZ.out]
  exact ⟨rfl, K.fr⟩
set_option maxRecDepth 100000 in
set_option maxHeartbeats 3200000 in
theorem read_ok (d bn n : Nat) (N : Nat → Nat → UInt8) (dc : Array Value) (i : Nat) (hi : i < n) (hn : n ≤ 8192) (w : World) (hd : w.heap[d]? = some (.cells dc 106 (0, 0))) (h0 : dc[0]? = some (.slice (some ⟨bn, 0, none⟩) n n)) (h5 : dc[5]? = some (.bool false)) (hb : w.heap[bn]? = some (.cells (bk n N) 30 (0, 0))) :
    Calls Try.prog 17 #[.pointer (some ⟨d, 0, none⟩), .int .i64 (i : Int)] w fun e w' => e = .returned (.tuple #[.agg (ub 128 (N i)), .int .i64 0]) ∧ Fr (fun _ => False) w w' := by
  have hre : ∀ W : World, Fr (fun _ => False) w W → Calls Try.prog 61 #[.pointer (some ⟨d, 0, none⟩), .int .i64 (i : Int)] W fun e w' => e = .returned (.int .i64 0) ∧ Fr (fun _ => False) W w' := fun W hF => by
    have hd2 := (hF.block _ (lt_of_block hd) (fun h => h)).trans hd
    have := reach_any d n (some ⟨bn, 0, none⟩) false (i : Int) W (by rw [cell_of_block hd2]; exact h0) (by rw [cell_of_block hd2]; exact h5)
    rwa [show rcode n false (i : Int) = 0 by unfold rcode; simp; omega] at this
  have q0 : (0 : Int) ≤ (i : Int) := by omega
  have q1 : (i : Int) < (n : Int) := by omega
  have HR := Lib.hid hre
  have sZ : Sz 128 Try.zeroCells30 := by rw [Try.zBk]; exact ⟨ub_size _ _, ub_one _ _⟩
  have sN : Sz 128 (ub 128 (N i)) := ⟨ub_size _ _, ub_one _ _⟩
  have K := (Kn.start w).new (w.heap.size) 128 Try.zeroCells30 30 rfl sZ.1
  clear hre
  go_enter Try.func17, Try.ntmps17
  go_wp2_with fail
  refine (HR.out _ K.fr).mono ?_
  rintro e w2 ⟨rfl, F2⟩
  have K2 := K.call F2
  clear K
  have K := K2
  clear K2
  have hd2 := (K.fr.block _ (lt_of_block hd) (fun h => h)).trans hd
  have hb2 := (K.fr.block _ (lt_of_block hb) (fun h => h)).trans hb
  have c0 : w2.cell? ⟨d, 0, none⟩ = some (.slice (some ⟨bn, 0, none⟩) n n) := by rw [cell_of_block hd2]; exact h0
  have rg : w2.rangeAt bn (i * 128) (ub 128 (N i)).toList := fun j u hj => by
    rw [cell_of_block hb2, Nat.mul_comm]; exact bk_part n N i hi j u (by simpa using hj)
  have szN : (Try.prog.info? 30).map (·.size) = some (ub 128 (N i)).toList.length := by rw [Array.length_toList, ub_size]; exact Try.szBk
  go_wp2_with (first | (focus ((with_reducible refine wpList_load_mid ?h0 30 (.tmp 19) ?h1 bn (i * 128) ?h2 (ub 128 (N i)).toList (.array 128 5) rg Try.underlying30 ?h4 szN ?h3); (case h0 => rfl); (case h4 => rfl); (case h1 => rfl); (case h2 => rfl); (simp only [Act.put, List.setIfInBounds_toArray, List.set_cons_zero, List.set_cons_succ, Array.toArray_toList]))) | ((focus (((with_reducible refine' wpList_store_kn K rfl 30 (.tmp 4) _ rfl 0 _ _ _ _ _ rfl rfl Try.szBk _ _ _); rotate_left 2; (focus exact rfl)); (focus (with_reducible assumption)); intro wz Kz; clear K; have K := Kz; clear Kz; simp only [List.set_cons_zero, List.set_cons_succ] at K; try (simp only [Act.put, List.setIfInBounds_toArray, List.set_cons_zero, List.set_cons_succ])))))
  refine bodyPost_ret (results_cell_tmpD rfl _ w.heap.size (ub 128 (N i)) _ 30 (0, 0) rfl rfl _ Try.underlying30 rfl (by rw [sN.1]; exact Try.szBk) (K.heap 0 rfl)) rfl ?_
  exact ⟨rfl, K.fr⟩
end Go.Proofs.Ytgladedjgjhlaaa

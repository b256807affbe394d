/-
  The contracts of Same and Odd of package field.
-/
import Derived.Test.YtnobobdgoccmcaaFf
import Derived.Test.YtnobobdgoccmcaaEq
import Derived.Test.YtnobobdgoccmcaaMl
namespace Go.Proofs.Ytnobobdgoccmcaa
open Go.RowKit Pri
set_option linter.unusedVariables false

theorem Try.guardElem : Try.prog.eqGuardType Try.prog.depth 24 = false := by kernel_rfl
theorem eql_elem (X Y : Nat) (hX : X < 115792089237316195423570985008687907853269984665640564039457584007913129639936) (hY : Y < 115792089237316195423570985008687907853269984665640564039457584007913129639936) (w : World) : (binOp .eql 24 (.agg (nc X)) (.agg (nc Y))).run Try.prog w = .ok (.bool (decide (X = Y))) w := by
  obtain ⟨a, b, c, d, _, _, _, _, hx, ex⟩ := nc_open X hX
  obtain ⟨x, y, z, t, _, _, _, _, hy, ey⟩ := nc_open Y hY
  rw [ex, ey]
  refine (eql_ints w 24 22 4 .u64 Try.underlying24 Try.underlying22 Try.sizeW [a, b, c, d] [x, y, z, t] rfl rfl).trans ?_
  have e : (([(a : Int), b, c, d] : List Int) == [(x : Int), y, z, t]) = decide (X = Y) := by
    by_cases h : X = Y
    · rw [decide_eq_true h]
      have : a = x ∧ b = y ∧ c = z ∧ d = t := by unfold nv at hx hy; omega
      obtain ⟨rfl, rfl, rfl, rfl⟩ := this
      simp
    · rw [decide_eq_false h]
      have : ¬ (a = x ∧ b = y ∧ c = z ∧ d = t) := fun ⟨h1, h2, h3, h4⟩ => h (by rw [hx, hy, h1, h2, h3, h4])
      rw [beq_eq_false_iff_ne]
      intro hc
      simp only [List.cons.injEq, and_true] at hc
      exact this ⟨by omega, by omega, by omega, by omega⟩
  rw [e]
set_option maxRecDepth 100000 in
set_option maxHeartbeats 1600000 in
theorem fsame_op (A B A2 B2 : Array Value) (D : Bool) (w : World)
    (RA : ∀ W : World, Calls Try.prog 17 #[.agg A] W fun e w' => e = .returned (.agg A2) ∧ Fr (fun _ => False) W w')
    (RB : ∀ W : World, Calls Try.prog 17 #[.agg B] W fun e w' => e = .returned (.agg B2) ∧ Fr (fun _ => False) W w')
    (EQ : ∀ W : World, (binOp .eql 24 (.agg A2) (.agg B2)).run Try.prog W = .ok (.bool D) W) (zA : A.size = 4) (zB : B.size = 4) :
    Calls Try.prog 26 #[.agg A, .agg B] w fun e w' => e = .returned (.bool D) ∧ Fr (fun _ => False) w w' := by
  have sA : (Try.prog.info? 24).map (·.size) = some A.size := by rw [zA]; kernel_rfl
  have sB : (Try.prog.info? 24).map (·.size) = some B.size := by rw [zB]; kernel_rfl
  have HA := Lib.hid (heap_alloc2_old w (.cells A 24) (.cells B 24))
  have HB := Lib.hid (heap_alloc2_new w (.cells A 24) (.cells B 24))
  have HF := Lib.hid (((Fr.refl (fun _ => False) w).alloc (.cells A 24)).alloc (.cells B 24))
  have EG := Try.guardElem
  clear zA zB
  go_enter Try.func26, Try.ntmps26
  go_wp2_with fail
  refine wp_region_keep (by kernel_rfl) (by kernel_rfl) ?_
  repeat (any_goals (first | (go_big_quiet_want; (with_reducible refine quiet_load_row 24 (.tmp 2) rfl w.heap.size rfl 24 A (0, 0) _ HA.out Try.underlying24 rfl sA ?_); simp only [Act.put, List.setIfInBounds_toArray, List.set_cons_zero, List.set_cons_succ]; go_big_quiet_on) | (go_big_quiet_want; (with_reducible refine quiet_load_row 24 (.tmp 3) rfl (w.heap.size + 1) rfl 24 B (0, 0) _ HB.out Try.underlying24 rfl sB ?_); simp only [Act.put, List.setIfInBounds_toArray, List.set_cons_zero, List.set_cons_succ]; go_big_quiet_on) | go_big_quiet_step (((first | (go_at_call 17; with_reducible exact Calls.keep (RA _)) | (go_at_call 17; with_reducible exact Calls.keep (RB _))))) | quiet_step (((first | (go_at_call 17; with_reducible exact Calls.keep (RA _)) | (go_at_call 17; with_reducible exact Calls.keep (RB _)))))))
  refine wpQuiet_nil ?_
  intro _ hw'
  obtain ⟨y, rfl⟩ := hw'
  go_wp2
  go_ret
  exact ⟨rfl, HF.out.trans y.h (fun _ h => h.elim)⟩
theorem fsame_any (X Y : Nat) (hX : X < 115792089237316195423570985008687907853269984665640564039457584007913129639936) (hY : Y < 115792089237316195423570985008687907853269984665640564039457584007913129639936) (w : World) :
    Calls Try.prog 26 #[.agg (nc X), .agg (nc Y)] w fun e w' => e = .returned (.bool (decide (X % p25519 = Y % p25519))) ∧ Fr (fun _ => False) w w' :=
  fsame_op (nc X) (nc Y) _ _ _ w (fRest_any X hX) (fRest_any Y hY) (eql_elem _ _ (mod_p_lt X) (mod_p_lt Y)) rfl rfl
set_option maxRecDepth 100000 in
set_option maxHeartbeats 1600000 in
theorem fodd_any (X : Nat) (hX : X < 115792089237316195423570985008687907853269984665640564039457584007913129639936) (w : World) :
    Calls Try.prog 27 #[.agg (nc X)] w fun e w' => e = .returned (.bool (decide (X % p25519 % 2 = 1))) ∧ Fr (fun _ => False) w w' := by
  have RX := fun W => fRest_any X hX W
  have hR := mod_p_lt X
  generalize X % p25519 = R at *
  obtain ⟨r0, r1, r2, r3, h0, h1, h2, h3, hr, er⟩ := nc_open R hR
  have hb := bit_and r0 h0
  have hd : decide (R % 2 = 1) = decide (r0 % 2 = 1) := by
    have : R % 2 = r0 % 2 := by rw [hr]; unfold nv; omega
    rw [this]
  rw [hd]
  rw [er] at RX
  have A0 := heap_alloc_new w (.cells (nc X) 24)
  have zX : (Try.prog.info? 24).map (·.size) = some (nc X).size := by show _ = some 4; kernel_rfl
  have hd2 : decide (r0 % 2 = 1) = ((((r0 % 2 : Nat) : Int)) == 1) := by
    rcases Nat.mod_two_eq_zero_or_one r0 with c | c <;> rw [c] <;> rfl
  rw [hd2]
  generalize r0 % 2 = b at *
  have HX := Lib.hid (rfl : nc X = nc X)
  generalize hNX : nc X = A at *
  have HN := Lib.hid hNX
  have i0 : ∀ W, (Instr.index 24 (.agg #[.int .u64 (r0 : Int), .int .u64 (r1 : Int), .int .u64 (r2 : Int), .int .u64 (r3 : Int)]) (.int .i64 0)).run Try.prog W = .ok (.int .u64 (r0 : Int)) W := fun _ => by kernel_rfl
  clear hd hd2 er hr hR hX HX hNX
  go_enter Try.func27, Try.ntmps27
  go_wp2_with (with_reducible refine wpList_load_row rfl 24 (.tmp 1) rfl w.heap.size rfl 24 A (0, 0) _ A0 Try.underlying24 rfl zX ?_)
  refine (RX _).mono ?_
  rintro e w1 ⟨rfl, F1⟩
  go_wp2
  go_ret
  exact ⟨rfl, ((Fr.refl _ w).alloc _).trans F1 (fun _ h => h.elim)⟩
end Go.Proofs.Ytnobobdgoccmcaa


/-
  Common of package path and of the document's answer, over what they call.
-/
import Derived.Test.YtghjcppafkaopaaZd
namespace Go.Proofs.Ytghjcppafkaopaa
open Go.RowKit
set_option linter.unusedVariables false
set_option linter.unusedSimpArgs false

set_option maxRecDepth 100000 in
set_option maxHeartbeats 3200000 in
theorem cm_full (q x z : Nat) (A B : Array Value) (w : World)
    (a b : Nat → Nat) (hA : ∀ j, j < 32 → A[j]? = some (.int .u8 (a j : Int))) (hB : ∀ j, j < 32 → B[j]? = some (.int .u8 (b j : Int))) (he : ∀ j, j < 32 → a j = b j)
    (sA : Sz 32 A) (sB : Sz 32 B) :
    Calls Try.prog 55 #[.agg A, .agg B] w fun e w' => e = .returned (.int .i64 256) ∧ Fr (fun _ => False) w w' := by
  have HA := Lib.hid hA
  have HB := Lib.hid hB
  have HE := Lib.hid he
  clear hA hB he
  have K := (((Kn.start w).new (w.heap.size) 32 A 88 rfl sA.1).new (w.heap.size + 1) 32 B 88 (by simp) sB.1)
  go_enter Try.func55, Try.ntmps55
  go_wp2_with fail
  go_loopw [6] (fun i wr => ∃ k : Nat, k ≤ 32 ∧ i = .int .i64 (k : Int) ∧ Kn w [⟨w.heap.size + 1, 32, B, 88⟩, ⟨w.heap.size, 32, A, 88⟩] wr) (fun i _ => (32 - (intOf i).toNat))
  case atStart => exact ⟨0, by omega, by simp, K⟩
  case round =>
    clear K
    obtain ⟨k, hk, rfl, K⟩ := hrel
    by_cases hc : k = 32
    · subst hc
      go_wp2_with fail
      go_ret
      exact ⟨rfl, K.fr⟩
    · have hk2 : k < 32 := by omega
      have n0 : (0 : Int) ≤ (k : Int) := by omega
      have n1 : (k : Int) < 32 := by omega
      have hAk := HA.out k hk2
      have hBk := HB.out k hk2
      rw [← HE.out k (by omega)] at hBk
      generalize hak : a k = u at *
      clear HA HB HE hak
      go_wp2_with fail
      have cx := fun y : Wd _ => K.celld y 1 rfl k hAk
      have cy := fun y : Wd _ => K.celld y 0 rfl k hBk
      refine wp_region_keep (by kernel_rfl) (by kernel_rfl) ?_

      repeat (any_goals (first | go_big_quiet_step (fail) | quiet_step (fail)))
      refine wpQuiet_nil ?_
      intro _ hwz
      obtain ⟨y, rfl⟩ := hwz
      have Kz := K.call y.h
      clear K cx cy
      have K := Kz
      clear Kz
      generalize y.w = wz at K ⊢
      clear y
      go_wp2_with fail
      go_roundw
      case rel => exact ⟨k + 1, by omega, by simp, K⟩
      case measure => simp [intOf]; omega
set_option maxRecDepth 100000 in
set_option maxHeartbeats 3200000 in
theorem cm_part (q x z : Nat) (A B : Array Value) (w : World)
    (LZ : Ans Try.prog 71 #[.int .u8 (x : Int)] (.int .i64 (z : Int)))
    (a b : Nat → Nat) (hA : ∀ j, j < 32 → A[j]? = some (.int .u8 (a j : Int))) (hB : ∀ j, j < 32 → B[j]? = some (.int .u8 (b j : Int))) (he : ∀ j, j < q → a j = b j) (hq : q < 32) (hz : z ≤ 8) (hn : a q ≠ b q) (hx : bits .xor .u8 (a q : Int) (b q : Int) = (x : Int))
    (sA : Sz 32 A) (sB : Sz 32 B) :
    Calls Try.prog 55 #[.agg A, .agg B] w fun e w' => e = .returned (.int .i64 ((8 * q + z : Nat) : Int)) ∧ Fr (fun _ => False) w w' := by
  have HA := Lib.hid hA
  have HB := Lib.hid hB
  have HE := Lib.hid he
  clear hA hB he
  have K := (((Kn.start w).new (w.heap.size) 32 A 88 rfl sA.1).new (w.heap.size + 1) 32 B 88 (by simp) sB.1)
  go_enter Try.func55, Try.ntmps55
  go_wp2_with fail
  go_loopw [6] (fun i wr => ∃ k : Nat, k ≤ q ∧ i = .int .i64 (k : Int) ∧ Kn w [⟨w.heap.size + 1, 32, B, 88⟩, ⟨w.heap.size, 32, A, 88⟩] wr) (fun i _ => (32 - (intOf i).toNat))
  case atStart => exact ⟨0, by omega, by simp, K⟩
  case round =>
    clear K
    obtain ⟨k, hk, rfl, K⟩ := hrel
    by_cases hc : k = q
    · subst hc
      have n0 : (0 : Int) ≤ (k : Int) := by omega
      have n1 : (k : Int) < 32 := by omega
      have w8 : wrap64 (8 * (k : Int)) = 8 * (k : Int) := IntWalk.wrap64_in _ (by omega)
      have w7 : IntKind.i64.wrap (8 * (k : Int)) = 8 * (k : Int) := IntWalk.i64_in _ (by omega)
      have w6 : wrap64 (8 * (k : Int) + (z : Int)) = ((8 * k + z : Nat) : Int) := by rw [IntWalk.wrap64_in _ (by omega)]; omega
      have w5 : IntKind.i64.wrap (8 * (k : Int) + (z : Int)) = ((8 * k + z : Nat) : Int) := by rw [IntWalk.i64_in _ (by omega)]; omega
      have hAk := HA.out k hq
      have hBk := HB.out k hq
      generalize hak : a k = u at *
      generalize hbk : b k = v at *
      have e1 : (u == v) = false := by rw [beq_eq_false_iff_ne]; exact hn
      have e2 : ((u : Int) == (v : Int)) = false := by rw [beq_eq_false_iff_ne]; omega
      have e3 : decide ((u : Int) = (v : Int)) = false := decide_eq_false (by omega)
      have e4 : ¬ (u : Int) = (v : Int) := by omega
      clear HA HB HE hak hbk
      go_wp2_with fail
      have cx := fun y : Wd _ => K.celld y 1 rfl k hAk
      have cy := fun y : Wd _ => K.celld y 0 rfl k hBk
      refine wp_region_keep (by kernel_rfl) (by kernel_rfl) ?_

      repeat (any_goals (first | go_big_quiet_step (fail) | quiet_step (fail)))
      refine wpQuiet_nil ?_
      intro _ hwz
      obtain ⟨y, rfl⟩ := hwz
      have Kz := K.call y.h
      clear K cx cy
      have K := Kz
      clear Kz
      generalize y.w = wz at K ⊢
      clear y
      go_wp2_with fail
      have cx := fun y : Wd _ => K.celld y 1 rfl k hAk
      have cy := fun y : Wd _ => K.celld y 0 rfl k hBk
      refine wp_region_keep (by kernel_rfl) (by kernel_rfl) ?_

      repeat (any_goals (first | go_big_quiet_step ((first | (go_at_call 71; with_reducible exact Calls.keep (LZ _)))) | quiet_step ((first | (go_at_call 71; with_reducible exact Calls.keep (LZ _))))))
      refine wpQuiet_nil ?_
      intro _ hwz
      obtain ⟨y, rfl⟩ := hwz
      have Kz := K.call y.h
      clear K cx cy
      have K := Kz
      clear Kz
      generalize y.w = wz at K ⊢
      clear y
      go_wp2_with fail
      go_ret
      exact ⟨rfl, K.fr⟩
    · have hk2 : k < 32 := by omega
      have n0 : (0 : Int) ≤ (k : Int) := by omega
      have n1 : (k : Int) < 32 := by omega
      have hAk := HA.out k hk2
      have hBk := HB.out k hk2
      rw [← HE.out k (by omega)] at hBk
      generalize hak : a k = u at *
      clear HA HB HE hak
      go_wp2_with fail
      have cx := fun y : Wd _ => K.celld y 1 rfl k hAk
      have cy := fun y : Wd _ => K.celld y 0 rfl k hBk
      refine wp_region_keep (by kernel_rfl) (by kernel_rfl) ?_

      repeat (any_goals (first | go_big_quiet_step (fail) | quiet_step (fail)))
      refine wpQuiet_nil ?_
      intro _ hwz
      obtain ⟨y, rfl⟩ := hwz
      have Kz := K.call y.h
      clear K cx cy
      have K := Kz
      clear Kz
      generalize y.w = wz at K ⊢
      clear y
      go_wp2_with fail
      go_roundw
      case rel => exact ⟨k + 1, by omega, by simp, K⟩
      case measure => simp [intOf]; omega
set_option maxRecDepth 100000 in
set_option maxHeartbeats 3200000 in
theorem rcm_full (c : Nat) (a b : Nat → Nat) (A B : Array Value) (w : World)
    (BA : ∀ j : Nat, j < 256 → Ans Try.prog 54 #[.agg A, .int .i64 (j : Int)] (.int .i64 (a j : Int))) (BB : ∀ j : Nat, j < 256 → Ans Try.prog 54 #[.agg B, .int .i64 (j : Int)] (.int .i64 (b j : Int))) (he : ∀ j, j < 256 → a j = b j)
    (sA : Sz 32 A) (sB : Sz 32 B) :
    Calls Try.prog 51 #[.agg A, .agg B] w fun e w' => e = .returned (.int .i64 256) ∧ Fr (fun _ => False) w w' := by
  have HA := Lib.hid BA
  have HB := Lib.hid BB
  have HE := Lib.hid he
  clear BA BB he
  have K := (((Kn.start w).new (w.heap.size) 32 A 87 rfl sA.1).new (w.heap.size + 1) 32 B 87 (by simp) sB.1)
  go_enter Try.func51, Try.ntmps51
  go_wp2_with fail
  go_loopw [5] (fun i wr => ∃ k : Nat, k ≤ 256 ∧ i = .int .i64 (k : Int) ∧ Kn w [⟨w.heap.size + 1, 32, B, 87⟩, ⟨w.heap.size, 32, A, 87⟩] wr) (fun i _ => (256 - (intOf i).toNat))
  case atStart => exact ⟨0, by omega, by simp, K⟩
  case round =>
    clear K
    obtain ⟨k, hk, rfl, K⟩ := hrel
    by_cases hc : k = 256
    · subst hc
      go_wp2_with fail
      go_ret
      exact ⟨rfl, K.fr⟩
    · have hk2 : k < 256 := by omega
      have n1 : (k : Int) < 256 := by omega
      have B1 := HA.out k hk2
      have B2 := HB.out k hk2
      rw [← HE.out k (by omega)] at B2
      generalize hak : a k = u at *
      clear HA HB HE hak
      go_wp2_with fail
      refine wp_region_keep (by kernel_rfl) (by kernel_rfl) ?_

      repeat (any_goals (first | (focus (go_big_quiet_want; (first | ((with_reducible refine' quiet_load_kn K 87 (.tmp 2) rfl 1 _ _ _ _ rfl _ Try.underlying87 rfl Try.szBa _ _); rotate_left 2; (focus exact rfl)) | ((with_reducible refine' quiet_load_kn K 87 (.tmp 3) rfl 0 _ _ _ _ rfl _ Try.underlying87 rfl Try.szBa _ _); rotate_left 2; (focus exact rfl))); simp only [Act.put, List.setIfInBounds_toArray, List.set_cons_zero, List.set_cons_succ]; go_big_quiet_on)) | go_big_quiet_step ((first | (go_at_call 54; with_reducible exact Calls.keep (B1 _)) | (go_at_call 54; with_reducible exact Calls.keep (B2 _)))) | quiet_step ((first | (go_at_call 54; with_reducible exact Calls.keep (B1 _)) | (go_at_call 54; with_reducible exact Calls.keep (B2 _))))))
      refine wpQuiet_nil ?_
      intro _ hwz
      obtain ⟨y, rfl⟩ := hwz
      have Kz := K.call y.h
      clear K 
      have K := Kz
      clear Kz
      generalize y.w = wz at K ⊢
      clear y
      go_wp2_with fail
      go_roundw
      case rel => exact ⟨k + 1, by omega, by simp, K⟩
      case measure => simp [intOf]; omega
set_option maxRecDepth 100000 in
set_option maxHeartbeats 3200000 in
theorem rcm_part (c : Nat) (a b : Nat → Nat) (A B : Array Value) (w : World)
    (BA : ∀ j : Nat, j < 256 → Ans Try.prog 54 #[.agg A, .int .i64 (j : Int)] (.int .i64 (a j : Int))) (BB : ∀ j : Nat, j < 256 → Ans Try.prog 54 #[.agg B, .int .i64 (j : Int)] (.int .i64 (b j : Int))) (he : ∀ j, j < c → a j = b j) (hc2 : c < 256) (hn : a c ≠ b c)
    (sA : Sz 32 A) (sB : Sz 32 B) :
    Calls Try.prog 51 #[.agg A, .agg B] w fun e w' => e = .returned (.int .i64 (c : Int)) ∧ Fr (fun _ => False) w w' := by
  have HA := Lib.hid BA
  have HB := Lib.hid BB
  have HE := Lib.hid he
  clear BA BB he
  have K := (((Kn.start w).new (w.heap.size) 32 A 87 rfl sA.1).new (w.heap.size + 1) 32 B 87 (by simp) sB.1)
  go_enter Try.func51, Try.ntmps51
  go_wp2_with fail
  go_loopw [5] (fun i wr => ∃ k : Nat, k ≤ c ∧ i = .int .i64 (k : Int) ∧ Kn w [⟨w.heap.size + 1, 32, B, 87⟩, ⟨w.heap.size, 32, A, 87⟩] wr) (fun i _ => (256 - (intOf i).toNat))
  case atStart => exact ⟨0, by omega, by simp, K⟩
  case round =>
    clear K
    obtain ⟨k, hk, rfl, K⟩ := hrel
    by_cases hc : k = c
    · subst hc
      have n1 : (k : Int) < 256 := by omega
      have B1 := HA.out k hc2
      have B2 := HB.out k hc2
      generalize hak : a k = u at *
      generalize hbk : b k = v at *
      have e1 : (u == v) = false := by rw [beq_eq_false_iff_ne]; exact hn
      have e2 : ((u : Int) == (v : Int)) = false := by rw [beq_eq_false_iff_ne]; omega
      have e3 : decide ((u : Int) = (v : Int)) = false := decide_eq_false (by omega)
      have e4 : ¬ (u : Int) = (v : Int) := by omega
      clear HA HB HE hak hbk
      go_wp2_with fail
      refine wp_region_keep (by kernel_rfl) (by kernel_rfl) ?_

      repeat (any_goals (first | (focus (go_big_quiet_want; (first | ((with_reducible refine' quiet_load_kn K 87 (.tmp 2) rfl 1 _ _ _ _ rfl _ Try.underlying87 rfl Try.szBa _ _); rotate_left 2; (focus exact rfl)) | ((with_reducible refine' quiet_load_kn K 87 (.tmp 3) rfl 0 _ _ _ _ rfl _ Try.underlying87 rfl Try.szBa _ _); rotate_left 2; (focus exact rfl))); simp only [Act.put, List.setIfInBounds_toArray, List.set_cons_zero, List.set_cons_succ]; go_big_quiet_on)) | go_big_quiet_step ((first | (go_at_call 54; with_reducible exact Calls.keep (B1 _)) | (go_at_call 54; with_reducible exact Calls.keep (B2 _)))) | quiet_step ((first | (go_at_call 54; with_reducible exact Calls.keep (B1 _)) | (go_at_call 54; with_reducible exact Calls.keep (B2 _))))))
      refine wpQuiet_nil ?_
      intro _ hwz
      obtain ⟨y, rfl⟩ := hwz
      have Kz := K.call y.h
      clear K 
      have K := Kz
      clear Kz
      generalize y.w = wz at K ⊢
      clear y
      go_wp2_with fail
      go_ret
      exact ⟨rfl, K.fr⟩
    · have hk2 : k < 256 := by omega
      have n1 : (k : Int) < 256 := by omega
      have B1 := HA.out k hk2
      have B2 := HB.out k hk2
      rw [← HE.out k (by omega)] at B2
      generalize hak : a k = u at *
      clear HA HB HE hak
      go_wp2_with fail
      refine wp_region_keep (by kernel_rfl) (by kernel_rfl) ?_

      repeat (any_goals (first | (focus (go_big_quiet_want; (first | ((with_reducible refine' quiet_load_kn K 87 (.tmp 2) rfl 1 _ _ _ _ rfl _ Try.underlying87 rfl Try.szBa _ _); rotate_left 2; (focus exact rfl)) | ((with_reducible refine' quiet_load_kn K 87 (.tmp 3) rfl 0 _ _ _ _ rfl _ Try.underlying87 rfl Try.szBa _ _); rotate_left 2; (focus exact rfl))); simp only [Act.put, List.setIfInBounds_toArray, List.set_cons_zero, List.set_cons_succ]; go_big_quiet_on)) | go_big_quiet_step ((first | (go_at_call 54; with_reducible exact Calls.keep (B1 _)) | (go_at_call 54; with_reducible exact Calls.keep (B2 _)))) | quiet_step ((first | (go_at_call 54; with_reducible exact Calls.keep (B1 _)) | (go_at_call 54; with_reducible exact Calls.keep (B2 _))))))
      refine wpQuiet_nil ?_
      intro _ hwz
      obtain ⟨y, rfl⟩ := hwz
      have Kz := K.call y.h
      clear K 
      have K := Kz
      clear Kz
      generalize y.w = wz at K ⊢
      clear y
      go_wp2_with fail
      go_roundw
      case rel => exact ⟨k + 1, by omega, by simp, K⟩
      case measure => simp [intOf]; omega
end Go.Proofs.Ytghjcppafkaopaa

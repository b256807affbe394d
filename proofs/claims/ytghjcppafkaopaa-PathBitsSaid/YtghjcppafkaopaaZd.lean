/-
  Order, Less, Under, Flip of package path and Less of the document's answer, over what they call.
-/
import Derived.Test.YtghjcppafkaopaaZc
namespace Go.Proofs.Ytghjcppafkaopaa
open Go.RowKit
set_option linter.unusedVariables false
set_option linter.unusedSimpArgs false

theorem Try.iU8 : (Try.prog.info? 5).map (·.size) = some 1 := by kernel_rfl
theorem wpList_load_kn_gd {P : Program} {ops : Array Oper} {rest : List Oper} {o : Oper} {a : Act} {w0 w : World} {L : List Bk} {Q : Exit → Act → World → Prop} (K : Kn w0 L w) (hw : Region.wanted o (yielded ops a.tmps) = true) (ty : TypeId) (x : Operand) (ho : o.op = .load ty x) (i g n : Nat) (cs : Array Value) (T : TypeId) (hx : a.eval x = .pointer (some ⟨g, 0, none⟩))
    (d : TypeDesc) (hu : P.underlying ty = some d) (hd : (match d with | .struct _ | .array _ _ => true | _ => false) = true) (hty : (P.info? ty).map (·.size) = some n) (hi : L[i]? = some ⟨g, n, cs, T⟩)
    (h : wpList P ops Q rest (a.put o.dst (.agg cs)) w) : wpList P ops Q (o :: rest) a w :=
  wpList_step fun Kk hK => by simp only [hw, if_true]; exact wp_load_row ty x ho g hx T cs (0, 0) d (K.heap i hi) hu hd (by rw [hty, K.size i hi]) (hK _ _ h)
set_option maxRecDepth 100000 in
set_option maxHeartbeats 3200000 in
theorem order_op (c x y : Nat) (A B : Array Value) (w : World)
    (CO : Ans Try.prog 55 #[.agg A, .agg B] (.int .i64 (c : Int)))
    (B1 : Ans Try.prog 53 #[.agg A, .int .i64 (c : Int)] (.int .i64 (x : Int)))
    (B2 : Ans Try.prog 53 #[.agg B, .int .i64 (c : Int)] (.int .i64 (y : Int)))
    (hx : x < 2) (hy : y < 2)
    (sA : Sz 32 A) (sB : Sz 32 B) :
    Calls Try.prog 72 #[.agg A, .agg B] w fun e w' => e = .returned (.int .i64 ((x : Int) - (y : Int))) ∧ Fr (fun _ => False) w w' := by
  have hw : wrap64 ((x : Int) - (y : Int)) = (x : Int) - (y : Int) := IntWalk.wrap64_in _ (by omega)
  have hw2 : IntKind.i64.wrap ((x : Int) - (y : Int)) = (x : Int) - (y : Int) := IntWalk.i64_in _ (by omega)
  have K := (((Kn.start w).new (w.heap.size) 32 A 88 rfl sA.1).new (w.heap.size + 1) 32 B 88 (by simp) sB.1)
  go_enter Try.func72, Try.ntmps72
  go_wp2_with (first
      | (focus (first | ((with_reducible refine' wpList_load_kn K rfl 88 (.tmp 2) rfl 1 _ _ _ _ rfl _ Try.underlying88 rfl Try.szKy _ _); rotate_left 2; (focus exact rfl)) | ((with_reducible refine' wpList_load_kn K rfl 88 (.tmp 3) rfl 0 _ _ _ _ rfl _ Try.underlying88 rfl Try.szKy _ _); rotate_left 2; (focus exact rfl))))
      | (go_at_call 55; (with_reducible refine Calls.kn K (CO _) ?_); intro wz Kz; clear K; have K := Kz; clear Kz))
  refine wp_region_keep (by kernel_rfl) (by kernel_rfl) ?_

  repeat (any_goals (first | (focus (go_big_quiet_want; (first | ((with_reducible refine' quiet_load_kn K 88 (.tmp 2) rfl 1 _ _ _ _ rfl _ Try.underlying88 rfl Try.szKy _ _); rotate_left 2; (focus exact rfl)) | ((with_reducible refine' quiet_load_kn K 88 (.tmp 3) rfl 0 _ _ _ _ rfl _ Try.underlying88 rfl Try.szKy _ _); rotate_left 2; (focus exact rfl))); simp only [Act.put, List.setIfInBounds_toArray, List.set_cons_zero, List.set_cons_succ]; go_big_quiet_on)) | go_big_quiet_step ((first | (go_at_call 53; with_reducible exact Calls.keep (B1 _)) | (go_at_call 53; with_reducible exact Calls.keep (B2 _)))) | quiet_step ((first | (go_at_call 53; with_reducible exact Calls.keep (B1 _)) | (go_at_call 53; with_reducible exact Calls.keep (B2 _))))))
  refine wpQuiet_nil ?_
  intro _ hwz
  obtain ⟨y, rfl⟩ := hwz
  have Kz := K.call y.h
  clear K 
  have K := Kz
  clear Kz
  generalize y.w = wz at K ⊢
  clear y
  go_wp2_with fail
  go_ret
  exact ⟨rfl, K.fr⟩
set_option maxRecDepth 100000 in
set_option maxHeartbeats 3200000 in
theorem less_op (z : Int) (r : Bool) (A B : Array Value) (w : World)
    (OR : Ans Try.prog 72 #[.agg A, .agg B] (.int .i64 z))
    (hz : decide (z < 0) = r)
    (sA : Sz 32 A) (sB : Sz 32 B) :
    Calls Try.prog 56 #[.agg A, .agg B] w fun e w' => e = .returned (.bool r) ∧ Fr (fun _ => False) w w' := by
  have K := (((Kn.start w).new (w.heap.size) 32 A 88 rfl sA.1).new (w.heap.size + 1) 32 B 88 (by simp) sB.1)
  go_enter Try.func56, Try.ntmps56
  go_wp2_with (first
      | (focus (first | ((with_reducible refine' wpList_load_kn K rfl 88 (.tmp 2) rfl 1 _ _ _ _ rfl _ Try.underlying88 rfl Try.szKy _ _); rotate_left 2; (focus exact rfl)) | ((with_reducible refine' wpList_load_kn K rfl 88 (.tmp 3) rfl 0 _ _ _ _ rfl _ Try.underlying88 rfl Try.szKy _ _); rotate_left 2; (focus exact rfl))))
      | (go_at_call 72; (with_reducible refine Calls.kn K (OR _) ?_); intro wz Kz; clear K; have K := Kz; clear Kz))
  go_ret
  exact ⟨rfl, K.fr⟩
set_option maxRecDepth 100000 in
set_option maxHeartbeats 3200000 in
theorem under_lo (I : Int) (c : Nat) (r : Bool) (A B : Array Value) (w : World)
    (CO : Ans Try.prog 55 #[.agg A, .agg B] (.int .i64 (c : Int)))
    (h1 : I ≤ 256) (h2 : ¬ 256 < I) (hr : decide (I ≤ (c : Int)) = r)
    (sA : Sz 32 A) (sB : Sz 32 B) :
    Calls Try.prog 58 #[.agg A, .agg B, .int .i64 I] w fun e w' => e = .returned (.bool r) ∧ Fr (fun _ => False) w w' := by
  have K := (((Kn.start w).new (w.heap.size) 32 A 88 rfl sA.1).new (w.heap.size + 1) 32 B 88 (by simp) sB.1)
  go_enter Try.func58, Try.ntmps58
  go_wp2_with (first
      | (focus (first | ((with_reducible refine' wpList_load_kn K rfl 88 (.tmp 3) rfl 1 _ _ _ _ rfl _ Try.underlying88 rfl Try.szKy _ _); rotate_left 2; (focus exact rfl)) | ((with_reducible refine' wpList_load_kn K rfl 88 (.tmp 4) rfl 0 _ _ _ _ rfl _ Try.underlying88 rfl Try.szKy _ _); rotate_left 2; (focus exact rfl))))
      | (go_at_call 55; (with_reducible refine Calls.kn K (CO _) ?_); intro wz Kz; clear K; have K := Kz; clear Kz))
  go_ret
  exact ⟨rfl, K.fr⟩
set_option maxRecDepth 100000 in
set_option maxHeartbeats 3200000 in
theorem under_hi (I : Int) (c : Nat) (r : Bool) (A B : Array Value) (w : World)
    (CO : Ans Try.prog 55 #[.agg A, .agg B] (.int .i64 (c : Int)))
    (h1 : 256 < I) (h2 : ¬ I ≤ 256) (h3 : ¬ I < 256) (hr : decide (256 ≤ (c : Int)) = r)
    (sA : Sz 32 A) (sB : Sz 32 B) :
    Calls Try.prog 58 #[.agg A, .agg B, .int .i64 I] w fun e w' => e = .returned (.bool r) ∧ Fr (fun _ => False) w w' := by
  have K := (((Kn.start w).new (w.heap.size) 32 A 88 rfl sA.1).new (w.heap.size + 1) 32 B 88 (by simp) sB.1)
  go_enter Try.func58, Try.ntmps58
  go_wp2_with (first
      | (focus (first | ((with_reducible refine' wpList_load_kn K rfl 88 (.tmp 3) rfl 1 _ _ _ _ rfl _ Try.underlying88 rfl Try.szKy _ _); rotate_left 2; (focus exact rfl)) | ((with_reducible refine' wpList_load_kn K rfl 88 (.tmp 4) rfl 0 _ _ _ _ rfl _ Try.underlying88 rfl Try.szKy _ _); rotate_left 2; (focus exact rfl))))
      | (go_at_call 55; (with_reducible refine Calls.kn K (CO _) ?_); intro wz Kz; clear K; have K := Kz; clear Kz))
  go_ret
  exact ⟨rfl, K.fr⟩
set_option maxRecDepth 100000 in
set_option maxHeartbeats 3200000 in
theorem rless_yes (c : Nat) (A B : Array Value) (w : World)
    (CO : Ans Try.prog 51 #[.agg A, .agg B] (.int .i64 (c : Int)))
    (B1 : Ans Try.prog 54 #[.agg A, .int .i64 (c : Int)] (.int .i64 0))
    (h1 : (c : Int) < 256) (h2 : decide ((c : Int) < 256) = true)
    (sA : Sz 32 A) (sB : Sz 32 B) :
    Calls Try.prog 57 #[.agg A, .agg B] w fun e w' => e = .returned (.bool true) ∧ Fr (fun _ => False) w w' := by
  have K := (((Kn.start w).new (w.heap.size) 32 A 87 rfl sA.1).new (w.heap.size + 1) 32 B 87 (by simp) sB.1)
  go_enter Try.func57, Try.ntmps57
  go_wp2_with (first
      | (focus ((with_reducible refine' wpList_load_kn_gd K _ 87 (.tmp 2) rfl 1 _ _ _ _ rfl _ Try.underlying87 rfl Try.szBa _ _); rotate_left 3; (focus exact rfl); rotate_left 1; (focus exact rfl)))
      | (focus (first | ((with_reducible refine' wpList_load_kn K rfl 87 (.tmp 2) rfl 1 _ _ _ _ rfl _ Try.underlying87 rfl Try.szBa _ _); rotate_left 2; (focus exact rfl)) | ((with_reducible refine' wpList_load_kn K rfl 87 (.tmp 3) rfl 0 _ _ _ _ rfl _ Try.underlying87 rfl Try.szBa _ _); rotate_left 2; (focus exact rfl))))
      | (go_at_call 51; (with_reducible refine Calls.kn K (CO _) ?_); intro wz Kz; clear K; have K := Kz; clear Kz)
      | (go_at_call 54; (with_reducible refine Calls.kn K (B1 _) ?_); intro wz Kz; clear K; have K := Kz; clear Kz))
  go_ret
  exact ⟨rfl, K.fr⟩
set_option maxRecDepth 100000 in
set_option maxHeartbeats 3200000 in
theorem rless_not (c : Nat) (A B : Array Value) (w : World)
    (CO : Ans Try.prog 51 #[.agg A, .agg B] (.int .i64 (c : Int)))
    (B1 : Ans Try.prog 54 #[.agg A, .int .i64 (c : Int)] (.int .i64 1))
    (h1 : (c : Int) < 256) (h2 : decide ((c : Int) < 256) = true)
    (sA : Sz 32 A) (sB : Sz 32 B) :
    Calls Try.prog 57 #[.agg A, .agg B] w fun e w' => e = .returned (.bool false) ∧ Fr (fun _ => False) w w' := by
  have K := (((Kn.start w).new (w.heap.size) 32 A 87 rfl sA.1).new (w.heap.size + 1) 32 B 87 (by simp) sB.1)
  go_enter Try.func57, Try.ntmps57
  go_wp2_with (first
      | (focus ((with_reducible refine' wpList_load_kn_gd K _ 87 (.tmp 2) rfl 1 _ _ _ _ rfl _ Try.underlying87 rfl Try.szBa _ _); rotate_left 3; (focus exact rfl); rotate_left 1; (focus exact rfl)))
      | (focus (first | ((with_reducible refine' wpList_load_kn K rfl 87 (.tmp 2) rfl 1 _ _ _ _ rfl _ Try.underlying87 rfl Try.szBa _ _); rotate_left 2; (focus exact rfl)) | ((with_reducible refine' wpList_load_kn K rfl 87 (.tmp 3) rfl 0 _ _ _ _ rfl _ Try.underlying87 rfl Try.szBa _ _); rotate_left 2; (focus exact rfl))))
      | (go_at_call 51; (with_reducible refine Calls.kn K (CO _) ?_); intro wz Kz; clear K; have K := Kz; clear Kz)
      | (go_at_call 54; (with_reducible refine Calls.kn K (B1 _) ?_); intro wz Kz; clear K; have K := Kz; clear Kz))
  go_ret
  exact ⟨rfl, K.fr⟩
set_option maxRecDepth 100000 in
set_option maxHeartbeats 3200000 in
theorem rless_same (c : Nat) (A B : Array Value) (w : World)
    (CO : Ans Try.prog 51 #[.agg A, .agg B] (.int .i64 (c : Int)))
    (h1 : ¬ (c : Int) < 256) (h2 : decide ((c : Int) < 256) = false)
    (sA : Sz 32 A) (sB : Sz 32 B) :
    Calls Try.prog 57 #[.agg A, .agg B] w fun e w' => e = .returned (.bool false) ∧ Fr (fun _ => False) w w' := by
  have K := (((Kn.start w).new (w.heap.size) 32 A 87 rfl sA.1).new (w.heap.size + 1) 32 B 87 (by simp) sB.1)
  go_enter Try.func57, Try.ntmps57
  go_wp2_with (first
      | (focus (first | ((with_reducible refine' wpList_load_kn K rfl 87 (.tmp 2) rfl 1 _ _ _ _ rfl _ Try.underlying87 rfl Try.szBa _ _); rotate_left 2; (focus exact rfl)) | ((with_reducible refine' wpList_load_kn K rfl 87 (.tmp 3) rfl 0 _ _ _ _ rfl _ Try.underlying87 rfl Try.szBa _ _); rotate_left 2; (focus exact rfl))))
      | (go_at_call 51; (with_reducible refine Calls.kn K (CO _) ?_); intro wz Kz; clear K; have K := Kz; clear Kz))
  go_ret
  exact ⟨rfl, K.fr⟩
set_option maxRecDepth 100000 in
set_option maxHeartbeats 3200000 in
theorem flip_out (I : Int) (A : Array Value) (w : World)
    (PL : Ans Try.prog 69 #[.int .i64 I] (.bool false))
    (sA : Sz 32 A) :
    Calls Try.prog 50 #[.agg A, .int .i64 I] w fun e w' => e = .returned (.agg A) ∧ Fr (fun _ => False) w w' := by
  have K := (((Kn.start w).new (w.heap.size) 32 A 88 rfl sA.1).new (w.heap.size + 1) 32 #[.int .u8 0, .int .u8 0, .int .u8 0, .int .u8 0, .int .u8 0, .int .u8 0, .int .u8 0, .int .u8 0, .int .u8 0, .int .u8 0, .int .u8 0, .int .u8 0, .int .u8 0, .int .u8 0, .int .u8 0, .int .u8 0, .int .u8 0, .int .u8 0, .int .u8 0, .int .u8 0, .int .u8 0, .int .u8 0, .int .u8 0, .int .u8 0, .int .u8 0, .int .u8 0, .int .u8 0, .int .u8 0, .int .u8 0, .int .u8 0, .int .u8 0, .int .u8 0] 88 (by simp) rfl)
  go_enter Try.func50, Try.ntmps50
  go_wp2_with (first
      | (focus (first | ((with_reducible refine' wpList_load_kn K rfl 88 (.tmp 2) rfl 1 _ _ _ _ rfl _ Try.underlying88 rfl Try.szKy _ _); rotate_left 2; (focus exact rfl))))
      | (focus ((first | ((with_reducible refine' wpList_store_kn K rfl 88 (.tmp 4) _ rfl 0 _ _ _ _ _ rfl rfl Try.szKy _ _ _); rotate_left 2; (focus exact rfl))); (focus assumption); intro wz Kz; clear K; have K := Kz; clear Kz; simp only [List.set_cons_zero, List.set_cons_succ] at K; try (simp only [Act.put, List.setIfInBounds_toArray, List.set_cons_zero, List.set_cons_succ])))
      | (go_at_call 69; (with_reducible refine Calls.kn K (PL _) ?_); intro wz Kz; clear K; have K := Kz; clear Kz))
  refine bodyPost_ret (results_kn K rfl _ 0 _ _ _ _ rfl _ Try.underlying88 rfl Try.szKy rfl) rfl ?_
  exact ⟨rfl, K.fr⟩
set_option maxRecDepth 100000 in
set_option maxHeartbeats 3200000 in
theorem flip_in (I : Int) (q a m r : Nat) (A B : Array Value) (w : World)
    (PL : Ans Try.prog 69 #[.int .i64 I] (.bool true))
    (MA : Ans Try.prog 70 #[.int .i64 I] (.int .u8 (m : Int)))
    (hq : I.tdiv 8 = (q : Int)) (hq1 : q < 32) (hA : A[q]? = some (.int .u8 (a : Int))) (ha : bits .xor .u8 (a : Int) (m : Int) = (r : Int)) (hB : A.setIfInBounds q (.int .u8 (r : Int)) = B)
    (sA : Sz 32 A) (sB : Sz 32 B) :
    Calls Try.prog 50 #[.agg A, .int .i64 I] w fun e w' => e = .returned (.agg B) ∧ Fr (fun _ => False) w w' := by
  have g0 : (0 : Int) ≤ (q : Int) := by omega
  have g1 : (q : Int) < 32 := by omega
  have HB := Lib.hid hB
  clear hB
  have K := (((Kn.start w).new (w.heap.size) 32 A 88 rfl sA.1).new (w.heap.size + 1) 32 #[.int .u8 0, .int .u8 0, .int .u8 0, .int .u8 0, .int .u8 0, .int .u8 0, .int .u8 0, .int .u8 0, .int .u8 0, .int .u8 0, .int .u8 0, .int .u8 0, .int .u8 0, .int .u8 0, .int .u8 0, .int .u8 0, .int .u8 0, .int .u8 0, .int .u8 0, .int .u8 0, .int .u8 0, .int .u8 0, .int .u8 0, .int .u8 0, .int .u8 0, .int .u8 0, .int .u8 0, .int .u8 0, .int .u8 0, .int .u8 0, .int .u8 0, .int .u8 0] 88 (by simp) rfl)
  go_enter Try.func50, Try.ntmps50
  go_wp2_with (first
      | (go_at_call 69; (with_reducible refine Calls.kn K (PL _) ?_); intro wz Kz; clear K; have K := Kz; clear Kz))
  refine wp_region_kn_tail K 8 [] (by kernel_rfl) (by kernel_rfl) mk_nil sz_nil ?_
  apply Exists.intro
  refine ⟨?wk2, ?fin2⟩
  case wk2 =>
    intro γ
    have cx := fun y : Wg γ => K.cellg y 1 rfl q hA
    simp only [List.take_succ_cons, List.take_zero]
    repeat (any_goals (first | go_big_quiet_step ((first | (go_at_call 70; with_reducible exact Calls.keepg (MA _)))) | quiet_step ((first | (go_at_call 70; with_reducible exact Calls.keepg (MA _))))))
    exact wpQuiet_nil rfl
  case fin2 =>
    intro gs wz Kz
    clear K
    have K := Kz
    clear Kz
    try simp only [mkAll, asObj, List.map_cons, List.map_nil, putAll, List.drop_succ_cons, List.drop_zero, List.length_cons, List.length_nil, Nat.zero_add, Nat.add_zero] at K ⊢
    try simp only [Act.put, List.setIfInBounds_toArray, List.set_cons_zero, List.set_cons_succ]

    go_wp2_with (first
      | (focus ((with_reducible refine' wpList_store1_kn K rfl 5 _ _ rfl 1 _ _ q _ _ .u8 (r : Int) rfl rfl Try.iU8 _ hq1 _); rotate_left 2; (focus exact rfl); intro wz Kz; clear K; have K := Kz; clear Kz; simp only [List.set_cons_zero, List.set_cons_succ] at K; rw [HB.out] at K; try (simp only [Act.put, List.setIfInBounds_toArray, List.set_cons_zero, List.set_cons_succ])))
      | (focus (first | ((with_reducible refine' wpList_load_kn K rfl 88 (.tmp 2) rfl 1 _ _ _ _ rfl _ Try.underlying88 rfl Try.szKy _ _); rotate_left 2; (focus exact rfl))))
      | (focus ((first | ((with_reducible refine' wpList_store_kn K rfl 88 (.tmp 4) _ rfl 0 _ _ _ _ _ rfl rfl Try.szKy _ _ _); rotate_left 2; (focus exact rfl))); (focus assumption); intro wz Kz; clear K; have K := Kz; clear Kz; simp only [List.set_cons_zero, List.set_cons_succ] at K; try (simp only [Act.put, List.setIfInBounds_toArray, List.set_cons_zero, List.set_cons_succ]))))
    refine bodyPost_ret (results_kn K rfl _ 0 _ _ _ _ rfl _ Try.underlying88 rfl Try.szKy rfl) rfl ?_
    exact ⟨rfl, K.fr⟩
end Go.Proofs.Ytghjcppafkaopaa

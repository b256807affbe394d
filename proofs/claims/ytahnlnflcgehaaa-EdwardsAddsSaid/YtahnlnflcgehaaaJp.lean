/-
  The contract of Decode of package custumalref07, over what its callees answer: each way.
-/
import Derived.Test.YtahnlnflcgehaaaJo
namespace Go.Proofs.Ytahnlnflcgehaaa
open Go.RowKit Pri
set_option linter.unusedVariables false
set_option linter.unusedSimpArgs false

theorem wpList_load_kn_gd {P : Program} {ops : Array Oper} {rest : List Oper} {o : Oper} {a : Act} {w0 w : World} {L : List Bk} {Q : Exit → Act → World → Prop} (K : Kn w0 L w) (hw : Region.wanted o (yielded ops a.tmps) = true) (ty : TypeId) (x : Operand) (ho : o.op = .load ty x) (i g n : Nat) (cs : Array Value) (T : TypeId) (hx : a.eval x = .pointer (some ⟨g, 0, none⟩))
    (d : TypeDesc) (hu : P.underlying ty = some d) (hd : (match d with | .struct _ | .array _ _ => true | _ => false) = true) (hty : (P.info? ty).map (·.size) = some n) (hi : L[i]? = some ⟨g, n, cs, T⟩)
    (h : wpList P ops Q rest (a.put o.dst (.agg cs)) w) : wpList P ops Q (o :: rest) a w :=
  wpList_step fun Kk hK => by simp only [hw, if_true]; exact wp_load_row ty x ho g hx T cs (0, 0) d (K.heap i hi) hu hd (by rw [hty, K.size i hi]) (hK _ _ h)
set_option maxRecDepth 100000 in
set_option maxHeartbeats 3200000 in
theorem rdec_bad0 (z v xz : Nat) (SC SB SD : ByteArray) (Y Q U D E V X N : Array Value) (w : World)
    (FB : Ans Try.prog 30 #[.string SC] (.agg Y))
    (BY : Ans Try.prog 31 #[.agg Y] (.string SB))
    (hi : ∀ W : World, (Instr.index 9 (.string SC) (.int .i64 31)).run Try.prog W = .ok (.int .u8 (z : Int)) W) (hz : decide ((128 : Int) ≤ (z : Int)) = false) (CV : ∀ W : World, (convert 9 40 (.string SC)).run Try.prog W = .ok (.slice (some ⟨W.heap.size, 0, none⟩) 32 (grownCap W SC.size 0 5)) (Lib.bytesWorld W 5 SC)) (C31 : ∀ W : World, (Lib.bytesWorld W 5 SC).cell? ⟨W.heap.size, 31, none⟩ = some (.int .u8 (z : Int))) (F31 : ∀ W : World, (Lib.bytesWorld W 5 SC).frozen? ⟨W.heap.size, 31, none⟩ = false) (hv : bits .and .u8 (z : Int) 127 = (v : Int))
    (CS : ∀ (W W2 : World) (c : Nat), Fr (fun _ => False) ((Lib.bytesWorld W 5 SC).setCell ⟨W.heap.size, 31, none⟩ (.int .u8 (v : Int))) W2 → (convert 40 9 (.slice (some ⟨W.heap.size, 0, none⟩) 32 c)).run Try.prog W2 = .ok (.string SD) W2) (E0 : (SB.toList == SD.toList) = false)
    (sY : Sz 16 Y) (sQ : Sz 16 Q) (sX : Sz 16 X) (sN : Sz 16 N) :
    Calls Try.prog 71 #[.string SC] w fun e w' => e = .returned (.tuple #[.agg #[.int .i64 0, .int .i64 0, .int .i64 0, .int .i64 0, .int .i64 0, .int .i64 0, .int .i64 0, .int .i64 0, .int .i64 0, .int .i64 0, .int .i64 0, .int .i64 0, .int .i64 0, .int .i64 0, .int .i64 0, .int .i64 0, .int .i64 0, .int .i64 0, .int .i64 0, .int .i64 0, .int .i64 0, .int .i64 0, .int .i64 0, .int .i64 0, .int .i64 0, .int .i64 0, .int .i64 0, .int .i64 0, .int .i64 0, .int .i64 0, .int .i64 0, .int .i64 0, .int .i64 0, .int .i64 0, .int .i64 0, .int .i64 0, .int .i64 0, .int .i64 0, .int .i64 0, .int .i64 0, .int .i64 0, .int .i64 0, .int .i64 0, .int .i64 0, .int .i64 0, .int .i64 0, .int .i64 0, .int .i64 0], .int .i64 15]) ∧ Fr (fun _ => False) w w' := by
  have HCV := Lib.hid CV
  have HC := Lib.hid C31
  have HF := Lib.hid F31
  have HCS := Lib.hid CS
  clear CV C31 F31 CS
  have s0 : Sz 48 #[.int .i64 0, .int .i64 0, .int .i64 0, .int .i64 0, .int .i64 0, .int .i64 0, .int .i64 0, .int .i64 0, .int .i64 0, .int .i64 0, .int .i64 0, .int .i64 0, .int .i64 0, .int .i64 0, .int .i64 0, .int .i64 0, .int .i64 0, .int .i64 0, .int .i64 0, .int .i64 0, .int .i64 0, .int .i64 0, .int .i64 0, .int .i64 0, .int .i64 0, .int .i64 0, .int .i64 0, .int .i64 0, .int .i64 0, .int .i64 0, .int .i64 0, .int .i64 0, .int .i64 0, .int .i64 0, .int .i64 0, .int .i64 0, .int .i64 0, .int .i64 0, .int .i64 0, .int .i64 0, .int .i64 0, .int .i64 0, .int .i64 0, .int .i64 0, .int .i64 0, .int .i64 0, .int .i64 0, .int .i64 0] := ⟨rfl, by simp [Value.oneCell']⟩
  have EG := Try.guardNum5
  have E1 : (!SB.toList == SD.toList) = true := by rw [E0]; rfl
  have K := ((Kn.start w).new (w.heap.size) 48 #[.int .i64 0, .int .i64 0, .int .i64 0, .int .i64 0, .int .i64 0, .int .i64 0, .int .i64 0, .int .i64 0, .int .i64 0, .int .i64 0, .int .i64 0, .int .i64 0, .int .i64 0, .int .i64 0, .int .i64 0, .int .i64 0, .int .i64 0, .int .i64 0, .int .i64 0, .int .i64 0, .int .i64 0, .int .i64 0, .int .i64 0, .int .i64 0, .int .i64 0, .int .i64 0, .int .i64 0, .int .i64 0, .int .i64 0, .int .i64 0, .int .i64 0, .int .i64 0, .int .i64 0, .int .i64 0, .int .i64 0, .int .i64 0, .int .i64 0, .int .i64 0, .int .i64 0, .int .i64 0, .int .i64 0, .int .i64 0, .int .i64 0, .int .i64 0, .int .i64 0, .int .i64 0, .int .i64 0, .int .i64 0] 74 rfl rfl)
  go_enter Try.func71, Try.ntmps71
  go_wp2_with (first
      | (focus ((with_reducible refine' wpList_store_kn K rfl 26 (.tmp 5) _ rfl 0 _ _ _ _ _ rfl rfl Try.szN5 _ _ _); rotate_left 2; (focus exact rfl); (focus (with_reducible assumption)); intro wz Kz; clear K; have K := Kz; clear Kz; simp only [List.set_cons_zero, List.set_cons_succ] at K; have kc := HCV.out wz; have c31 := HC.out wz; have f31 := HF.out wz; try (simp only [Act.put, List.setIfInBounds_toArray, List.set_cons_zero, List.set_cons_succ])))
      | (focus ((first | ((with_reducible refine' wpList_store_kn K rfl 26 (.tmp 5) _ rfl 0 _ _ _ _ _ rfl rfl Try.szN5 _ _ _); rotate_left 2; (focus exact rfl))); (focus (with_reducible assumption)); intro wz Kz; clear K; have K := Kz; clear Kz; simp only [List.set_cons_zero, List.set_cons_succ] at K; try (simp only [Act.put, List.setIfInBounds_toArray, List.set_cons_zero, List.set_cons_succ])))
      | ((with_reducible refine wpList_new_kn K 26 _ _ _ _ #[.int .i64 0, .int .i64 0, .int .i64 0, .int .i64 0, .int .i64 0, .int .i64 0, .int .i64 0, .int .i64 0, .int .i64 0, .int .i64 0, .int .i64 0, .int .i64 0, .int .i64 0, .int .i64 0, .int .i64 0, .int .i64 0] 16 rfl Try.alN5 rfl ?_); intro gz wz Kz; clear K; have K := Kz; clear Kz; try (simp only [Act.put, List.setIfInBounds_toArray, List.set_cons_zero, List.set_cons_succ]))
      | (go_at_call 30; (with_reducible refine Calls.kn K (FB _) ?_); intro wz Kz; clear K; have K := Kz; clear Kz))
  have ks : ∀ (y : Wd ((Lib.bytesWorld wz 5 SC).setCell ⟨wz.heap.size, 31, none⟩ (.int .u8 (v : Int)))) (c : Nat), (convert 40 9 (.slice (some ⟨wz.heap.size, 0, none⟩) 32 c)).run Try.prog y.w = .ok (.string SD) y.w := fun y c => HCS.out wz y.w c y.h
  have Kz := K.call ((own_str_fr wz SC).setCell (p := ⟨wz.heap.size, 31, none⟩) (Or.inr (Nat.le_refl _)) (.int .u8 (v : Int)))
  clear K
  have K := Kz
  clear Kz kc c31 f31 HCV HC HF HCS
  generalize (Lib.bytesWorld wz 5 SC).setCell ⟨wz.heap.size, 31, none⟩ (.int .u8 (v : Int)) = W2 at *
  refine wp_region_keep (by kernel_rfl) (by kernel_rfl) ?_
  repeat (any_goals (first | (focus (go_big_quiet_want; (first | ((with_reducible refine' quiet_load_kn K 26 (.tmp 5) rfl 0 _ _ _ _ rfl _ Try.underlying26 rfl Try.szN5 _ _); rotate_left 2; (focus exact rfl))); simp only [Act.put, List.setIfInBounds_toArray, List.set_cons_zero, List.set_cons_succ]; go_big_quiet_on)) | go_big_quiet_step ((first | (go_at_call 31; with_reducible exact Calls.keep (BY _)))) | quiet_step ((first | (go_at_call 31; with_reducible exact Calls.keep (BY _))))))
  refine wpQuiet_nil ?_
  intro _ hwz
  obtain ⟨y, rfl⟩ := hwz
  have Kz := K.call y.h
  clear K ks
  have K := Kz
  clear Kz
  generalize y.w = wz at K ⊢
  clear y
  go_wp2_with (first
      | (focus ((first | ((with_reducible refine' wpList_store_kn K rfl 74 (.tmp 2) _ rfl 1 _ _ _ _ _ rfl rfl Try.szRp _ _ _); rotate_left 2; (focus exact rfl))); (focus (with_reducible assumption)); intro wz Kz; clear K; have K := Kz; clear Kz; simp only [List.set_cons_zero, List.set_cons_succ] at K; try (simp only [Act.put, List.setIfInBounds_toArray, List.set_cons_zero, List.set_cons_succ]))))
  refine bodyPost_ret (results_kn_tmp K rfl _ 1 _ _ _ _ rfl _ Try.underlying74 rfl Try.szRp rfl) rfl ?_
  exact ⟨rfl, K.fr⟩
set_option maxRecDepth 100000 in
set_option maxHeartbeats 3200000 in
theorem rdec_none0 (z v xz : Nat) (SC SB SD : ByteArray) (Y Q U D E V X N : Array Value) (w : World)
    (FB : Ans Try.prog 30 #[.string SC] (.agg Y))
    (BY : Ans Try.prog 31 #[.agg Y] (.string SB))
    (M1 : Ans Try.prog 23 #[.agg Y, .agg Y] (.agg Q))
    (SU : Ans Try.prog 21 #[.agg Q, .agg #[.int .i64 1, .int .i64 0, .int .i64 0, .int .i64 0, .int .i64 0, .int .i64 0, .int .i64 0, .int .i64 0, .int .i64 0, .int .i64 0, .int .i64 0, .int .i64 0, .int .i64 0, .int .i64 0, .int .i64 0, .int .i64 0]] (.agg U))
    (DD : Ans Try.prog 96 #[] (.agg D))
    (M2 : Ans Try.prog 23 #[.agg D, .agg Q] (.agg E))
    (AD : Ans Try.prog 19 #[.agg E, .agg #[.int .i64 1, .int .i64 0, .int .i64 0, .int .i64 0, .int .i64 0, .int .i64 0, .int .i64 0, .int .i64 0, .int .i64 0, .int .i64 0, .int .i64 0, .int .i64 0, .int .i64 0, .int .i64 0, .int .i64 0, .int .i64 0]] (.agg V))
    (RT : Ans Try.prog 38 #[.agg U, .agg V] (.tuple #[.agg X, .bool false]))
    (hi : ∀ W : World, (Instr.index 9 (.string SC) (.int .i64 31)).run Try.prog W = .ok (.int .u8 (z : Int)) W) (hz : decide ((128 : Int) ≤ (z : Int)) = false) (CV : ∀ W : World, (convert 9 40 (.string SC)).run Try.prog W = .ok (.slice (some ⟨W.heap.size, 0, none⟩) 32 (grownCap W SC.size 0 5)) (Lib.bytesWorld W 5 SC)) (C31 : ∀ W : World, (Lib.bytesWorld W 5 SC).cell? ⟨W.heap.size, 31, none⟩ = some (.int .u8 (z : Int))) (F31 : ∀ W : World, (Lib.bytesWorld W 5 SC).frozen? ⟨W.heap.size, 31, none⟩ = false) (hv : bits .and .u8 (z : Int) 127 = (v : Int))
    (CS : ∀ (W W2 : World) (c : Nat), Fr (fun _ => False) ((Lib.bytesWorld W 5 SC).setCell ⟨W.heap.size, 31, none⟩ (.int .u8 (v : Int))) W2 → (convert 40 9 (.slice (some ⟨W.heap.size, 0, none⟩) 32 c)).run Try.prog W2 = .ok (.string SD) W2) (E0 : (SB.toList == SD.toList) = true)
    (sY : Sz 16 Y) (sQ : Sz 16 Q) (sX : Sz 16 X) (sN : Sz 16 N) :
    Calls Try.prog 71 #[.string SC] w fun e w' => e = .returned (.tuple #[.agg #[.int .i64 0, .int .i64 0, .int .i64 0, .int .i64 0, .int .i64 0, .int .i64 0, .int .i64 0, .int .i64 0, .int .i64 0, .int .i64 0, .int .i64 0, .int .i64 0, .int .i64 0, .int .i64 0, .int .i64 0, .int .i64 0, .int .i64 0, .int .i64 0, .int .i64 0, .int .i64 0, .int .i64 0, .int .i64 0, .int .i64 0, .int .i64 0, .int .i64 0, .int .i64 0, .int .i64 0, .int .i64 0, .int .i64 0, .int .i64 0, .int .i64 0, .int .i64 0, .int .i64 0, .int .i64 0, .int .i64 0, .int .i64 0, .int .i64 0, .int .i64 0, .int .i64 0, .int .i64 0, .int .i64 0, .int .i64 0, .int .i64 0, .int .i64 0, .int .i64 0, .int .i64 0, .int .i64 0, .int .i64 0], .int .i64 15]) ∧ Fr (fun _ => False) w w' := by
  have HCV := Lib.hid CV
  have HC := Lib.hid C31
  have HF := Lib.hid F31
  have HCS := Lib.hid CS
  clear CV C31 F31 CS
  have s0 : Sz 48 #[.int .i64 0, .int .i64 0, .int .i64 0, .int .i64 0, .int .i64 0, .int .i64 0, .int .i64 0, .int .i64 0, .int .i64 0, .int .i64 0, .int .i64 0, .int .i64 0, .int .i64 0, .int .i64 0, .int .i64 0, .int .i64 0, .int .i64 0, .int .i64 0, .int .i64 0, .int .i64 0, .int .i64 0, .int .i64 0, .int .i64 0, .int .i64 0, .int .i64 0, .int .i64 0, .int .i64 0, .int .i64 0, .int .i64 0, .int .i64 0, .int .i64 0, .int .i64 0, .int .i64 0, .int .i64 0, .int .i64 0, .int .i64 0, .int .i64 0, .int .i64 0, .int .i64 0, .int .i64 0, .int .i64 0, .int .i64 0, .int .i64 0, .int .i64 0, .int .i64 0, .int .i64 0, .int .i64 0, .int .i64 0] := ⟨rfl, by simp [Value.oneCell']⟩
  have EG := Try.guardNum5
  have E1 : (!SB.toList == SD.toList) = false := by rw [E0]; rfl
  have K := ((Kn.start w).new (w.heap.size) 48 #[.int .i64 0, .int .i64 0, .int .i64 0, .int .i64 0, .int .i64 0, .int .i64 0, .int .i64 0, .int .i64 0, .int .i64 0, .int .i64 0, .int .i64 0, .int .i64 0, .int .i64 0, .int .i64 0, .int .i64 0, .int .i64 0, .int .i64 0, .int .i64 0, .int .i64 0, .int .i64 0, .int .i64 0, .int .i64 0, .int .i64 0, .int .i64 0, .int .i64 0, .int .i64 0, .int .i64 0, .int .i64 0, .int .i64 0, .int .i64 0, .int .i64 0, .int .i64 0, .int .i64 0, .int .i64 0, .int .i64 0, .int .i64 0, .int .i64 0, .int .i64 0, .int .i64 0, .int .i64 0, .int .i64 0, .int .i64 0, .int .i64 0, .int .i64 0, .int .i64 0, .int .i64 0, .int .i64 0, .int .i64 0] 74 rfl rfl)
  go_enter Try.func71, Try.ntmps71
  go_wp2_with (first
      | (focus ((with_reducible refine' wpList_store_kn K rfl 26 (.tmp 5) _ rfl 0 _ _ _ _ _ rfl rfl Try.szN5 _ _ _); rotate_left 2; (focus exact rfl); (focus (with_reducible assumption)); intro wz Kz; clear K; have K := Kz; clear Kz; simp only [List.set_cons_zero, List.set_cons_succ] at K; have kc := HCV.out wz; have c31 := HC.out wz; have f31 := HF.out wz; try (simp only [Act.put, List.setIfInBounds_toArray, List.set_cons_zero, List.set_cons_succ])))
      | (focus ((first | ((with_reducible refine' wpList_store_kn K rfl 26 (.tmp 5) _ rfl 0 _ _ _ _ _ rfl rfl Try.szN5 _ _ _); rotate_left 2; (focus exact rfl))); (focus (with_reducible assumption)); intro wz Kz; clear K; have K := Kz; clear Kz; simp only [List.set_cons_zero, List.set_cons_succ] at K; try (simp only [Act.put, List.setIfInBounds_toArray, List.set_cons_zero, List.set_cons_succ])))
      | ((with_reducible refine wpList_new_kn K 26 _ _ _ _ #[.int .i64 0, .int .i64 0, .int .i64 0, .int .i64 0, .int .i64 0, .int .i64 0, .int .i64 0, .int .i64 0, .int .i64 0, .int .i64 0, .int .i64 0, .int .i64 0, .int .i64 0, .int .i64 0, .int .i64 0, .int .i64 0] 16 rfl Try.alN5 rfl ?_); intro gz wz Kz; clear K; have K := Kz; clear Kz; try (simp only [Act.put, List.setIfInBounds_toArray, List.set_cons_zero, List.set_cons_succ]))
      | (go_at_call 30; (with_reducible refine Calls.kn K (FB _) ?_); intro wz Kz; clear K; have K := Kz; clear Kz))
  have ks : ∀ (y : Wd ((Lib.bytesWorld wz 5 SC).setCell ⟨wz.heap.size, 31, none⟩ (.int .u8 (v : Int)))) (c : Nat), (convert 40 9 (.slice (some ⟨wz.heap.size, 0, none⟩) 32 c)).run Try.prog y.w = .ok (.string SD) y.w := fun y c => HCS.out wz y.w c y.h
  have Kz := K.call ((own_str_fr wz SC).setCell (p := ⟨wz.heap.size, 31, none⟩) (Or.inr (Nat.le_refl _)) (.int .u8 (v : Int)))
  clear K
  have K := Kz
  clear Kz kc c31 f31 HCV HC HF HCS
  generalize (Lib.bytesWorld wz 5 SC).setCell ⟨wz.heap.size, 31, none⟩ (.int .u8 (v : Int)) = W2 at *
  refine wp_region_keep (by kernel_rfl) (by kernel_rfl) ?_
  repeat (any_goals (first | (focus (go_big_quiet_want; (first | ((with_reducible refine' quiet_load_kn K 26 (.tmp 5) rfl 0 _ _ _ _ rfl _ Try.underlying26 rfl Try.szN5 _ _); rotate_left 2; (focus exact rfl))); simp only [Act.put, List.setIfInBounds_toArray, List.set_cons_zero, List.set_cons_succ]; go_big_quiet_on)) | go_big_quiet_step ((first | (go_at_call 31; with_reducible exact Calls.keep (BY _)))) | quiet_step ((first | (go_at_call 31; with_reducible exact Calls.keep (BY _))))))
  refine wpQuiet_nil ?_
  intro _ hwz
  obtain ⟨y, rfl⟩ := hwz
  have Kz := K.call y.h
  clear K ks
  have K := Kz
  clear Kz
  generalize y.w = wz at K ⊢
  clear y
  go_wp2_with (first
      | (focus (first | ((with_reducible refine' wpList_load_kn K rfl 26 (.tmp 5) rfl 0 _ _ _ _ rfl _ Try.underlying26 rfl Try.szN5 _ _); rotate_left 2; (focus exact rfl))))
      | (focus ((first | ((with_reducible refine' wpList_store_kn K rfl 26 (.tmp 7) _ rfl 0 _ _ _ _ _ rfl rfl Try.szN5 _ _ _); rotate_left 2; (focus exact rfl))); (focus (with_reducible assumption)); intro wz Kz; clear K; have K := Kz; clear Kz; simp only [List.set_cons_zero, List.set_cons_succ] at K; try (simp only [Act.put, List.setIfInBounds_toArray, List.set_cons_zero, List.set_cons_succ])))
      | ((with_reducible refine wpList_new_kn K 26 _ _ _ _ #[.int .i64 0, .int .i64 0, .int .i64 0, .int .i64 0, .int .i64 0, .int .i64 0, .int .i64 0, .int .i64 0, .int .i64 0, .int .i64 0, .int .i64 0, .int .i64 0, .int .i64 0, .int .i64 0, .int .i64 0, .int .i64 0] 16 rfl Try.alN5 rfl ?_); intro gz wz Kz; clear K; have K := Kz; clear Kz; try (simp only [Act.put, List.setIfInBounds_toArray, List.set_cons_zero, List.set_cons_succ]))
      | (go_at_call 23; (with_reducible refine Calls.kn K (M1 _) ?_); intro wz Kz; clear K; have K := Kz; clear Kz)
      | (go_at_call 23; (with_reducible refine Calls.kn K (M2 _) ?_); intro wz Kz; clear K; have K := Kz; clear Kz))
  refine wp_region_kn_late K 12 [11] [(8, 16, #[.int .i64 0, .int .i64 0, .int .i64 0, .int .i64 0, .int .i64 0, .int .i64 0, .int .i64 0, .int .i64 0, .int .i64 0, .int .i64 0, .int .i64 0, .int .i64 0, .int .i64 0, .int .i64 0, .int .i64 0, .int .i64 0], 26)] (fun _ _ _ _ _ _ h => h) (by kernel_rfl) (by kernel_rfl) (mk_one ⟨_, rfl, makes_alloc _ _ _ _ _ _ Try.alN5⟩) (sz_one rfl) ?_
  apply Exists.intro
  refine ⟨?wk8, ?fin8⟩
  case wk8 =>
    intro γ
  
    simp only [List.take_succ_cons, List.take_zero]
    repeat (any_goals (first | (focus (go_big_quiet_want; (first | ((with_reducible refine' quiet_load_kng K 26 (.tmp 7) rfl 0 _ _ _ _ rfl _ Try.underlying26 rfl Try.szN5 _ _); rotate_left 2; (focus exact rfl))); simp only [Act.put, List.setIfInBounds_toArray, List.set_cons_zero, List.set_cons_succ]; go_big_quiet_on)) | go_big_quiet_step ((first | (go_at_call 23; with_reducible exact Calls.keepg (M1 _)) | (go_at_call 21; with_reducible exact Calls.keepg (SU _)) | (go_at_call 96; with_reducible exact Calls.keepg (DD _)) | (go_at_call 23; with_reducible exact Calls.keepg (M2 _)) | (go_at_call 19; with_reducible exact Calls.keepg (AD _)) | (go_at_call 38; with_reducible exact Calls.keepg (RT _)))) | quiet_step ((first | (go_at_call 23; with_reducible exact Calls.keepg (M1 _)) | (go_at_call 21; with_reducible exact Calls.keepg (SU _)) | (go_at_call 96; with_reducible exact Calls.keepg (DD _)) | (go_at_call 23; with_reducible exact Calls.keepg (M2 _)) | (go_at_call 19; with_reducible exact Calls.keepg (AD _)) | (go_at_call 38; with_reducible exact Calls.keepg (RT _))))))
    exact wpQuiet_nil rfl
  case fin8 =>
    intro gs wz Kz
    clear K
    have K := Kz
    clear Kz
    try simp only [mkAll, asObj, List.map_cons, List.map_nil, putAll, List.drop_succ_cons, List.drop_zero, List.length_cons, List.length_nil, Nat.zero_add, Nat.add_zero] at K ⊢
    try simp only [Act.put, List.setIfInBounds_toArray, List.set_cons_zero, List.set_cons_succ]
    generalize gs 0 = gz0 at *
    go_wp2_with (first
      | (focus ((with_reducible refine' wpList_store_kn K rfl 26 (.tmp 8) _ rfl 0 _ _ _ _ _ rfl rfl Try.szN5 _ _ _); rotate_left 2; (focus exact rfl); (focus (with_reducible assumption)); intro wz Kz; clear K; have K := Kz; clear Kz; simp only [List.set_cons_zero, List.set_cons_succ] at K; try (simp only [Act.put, List.setIfInBounds_toArray, List.set_cons_zero, List.set_cons_succ])))
      | (focus ((first | ((with_reducible refine' wpList_store_kn K rfl 26 (.tmp 8) _ rfl 0 _ _ _ _ _ rfl rfl Try.szN5 _ _ _); rotate_left 2; (focus exact rfl)) | ((with_reducible refine' wpList_store_kn K rfl 74 (.tmp 2) _ rfl 3 _ _ _ _ _ rfl rfl Try.szRp _ _ _); rotate_left 2; (focus exact rfl))); (focus (with_reducible assumption)); intro wz Kz; clear K; have K := Kz; clear Kz; simp only [List.set_cons_zero, List.set_cons_succ] at K; try (simp only [Act.put, List.setIfInBounds_toArray, List.set_cons_zero, List.set_cons_succ]))))
    refine bodyPost_ret (results_kn_tmp K rfl _ 3 _ _ _ _ rfl _ Try.underlying74 rfl Try.szRp rfl) rfl ?_
    exact ⟨rfl, K.fr⟩
set_option maxRecDepth 100000 in
set_option maxHeartbeats 3200000 in
theorem rdec_keep0 (z v xz : Nat) (SC SB SD : ByteArray) (Y Q U D E V X N : Array Value) (w : World)
    (FB : Ans Try.prog 30 #[.string SC] (.agg Y))
    (BY : Ans Try.prog 31 #[.agg Y] (.string SB))
    (M1 : Ans Try.prog 23 #[.agg Y, .agg Y] (.agg Q))
    (SU : Ans Try.prog 21 #[.agg Q, .agg #[.int .i64 1, .int .i64 0, .int .i64 0, .int .i64 0, .int .i64 0, .int .i64 0, .int .i64 0, .int .i64 0, .int .i64 0, .int .i64 0, .int .i64 0, .int .i64 0, .int .i64 0, .int .i64 0, .int .i64 0, .int .i64 0]] (.agg U))
    (DD : Ans Try.prog 96 #[] (.agg D))
    (M2 : Ans Try.prog 23 #[.agg D, .agg Q] (.agg E))
    (AD : Ans Try.prog 19 #[.agg E, .agg #[.int .i64 1, .int .i64 0, .int .i64 0, .int .i64 0, .int .i64 0, .int .i64 0, .int .i64 0, .int .i64 0, .int .i64 0, .int .i64 0, .int .i64 0, .int .i64 0, .int .i64 0, .int .i64 0, .int .i64 0, .int .i64 0]] (.agg V))
    (RT : Ans Try.prog 38 #[.agg U, .agg V] (.tuple #[.agg X, .bool true]))
    (hi : ∀ W : World, (Instr.index 9 (.string SC) (.int .i64 31)).run Try.prog W = .ok (.int .u8 (z : Int)) W) (hz : decide ((128 : Int) ≤ (z : Int)) = false) (CV : ∀ W : World, (convert 9 40 (.string SC)).run Try.prog W = .ok (.slice (some ⟨W.heap.size, 0, none⟩) 32 (grownCap W SC.size 0 5)) (Lib.bytesWorld W 5 SC)) (C31 : ∀ W : World, (Lib.bytesWorld W 5 SC).cell? ⟨W.heap.size, 31, none⟩ = some (.int .u8 (z : Int))) (F31 : ∀ W : World, (Lib.bytesWorld W 5 SC).frozen? ⟨W.heap.size, 31, none⟩ = false) (hv : bits .and .u8 (z : Int) 127 = (v : Int))
    (CS : ∀ (W W2 : World) (c : Nat), Fr (fun _ => False) ((Lib.bytesWorld W 5 SC).setCell ⟨W.heap.size, 31, none⟩ (.int .u8 (v : Int))) W2 → (convert 40 9 (.slice (some ⟨W.heap.size, 0, none⟩) 32 c)).run Try.prog W2 = .ok (.string SD) W2) (E0 : (SB.toList == SD.toList) = true)
    (E9 : ∀ W : World, (binOp .eql 26 (.agg X) (.agg #[.int .i64 0, .int .i64 0, .int .i64 0, .int .i64 0, .int .i64 0, .int .i64 0, .int .i64 0, .int .i64 0, .int .i64 0, .int .i64 0, .int .i64 0, .int .i64 0, .int .i64 0, .int .i64 0, .int .i64 0, .int .i64 0])).run Try.prog W = .ok (.bool false) W) (x0 : X[0]? = some (.int .i64 (xz : Int))) (hp : (xz : Int).tmod 2 = 0)
    (sY : Sz 16 Y) (sQ : Sz 16 Q) (sX : Sz 16 X) (sN : Sz 16 N) :
    Calls Try.prog 71 #[.string SC] w fun e w' => e = .returned (.tuple #[.agg (cat3 X Y #[.int .i64 1, .int .i64 0, .int .i64 0, .int .i64 0, .int .i64 0, .int .i64 0, .int .i64 0, .int .i64 0, .int .i64 0, .int .i64 0, .int .i64 0, .int .i64 0, .int .i64 0, .int .i64 0, .int .i64 0, .int .i64 0]), .int .i64 0]) ∧ Fr (fun _ => False) w w' := by
  have HCV := Lib.hid CV
  have HC := Lib.hid C31
  have HF := Lib.hid F31
  have HCS := Lib.hid CS
  clear CV C31 F31 CS
  have s0 : Sz 48 #[.int .i64 0, .int .i64 0, .int .i64 0, .int .i64 0, .int .i64 0, .int .i64 0, .int .i64 0, .int .i64 0, .int .i64 0, .int .i64 0, .int .i64 0, .int .i64 0, .int .i64 0, .int .i64 0, .int .i64 0, .int .i64 0, .int .i64 0, .int .i64 0, .int .i64 0, .int .i64 0, .int .i64 0, .int .i64 0, .int .i64 0, .int .i64 0, .int .i64 0, .int .i64 0, .int .i64 0, .int .i64 0, .int .i64 0, .int .i64 0, .int .i64 0, .int .i64 0, .int .i64 0, .int .i64 0, .int .i64 0, .int .i64 0, .int .i64 0, .int .i64 0, .int .i64 0, .int .i64 0, .int .i64 0, .int .i64 0, .int .i64 0, .int .i64 0, .int .i64 0, .int .i64 0, .int .i64 0, .int .i64 0] := ⟨rfl, by simp [Value.oneCell']⟩
  have EG := Try.guardNum5
  have E1 : (!SB.toList == SD.toList) = false := by rw [E0]; rfl
  have HX := Lib.hid x0
  clear x0
  have K := ((Kn.start w).new (w.heap.size) 48 #[.int .i64 0, .int .i64 0, .int .i64 0, .int .i64 0, .int .i64 0, .int .i64 0, .int .i64 0, .int .i64 0, .int .i64 0, .int .i64 0, .int .i64 0, .int .i64 0, .int .i64 0, .int .i64 0, .int .i64 0, .int .i64 0, .int .i64 0, .int .i64 0, .int .i64 0, .int .i64 0, .int .i64 0, .int .i64 0, .int .i64 0, .int .i64 0, .int .i64 0, .int .i64 0, .int .i64 0, .int .i64 0, .int .i64 0, .int .i64 0, .int .i64 0, .int .i64 0, .int .i64 0, .int .i64 0, .int .i64 0, .int .i64 0, .int .i64 0, .int .i64 0, .int .i64 0, .int .i64 0, .int .i64 0, .int .i64 0, .int .i64 0, .int .i64 0, .int .i64 0, .int .i64 0, .int .i64 0, .int .i64 0] 74 rfl rfl)
  go_enter Try.func71, Try.ntmps71
  go_wp2_with (first
      | (focus ((with_reducible refine' wpList_store_kn K rfl 26 (.tmp 5) _ rfl 0 _ _ _ _ _ rfl rfl Try.szN5 _ _ _); rotate_left 2; (focus exact rfl); (focus (with_reducible assumption)); intro wz Kz; clear K; have K := Kz; clear Kz; simp only [List.set_cons_zero, List.set_cons_succ] at K; have kc := HCV.out wz; have c31 := HC.out wz; have f31 := HF.out wz; try (simp only [Act.put, List.setIfInBounds_toArray, List.set_cons_zero, List.set_cons_succ])))
      | (focus ((first | ((with_reducible refine' wpList_store_kn K rfl 26 (.tmp 5) _ rfl 0 _ _ _ _ _ rfl rfl Try.szN5 _ _ _); rotate_left 2; (focus exact rfl))); (focus (with_reducible assumption)); intro wz Kz; clear K; have K := Kz; clear Kz; simp only [List.set_cons_zero, List.set_cons_succ] at K; try (simp only [Act.put, List.setIfInBounds_toArray, List.set_cons_zero, List.set_cons_succ])))
      | ((with_reducible refine wpList_new_kn K 26 _ _ _ _ #[.int .i64 0, .int .i64 0, .int .i64 0, .int .i64 0, .int .i64 0, .int .i64 0, .int .i64 0, .int .i64 0, .int .i64 0, .int .i64 0, .int .i64 0, .int .i64 0, .int .i64 0, .int .i64 0, .int .i64 0, .int .i64 0] 16 rfl Try.alN5 rfl ?_); intro gz wz Kz; clear K; have K := Kz; clear Kz; try (simp only [Act.put, List.setIfInBounds_toArray, List.set_cons_zero, List.set_cons_succ]))
      | (go_at_call 30; (with_reducible refine Calls.kn K (FB _) ?_); intro wz Kz; clear K; have K := Kz; clear Kz))
  have ks : ∀ (y : Wd ((Lib.bytesWorld wz 5 SC).setCell ⟨wz.heap.size, 31, none⟩ (.int .u8 (v : Int)))) (c : Nat), (convert 40 9 (.slice (some ⟨wz.heap.size, 0, none⟩) 32 c)).run Try.prog y.w = .ok (.string SD) y.w := fun y c => HCS.out wz y.w c y.h
  have Kz := K.call ((own_str_fr wz SC).setCell (p := ⟨wz.heap.size, 31, none⟩) (Or.inr (Nat.le_refl _)) (.int .u8 (v : Int)))
  clear K
  have K := Kz
  clear Kz kc c31 f31 HCV HC HF HCS
  generalize (Lib.bytesWorld wz 5 SC).setCell ⟨wz.heap.size, 31, none⟩ (.int .u8 (v : Int)) = W2 at *
  refine wp_region_keep (by kernel_rfl) (by kernel_rfl) ?_
  repeat (any_goals (first | (focus (go_big_quiet_want; (first | ((with_reducible refine' quiet_load_kn K 26 (.tmp 5) rfl 0 _ _ _ _ rfl _ Try.underlying26 rfl Try.szN5 _ _); rotate_left 2; (focus exact rfl))); simp only [Act.put, List.setIfInBounds_toArray, List.set_cons_zero, List.set_cons_succ]; go_big_quiet_on)) | go_big_quiet_step ((first | (go_at_call 31; with_reducible exact Calls.keep (BY _)))) | quiet_step ((first | (go_at_call 31; with_reducible exact Calls.keep (BY _))))))
  refine wpQuiet_nil ?_
  intro _ hwz
  obtain ⟨y, rfl⟩ := hwz
  have Kz := K.call y.h
  clear K ks
  have K := Kz
  clear Kz
  generalize y.w = wz at K ⊢
  clear y
  go_wp2_with (first
      | (focus (first | ((with_reducible refine' wpList_load_kn K rfl 26 (.tmp 5) rfl 0 _ _ _ _ rfl _ Try.underlying26 rfl Try.szN5 _ _); rotate_left 2; (focus exact rfl))))
      | (focus ((first | ((with_reducible refine' wpList_store_kn K rfl 26 (.tmp 7) _ rfl 0 _ _ _ _ _ rfl rfl Try.szN5 _ _ _); rotate_left 2; (focus exact rfl))); (focus (with_reducible assumption)); intro wz Kz; clear K; have K := Kz; clear Kz; simp only [List.set_cons_zero, List.set_cons_succ] at K; try (simp only [Act.put, List.setIfInBounds_toArray, List.set_cons_zero, List.set_cons_succ])))
      | ((with_reducible refine wpList_new_kn K 26 _ _ _ _ #[.int .i64 0, .int .i64 0, .int .i64 0, .int .i64 0, .int .i64 0, .int .i64 0, .int .i64 0, .int .i64 0, .int .i64 0, .int .i64 0, .int .i64 0, .int .i64 0, .int .i64 0, .int .i64 0, .int .i64 0, .int .i64 0] 16 rfl Try.alN5 rfl ?_); intro gz wz Kz; clear K; have K := Kz; clear Kz; try (simp only [Act.put, List.setIfInBounds_toArray, List.set_cons_zero, List.set_cons_succ]))
      | (go_at_call 23; (with_reducible refine Calls.kn K (M1 _) ?_); intro wz Kz; clear K; have K := Kz; clear Kz)
      | (go_at_call 23; (with_reducible refine Calls.kn K (M2 _) ?_); intro wz Kz; clear K; have K := Kz; clear Kz))
  refine wp_region_kn_late K 12 [11] [(8, 16, #[.int .i64 0, .int .i64 0, .int .i64 0, .int .i64 0, .int .i64 0, .int .i64 0, .int .i64 0, .int .i64 0, .int .i64 0, .int .i64 0, .int .i64 0, .int .i64 0, .int .i64 0, .int .i64 0, .int .i64 0, .int .i64 0], 26)] (fun _ _ _ _ _ _ h => h) (by kernel_rfl) (by kernel_rfl) (mk_one ⟨_, rfl, makes_alloc _ _ _ _ _ _ Try.alN5⟩) (sz_one rfl) ?_
  apply Exists.intro
  refine ⟨?wk8, ?fin8⟩
  case wk8 =>
    intro γ
  
    simp only [List.take_succ_cons, List.take_zero]
    repeat (any_goals (first | (focus (go_big_quiet_want; (first | ((with_reducible refine' quiet_load_kng K 26 (.tmp 7) rfl 0 _ _ _ _ rfl _ Try.underlying26 rfl Try.szN5 _ _); rotate_left 2; (focus exact rfl)) | (with_reducible refine' quiet_build1 26 _ _ _ rfl _ hb rfl _)); simp only [Act.put, List.setIfInBounds_toArray, List.set_cons_zero, List.set_cons_succ]; go_big_quiet_on)) | go_big_quiet_step ((first | (go_at_call 23; with_reducible exact Calls.keepg (M1 _)) | (go_at_call 21; with_reducible exact Calls.keepg (SU _)) | (go_at_call 96; with_reducible exact Calls.keepg (DD _)) | (go_at_call 23; with_reducible exact Calls.keepg (M2 _)) | (go_at_call 19; with_reducible exact Calls.keepg (AD _)) | (go_at_call 38; with_reducible exact Calls.keepg (RT _)))) | quiet_step ((first | (go_at_call 23; with_reducible exact Calls.keepg (M1 _)) | (go_at_call 21; with_reducible exact Calls.keepg (SU _)) | (go_at_call 96; with_reducible exact Calls.keepg (DD _)) | (go_at_call 23; with_reducible exact Calls.keepg (M2 _)) | (go_at_call 19; with_reducible exact Calls.keepg (AD _)) | (go_at_call 38; with_reducible exact Calls.keepg (RT _))))))
    exact wpQuiet_nil rfl
  case fin8 =>
    intro gs wz Kz
    clear K
    have K := Kz
    clear Kz
    try simp only [mkAll, asObj, List.map_cons, List.map_nil, putAll, List.drop_succ_cons, List.drop_zero, List.length_cons, List.length_nil, Nat.zero_add, Nat.add_zero] at K ⊢
    try simp only [Act.put, List.setIfInBounds_toArray, List.set_cons_zero, List.set_cons_succ]
    generalize gs 0 = gz0 at *
    have so : Sz 16 #[.int .i64 1, .int .i64 0, .int .i64 0, .int .i64 0, .int .i64 0, .int .i64 0, .int .i64 0, .int .i64 0, .int .i64 0, .int .i64 0, .int .i64 0, .int .i64 0, .int .i64 0, .int .i64 0, .int .i64 0, .int .i64 0] := ⟨rfl, by simp [Value.oneCell']⟩
    have hb := built_rpoint sX sY so
    have sP : Sz 48 (cat3 X Y #[.int .i64 1, .int .i64 0, .int .i64 0, .int .i64 0, .int .i64 0, .int .i64 0, .int .i64 0, .int .i64 0, .int .i64 0, .int .i64 0, .int .i64 0, .int .i64 0, .int .i64 0, .int .i64 0, .int .i64 0, .int .i64 0]) := sz3 sX sY so
    clear so
    go_wp2_with (first
      | (focus ((with_reducible refine' wpList_store_kn K rfl 26 (.tmp 8) _ rfl 0 _ _ _ _ _ rfl rfl Try.szN5 _ _ _); rotate_left 2; (focus exact rfl); (focus (with_reducible assumption)); intro wz Kz; clear K; have K := Kz; clear Kz; simp only [List.set_cons_zero, List.set_cons_succ] at K; have cx := K.cell 0 rfl 0 HX.out; try (simp only [Act.put, List.setIfInBounds_toArray, List.set_cons_zero, List.set_cons_succ])))
      | (focus ((with_reducible refine' wpList_load_kn_gd K _ 26 (.tmp 8) rfl 0 _ _ _ _ rfl _ Try.underlying26 rfl Try.szN5 _ _); rotate_left 3; (focus exact rfl); rotate_left 1; (focus exact rfl)))
      | (focus (first | ((with_reducible refine' wpList_load_kn K rfl 26 (.tmp 8) rfl 0 _ _ _ _ rfl _ Try.underlying26 rfl Try.szN5 _ _); rotate_left 2; (focus exact rfl)) | ((with_reducible refine' wpList_load_kn K rfl 26 (.tmp 5) rfl 2 _ _ _ _ rfl _ Try.underlying26 rfl Try.szN5 _ _); rotate_left 2; (focus exact rfl)) | (with_reducible refine' wpList_build1 rfl 26 _ _ _ rfl _ hb rfl _) | (with_reducible refine' wpList_build3 rfl 74 _ _ _ _ _ _ _ _ _ rfl _ hb rfl rfl rfl _)))
      | (focus ((first | ((with_reducible refine' wpList_store_kn K rfl 26 (.tmp 8) _ rfl 0 _ _ _ _ _ rfl rfl Try.szN5 _ _ _); rotate_left 2; (focus exact rfl)) | ((with_reducible refine' wpList_store_kn K rfl 74 (.tmp 2) _ rfl 3 _ _ _ _ _ rfl rfl Try.szRp _ _ _); rotate_left 2; (focus exact rfl))); (focus (with_reducible assumption)); intro wz Kz; clear K; have K := Kz; clear Kz; simp only [List.set_cons_zero, List.set_cons_succ] at K; try (simp only [Act.put, List.setIfInBounds_toArray, List.set_cons_zero, List.set_cons_succ]))))
    refine bodyPost_ret (results_kn_tmp K rfl _ 3 _ _ _ _ rfl _ Try.underlying74 rfl Try.szRp rfl) rfl ?_
    exact ⟨rfl, K.fr⟩
set_option maxRecDepth 100000 in
set_option maxHeartbeats 3200000 in
theorem rdec_neg0 (z v xz : Nat) (SC SB SD : ByteArray) (Y Q U D E V X N : Array Value) (w : World)
    (FB : Ans Try.prog 30 #[.string SC] (.agg Y))
    (BY : Ans Try.prog 31 #[.agg Y] (.string SB))
    (M1 : Ans Try.prog 23 #[.agg Y, .agg Y] (.agg Q))
    (SU : Ans Try.prog 21 #[.agg Q, .agg #[.int .i64 1, .int .i64 0, .int .i64 0, .int .i64 0, .int .i64 0, .int .i64 0, .int .i64 0, .int .i64 0, .int .i64 0, .int .i64 0, .int .i64 0, .int .i64 0, .int .i64 0, .int .i64 0, .int .i64 0, .int .i64 0]] (.agg U))
    (DD : Ans Try.prog 96 #[] (.agg D))
    (M2 : Ans Try.prog 23 #[.agg D, .agg Q] (.agg E))
    (AD : Ans Try.prog 19 #[.agg E, .agg #[.int .i64 1, .int .i64 0, .int .i64 0, .int .i64 0, .int .i64 0, .int .i64 0, .int .i64 0, .int .i64 0, .int .i64 0, .int .i64 0, .int .i64 0, .int .i64 0, .int .i64 0, .int .i64 0, .int .i64 0, .int .i64 0]] (.agg V))
    (RT : Ans Try.prog 38 #[.agg U, .agg V] (.tuple #[.agg X, .bool true]))
    (NE : Ans Try.prog 25 #[.agg X] (.agg N))
    (hi : ∀ W : World, (Instr.index 9 (.string SC) (.int .i64 31)).run Try.prog W = .ok (.int .u8 (z : Int)) W) (hz : decide ((128 : Int) ≤ (z : Int)) = false) (CV : ∀ W : World, (convert 9 40 (.string SC)).run Try.prog W = .ok (.slice (some ⟨W.heap.size, 0, none⟩) 32 (grownCap W SC.size 0 5)) (Lib.bytesWorld W 5 SC)) (C31 : ∀ W : World, (Lib.bytesWorld W 5 SC).cell? ⟨W.heap.size, 31, none⟩ = some (.int .u8 (z : Int))) (F31 : ∀ W : World, (Lib.bytesWorld W 5 SC).frozen? ⟨W.heap.size, 31, none⟩ = false) (hv : bits .and .u8 (z : Int) 127 = (v : Int))
    (CS : ∀ (W W2 : World) (c : Nat), Fr (fun _ => False) ((Lib.bytesWorld W 5 SC).setCell ⟨W.heap.size, 31, none⟩ (.int .u8 (v : Int))) W2 → (convert 40 9 (.slice (some ⟨W.heap.size, 0, none⟩) 32 c)).run Try.prog W2 = .ok (.string SD) W2) (E0 : (SB.toList == SD.toList) = true)
    (E9 : ∀ W : World, (binOp .eql 26 (.agg X) (.agg #[.int .i64 0, .int .i64 0, .int .i64 0, .int .i64 0, .int .i64 0, .int .i64 0, .int .i64 0, .int .i64 0, .int .i64 0, .int .i64 0, .int .i64 0, .int .i64 0, .int .i64 0, .int .i64 0, .int .i64 0, .int .i64 0])).run Try.prog W = .ok (.bool false) W) (x0 : X[0]? = some (.int .i64 (xz : Int))) (hp : (xz : Int).tmod 2 = 1)
    (sY : Sz 16 Y) (sQ : Sz 16 Q) (sX : Sz 16 X) (sN : Sz 16 N) :
    Calls Try.prog 71 #[.string SC] w fun e w' => e = .returned (.tuple #[.agg (cat3 N Y #[.int .i64 1, .int .i64 0, .int .i64 0, .int .i64 0, .int .i64 0, .int .i64 0, .int .i64 0, .int .i64 0, .int .i64 0, .int .i64 0, .int .i64 0, .int .i64 0, .int .i64 0, .int .i64 0, .int .i64 0, .int .i64 0]), .int .i64 0]) ∧ Fr (fun _ => False) w w' := by
  have HCV := Lib.hid CV
  have HC := Lib.hid C31
  have HF := Lib.hid F31
  have HCS := Lib.hid CS
  clear CV C31 F31 CS
  have s0 : Sz 48 #[.int .i64 0, .int .i64 0, .int .i64 0, .int .i64 0, .int .i64 0, .int .i64 0, .int .i64 0, .int .i64 0, .int .i64 0, .int .i64 0, .int .i64 0, .int .i64 0, .int .i64 0, .int .i64 0, .int .i64 0, .int .i64 0, .int .i64 0, .int .i64 0, .int .i64 0, .int .i64 0, .int .i64 0, .int .i64 0, .int .i64 0, .int .i64 0, .int .i64 0, .int .i64 0, .int .i64 0, .int .i64 0, .int .i64 0, .int .i64 0, .int .i64 0, .int .i64 0, .int .i64 0, .int .i64 0, .int .i64 0, .int .i64 0, .int .i64 0, .int .i64 0, .int .i64 0, .int .i64 0, .int .i64 0, .int .i64 0, .int .i64 0, .int .i64 0, .int .i64 0, .int .i64 0, .int .i64 0, .int .i64 0] := ⟨rfl, by simp [Value.oneCell']⟩
  have EG := Try.guardNum5
  have E1 : (!SB.toList == SD.toList) = false := by rw [E0]; rfl
  have HX := Lib.hid x0
  clear x0
  have K := ((Kn.start w).new (w.heap.size) 48 #[.int .i64 0, .int .i64 0, .int .i64 0, .int .i64 0, .int .i64 0, .int .i64 0, .int .i64 0, .int .i64 0, .int .i64 0, .int .i64 0, .int .i64 0, .int .i64 0, .int .i64 0, .int .i64 0, .int .i64 0, .int .i64 0, .int .i64 0, .int .i64 0, .int .i64 0, .int .i64 0, .int .i64 0, .int .i64 0, .int .i64 0, .int .i64 0, .int .i64 0, .int .i64 0, .int .i64 0, .int .i64 0, .int .i64 0, .int .i64 0, .int .i64 0, .int .i64 0, .int .i64 0, .int .i64 0, .int .i64 0, .int .i64 0, .int .i64 0, .int .i64 0, .int .i64 0, .int .i64 0, .int .i64 0, .int .i64 0, .int .i64 0, .int .i64 0, .int .i64 0, .int .i64 0, .int .i64 0, .int .i64 0] 74 rfl rfl)
  go_enter Try.func71, Try.ntmps71
  go_wp2_with (first
      | (focus ((with_reducible refine' wpList_store_kn K rfl 26 (.tmp 5) _ rfl 0 _ _ _ _ _ rfl rfl Try.szN5 _ _ _); rotate_left 2; (focus exact rfl); (focus (with_reducible assumption)); intro wz Kz; clear K; have K := Kz; clear Kz; simp only [List.set_cons_zero, List.set_cons_succ] at K; have kc := HCV.out wz; have c31 := HC.out wz; have f31 := HF.out wz; try (simp only [Act.put, List.setIfInBounds_toArray, List.set_cons_zero, List.set_cons_succ])))
      | (focus ((first | ((with_reducible refine' wpList_store_kn K rfl 26 (.tmp 5) _ rfl 0 _ _ _ _ _ rfl rfl Try.szN5 _ _ _); rotate_left 2; (focus exact rfl))); (focus (with_reducible assumption)); intro wz Kz; clear K; have K := Kz; clear Kz; simp only [List.set_cons_zero, List.set_cons_succ] at K; try (simp only [Act.put, List.setIfInBounds_toArray, List.set_cons_zero, List.set_cons_succ])))
      | ((with_reducible refine wpList_new_kn K 26 _ _ _ _ #[.int .i64 0, .int .i64 0, .int .i64 0, .int .i64 0, .int .i64 0, .int .i64 0, .int .i64 0, .int .i64 0, .int .i64 0, .int .i64 0, .int .i64 0, .int .i64 0, .int .i64 0, .int .i64 0, .int .i64 0, .int .i64 0] 16 rfl Try.alN5 rfl ?_); intro gz wz Kz; clear K; have K := Kz; clear Kz; try (simp only [Act.put, List.setIfInBounds_toArray, List.set_cons_zero, List.set_cons_succ]))
      | (go_at_call 30; (with_reducible refine Calls.kn K (FB _) ?_); intro wz Kz; clear K; have K := Kz; clear Kz))
  have ks : ∀ (y : Wd ((Lib.bytesWorld wz 5 SC).setCell ⟨wz.heap.size, 31, none⟩ (.int .u8 (v : Int)))) (c : Nat), (convert 40 9 (.slice (some ⟨wz.heap.size, 0, none⟩) 32 c)).run Try.prog y.w = .ok (.string SD) y.w := fun y c => HCS.out wz y.w c y.h
  have Kz := K.call ((own_str_fr wz SC).setCell (p := ⟨wz.heap.size, 31, none⟩) (Or.inr (Nat.le_refl _)) (.int .u8 (v : Int)))
  clear K
  have K := Kz
  clear Kz kc c31 f31 HCV HC HF HCS
  generalize (Lib.bytesWorld wz 5 SC).setCell ⟨wz.heap.size, 31, none⟩ (.int .u8 (v : Int)) = W2 at *
  refine wp_region_keep (by kernel_rfl) (by kernel_rfl) ?_
  repeat (any_goals (first | (focus (go_big_quiet_want; (first | ((with_reducible refine' quiet_load_kn K 26 (.tmp 5) rfl 0 _ _ _ _ rfl _ Try.underlying26 rfl Try.szN5 _ _); rotate_left 2; (focus exact rfl))); simp only [Act.put, List.setIfInBounds_toArray, List.set_cons_zero, List.set_cons_succ]; go_big_quiet_on)) | go_big_quiet_step ((first | (go_at_call 31; with_reducible exact Calls.keep (BY _)))) | quiet_step ((first | (go_at_call 31; with_reducible exact Calls.keep (BY _))))))
  refine wpQuiet_nil ?_
  intro _ hwz
  obtain ⟨y, rfl⟩ := hwz
  have Kz := K.call y.h
  clear K ks
  have K := Kz
  clear Kz
  generalize y.w = wz at K ⊢
  clear y
  go_wp2_with (first
      | (focus (first | ((with_reducible refine' wpList_load_kn K rfl 26 (.tmp 5) rfl 0 _ _ _ _ rfl _ Try.underlying26 rfl Try.szN5 _ _); rotate_left 2; (focus exact rfl))))
      | (focus ((first | ((with_reducible refine' wpList_store_kn K rfl 26 (.tmp 7) _ rfl 0 _ _ _ _ _ rfl rfl Try.szN5 _ _ _); rotate_left 2; (focus exact rfl))); (focus (with_reducible assumption)); intro wz Kz; clear K; have K := Kz; clear Kz; simp only [List.set_cons_zero, List.set_cons_succ] at K; try (simp only [Act.put, List.setIfInBounds_toArray, List.set_cons_zero, List.set_cons_succ])))
      | ((with_reducible refine wpList_new_kn K 26 _ _ _ _ #[.int .i64 0, .int .i64 0, .int .i64 0, .int .i64 0, .int .i64 0, .int .i64 0, .int .i64 0, .int .i64 0, .int .i64 0, .int .i64 0, .int .i64 0, .int .i64 0, .int .i64 0, .int .i64 0, .int .i64 0, .int .i64 0] 16 rfl Try.alN5 rfl ?_); intro gz wz Kz; clear K; have K := Kz; clear Kz; try (simp only [Act.put, List.setIfInBounds_toArray, List.set_cons_zero, List.set_cons_succ]))
      | (go_at_call 23; (with_reducible refine Calls.kn K (M1 _) ?_); intro wz Kz; clear K; have K := Kz; clear Kz)
      | (go_at_call 23; (with_reducible refine Calls.kn K (M2 _) ?_); intro wz Kz; clear K; have K := Kz; clear Kz))
  refine wp_region_kn_late K 12 [11] [(8, 16, #[.int .i64 0, .int .i64 0, .int .i64 0, .int .i64 0, .int .i64 0, .int .i64 0, .int .i64 0, .int .i64 0, .int .i64 0, .int .i64 0, .int .i64 0, .int .i64 0, .int .i64 0, .int .i64 0, .int .i64 0, .int .i64 0], 26)] (fun _ _ _ _ _ _ h => h) (by kernel_rfl) (by kernel_rfl) (mk_one ⟨_, rfl, makes_alloc _ _ _ _ _ _ Try.alN5⟩) (sz_one rfl) ?_
  apply Exists.intro
  refine ⟨?wk8, ?fin8⟩
  case wk8 =>
    intro γ
  
    simp only [List.take_succ_cons, List.take_zero]
    repeat (any_goals (first | (focus (go_big_quiet_want; (first | ((with_reducible refine' quiet_load_kng K 26 (.tmp 7) rfl 0 _ _ _ _ rfl _ Try.underlying26 rfl Try.szN5 _ _); rotate_left 2; (focus exact rfl)) | (with_reducible refine' quiet_build1 26 _ _ _ rfl _ hb rfl _)); simp only [Act.put, List.setIfInBounds_toArray, List.set_cons_zero, List.set_cons_succ]; go_big_quiet_on)) | go_big_quiet_step ((first | (go_at_call 23; with_reducible exact Calls.keepg (M1 _)) | (go_at_call 21; with_reducible exact Calls.keepg (SU _)) | (go_at_call 96; with_reducible exact Calls.keepg (DD _)) | (go_at_call 23; with_reducible exact Calls.keepg (M2 _)) | (go_at_call 19; with_reducible exact Calls.keepg (AD _)) | (go_at_call 38; with_reducible exact Calls.keepg (RT _)))) | quiet_step ((first | (go_at_call 23; with_reducible exact Calls.keepg (M1 _)) | (go_at_call 21; with_reducible exact Calls.keepg (SU _)) | (go_at_call 96; with_reducible exact Calls.keepg (DD _)) | (go_at_call 23; with_reducible exact Calls.keepg (M2 _)) | (go_at_call 19; with_reducible exact Calls.keepg (AD _)) | (go_at_call 38; with_reducible exact Calls.keepg (RT _))))))
    exact wpQuiet_nil rfl
  case fin8 =>
    intro gs wz Kz
    clear K
    have K := Kz
    clear Kz
    try simp only [mkAll, asObj, List.map_cons, List.map_nil, putAll, List.drop_succ_cons, List.drop_zero, List.length_cons, List.length_nil, Nat.zero_add, Nat.add_zero] at K ⊢
    try simp only [Act.put, List.setIfInBounds_toArray, List.set_cons_zero, List.set_cons_succ]
    generalize gs 0 = gz0 at *
    have so : Sz 16 #[.int .i64 1, .int .i64 0, .int .i64 0, .int .i64 0, .int .i64 0, .int .i64 0, .int .i64 0, .int .i64 0, .int .i64 0, .int .i64 0, .int .i64 0, .int .i64 0, .int .i64 0, .int .i64 0, .int .i64 0, .int .i64 0] := ⟨rfl, by simp [Value.oneCell']⟩
    have hb := built_rpoint sN sY so
    have sP : Sz 48 (cat3 N Y #[.int .i64 1, .int .i64 0, .int .i64 0, .int .i64 0, .int .i64 0, .int .i64 0, .int .i64 0, .int .i64 0, .int .i64 0, .int .i64 0, .int .i64 0, .int .i64 0, .int .i64 0, .int .i64 0, .int .i64 0, .int .i64 0]) := sz3 sN sY so
    clear so
    go_wp2_with (first
      | (focus ((with_reducible refine' wpList_store_kn K rfl 26 (.tmp 8) _ rfl 0 _ _ _ _ _ rfl rfl Try.szN5 _ _ _); rotate_left 2; (focus exact rfl); (focus (with_reducible assumption)); intro wz Kz; clear K; have K := Kz; clear Kz; simp only [List.set_cons_zero, List.set_cons_succ] at K; have cx := K.cell 0 rfl 0 HX.out; try (simp only [Act.put, List.setIfInBounds_toArray, List.set_cons_zero, List.set_cons_succ])))
      | (focus ((with_reducible refine' wpList_load_kn_gd K _ 26 (.tmp 8) rfl 0 _ _ _ _ rfl _ Try.underlying26 rfl Try.szN5 _ _); rotate_left 3; (focus exact rfl); rotate_left 1; (focus exact rfl)))
      | (focus (first | ((with_reducible refine' wpList_load_kn K rfl 26 (.tmp 8) rfl 0 _ _ _ _ rfl _ Try.underlying26 rfl Try.szN5 _ _); rotate_left 2; (focus exact rfl)) | ((with_reducible refine' wpList_load_kn K rfl 26 (.tmp 5) rfl 2 _ _ _ _ rfl _ Try.underlying26 rfl Try.szN5 _ _); rotate_left 2; (focus exact rfl)) | (with_reducible refine' wpList_build1 rfl 26 _ _ _ rfl _ hb rfl _) | (with_reducible refine' wpList_build3 rfl 74 _ _ _ _ _ _ _ _ _ rfl _ hb rfl rfl rfl _)))
      | (focus ((first | ((with_reducible refine' wpList_store_kn K rfl 26 (.tmp 8) _ rfl 0 _ _ _ _ _ rfl rfl Try.szN5 _ _ _); rotate_left 2; (focus exact rfl)) | ((with_reducible refine' wpList_store_kn K rfl 74 (.tmp 2) _ rfl 3 _ _ _ _ _ rfl rfl Try.szRp _ _ _); rotate_left 2; (focus exact rfl))); (focus (with_reducible assumption)); intro wz Kz; clear K; have K := Kz; clear Kz; simp only [List.set_cons_zero, List.set_cons_succ] at K; try (simp only [Act.put, List.setIfInBounds_toArray, List.set_cons_zero, List.set_cons_succ])))
      | (go_at_call 25; (with_reducible refine Calls.kn K (NE _) ?_); intro wz Kz; clear K; have K := Kz; clear Kz))
    refine bodyPost_ret (results_kn_tmp K rfl _ 3 _ _ _ _ rfl _ Try.underlying74 rfl Try.szRp rfl) rfl ?_
    exact ⟨rfl, K.fr⟩
set_option maxRecDepth 100000 in
set_option maxHeartbeats 3200000 in
theorem rdec_bad1 (z v xz : Nat) (SC SB SD : ByteArray) (Y Q U D E V X N : Array Value) (w : World)
    (FB : Ans Try.prog 30 #[.string SC] (.agg Y))
    (BY : Ans Try.prog 31 #[.agg Y] (.string SB))
    (hi : ∀ W : World, (Instr.index 9 (.string SC) (.int .i64 31)).run Try.prog W = .ok (.int .u8 (z : Int)) W) (hz : decide ((128 : Int) ≤ (z : Int)) = true) (CV : ∀ W : World, (convert 9 40 (.string SC)).run Try.prog W = .ok (.slice (some ⟨W.heap.size, 0, none⟩) 32 (grownCap W SC.size 0 5)) (Lib.bytesWorld W 5 SC)) (C31 : ∀ W : World, (Lib.bytesWorld W 5 SC).cell? ⟨W.heap.size, 31, none⟩ = some (.int .u8 (z : Int))) (F31 : ∀ W : World, (Lib.bytesWorld W 5 SC).frozen? ⟨W.heap.size, 31, none⟩ = false) (hv : bits .and .u8 (z : Int) 127 = (v : Int))
    (CS : ∀ (W W2 : World) (c : Nat), Fr (fun _ => False) ((Lib.bytesWorld W 5 SC).setCell ⟨W.heap.size, 31, none⟩ (.int .u8 (v : Int))) W2 → (convert 40 9 (.slice (some ⟨W.heap.size, 0, none⟩) 32 c)).run Try.prog W2 = .ok (.string SD) W2) (E0 : (SB.toList == SD.toList) = false)
    (sY : Sz 16 Y) (sQ : Sz 16 Q) (sX : Sz 16 X) (sN : Sz 16 N) :
    Calls Try.prog 71 #[.string SC] w fun e w' => e = .returned (.tuple #[.agg #[.int .i64 0, .int .i64 0, .int .i64 0, .int .i64 0, .int .i64 0, .int .i64 0, .int .i64 0, .int .i64 0, .int .i64 0, .int .i64 0, .int .i64 0, .int .i64 0, .int .i64 0, .int .i64 0, .int .i64 0, .int .i64 0, .int .i64 0, .int .i64 0, .int .i64 0, .int .i64 0, .int .i64 0, .int .i64 0, .int .i64 0, .int .i64 0, .int .i64 0, .int .i64 0, .int .i64 0, .int .i64 0, .int .i64 0, .int .i64 0, .int .i64 0, .int .i64 0, .int .i64 0, .int .i64 0, .int .i64 0, .int .i64 0, .int .i64 0, .int .i64 0, .int .i64 0, .int .i64 0, .int .i64 0, .int .i64 0, .int .i64 0, .int .i64 0, .int .i64 0, .int .i64 0, .int .i64 0, .int .i64 0], .int .i64 15]) ∧ Fr (fun _ => False) w w' := by
  have HCV := Lib.hid CV
  have HC := Lib.hid C31
  have HF := Lib.hid F31
  have HCS := Lib.hid CS
  clear CV C31 F31 CS
  have s0 : Sz 48 #[.int .i64 0, .int .i64 0, .int .i64 0, .int .i64 0, .int .i64 0, .int .i64 0, .int .i64 0, .int .i64 0, .int .i64 0, .int .i64 0, .int .i64 0, .int .i64 0, .int .i64 0, .int .i64 0, .int .i64 0, .int .i64 0, .int .i64 0, .int .i64 0, .int .i64 0, .int .i64 0, .int .i64 0, .int .i64 0, .int .i64 0, .int .i64 0, .int .i64 0, .int .i64 0, .int .i64 0, .int .i64 0, .int .i64 0, .int .i64 0, .int .i64 0, .int .i64 0, .int .i64 0, .int .i64 0, .int .i64 0, .int .i64 0, .int .i64 0, .int .i64 0, .int .i64 0, .int .i64 0, .int .i64 0, .int .i64 0, .int .i64 0, .int .i64 0, .int .i64 0, .int .i64 0, .int .i64 0, .int .i64 0] := ⟨rfl, by simp [Value.oneCell']⟩
  have EG := Try.guardNum5
  have E1 : (!SB.toList == SD.toList) = true := by rw [E0]; rfl
  have K := ((Kn.start w).new (w.heap.size) 48 #[.int .i64 0, .int .i64 0, .int .i64 0, .int .i64 0, .int .i64 0, .int .i64 0, .int .i64 0, .int .i64 0, .int .i64 0, .int .i64 0, .int .i64 0, .int .i64 0, .int .i64 0, .int .i64 0, .int .i64 0, .int .i64 0, .int .i64 0, .int .i64 0, .int .i64 0, .int .i64 0, .int .i64 0, .int .i64 0, .int .i64 0, .int .i64 0, .int .i64 0, .int .i64 0, .int .i64 0, .int .i64 0, .int .i64 0, .int .i64 0, .int .i64 0, .int .i64 0, .int .i64 0, .int .i64 0, .int .i64 0, .int .i64 0, .int .i64 0, .int .i64 0, .int .i64 0, .int .i64 0, .int .i64 0, .int .i64 0, .int .i64 0, .int .i64 0, .int .i64 0, .int .i64 0, .int .i64 0, .int .i64 0] 74 rfl rfl)
  go_enter Try.func71, Try.ntmps71
  go_wp2_with (first
      | (focus ((with_reducible refine' wpList_store_kn K rfl 26 (.tmp 5) _ rfl 0 _ _ _ _ _ rfl rfl Try.szN5 _ _ _); rotate_left 2; (focus exact rfl); (focus (with_reducible assumption)); intro wz Kz; clear K; have K := Kz; clear Kz; simp only [List.set_cons_zero, List.set_cons_succ] at K; have kc := HCV.out wz; have c31 := HC.out wz; have f31 := HF.out wz; try (simp only [Act.put, List.setIfInBounds_toArray, List.set_cons_zero, List.set_cons_succ])))
      | (focus ((first | ((with_reducible refine' wpList_store_kn K rfl 26 (.tmp 5) _ rfl 0 _ _ _ _ _ rfl rfl Try.szN5 _ _ _); rotate_left 2; (focus exact rfl))); (focus (with_reducible assumption)); intro wz Kz; clear K; have K := Kz; clear Kz; simp only [List.set_cons_zero, List.set_cons_succ] at K; try (simp only [Act.put, List.setIfInBounds_toArray, List.set_cons_zero, List.set_cons_succ])))
      | ((with_reducible refine wpList_new_kn K 26 _ _ _ _ #[.int .i64 0, .int .i64 0, .int .i64 0, .int .i64 0, .int .i64 0, .int .i64 0, .int .i64 0, .int .i64 0, .int .i64 0, .int .i64 0, .int .i64 0, .int .i64 0, .int .i64 0, .int .i64 0, .int .i64 0, .int .i64 0] 16 rfl Try.alN5 rfl ?_); intro gz wz Kz; clear K; have K := Kz; clear Kz; try (simp only [Act.put, List.setIfInBounds_toArray, List.set_cons_zero, List.set_cons_succ]))
      | (go_at_call 30; (with_reducible refine Calls.kn K (FB _) ?_); intro wz Kz; clear K; have K := Kz; clear Kz))
  have ks : ∀ (y : Wd ((Lib.bytesWorld wz 5 SC).setCell ⟨wz.heap.size, 31, none⟩ (.int .u8 (v : Int)))) (c : Nat), (convert 40 9 (.slice (some ⟨wz.heap.size, 0, none⟩) 32 c)).run Try.prog y.w = .ok (.string SD) y.w := fun y c => HCS.out wz y.w c y.h
  have Kz := K.call ((own_str_fr wz SC).setCell (p := ⟨wz.heap.size, 31, none⟩) (Or.inr (Nat.le_refl _)) (.int .u8 (v : Int)))
  clear K
  have K := Kz
  clear Kz kc c31 f31 HCV HC HF HCS
  generalize (Lib.bytesWorld wz 5 SC).setCell ⟨wz.heap.size, 31, none⟩ (.int .u8 (v : Int)) = W2 at *
  refine wp_region_keep (by kernel_rfl) (by kernel_rfl) ?_
  repeat (any_goals (first | (focus (go_big_quiet_want; (first | ((with_reducible refine' quiet_load_kn K 26 (.tmp 5) rfl 0 _ _ _ _ rfl _ Try.underlying26 rfl Try.szN5 _ _); rotate_left 2; (focus exact rfl))); simp only [Act.put, List.setIfInBounds_toArray, List.set_cons_zero, List.set_cons_succ]; go_big_quiet_on)) | go_big_quiet_step ((first | (go_at_call 31; with_reducible exact Calls.keep (BY _)))) | quiet_step ((first | (go_at_call 31; with_reducible exact Calls.keep (BY _))))))
  refine wpQuiet_nil ?_
  intro _ hwz
  obtain ⟨y, rfl⟩ := hwz
  have Kz := K.call y.h
  clear K ks
  have K := Kz
  clear Kz
  generalize y.w = wz at K ⊢
  clear y
  go_wp2_with (first
      | (focus ((first | ((with_reducible refine' wpList_store_kn K rfl 74 (.tmp 2) _ rfl 1 _ _ _ _ _ rfl rfl Try.szRp _ _ _); rotate_left 2; (focus exact rfl))); (focus (with_reducible assumption)); intro wz Kz; clear K; have K := Kz; clear Kz; simp only [List.set_cons_zero, List.set_cons_succ] at K; try (simp only [Act.put, List.setIfInBounds_toArray, List.set_cons_zero, List.set_cons_succ]))))
  refine bodyPost_ret (results_kn_tmp K rfl _ 1 _ _ _ _ rfl _ Try.underlying74 rfl Try.szRp rfl) rfl ?_
  exact ⟨rfl, K.fr⟩
set_option maxRecDepth 100000 in
set_option maxHeartbeats 3200000 in
theorem rdec_none1 (z v xz : Nat) (SC SB SD : ByteArray) (Y Q U D E V X N : Array Value) (w : World)
    (FB : Ans Try.prog 30 #[.string SC] (.agg Y))
    (BY : Ans Try.prog 31 #[.agg Y] (.string SB))
    (M1 : Ans Try.prog 23 #[.agg Y, .agg Y] (.agg Q))
    (SU : Ans Try.prog 21 #[.agg Q, .agg #[.int .i64 1, .int .i64 0, .int .i64 0, .int .i64 0, .int .i64 0, .int .i64 0, .int .i64 0, .int .i64 0, .int .i64 0, .int .i64 0, .int .i64 0, .int .i64 0, .int .i64 0, .int .i64 0, .int .i64 0, .int .i64 0]] (.agg U))
    (DD : Ans Try.prog 96 #[] (.agg D))
    (M2 : Ans Try.prog 23 #[.agg D, .agg Q] (.agg E))
    (AD : Ans Try.prog 19 #[.agg E, .agg #[.int .i64 1, .int .i64 0, .int .i64 0, .int .i64 0, .int .i64 0, .int .i64 0, .int .i64 0, .int .i64 0, .int .i64 0, .int .i64 0, .int .i64 0, .int .i64 0, .int .i64 0, .int .i64 0, .int .i64 0, .int .i64 0]] (.agg V))
    (RT : Ans Try.prog 38 #[.agg U, .agg V] (.tuple #[.agg X, .bool false]))
    (hi : ∀ W : World, (Instr.index 9 (.string SC) (.int .i64 31)).run Try.prog W = .ok (.int .u8 (z : Int)) W) (hz : decide ((128 : Int) ≤ (z : Int)) = true) (CV : ∀ W : World, (convert 9 40 (.string SC)).run Try.prog W = .ok (.slice (some ⟨W.heap.size, 0, none⟩) 32 (grownCap W SC.size 0 5)) (Lib.bytesWorld W 5 SC)) (C31 : ∀ W : World, (Lib.bytesWorld W 5 SC).cell? ⟨W.heap.size, 31, none⟩ = some (.int .u8 (z : Int))) (F31 : ∀ W : World, (Lib.bytesWorld W 5 SC).frozen? ⟨W.heap.size, 31, none⟩ = false) (hv : bits .and .u8 (z : Int) 127 = (v : Int))
    (CS : ∀ (W W2 : World) (c : Nat), Fr (fun _ => False) ((Lib.bytesWorld W 5 SC).setCell ⟨W.heap.size, 31, none⟩ (.int .u8 (v : Int))) W2 → (convert 40 9 (.slice (some ⟨W.heap.size, 0, none⟩) 32 c)).run Try.prog W2 = .ok (.string SD) W2) (E0 : (SB.toList == SD.toList) = true)
    (sY : Sz 16 Y) (sQ : Sz 16 Q) (sX : Sz 16 X) (sN : Sz 16 N) :
    Calls Try.prog 71 #[.string SC] w fun e w' => e = .returned (.tuple #[.agg #[.int .i64 0, .int .i64 0, .int .i64 0, .int .i64 0, .int .i64 0, .int .i64 0, .int .i64 0, .int .i64 0, .int .i64 0, .int .i64 0, .int .i64 0, .int .i64 0, .int .i64 0, .int .i64 0, .int .i64 0, .int .i64 0, .int .i64 0, .int .i64 0, .int .i64 0, .int .i64 0, .int .i64 0, .int .i64 0, .int .i64 0, .int .i64 0, .int .i64 0, .int .i64 0, .int .i64 0, .int .i64 0, .int .i64 0, .int .i64 0, .int .i64 0, .int .i64 0, .int .i64 0, .int .i64 0, .int .i64 0, .int .i64 0, .int .i64 0, .int .i64 0, .int .i64 0, .int .i64 0, .int .i64 0, .int .i64 0, .int .i64 0, .int .i64 0, .int .i64 0, .int .i64 0, .int .i64 0, .int .i64 0], .int .i64 15]) ∧ Fr (fun _ => False) w w' := by
  have HCV := Lib.hid CV
  have HC := Lib.hid C31
  have HF := Lib.hid F31
  have HCS := Lib.hid CS
  clear CV C31 F31 CS
  have s0 : Sz 48 #[.int .i64 0, .int .i64 0, .int .i64 0, .int .i64 0, .int .i64 0, .int .i64 0, .int .i64 0, .int .i64 0, .int .i64 0, .int .i64 0, .int .i64 0, .int .i64 0, .int .i64 0, .int .i64 0, .int .i64 0, .int .i64 0, .int .i64 0, .int .i64 0, .int .i64 0, .int .i64 0, .int .i64 0, .int .i64 0, .int .i64 0, .int .i64 0, .int .i64 0, .int .i64 0, .int .i64 0, .int .i64 0, .int .i64 0, .int .i64 0, .int .i64 0, .int .i64 0, .int .i64 0, .int .i64 0, .int .i64 0, .int .i64 0, .int .i64 0, .int .i64 0, .int .i64 0, .int .i64 0, .int .i64 0, .int .i64 0, .int .i64 0, .int .i64 0, .int .i64 0, .int .i64 0, .int .i64 0, .int .i64 0] := ⟨rfl, by simp [Value.oneCell']⟩
  have EG := Try.guardNum5
  have E1 : (!SB.toList == SD.toList) = false := by rw [E0]; rfl
  have K := ((Kn.start w).new (w.heap.size) 48 #[.int .i64 0, .int .i64 0, .int .i64 0, .int .i64 0, .int .i64 0, .int .i64 0, .int .i64 0, .int .i64 0, .int .i64 0, .int .i64 0, .int .i64 0, .int .i64 0, .int .i64 0, .int .i64 0, .int .i64 0, .int .i64 0, .int .i64 0, .int .i64 0, .int .i64 0, .int .i64 0, .int .i64 0, .int .i64 0, .int .i64 0, .int .i64 0, .int .i64 0, .int .i64 0, .int .i64 0, .int .i64 0, .int .i64 0, .int .i64 0, .int .i64 0, .int .i64 0, .int .i64 0, .int .i64 0, .int .i64 0, .int .i64 0, .int .i64 0, .int .i64 0, .int .i64 0, .int .i64 0, .int .i64 0, .int .i64 0, .int .i64 0, .int .i64 0, .int .i64 0, .int .i64 0, .int .i64 0, .int .i64 0] 74 rfl rfl)
  go_enter Try.func71, Try.ntmps71
  go_wp2_with (first
      | (focus ((with_reducible refine' wpList_store_kn K rfl 26 (.tmp 5) _ rfl 0 _ _ _ _ _ rfl rfl Try.szN5 _ _ _); rotate_left 2; (focus exact rfl); (focus (with_reducible assumption)); intro wz Kz; clear K; have K := Kz; clear Kz; simp only [List.set_cons_zero, List.set_cons_succ] at K; have kc := HCV.out wz; have c31 := HC.out wz; have f31 := HF.out wz; try (simp only [Act.put, List.setIfInBounds_toArray, List.set_cons_zero, List.set_cons_succ])))
      | (focus ((first | ((with_reducible refine' wpList_store_kn K rfl 26 (.tmp 5) _ rfl 0 _ _ _ _ _ rfl rfl Try.szN5 _ _ _); rotate_left 2; (focus exact rfl))); (focus (with_reducible assumption)); intro wz Kz; clear K; have K := Kz; clear Kz; simp only [List.set_cons_zero, List.set_cons_succ] at K; try (simp only [Act.put, List.setIfInBounds_toArray, List.set_cons_zero, List.set_cons_succ])))
      | ((with_reducible refine wpList_new_kn K 26 _ _ _ _ #[.int .i64 0, .int .i64 0, .int .i64 0, .int .i64 0, .int .i64 0, .int .i64 0, .int .i64 0, .int .i64 0, .int .i64 0, .int .i64 0, .int .i64 0, .int .i64 0, .int .i64 0, .int .i64 0, .int .i64 0, .int .i64 0] 16 rfl Try.alN5 rfl ?_); intro gz wz Kz; clear K; have K := Kz; clear Kz; try (simp only [Act.put, List.setIfInBounds_toArray, List.set_cons_zero, List.set_cons_succ]))
      | (go_at_call 30; (with_reducible refine Calls.kn K (FB _) ?_); intro wz Kz; clear K; have K := Kz; clear Kz))
  have ks : ∀ (y : Wd ((Lib.bytesWorld wz 5 SC).setCell ⟨wz.heap.size, 31, none⟩ (.int .u8 (v : Int)))) (c : Nat), (convert 40 9 (.slice (some ⟨wz.heap.size, 0, none⟩) 32 c)).run Try.prog y.w = .ok (.string SD) y.w := fun y c => HCS.out wz y.w c y.h
  have Kz := K.call ((own_str_fr wz SC).setCell (p := ⟨wz.heap.size, 31, none⟩) (Or.inr (Nat.le_refl _)) (.int .u8 (v : Int)))
  clear K
  have K := Kz
  clear Kz kc c31 f31 HCV HC HF HCS
  generalize (Lib.bytesWorld wz 5 SC).setCell ⟨wz.heap.size, 31, none⟩ (.int .u8 (v : Int)) = W2 at *
  refine wp_region_keep (by kernel_rfl) (by kernel_rfl) ?_
  repeat (any_goals (first | (focus (go_big_quiet_want; (first | ((with_reducible refine' quiet_load_kn K 26 (.tmp 5) rfl 0 _ _ _ _ rfl _ Try.underlying26 rfl Try.szN5 _ _); rotate_left 2; (focus exact rfl))); simp only [Act.put, List.setIfInBounds_toArray, List.set_cons_zero, List.set_cons_succ]; go_big_quiet_on)) | go_big_quiet_step ((first | (go_at_call 31; with_reducible exact Calls.keep (BY _)))) | quiet_step ((first | (go_at_call 31; with_reducible exact Calls.keep (BY _))))))
  refine wpQuiet_nil ?_
  intro _ hwz
  obtain ⟨y, rfl⟩ := hwz
  have Kz := K.call y.h
  clear K ks
  have K := Kz
  clear Kz
  generalize y.w = wz at K ⊢
  clear y
  go_wp2_with (first
      | (focus (first | ((with_reducible refine' wpList_load_kn K rfl 26 (.tmp 5) rfl 0 _ _ _ _ rfl _ Try.underlying26 rfl Try.szN5 _ _); rotate_left 2; (focus exact rfl))))
      | (focus ((first | ((with_reducible refine' wpList_store_kn K rfl 26 (.tmp 7) _ rfl 0 _ _ _ _ _ rfl rfl Try.szN5 _ _ _); rotate_left 2; (focus exact rfl))); (focus (with_reducible assumption)); intro wz Kz; clear K; have K := Kz; clear Kz; simp only [List.set_cons_zero, List.set_cons_succ] at K; try (simp only [Act.put, List.setIfInBounds_toArray, List.set_cons_zero, List.set_cons_succ])))
      | ((with_reducible refine wpList_new_kn K 26 _ _ _ _ #[.int .i64 0, .int .i64 0, .int .i64 0, .int .i64 0, .int .i64 0, .int .i64 0, .int .i64 0, .int .i64 0, .int .i64 0, .int .i64 0, .int .i64 0, .int .i64 0, .int .i64 0, .int .i64 0, .int .i64 0, .int .i64 0] 16 rfl Try.alN5 rfl ?_); intro gz wz Kz; clear K; have K := Kz; clear Kz; try (simp only [Act.put, List.setIfInBounds_toArray, List.set_cons_zero, List.set_cons_succ]))
      | (go_at_call 23; (with_reducible refine Calls.kn K (M1 _) ?_); intro wz Kz; clear K; have K := Kz; clear Kz)
      | (go_at_call 23; (with_reducible refine Calls.kn K (M2 _) ?_); intro wz Kz; clear K; have K := Kz; clear Kz))
  refine wp_region_kn_late K 12 [11] [(8, 16, #[.int .i64 0, .int .i64 0, .int .i64 0, .int .i64 0, .int .i64 0, .int .i64 0, .int .i64 0, .int .i64 0, .int .i64 0, .int .i64 0, .int .i64 0, .int .i64 0, .int .i64 0, .int .i64 0, .int .i64 0, .int .i64 0], 26)] (fun _ _ _ _ _ _ h => h) (by kernel_rfl) (by kernel_rfl) (mk_one ⟨_, rfl, makes_alloc _ _ _ _ _ _ Try.alN5⟩) (sz_one rfl) ?_
  apply Exists.intro
  refine ⟨?wk8, ?fin8⟩
  case wk8 =>
    intro γ
  
    simp only [List.take_succ_cons, List.take_zero]
    repeat (any_goals (first | (focus (go_big_quiet_want; (first | ((with_reducible refine' quiet_load_kng K 26 (.tmp 7) rfl 0 _ _ _ _ rfl _ Try.underlying26 rfl Try.szN5 _ _); rotate_left 2; (focus exact rfl))); simp only [Act.put, List.setIfInBounds_toArray, List.set_cons_zero, List.set_cons_succ]; go_big_quiet_on)) | go_big_quiet_step ((first | (go_at_call 23; with_reducible exact Calls.keepg (M1 _)) | (go_at_call 21; with_reducible exact Calls.keepg (SU _)) | (go_at_call 96; with_reducible exact Calls.keepg (DD _)) | (go_at_call 23; with_reducible exact Calls.keepg (M2 _)) | (go_at_call 19; with_reducible exact Calls.keepg (AD _)) | (go_at_call 38; with_reducible exact Calls.keepg (RT _)))) | quiet_step ((first | (go_at_call 23; with_reducible exact Calls.keepg (M1 _)) | (go_at_call 21; with_reducible exact Calls.keepg (SU _)) | (go_at_call 96; with_reducible exact Calls.keepg (DD _)) | (go_at_call 23; with_reducible exact Calls.keepg (M2 _)) | (go_at_call 19; with_reducible exact Calls.keepg (AD _)) | (go_at_call 38; with_reducible exact Calls.keepg (RT _))))))
    exact wpQuiet_nil rfl
  case fin8 =>
    intro gs wz Kz
    clear K
    have K := Kz
    clear Kz
    try simp only [mkAll, asObj, List.map_cons, List.map_nil, putAll, List.drop_succ_cons, List.drop_zero, List.length_cons, List.length_nil, Nat.zero_add, Nat.add_zero] at K ⊢
    try simp only [Act.put, List.setIfInBounds_toArray, List.set_cons_zero, List.set_cons_succ]
    generalize gs 0 = gz0 at *
    go_wp2_with (first
      | (focus ((with_reducible refine' wpList_store_kn K rfl 26 (.tmp 8) _ rfl 0 _ _ _ _ _ rfl rfl Try.szN5 _ _ _); rotate_left 2; (focus exact rfl); (focus (with_reducible assumption)); intro wz Kz; clear K; have K := Kz; clear Kz; simp only [List.set_cons_zero, List.set_cons_succ] at K; try (simp only [Act.put, List.setIfInBounds_toArray, List.set_cons_zero, List.set_cons_succ])))
      | (focus ((first | ((with_reducible refine' wpList_store_kn K rfl 26 (.tmp 8) _ rfl 0 _ _ _ _ _ rfl rfl Try.szN5 _ _ _); rotate_left 2; (focus exact rfl)) | ((with_reducible refine' wpList_store_kn K rfl 74 (.tmp 2) _ rfl 3 _ _ _ _ _ rfl rfl Try.szRp _ _ _); rotate_left 2; (focus exact rfl))); (focus (with_reducible assumption)); intro wz Kz; clear K; have K := Kz; clear Kz; simp only [List.set_cons_zero, List.set_cons_succ] at K; try (simp only [Act.put, List.setIfInBounds_toArray, List.set_cons_zero, List.set_cons_succ]))))
    refine bodyPost_ret (results_kn_tmp K rfl _ 3 _ _ _ _ rfl _ Try.underlying74 rfl Try.szRp rfl) rfl ?_
    exact ⟨rfl, K.fr⟩
set_option maxRecDepth 100000 in
set_option maxHeartbeats 3200000 in
theorem rdec_keep1 (z v xz : Nat) (SC SB SD : ByteArray) (Y Q U D E V X N : Array Value) (w : World)
    (FB : Ans Try.prog 30 #[.string SC] (.agg Y))
    (BY : Ans Try.prog 31 #[.agg Y] (.string SB))
    (M1 : Ans Try.prog 23 #[.agg Y, .agg Y] (.agg Q))
    (SU : Ans Try.prog 21 #[.agg Q, .agg #[.int .i64 1, .int .i64 0, .int .i64 0, .int .i64 0, .int .i64 0, .int .i64 0, .int .i64 0, .int .i64 0, .int .i64 0, .int .i64 0, .int .i64 0, .int .i64 0, .int .i64 0, .int .i64 0, .int .i64 0, .int .i64 0]] (.agg U))
    (DD : Ans Try.prog 96 #[] (.agg D))
    (M2 : Ans Try.prog 23 #[.agg D, .agg Q] (.agg E))
    (AD : Ans Try.prog 19 #[.agg E, .agg #[.int .i64 1, .int .i64 0, .int .i64 0, .int .i64 0, .int .i64 0, .int .i64 0, .int .i64 0, .int .i64 0, .int .i64 0, .int .i64 0, .int .i64 0, .int .i64 0, .int .i64 0, .int .i64 0, .int .i64 0, .int .i64 0]] (.agg V))
    (RT : Ans Try.prog 38 #[.agg U, .agg V] (.tuple #[.agg X, .bool true]))
    (hi : ∀ W : World, (Instr.index 9 (.string SC) (.int .i64 31)).run Try.prog W = .ok (.int .u8 (z : Int)) W) (hz : decide ((128 : Int) ≤ (z : Int)) = true) (CV : ∀ W : World, (convert 9 40 (.string SC)).run Try.prog W = .ok (.slice (some ⟨W.heap.size, 0, none⟩) 32 (grownCap W SC.size 0 5)) (Lib.bytesWorld W 5 SC)) (C31 : ∀ W : World, (Lib.bytesWorld W 5 SC).cell? ⟨W.heap.size, 31, none⟩ = some (.int .u8 (z : Int))) (F31 : ∀ W : World, (Lib.bytesWorld W 5 SC).frozen? ⟨W.heap.size, 31, none⟩ = false) (hv : bits .and .u8 (z : Int) 127 = (v : Int))
    (CS : ∀ (W W2 : World) (c : Nat), Fr (fun _ => False) ((Lib.bytesWorld W 5 SC).setCell ⟨W.heap.size, 31, none⟩ (.int .u8 (v : Int))) W2 → (convert 40 9 (.slice (some ⟨W.heap.size, 0, none⟩) 32 c)).run Try.prog W2 = .ok (.string SD) W2) (E0 : (SB.toList == SD.toList) = true)
    (E9 : ∀ W : World, (binOp .eql 26 (.agg X) (.agg #[.int .i64 0, .int .i64 0, .int .i64 0, .int .i64 0, .int .i64 0, .int .i64 0, .int .i64 0, .int .i64 0, .int .i64 0, .int .i64 0, .int .i64 0, .int .i64 0, .int .i64 0, .int .i64 0, .int .i64 0, .int .i64 0])).run Try.prog W = .ok (.bool false) W) (x0 : X[0]? = some (.int .i64 (xz : Int))) (hp : (xz : Int).tmod 2 = 1)
    (sY : Sz 16 Y) (sQ : Sz 16 Q) (sX : Sz 16 X) (sN : Sz 16 N) :
    Calls Try.prog 71 #[.string SC] w fun e w' => e = .returned (.tuple #[.agg (cat3 X Y #[.int .i64 1, .int .i64 0, .int .i64 0, .int .i64 0, .int .i64 0, .int .i64 0, .int .i64 0, .int .i64 0, .int .i64 0, .int .i64 0, .int .i64 0, .int .i64 0, .int .i64 0, .int .i64 0, .int .i64 0, .int .i64 0]), .int .i64 0]) ∧ Fr (fun _ => False) w w' := by
  have HCV := Lib.hid CV
  have HC := Lib.hid C31
  have HF := Lib.hid F31
  have HCS := Lib.hid CS
  clear CV C31 F31 CS
  have s0 : Sz 48 #[.int .i64 0, .int .i64 0, .int .i64 0, .int .i64 0, .int .i64 0, .int .i64 0, .int .i64 0, .int .i64 0, .int .i64 0, .int .i64 0, .int .i64 0, .int .i64 0, .int .i64 0, .int .i64 0, .int .i64 0, .int .i64 0, .int .i64 0, .int .i64 0, .int .i64 0, .int .i64 0, .int .i64 0, .int .i64 0, .int .i64 0, .int .i64 0, .int .i64 0, .int .i64 0, .int .i64 0, .int .i64 0, .int .i64 0, .int .i64 0, .int .i64 0, .int .i64 0, .int .i64 0, .int .i64 0, .int .i64 0, .int .i64 0, .int .i64 0, .int .i64 0, .int .i64 0, .int .i64 0, .int .i64 0, .int .i64 0, .int .i64 0, .int .i64 0, .int .i64 0, .int .i64 0, .int .i64 0, .int .i64 0] := ⟨rfl, by simp [Value.oneCell']⟩
  have EG := Try.guardNum5
  have E1 : (!SB.toList == SD.toList) = false := by rw [E0]; rfl
  have HX := Lib.hid x0
  clear x0
  have K := ((Kn.start w).new (w.heap.size) 48 #[.int .i64 0, .int .i64 0, .int .i64 0, .int .i64 0, .int .i64 0, .int .i64 0, .int .i64 0, .int .i64 0, .int .i64 0, .int .i64 0, .int .i64 0, .int .i64 0, .int .i64 0, .int .i64 0, .int .i64 0, .int .i64 0, .int .i64 0, .int .i64 0, .int .i64 0, .int .i64 0, .int .i64 0, .int .i64 0, .int .i64 0, .int .i64 0, .int .i64 0, .int .i64 0, .int .i64 0, .int .i64 0, .int .i64 0, .int .i64 0, .int .i64 0, .int .i64 0, .int .i64 0, .int .i64 0, .int .i64 0, .int .i64 0, .int .i64 0, .int .i64 0, .int .i64 0, .int .i64 0, .int .i64 0, .int .i64 0, .int .i64 0, .int .i64 0, .int .i64 0, .int .i64 0, .int .i64 0, .int .i64 0] 74 rfl rfl)
  go_enter Try.func71, Try.ntmps71
  go_wp2_with (first
      | (focus ((with_reducible refine' wpList_store_kn K rfl 26 (.tmp 5) _ rfl 0 _ _ _ _ _ rfl rfl Try.szN5 _ _ _); rotate_left 2; (focus exact rfl); (focus (with_reducible assumption)); intro wz Kz; clear K; have K := Kz; clear Kz; simp only [List.set_cons_zero, List.set_cons_succ] at K; have kc := HCV.out wz; have c31 := HC.out wz; have f31 := HF.out wz; try (simp only [Act.put, List.setIfInBounds_toArray, List.set_cons_zero, List.set_cons_succ])))
      | (focus ((first | ((with_reducible refine' wpList_store_kn K rfl 26 (.tmp 5) _ rfl 0 _ _ _ _ _ rfl rfl Try.szN5 _ _ _); rotate_left 2; (focus exact rfl))); (focus (with_reducible assumption)); intro wz Kz; clear K; have K := Kz; clear Kz; simp only [List.set_cons_zero, List.set_cons_succ] at K; try (simp only [Act.put, List.setIfInBounds_toArray, List.set_cons_zero, List.set_cons_succ])))
      | ((with_reducible refine wpList_new_kn K 26 _ _ _ _ #[.int .i64 0, .int .i64 0, .int .i64 0, .int .i64 0, .int .i64 0, .int .i64 0, .int .i64 0, .int .i64 0, .int .i64 0, .int .i64 0, .int .i64 0, .int .i64 0, .int .i64 0, .int .i64 0, .int .i64 0, .int .i64 0] 16 rfl Try.alN5 rfl ?_); intro gz wz Kz; clear K; have K := Kz; clear Kz; try (simp only [Act.put, List.setIfInBounds_toArray, List.set_cons_zero, List.set_cons_succ]))
      | (go_at_call 30; (with_reducible refine Calls.kn K (FB _) ?_); intro wz Kz; clear K; have K := Kz; clear Kz))
  have ks : ∀ (y : Wd ((Lib.bytesWorld wz 5 SC).setCell ⟨wz.heap.size, 31, none⟩ (.int .u8 (v : Int)))) (c : Nat), (convert 40 9 (.slice (some ⟨wz.heap.size, 0, none⟩) 32 c)).run Try.prog y.w = .ok (.string SD) y.w := fun y c => HCS.out wz y.w c y.h
  have Kz := K.call ((own_str_fr wz SC).setCell (p := ⟨wz.heap.size, 31, none⟩) (Or.inr (Nat.le_refl _)) (.int .u8 (v : Int)))
  clear K
  have K := Kz
  clear Kz kc c31 f31 HCV HC HF HCS
  generalize (Lib.bytesWorld wz 5 SC).setCell ⟨wz.heap.size, 31, none⟩ (.int .u8 (v : Int)) = W2 at *
  refine wp_region_keep (by kernel_rfl) (by kernel_rfl) ?_
  repeat (any_goals (first | (focus (go_big_quiet_want; (first | ((with_reducible refine' quiet_load_kn K 26 (.tmp 5) rfl 0 _ _ _ _ rfl _ Try.underlying26 rfl Try.szN5 _ _); rotate_left 2; (focus exact rfl))); simp only [Act.put, List.setIfInBounds_toArray, List.set_cons_zero, List.set_cons_succ]; go_big_quiet_on)) | go_big_quiet_step ((first | (go_at_call 31; with_reducible exact Calls.keep (BY _)))) | quiet_step ((first | (go_at_call 31; with_reducible exact Calls.keep (BY _))))))
  refine wpQuiet_nil ?_
  intro _ hwz
  obtain ⟨y, rfl⟩ := hwz
  have Kz := K.call y.h
  clear K ks
  have K := Kz
  clear Kz
  generalize y.w = wz at K ⊢
  clear y
  go_wp2_with (first
      | (focus (first | ((with_reducible refine' wpList_load_kn K rfl 26 (.tmp 5) rfl 0 _ _ _ _ rfl _ Try.underlying26 rfl Try.szN5 _ _); rotate_left 2; (focus exact rfl))))
      | (focus ((first | ((with_reducible refine' wpList_store_kn K rfl 26 (.tmp 7) _ rfl 0 _ _ _ _ _ rfl rfl Try.szN5 _ _ _); rotate_left 2; (focus exact rfl))); (focus (with_reducible assumption)); intro wz Kz; clear K; have K := Kz; clear Kz; simp only [List.set_cons_zero, List.set_cons_succ] at K; try (simp only [Act.put, List.setIfInBounds_toArray, List.set_cons_zero, List.set_cons_succ])))
      | ((with_reducible refine wpList_new_kn K 26 _ _ _ _ #[.int .i64 0, .int .i64 0, .int .i64 0, .int .i64 0, .int .i64 0, .int .i64 0, .int .i64 0, .int .i64 0, .int .i64 0, .int .i64 0, .int .i64 0, .int .i64 0, .int .i64 0, .int .i64 0, .int .i64 0, .int .i64 0] 16 rfl Try.alN5 rfl ?_); intro gz wz Kz; clear K; have K := Kz; clear Kz; try (simp only [Act.put, List.setIfInBounds_toArray, List.set_cons_zero, List.set_cons_succ]))
      | (go_at_call 23; (with_reducible refine Calls.kn K (M1 _) ?_); intro wz Kz; clear K; have K := Kz; clear Kz)
      | (go_at_call 23; (with_reducible refine Calls.kn K (M2 _) ?_); intro wz Kz; clear K; have K := Kz; clear Kz))
  refine wp_region_kn_late K 12 [11] [(8, 16, #[.int .i64 0, .int .i64 0, .int .i64 0, .int .i64 0, .int .i64 0, .int .i64 0, .int .i64 0, .int .i64 0, .int .i64 0, .int .i64 0, .int .i64 0, .int .i64 0, .int .i64 0, .int .i64 0, .int .i64 0, .int .i64 0], 26)] (fun _ _ _ _ _ _ h => h) (by kernel_rfl) (by kernel_rfl) (mk_one ⟨_, rfl, makes_alloc _ _ _ _ _ _ Try.alN5⟩) (sz_one rfl) ?_
  apply Exists.intro
  refine ⟨?wk8, ?fin8⟩
  case wk8 =>
    intro γ
  
    simp only [List.take_succ_cons, List.take_zero]
    repeat (any_goals (first | (focus (go_big_quiet_want; (first | ((with_reducible refine' quiet_load_kng K 26 (.tmp 7) rfl 0 _ _ _ _ rfl _ Try.underlying26 rfl Try.szN5 _ _); rotate_left 2; (focus exact rfl)) | (with_reducible refine' quiet_build1 26 _ _ _ rfl _ hb rfl _)); simp only [Act.put, List.setIfInBounds_toArray, List.set_cons_zero, List.set_cons_succ]; go_big_quiet_on)) | go_big_quiet_step ((first | (go_at_call 23; with_reducible exact Calls.keepg (M1 _)) | (go_at_call 21; with_reducible exact Calls.keepg (SU _)) | (go_at_call 96; with_reducible exact Calls.keepg (DD _)) | (go_at_call 23; with_reducible exact Calls.keepg (M2 _)) | (go_at_call 19; with_reducible exact Calls.keepg (AD _)) | (go_at_call 38; with_reducible exact Calls.keepg (RT _)))) | quiet_step ((first | (go_at_call 23; with_reducible exact Calls.keepg (M1 _)) | (go_at_call 21; with_reducible exact Calls.keepg (SU _)) | (go_at_call 96; with_reducible exact Calls.keepg (DD _)) | (go_at_call 23; with_reducible exact Calls.keepg (M2 _)) | (go_at_call 19; with_reducible exact Calls.keepg (AD _)) | (go_at_call 38; with_reducible exact Calls.keepg (RT _))))))
    exact wpQuiet_nil rfl
  case fin8 =>
    intro gs wz Kz
    clear K
    have K := Kz
    clear Kz
    try simp only [mkAll, asObj, List.map_cons, List.map_nil, putAll, List.drop_succ_cons, List.drop_zero, List.length_cons, List.length_nil, Nat.zero_add, Nat.add_zero] at K ⊢
    try simp only [Act.put, List.setIfInBounds_toArray, List.set_cons_zero, List.set_cons_succ]
    generalize gs 0 = gz0 at *
    have so : Sz 16 #[.int .i64 1, .int .i64 0, .int .i64 0, .int .i64 0, .int .i64 0, .int .i64 0, .int .i64 0, .int .i64 0, .int .i64 0, .int .i64 0, .int .i64 0, .int .i64 0, .int .i64 0, .int .i64 0, .int .i64 0, .int .i64 0] := ⟨rfl, by simp [Value.oneCell']⟩
    have hb := built_rpoint sX sY so
    have sP : Sz 48 (cat3 X Y #[.int .i64 1, .int .i64 0, .int .i64 0, .int .i64 0, .int .i64 0, .int .i64 0, .int .i64 0, .int .i64 0, .int .i64 0, .int .i64 0, .int .i64 0, .int .i64 0, .int .i64 0, .int .i64 0, .int .i64 0, .int .i64 0]) := sz3 sX sY so
    clear so
    go_wp2_with (first
      | (focus ((with_reducible refine' wpList_store_kn K rfl 26 (.tmp 8) _ rfl 0 _ _ _ _ _ rfl rfl Try.szN5 _ _ _); rotate_left 2; (focus exact rfl); (focus (with_reducible assumption)); intro wz Kz; clear K; have K := Kz; clear Kz; simp only [List.set_cons_zero, List.set_cons_succ] at K; have cx := K.cell 0 rfl 0 HX.out; try (simp only [Act.put, List.setIfInBounds_toArray, List.set_cons_zero, List.set_cons_succ])))
      | (focus ((with_reducible refine' wpList_load_kn_gd K _ 26 (.tmp 8) rfl 0 _ _ _ _ rfl _ Try.underlying26 rfl Try.szN5 _ _); rotate_left 3; (focus exact rfl); rotate_left 1; (focus exact rfl)))
      | (focus (first | ((with_reducible refine' wpList_load_kn K rfl 26 (.tmp 8) rfl 0 _ _ _ _ rfl _ Try.underlying26 rfl Try.szN5 _ _); rotate_left 2; (focus exact rfl)) | ((with_reducible refine' wpList_load_kn K rfl 26 (.tmp 5) rfl 2 _ _ _ _ rfl _ Try.underlying26 rfl Try.szN5 _ _); rotate_left 2; (focus exact rfl)) | (with_reducible refine' wpList_build1 rfl 26 _ _ _ rfl _ hb rfl _) | (with_reducible refine' wpList_build3 rfl 74 _ _ _ _ _ _ _ _ _ rfl _ hb rfl rfl rfl _)))
      | (focus ((first | ((with_reducible refine' wpList_store_kn K rfl 26 (.tmp 8) _ rfl 0 _ _ _ _ _ rfl rfl Try.szN5 _ _ _); rotate_left 2; (focus exact rfl)) | ((with_reducible refine' wpList_store_kn K rfl 74 (.tmp 2) _ rfl 3 _ _ _ _ _ rfl rfl Try.szRp _ _ _); rotate_left 2; (focus exact rfl))); (focus (with_reducible assumption)); intro wz Kz; clear K; have K := Kz; clear Kz; simp only [List.set_cons_zero, List.set_cons_succ] at K; try (simp only [Act.put, List.setIfInBounds_toArray, List.set_cons_zero, List.set_cons_succ]))))
    refine bodyPost_ret (results_kn_tmp K rfl _ 3 _ _ _ _ rfl _ Try.underlying74 rfl Try.szRp rfl) rfl ?_
    exact ⟨rfl, K.fr⟩
set_option maxRecDepth 100000 in
set_option maxHeartbeats 3200000 in
theorem rdec_neg1 (z v xz : Nat) (SC SB SD : ByteArray) (Y Q U D E V X N : Array Value) (w : World)
    (FB : Ans Try.prog 30 #[.string SC] (.agg Y))
    (BY : Ans Try.prog 31 #[.agg Y] (.string SB))
    (M1 : Ans Try.prog 23 #[.agg Y, .agg Y] (.agg Q))
    (SU : Ans Try.prog 21 #[.agg Q, .agg #[.int .i64 1, .int .i64 0, .int .i64 0, .int .i64 0, .int .i64 0, .int .i64 0, .int .i64 0, .int .i64 0, .int .i64 0, .int .i64 0, .int .i64 0, .int .i64 0, .int .i64 0, .int .i64 0, .int .i64 0, .int .i64 0]] (.agg U))
    (DD : Ans Try.prog 96 #[] (.agg D))
    (M2 : Ans Try.prog 23 #[.agg D, .agg Q] (.agg E))
    (AD : Ans Try.prog 19 #[.agg E, .agg #[.int .i64 1, .int .i64 0, .int .i64 0, .int .i64 0, .int .i64 0, .int .i64 0, .int .i64 0, .int .i64 0, .int .i64 0, .int .i64 0, .int .i64 0, .int .i64 0, .int .i64 0, .int .i64 0, .int .i64 0, .int .i64 0]] (.agg V))
    (RT : Ans Try.prog 38 #[.agg U, .agg V] (.tuple #[.agg X, .bool true]))
    (NE : Ans Try.prog 25 #[.agg X] (.agg N))
    (hi : ∀ W : World, (Instr.index 9 (.string SC) (.int .i64 31)).run Try.prog W = .ok (.int .u8 (z : Int)) W) (hz : decide ((128 : Int) ≤ (z : Int)) = true) (CV : ∀ W : World, (convert 9 40 (.string SC)).run Try.prog W = .ok (.slice (some ⟨W.heap.size, 0, none⟩) 32 (grownCap W SC.size 0 5)) (Lib.bytesWorld W 5 SC)) (C31 : ∀ W : World, (Lib.bytesWorld W 5 SC).cell? ⟨W.heap.size, 31, none⟩ = some (.int .u8 (z : Int))) (F31 : ∀ W : World, (Lib.bytesWorld W 5 SC).frozen? ⟨W.heap.size, 31, none⟩ = false) (hv : bits .and .u8 (z : Int) 127 = (v : Int))
    (CS : ∀ (W W2 : World) (c : Nat), Fr (fun _ => False) ((Lib.bytesWorld W 5 SC).setCell ⟨W.heap.size, 31, none⟩ (.int .u8 (v : Int))) W2 → (convert 40 9 (.slice (some ⟨W.heap.size, 0, none⟩) 32 c)).run Try.prog W2 = .ok (.string SD) W2) (E0 : (SB.toList == SD.toList) = true)
    (E9 : ∀ W : World, (binOp .eql 26 (.agg X) (.agg #[.int .i64 0, .int .i64 0, .int .i64 0, .int .i64 0, .int .i64 0, .int .i64 0, .int .i64 0, .int .i64 0, .int .i64 0, .int .i64 0, .int .i64 0, .int .i64 0, .int .i64 0, .int .i64 0, .int .i64 0, .int .i64 0])).run Try.prog W = .ok (.bool false) W) (x0 : X[0]? = some (.int .i64 (xz : Int))) (hp : (xz : Int).tmod 2 = 0)
    (sY : Sz 16 Y) (sQ : Sz 16 Q) (sX : Sz 16 X) (sN : Sz 16 N) :
    Calls Try.prog 71 #[.string SC] w fun e w' => e = .returned (.tuple #[.agg (cat3 N Y #[.int .i64 1, .int .i64 0, .int .i64 0, .int .i64 0, .int .i64 0, .int .i64 0, .int .i64 0, .int .i64 0, .int .i64 0, .int .i64 0, .int .i64 0, .int .i64 0, .int .i64 0, .int .i64 0, .int .i64 0, .int .i64 0]), .int .i64 0]) ∧ Fr (fun _ => False) w w' := by
  have HCV := Lib.hid CV
  have HC := Lib.hid C31
  have HF := Lib.hid F31
  have HCS := Lib.hid CS
  clear CV C31 F31 CS
  have s0 : Sz 48 #[.int .i64 0, .int .i64 0, .int .i64 0, .int .i64 0, .int .i64 0, .int .i64 0, .int .i64 0, .int .i64 0, .int .i64 0, .int .i64 0, .int .i64 0, .int .i64 0, .int .i64 0, .int .i64 0, .int .i64 0, .int .i64 0, .int .i64 0, .int .i64 0, .int .i64 0, .int .i64 0, .int .i64 0, .int .i64 0, .int .i64 0, .int .i64 0, .int .i64 0, .int .i64 0, .int .i64 0, .int .i64 0, .int .i64 0, .int .i64 0, .int .i64 0, .int .i64 0, .int .i64 0, .int .i64 0, .int .i64 0, .int .i64 0, .int .i64 0, .int .i64 0, .int .i64 0, .int .i64 0, .int .i64 0, .int .i64 0, .int .i64 0, .int .i64 0, .int .i64 0, .int .i64 0, .int .i64 0, .int .i64 0] := ⟨rfl, by simp [Value.oneCell']⟩
  have EG := Try.guardNum5
  have E1 : (!SB.toList == SD.toList) = false := by rw [E0]; rfl
  have HX := Lib.hid x0
  clear x0
  have K := ((Kn.start w).new (w.heap.size) 48 #[.int .i64 0, .int .i64 0, .int .i64 0, .int .i64 0, .int .i64 0, .int .i64 0, .int .i64 0, .int .i64 0, .int .i64 0, .int .i64 0, .int .i64 0, .int .i64 0, .int .i64 0, .int .i64 0, .int .i64 0, .int .i64 0, .int .i64 0, .int .i64 0, .int .i64 0, .int .i64 0, .int .i64 0, .int .i64 0, .int .i64 0, .int .i64 0, .int .i64 0, .int .i64 0, .int .i64 0, .int .i64 0, .int .i64 0, .int .i64 0, .int .i64 0, .int .i64 0, .int .i64 0, .int .i64 0, .int .i64 0, .int .i64 0, .int .i64 0, .int .i64 0, .int .i64 0, .int .i64 0, .int .i64 0, .int .i64 0, .int .i64 0, .int .i64 0, .int .i64 0, .int .i64 0, .int .i64 0, .int .i64 0] 74 rfl rfl)
  go_enter Try.func71, Try.ntmps71
  go_wp2_with (first
      | (focus ((with_reducible refine' wpList_store_kn K rfl 26 (.tmp 5) _ rfl 0 _ _ _ _ _ rfl rfl Try.szN5 _ _ _); rotate_left 2; (focus exact rfl); (focus (with_reducible assumption)); intro wz Kz; clear K; have K := Kz; clear Kz; simp only [List.set_cons_zero, List.set_cons_succ] at K; have kc := HCV.out wz; have c31 := HC.out wz; have f31 := HF.out wz; try (simp only [Act.put, List.setIfInBounds_toArray, List.set_cons_zero, List.set_cons_succ])))
      | (focus ((first | ((with_reducible refine' wpList_store_kn K rfl 26 (.tmp 5) _ rfl 0 _ _ _ _ _ rfl rfl Try.szN5 _ _ _); rotate_left 2; (focus exact rfl))); (focus (with_reducible assumption)); intro wz Kz; clear K; have K := Kz; clear Kz; simp only [List.set_cons_zero, List.set_cons_succ] at K; try (simp only [Act.put, List.setIfInBounds_toArray, List.set_cons_zero, List.set_cons_succ])))
      | ((with_reducible refine wpList_new_kn K 26 _ _ _ _ #[.int .i64 0, .int .i64 0, .int .i64 0, .int .i64 0, .int .i64 0, .int .i64 0, .int .i64 0, .int .i64 0, .int .i64 0, .int .i64 0, .int .i64 0, .int .i64 0, .int .i64 0, .int .i64 0, .int .i64 0, .int .i64 0] 16 rfl Try.alN5 rfl ?_); intro gz wz Kz; clear K; have K := Kz; clear Kz; try (simp only [Act.put, List.setIfInBounds_toArray, List.set_cons_zero, List.set_cons_succ]))
      | (go_at_call 30; (with_reducible refine Calls.kn K (FB _) ?_); intro wz Kz; clear K; have K := Kz; clear Kz))
  have ks : ∀ (y : Wd ((Lib.bytesWorld wz 5 SC).setCell ⟨wz.heap.size, 31, none⟩ (.int .u8 (v : Int)))) (c : Nat), (convert 40 9 (.slice (some ⟨wz.heap.size, 0, none⟩) 32 c)).run Try.prog y.w = .ok (.string SD) y.w := fun y c => HCS.out wz y.w c y.h
  have Kz := K.call ((own_str_fr wz SC).setCell (p := ⟨wz.heap.size, 31, none⟩) (Or.inr (Nat.le_refl _)) (.int .u8 (v : Int)))
  clear K
  have K := Kz
  clear Kz kc c31 f31 HCV HC HF HCS
  generalize (Lib.bytesWorld wz 5 SC).setCell ⟨wz.heap.size, 31, none⟩ (.int .u8 (v : Int)) = W2 at *
  refine wp_region_keep (by kernel_rfl) (by kernel_rfl) ?_
  repeat (any_goals (first | (focus (go_big_quiet_want; (first | ((with_reducible refine' quiet_load_kn K 26 (.tmp 5) rfl 0 _ _ _ _ rfl _ Try.underlying26 rfl Try.szN5 _ _); rotate_left 2; (focus exact rfl))); simp only [Act.put, List.setIfInBounds_toArray, List.set_cons_zero, List.set_cons_succ]; go_big_quiet_on)) | go_big_quiet_step ((first | (go_at_call 31; with_reducible exact Calls.keep (BY _)))) | quiet_step ((first | (go_at_call 31; with_reducible exact Calls.keep (BY _))))))
  refine wpQuiet_nil ?_
  intro _ hwz
  obtain ⟨y, rfl⟩ := hwz
  have Kz := K.call y.h
  clear K ks
  have K := Kz
  clear Kz
  generalize y.w = wz at K ⊢
  clear y
  go_wp2_with (first
      | (focus (first | ((with_reducible refine' wpList_load_kn K rfl 26 (.tmp 5) rfl 0 _ _ _ _ rfl _ Try.underlying26 rfl Try.szN5 _ _); rotate_left 2; (focus exact rfl))))
      | (focus ((first | ((with_reducible refine' wpList_store_kn K rfl 26 (.tmp 7) _ rfl 0 _ _ _ _ _ rfl rfl Try.szN5 _ _ _); rotate_left 2; (focus exact rfl))); (focus (with_reducible assumption)); intro wz Kz; clear K; have K := Kz; clear Kz; simp only [List.set_cons_zero, List.set_cons_succ] at K; try (simp only [Act.put, List.setIfInBounds_toArray, List.set_cons_zero, List.set_cons_succ])))
      | ((with_reducible refine wpList_new_kn K 26 _ _ _ _ #[.int .i64 0, .int .i64 0, .int .i64 0, .int .i64 0, .int .i64 0, .int .i64 0, .int .i64 0, .int .i64 0, .int .i64 0, .int .i64 0, .int .i64 0, .int .i64 0, .int .i64 0, .int .i64 0, .int .i64 0, .int .i64 0] 16 rfl Try.alN5 rfl ?_); intro gz wz Kz; clear K; have K := Kz; clear Kz; try (simp only [Act.put, List.setIfInBounds_toArray, List.set_cons_zero, List.set_cons_succ]))
      | (go_at_call 23; (with_reducible refine Calls.kn K (M1 _) ?_); intro wz Kz; clear K; have K := Kz; clear Kz)
      | (go_at_call 23; (with_reducible refine Calls.kn K (M2 _) ?_); intro wz Kz; clear K; have K := Kz; clear Kz))
  refine wp_region_kn_late K 12 [11] [(8, 16, #[.int .i64 0, .int .i64 0, .int .i64 0, .int .i64 0, .int .i64 0, .int .i64 0, .int .i64 0, .int .i64 0, .int .i64 0, .int .i64 0, .int .i64 0, .int .i64 0, .int .i64 0, .int .i64 0, .int .i64 0, .int .i64 0], 26)] (fun _ _ _ _ _ _ h => h) (by kernel_rfl) (by kernel_rfl) (mk_one ⟨_, rfl, makes_alloc _ _ _ _ _ _ Try.alN5⟩) (sz_one rfl) ?_
  apply Exists.intro
  refine ⟨?wk8, ?fin8⟩
  case wk8 =>
    intro γ
  
    simp only [List.take_succ_cons, List.take_zero]
    repeat (any_goals (first | (focus (go_big_quiet_want; (first | ((with_reducible refine' quiet_load_kng K 26 (.tmp 7) rfl 0 _ _ _ _ rfl _ Try.underlying26 rfl Try.szN5 _ _); rotate_left 2; (focus exact rfl)) | (with_reducible refine' quiet_build1 26 _ _ _ rfl _ hb rfl _)); simp only [Act.put, List.setIfInBounds_toArray, List.set_cons_zero, List.set_cons_succ]; go_big_quiet_on)) | go_big_quiet_step ((first | (go_at_call 23; with_reducible exact Calls.keepg (M1 _)) | (go_at_call 21; with_reducible exact Calls.keepg (SU _)) | (go_at_call 96; with_reducible exact Calls.keepg (DD _)) | (go_at_call 23; with_reducible exact Calls.keepg (M2 _)) | (go_at_call 19; with_reducible exact Calls.keepg (AD _)) | (go_at_call 38; with_reducible exact Calls.keepg (RT _)))) | quiet_step ((first | (go_at_call 23; with_reducible exact Calls.keepg (M1 _)) | (go_at_call 21; with_reducible exact Calls.keepg (SU _)) | (go_at_call 96; with_reducible exact Calls.keepg (DD _)) | (go_at_call 23; with_reducible exact Calls.keepg (M2 _)) | (go_at_call 19; with_reducible exact Calls.keepg (AD _)) | (go_at_call 38; with_reducible exact Calls.keepg (RT _))))))
    exact wpQuiet_nil rfl
  case fin8 =>
    intro gs wz Kz
    clear K
    have K := Kz
    clear Kz
    try simp only [mkAll, asObj, List.map_cons, List.map_nil, putAll, List.drop_succ_cons, List.drop_zero, List.length_cons, List.length_nil, Nat.zero_add, Nat.add_zero] at K ⊢
    try simp only [Act.put, List.setIfInBounds_toArray, List.set_cons_zero, List.set_cons_succ]
    generalize gs 0 = gz0 at *
    have so : Sz 16 #[.int .i64 1, .int .i64 0, .int .i64 0, .int .i64 0, .int .i64 0, .int .i64 0, .int .i64 0, .int .i64 0, .int .i64 0, .int .i64 0, .int .i64 0, .int .i64 0, .int .i64 0, .int .i64 0, .int .i64 0, .int .i64 0] := ⟨rfl, by simp [Value.oneCell']⟩
    have hb := built_rpoint sN sY so
    have sP : Sz 48 (cat3 N Y #[.int .i64 1, .int .i64 0, .int .i64 0, .int .i64 0, .int .i64 0, .int .i64 0, .int .i64 0, .int .i64 0, .int .i64 0, .int .i64 0, .int .i64 0, .int .i64 0, .int .i64 0, .int .i64 0, .int .i64 0, .int .i64 0]) := sz3 sN sY so
    clear so
    go_wp2_with (first
      | (focus ((with_reducible refine' wpList_store_kn K rfl 26 (.tmp 8) _ rfl 0 _ _ _ _ _ rfl rfl Try.szN5 _ _ _); rotate_left 2; (focus exact rfl); (focus (with_reducible assumption)); intro wz Kz; clear K; have K := Kz; clear Kz; simp only [List.set_cons_zero, List.set_cons_succ] at K; have cx := K.cell 0 rfl 0 HX.out; try (simp only [Act.put, List.setIfInBounds_toArray, List.set_cons_zero, List.set_cons_succ])))
      | (focus ((with_reducible refine' wpList_load_kn_gd K _ 26 (.tmp 8) rfl 0 _ _ _ _ rfl _ Try.underlying26 rfl Try.szN5 _ _); rotate_left 3; (focus exact rfl); rotate_left 1; (focus exact rfl)))
      | (focus (first | ((with_reducible refine' wpList_load_kn K rfl 26 (.tmp 8) rfl 0 _ _ _ _ rfl _ Try.underlying26 rfl Try.szN5 _ _); rotate_left 2; (focus exact rfl)) | ((with_reducible refine' wpList_load_kn K rfl 26 (.tmp 5) rfl 2 _ _ _ _ rfl _ Try.underlying26 rfl Try.szN5 _ _); rotate_left 2; (focus exact rfl)) | (with_reducible refine' wpList_build1 rfl 26 _ _ _ rfl _ hb rfl _) | (with_reducible refine' wpList_build3 rfl 74 _ _ _ _ _ _ _ _ _ rfl _ hb rfl rfl rfl _)))
      | (focus ((first | ((with_reducible refine' wpList_store_kn K rfl 26 (.tmp 8) _ rfl 0 _ _ _ _ _ rfl rfl Try.szN5 _ _ _); rotate_left 2; (focus exact rfl)) | ((with_reducible refine' wpList_store_kn K rfl 74 (.tmp 2) _ rfl 3 _ _ _ _ _ rfl rfl Try.szRp _ _ _); rotate_left 2; (focus exact rfl))); (focus (with_reducible assumption)); intro wz Kz; clear K; have K := Kz; clear Kz; simp only [List.set_cons_zero, List.set_cons_succ] at K; try (simp only [Act.put, List.setIfInBounds_toArray, List.set_cons_zero, List.set_cons_succ])))
      | (go_at_call 25; (with_reducible refine Calls.kn K (NE _) ?_); intro wz Kz; clear K; have K := Kz; clear Kz))
    refine bodyPost_ret (results_kn_tmp K rfl _ 3 _ _ _ _ rfl _ Try.underlying74 rfl Try.szRp rfl) rfl ?_
    exact ⟨rfl, K.fr⟩
set_option maxRecDepth 100000 in
set_option maxHeartbeats 3200000 in
theorem rdec_zero1 (z v xz : Nat) (SC SB SD : ByteArray) (Y Q U D E V X N : Array Value) (w : World)
    (FB : Ans Try.prog 30 #[.string SC] (.agg Y))
    (BY : Ans Try.prog 31 #[.agg Y] (.string SB))
    (M1 : Ans Try.prog 23 #[.agg Y, .agg Y] (.agg Q))
    (SU : Ans Try.prog 21 #[.agg Q, .agg #[.int .i64 1, .int .i64 0, .int .i64 0, .int .i64 0, .int .i64 0, .int .i64 0, .int .i64 0, .int .i64 0, .int .i64 0, .int .i64 0, .int .i64 0, .int .i64 0, .int .i64 0, .int .i64 0, .int .i64 0, .int .i64 0]] (.agg U))
    (DD : Ans Try.prog 96 #[] (.agg D))
    (M2 : Ans Try.prog 23 #[.agg D, .agg Q] (.agg E))
    (AD : Ans Try.prog 19 #[.agg E, .agg #[.int .i64 1, .int .i64 0, .int .i64 0, .int .i64 0, .int .i64 0, .int .i64 0, .int .i64 0, .int .i64 0, .int .i64 0, .int .i64 0, .int .i64 0, .int .i64 0, .int .i64 0, .int .i64 0, .int .i64 0, .int .i64 0]] (.agg V))
    (RT : Ans Try.prog 38 #[.agg U, .agg V] (.tuple #[.agg X, .bool true]))
    (hi : ∀ W : World, (Instr.index 9 (.string SC) (.int .i64 31)).run Try.prog W = .ok (.int .u8 (z : Int)) W) (hz : decide ((128 : Int) ≤ (z : Int)) = true) (CV : ∀ W : World, (convert 9 40 (.string SC)).run Try.prog W = .ok (.slice (some ⟨W.heap.size, 0, none⟩) 32 (grownCap W SC.size 0 5)) (Lib.bytesWorld W 5 SC)) (C31 : ∀ W : World, (Lib.bytesWorld W 5 SC).cell? ⟨W.heap.size, 31, none⟩ = some (.int .u8 (z : Int))) (F31 : ∀ W : World, (Lib.bytesWorld W 5 SC).frozen? ⟨W.heap.size, 31, none⟩ = false) (hv : bits .and .u8 (z : Int) 127 = (v : Int))
    (CS : ∀ (W W2 : World) (c : Nat), Fr (fun _ => False) ((Lib.bytesWorld W 5 SC).setCell ⟨W.heap.size, 31, none⟩ (.int .u8 (v : Int))) W2 → (convert 40 9 (.slice (some ⟨W.heap.size, 0, none⟩) 32 c)).run Try.prog W2 = .ok (.string SD) W2) (E0 : (SB.toList == SD.toList) = true)
    (E9 : ∀ W : World, (binOp .eql 26 (.agg X) (.agg #[.int .i64 0, .int .i64 0, .int .i64 0, .int .i64 0, .int .i64 0, .int .i64 0, .int .i64 0, .int .i64 0, .int .i64 0, .int .i64 0, .int .i64 0, .int .i64 0, .int .i64 0, .int .i64 0, .int .i64 0, .int .i64 0])).run Try.prog W = .ok (.bool true) W) (x0 : X[0]? = some (.int .i64 (xz : Int)))
    (sY : Sz 16 Y) (sQ : Sz 16 Q) (sX : Sz 16 X) (sN : Sz 16 N) :
    Calls Try.prog 71 #[.string SC] w fun e w' => e = .returned (.tuple #[.agg #[.int .i64 0, .int .i64 0, .int .i64 0, .int .i64 0, .int .i64 0, .int .i64 0, .int .i64 0, .int .i64 0, .int .i64 0, .int .i64 0, .int .i64 0, .int .i64 0, .int .i64 0, .int .i64 0, .int .i64 0, .int .i64 0, .int .i64 0, .int .i64 0, .int .i64 0, .int .i64 0, .int .i64 0, .int .i64 0, .int .i64 0, .int .i64 0, .int .i64 0, .int .i64 0, .int .i64 0, .int .i64 0, .int .i64 0, .int .i64 0, .int .i64 0, .int .i64 0, .int .i64 0, .int .i64 0, .int .i64 0, .int .i64 0, .int .i64 0, .int .i64 0, .int .i64 0, .int .i64 0, .int .i64 0, .int .i64 0, .int .i64 0, .int .i64 0, .int .i64 0, .int .i64 0, .int .i64 0, .int .i64 0], .int .i64 15]) ∧ Fr (fun _ => False) w w' := by
  have HCV := Lib.hid CV
  have HC := Lib.hid C31
  have HF := Lib.hid F31
  have HCS := Lib.hid CS
  clear CV C31 F31 CS
  have s0 : Sz 48 #[.int .i64 0, .int .i64 0, .int .i64 0, .int .i64 0, .int .i64 0, .int .i64 0, .int .i64 0, .int .i64 0, .int .i64 0, .int .i64 0, .int .i64 0, .int .i64 0, .int .i64 0, .int .i64 0, .int .i64 0, .int .i64 0, .int .i64 0, .int .i64 0, .int .i64 0, .int .i64 0, .int .i64 0, .int .i64 0, .int .i64 0, .int .i64 0, .int .i64 0, .int .i64 0, .int .i64 0, .int .i64 0, .int .i64 0, .int .i64 0, .int .i64 0, .int .i64 0, .int .i64 0, .int .i64 0, .int .i64 0, .int .i64 0, .int .i64 0, .int .i64 0, .int .i64 0, .int .i64 0, .int .i64 0, .int .i64 0, .int .i64 0, .int .i64 0, .int .i64 0, .int .i64 0, .int .i64 0, .int .i64 0] := ⟨rfl, by simp [Value.oneCell']⟩
  have EG := Try.guardNum5
  have E1 : (!SB.toList == SD.toList) = false := by rw [E0]; rfl
  have HX := Lib.hid x0
  clear x0
  have K := ((Kn.start w).new (w.heap.size) 48 #[.int .i64 0, .int .i64 0, .int .i64 0, .int .i64 0, .int .i64 0, .int .i64 0, .int .i64 0, .int .i64 0, .int .i64 0, .int .i64 0, .int .i64 0, .int .i64 0, .int .i64 0, .int .i64 0, .int .i64 0, .int .i64 0, .int .i64 0, .int .i64 0, .int .i64 0, .int .i64 0, .int .i64 0, .int .i64 0, .int .i64 0, .int .i64 0, .int .i64 0, .int .i64 0, .int .i64 0, .int .i64 0, .int .i64 0, .int .i64 0, .int .i64 0, .int .i64 0, .int .i64 0, .int .i64 0, .int .i64 0, .int .i64 0, .int .i64 0, .int .i64 0, .int .i64 0, .int .i64 0, .int .i64 0, .int .i64 0, .int .i64 0, .int .i64 0, .int .i64 0, .int .i64 0, .int .i64 0, .int .i64 0] 74 rfl rfl)
  go_enter Try.func71, Try.ntmps71
  go_wp2_with (first
      | (focus ((with_reducible refine' wpList_store_kn K rfl 26 (.tmp 5) _ rfl 0 _ _ _ _ _ rfl rfl Try.szN5 _ _ _); rotate_left 2; (focus exact rfl); (focus (with_reducible assumption)); intro wz Kz; clear K; have K := Kz; clear Kz; simp only [List.set_cons_zero, List.set_cons_succ] at K; have kc := HCV.out wz; have c31 := HC.out wz; have f31 := HF.out wz; try (simp only [Act.put, List.setIfInBounds_toArray, List.set_cons_zero, List.set_cons_succ])))
      | (focus ((first | ((with_reducible refine' wpList_store_kn K rfl 26 (.tmp 5) _ rfl 0 _ _ _ _ _ rfl rfl Try.szN5 _ _ _); rotate_left 2; (focus exact rfl))); (focus (with_reducible assumption)); intro wz Kz; clear K; have K := Kz; clear Kz; simp only [List.set_cons_zero, List.set_cons_succ] at K; try (simp only [Act.put, List.setIfInBounds_toArray, List.set_cons_zero, List.set_cons_succ])))
      | ((with_reducible refine wpList_new_kn K 26 _ _ _ _ #[.int .i64 0, .int .i64 0, .int .i64 0, .int .i64 0, .int .i64 0, .int .i64 0, .int .i64 0, .int .i64 0, .int .i64 0, .int .i64 0, .int .i64 0, .int .i64 0, .int .i64 0, .int .i64 0, .int .i64 0, .int .i64 0] 16 rfl Try.alN5 rfl ?_); intro gz wz Kz; clear K; have K := Kz; clear Kz; try (simp only [Act.put, List.setIfInBounds_toArray, List.set_cons_zero, List.set_cons_succ]))
      | (go_at_call 30; (with_reducible refine Calls.kn K (FB _) ?_); intro wz Kz; clear K; have K := Kz; clear Kz))
  have ks : ∀ (y : Wd ((Lib.bytesWorld wz 5 SC).setCell ⟨wz.heap.size, 31, none⟩ (.int .u8 (v : Int)))) (c : Nat), (convert 40 9 (.slice (some ⟨wz.heap.size, 0, none⟩) 32 c)).run Try.prog y.w = .ok (.string SD) y.w := fun y c => HCS.out wz y.w c y.h
  have Kz := K.call ((own_str_fr wz SC).setCell (p := ⟨wz.heap.size, 31, none⟩) (Or.inr (Nat.le_refl _)) (.int .u8 (v : Int)))
  clear K
  have K := Kz
  clear Kz kc c31 f31 HCV HC HF HCS
  generalize (Lib.bytesWorld wz 5 SC).setCell ⟨wz.heap.size, 31, none⟩ (.int .u8 (v : Int)) = W2 at *
  refine wp_region_keep (by kernel_rfl) (by kernel_rfl) ?_
  repeat (any_goals (first | (focus (go_big_quiet_want; (first | ((with_reducible refine' quiet_load_kn K 26 (.tmp 5) rfl 0 _ _ _ _ rfl _ Try.underlying26 rfl Try.szN5 _ _); rotate_left 2; (focus exact rfl))); simp only [Act.put, List.setIfInBounds_toArray, List.set_cons_zero, List.set_cons_succ]; go_big_quiet_on)) | go_big_quiet_step ((first | (go_at_call 31; with_reducible exact Calls.keep (BY _)))) | quiet_step ((first | (go_at_call 31; with_reducible exact Calls.keep (BY _))))))
  refine wpQuiet_nil ?_
  intro _ hwz
  obtain ⟨y, rfl⟩ := hwz
  have Kz := K.call y.h
  clear K ks
  have K := Kz
  clear Kz
  generalize y.w = wz at K ⊢
  clear y
  go_wp2_with (first
      | (focus (first | ((with_reducible refine' wpList_load_kn K rfl 26 (.tmp 5) rfl 0 _ _ _ _ rfl _ Try.underlying26 rfl Try.szN5 _ _); rotate_left 2; (focus exact rfl))))
      | (focus ((first | ((with_reducible refine' wpList_store_kn K rfl 26 (.tmp 7) _ rfl 0 _ _ _ _ _ rfl rfl Try.szN5 _ _ _); rotate_left 2; (focus exact rfl))); (focus (with_reducible assumption)); intro wz Kz; clear K; have K := Kz; clear Kz; simp only [List.set_cons_zero, List.set_cons_succ] at K; try (simp only [Act.put, List.setIfInBounds_toArray, List.set_cons_zero, List.set_cons_succ])))
      | ((with_reducible refine wpList_new_kn K 26 _ _ _ _ #[.int .i64 0, .int .i64 0, .int .i64 0, .int .i64 0, .int .i64 0, .int .i64 0, .int .i64 0, .int .i64 0, .int .i64 0, .int .i64 0, .int .i64 0, .int .i64 0, .int .i64 0, .int .i64 0, .int .i64 0, .int .i64 0] 16 rfl Try.alN5 rfl ?_); intro gz wz Kz; clear K; have K := Kz; clear Kz; try (simp only [Act.put, List.setIfInBounds_toArray, List.set_cons_zero, List.set_cons_succ]))
      | (go_at_call 23; (with_reducible refine Calls.kn K (M1 _) ?_); intro wz Kz; clear K; have K := Kz; clear Kz)
      | (go_at_call 23; (with_reducible refine Calls.kn K (M2 _) ?_); intro wz Kz; clear K; have K := Kz; clear Kz))
  refine wp_region_kn_late K 12 [11] [(8, 16, #[.int .i64 0, .int .i64 0, .int .i64 0, .int .i64 0, .int .i64 0, .int .i64 0, .int .i64 0, .int .i64 0, .int .i64 0, .int .i64 0, .int .i64 0, .int .i64 0, .int .i64 0, .int .i64 0, .int .i64 0, .int .i64 0], 26)] (fun _ _ _ _ _ _ h => h) (by kernel_rfl) (by kernel_rfl) (mk_one ⟨_, rfl, makes_alloc _ _ _ _ _ _ Try.alN5⟩) (sz_one rfl) ?_
  apply Exists.intro
  refine ⟨?wk8, ?fin8⟩
  case wk8 =>
    intro γ
  
    simp only [List.take_succ_cons, List.take_zero]
    repeat (any_goals (first | (focus (go_big_quiet_want; (first | ((with_reducible refine' quiet_load_kng K 26 (.tmp 7) rfl 0 _ _ _ _ rfl _ Try.underlying26 rfl Try.szN5 _ _); rotate_left 2; (focus exact rfl))); simp only [Act.put, List.setIfInBounds_toArray, List.set_cons_zero, List.set_cons_succ]; go_big_quiet_on)) | go_big_quiet_step ((first | (go_at_call 23; with_reducible exact Calls.keepg (M1 _)) | (go_at_call 21; with_reducible exact Calls.keepg (SU _)) | (go_at_call 96; with_reducible exact Calls.keepg (DD _)) | (go_at_call 23; with_reducible exact Calls.keepg (M2 _)) | (go_at_call 19; with_reducible exact Calls.keepg (AD _)) | (go_at_call 38; with_reducible exact Calls.keepg (RT _)))) | quiet_step ((first | (go_at_call 23; with_reducible exact Calls.keepg (M1 _)) | (go_at_call 21; with_reducible exact Calls.keepg (SU _)) | (go_at_call 96; with_reducible exact Calls.keepg (DD _)) | (go_at_call 23; with_reducible exact Calls.keepg (M2 _)) | (go_at_call 19; with_reducible exact Calls.keepg (AD _)) | (go_at_call 38; with_reducible exact Calls.keepg (RT _))))))
    exact wpQuiet_nil rfl
  case fin8 =>
    intro gs wz Kz
    clear K
    have K := Kz
    clear Kz
    try simp only [mkAll, asObj, List.map_cons, List.map_nil, putAll, List.drop_succ_cons, List.drop_zero, List.length_cons, List.length_nil, Nat.zero_add, Nat.add_zero] at K ⊢
    try simp only [Act.put, List.setIfInBounds_toArray, List.set_cons_zero, List.set_cons_succ]
    generalize gs 0 = gz0 at *
    go_wp2_with (first
      | (focus ((with_reducible refine' wpList_store_kn K rfl 26 (.tmp 8) _ rfl 0 _ _ _ _ _ rfl rfl Try.szN5 _ _ _); rotate_left 2; (focus exact rfl); (focus (with_reducible assumption)); intro wz Kz; clear K; have K := Kz; clear Kz; simp only [List.set_cons_zero, List.set_cons_succ] at K; have cx := K.cell 0 rfl 0 HX.out; try (simp only [Act.put, List.setIfInBounds_toArray, List.set_cons_zero, List.set_cons_succ])))
      | (focus ((with_reducible refine' wpList_load_kn_gd K _ 26 (.tmp 8) rfl 0 _ _ _ _ rfl _ Try.underlying26 rfl Try.szN5 _ _); rotate_left 3; (focus exact rfl); rotate_left 1; (focus exact rfl)))
      | (focus (first | ((with_reducible refine' wpList_load_kn K rfl 26 (.tmp 8) rfl 0 _ _ _ _ rfl _ Try.underlying26 rfl Try.szN5 _ _); rotate_left 2; (focus exact rfl))))
      | (focus ((first | ((with_reducible refine' wpList_store_kn K rfl 26 (.tmp 8) _ rfl 0 _ _ _ _ _ rfl rfl Try.szN5 _ _ _); rotate_left 2; (focus exact rfl)) | ((with_reducible refine' wpList_store_kn K rfl 74 (.tmp 2) _ rfl 3 _ _ _ _ _ rfl rfl Try.szRp _ _ _); rotate_left 2; (focus exact rfl))); (focus (with_reducible assumption)); intro wz Kz; clear K; have K := Kz; clear Kz; simp only [List.set_cons_zero, List.set_cons_succ] at K; try (simp only [Act.put, List.setIfInBounds_toArray, List.set_cons_zero, List.set_cons_succ]))))
    refine bodyPost_ret (results_kn_tmp K rfl _ 3 _ _ _ _ rfl _ Try.underlying74 rfl Try.szRp rfl) rfl ?_
    exact ⟨rfl, K.fr⟩
set_option maxRecDepth 100000 in
set_option maxHeartbeats 3200000 in
theorem rdec_nought0 (z v xz : Nat) (SC SB SD : ByteArray) (Y Q U D E V X N : Array Value) (w : World)
    (FB : Ans Try.prog 30 #[.string SC] (.agg Y))
    (BY : Ans Try.prog 31 #[.agg Y] (.string SB))
    (M1 : Ans Try.prog 23 #[.agg Y, .agg Y] (.agg Q))
    (SU : Ans Try.prog 21 #[.agg Q, .agg #[.int .i64 1, .int .i64 0, .int .i64 0, .int .i64 0, .int .i64 0, .int .i64 0, .int .i64 0, .int .i64 0, .int .i64 0, .int .i64 0, .int .i64 0, .int .i64 0, .int .i64 0, .int .i64 0, .int .i64 0, .int .i64 0]] (.agg U))
    (DD : Ans Try.prog 96 #[] (.agg D))
    (M2 : Ans Try.prog 23 #[.agg D, .agg Q] (.agg E))
    (AD : Ans Try.prog 19 #[.agg E, .agg #[.int .i64 1, .int .i64 0, .int .i64 0, .int .i64 0, .int .i64 0, .int .i64 0, .int .i64 0, .int .i64 0, .int .i64 0, .int .i64 0, .int .i64 0, .int .i64 0, .int .i64 0, .int .i64 0, .int .i64 0, .int .i64 0]] (.agg V))
    (RT : Ans Try.prog 38 #[.agg U, .agg V] (.tuple #[.agg X, .bool true]))
    (hi : ∀ W : World, (Instr.index 9 (.string SC) (.int .i64 31)).run Try.prog W = .ok (.int .u8 (z : Int)) W) (hz : decide ((128 : Int) ≤ (z : Int)) = false) (CV : ∀ W : World, (convert 9 40 (.string SC)).run Try.prog W = .ok (.slice (some ⟨W.heap.size, 0, none⟩) 32 (grownCap W SC.size 0 5)) (Lib.bytesWorld W 5 SC)) (C31 : ∀ W : World, (Lib.bytesWorld W 5 SC).cell? ⟨W.heap.size, 31, none⟩ = some (.int .u8 (z : Int))) (F31 : ∀ W : World, (Lib.bytesWorld W 5 SC).frozen? ⟨W.heap.size, 31, none⟩ = false) (hv : bits .and .u8 (z : Int) 127 = (v : Int))
    (CS : ∀ (W W2 : World) (c : Nat), Fr (fun _ => False) ((Lib.bytesWorld W 5 SC).setCell ⟨W.heap.size, 31, none⟩ (.int .u8 (v : Int))) W2 → (convert 40 9 (.slice (some ⟨W.heap.size, 0, none⟩) 32 c)).run Try.prog W2 = .ok (.string SD) W2) (E0 : (SB.toList == SD.toList) = true)
    (E9 : ∀ W : World, (binOp .eql 26 (.agg X) (.agg #[.int .i64 0, .int .i64 0, .int .i64 0, .int .i64 0, .int .i64 0, .int .i64 0, .int .i64 0, .int .i64 0, .int .i64 0, .int .i64 0, .int .i64 0, .int .i64 0, .int .i64 0, .int .i64 0, .int .i64 0, .int .i64 0])).run Try.prog W = .ok (.bool true) W) (x0 : X[0]? = some (.int .i64 (xz : Int))) (hp : (xz : Int).tmod 2 = 0)
    (sY : Sz 16 Y) (sQ : Sz 16 Q) (sX : Sz 16 X) (sN : Sz 16 N) :
    Calls Try.prog 71 #[.string SC] w fun e w' => e = .returned (.tuple #[.agg (cat3 X Y #[.int .i64 1, .int .i64 0, .int .i64 0, .int .i64 0, .int .i64 0, .int .i64 0, .int .i64 0, .int .i64 0, .int .i64 0, .int .i64 0, .int .i64 0, .int .i64 0, .int .i64 0, .int .i64 0, .int .i64 0, .int .i64 0]), .int .i64 0]) ∧ Fr (fun _ => False) w w' := by
  have HCV := Lib.hid CV
  have HC := Lib.hid C31
  have HF := Lib.hid F31
  have HCS := Lib.hid CS
  clear CV C31 F31 CS
  have s0 : Sz 48 #[.int .i64 0, .int .i64 0, .int .i64 0, .int .i64 0, .int .i64 0, .int .i64 0, .int .i64 0, .int .i64 0, .int .i64 0, .int .i64 0, .int .i64 0, .int .i64 0, .int .i64 0, .int .i64 0, .int .i64 0, .int .i64 0, .int .i64 0, .int .i64 0, .int .i64 0, .int .i64 0, .int .i64 0, .int .i64 0, .int .i64 0, .int .i64 0, .int .i64 0, .int .i64 0, .int .i64 0, .int .i64 0, .int .i64 0, .int .i64 0, .int .i64 0, .int .i64 0, .int .i64 0, .int .i64 0, .int .i64 0, .int .i64 0, .int .i64 0, .int .i64 0, .int .i64 0, .int .i64 0, .int .i64 0, .int .i64 0, .int .i64 0, .int .i64 0, .int .i64 0, .int .i64 0, .int .i64 0, .int .i64 0] := ⟨rfl, by simp [Value.oneCell']⟩
  have EG := Try.guardNum5
  have E1 : (!SB.toList == SD.toList) = false := by rw [E0]; rfl
  have HX := Lib.hid x0
  clear x0
  have K := ((Kn.start w).new (w.heap.size) 48 #[.int .i64 0, .int .i64 0, .int .i64 0, .int .i64 0, .int .i64 0, .int .i64 0, .int .i64 0, .int .i64 0, .int .i64 0, .int .i64 0, .int .i64 0, .int .i64 0, .int .i64 0, .int .i64 0, .int .i64 0, .int .i64 0, .int .i64 0, .int .i64 0, .int .i64 0, .int .i64 0, .int .i64 0, .int .i64 0, .int .i64 0, .int .i64 0, .int .i64 0, .int .i64 0, .int .i64 0, .int .i64 0, .int .i64 0, .int .i64 0, .int .i64 0, .int .i64 0, .int .i64 0, .int .i64 0, .int .i64 0, .int .i64 0, .int .i64 0, .int .i64 0, .int .i64 0, .int .i64 0, .int .i64 0, .int .i64 0, .int .i64 0, .int .i64 0, .int .i64 0, .int .i64 0, .int .i64 0, .int .i64 0] 74 rfl rfl)
  go_enter Try.func71, Try.ntmps71
  go_wp2_with (first
      | (focus ((with_reducible refine' wpList_store_kn K rfl 26 (.tmp 5) _ rfl 0 _ _ _ _ _ rfl rfl Try.szN5 _ _ _); rotate_left 2; (focus exact rfl); (focus (with_reducible assumption)); intro wz Kz; clear K; have K := Kz; clear Kz; simp only [List.set_cons_zero, List.set_cons_succ] at K; have kc := HCV.out wz; have c31 := HC.out wz; have f31 := HF.out wz; try (simp only [Act.put, List.setIfInBounds_toArray, List.set_cons_zero, List.set_cons_succ])))
      | (focus ((first | ((with_reducible refine' wpList_store_kn K rfl 26 (.tmp 5) _ rfl 0 _ _ _ _ _ rfl rfl Try.szN5 _ _ _); rotate_left 2; (focus exact rfl))); (focus (with_reducible assumption)); intro wz Kz; clear K; have K := Kz; clear Kz; simp only [List.set_cons_zero, List.set_cons_succ] at K; try (simp only [Act.put, List.setIfInBounds_toArray, List.set_cons_zero, List.set_cons_succ])))
      | ((with_reducible refine wpList_new_kn K 26 _ _ _ _ #[.int .i64 0, .int .i64 0, .int .i64 0, .int .i64 0, .int .i64 0, .int .i64 0, .int .i64 0, .int .i64 0, .int .i64 0, .int .i64 0, .int .i64 0, .int .i64 0, .int .i64 0, .int .i64 0, .int .i64 0, .int .i64 0] 16 rfl Try.alN5 rfl ?_); intro gz wz Kz; clear K; have K := Kz; clear Kz; try (simp only [Act.put, List.setIfInBounds_toArray, List.set_cons_zero, List.set_cons_succ]))
      | (go_at_call 30; (with_reducible refine Calls.kn K (FB _) ?_); intro wz Kz; clear K; have K := Kz; clear Kz))
  have ks : ∀ (y : Wd ((Lib.bytesWorld wz 5 SC).setCell ⟨wz.heap.size, 31, none⟩ (.int .u8 (v : Int)))) (c : Nat), (convert 40 9 (.slice (some ⟨wz.heap.size, 0, none⟩) 32 c)).run Try.prog y.w = .ok (.string SD) y.w := fun y c => HCS.out wz y.w c y.h
  have Kz := K.call ((own_str_fr wz SC).setCell (p := ⟨wz.heap.size, 31, none⟩) (Or.inr (Nat.le_refl _)) (.int .u8 (v : Int)))
  clear K
  have K := Kz
  clear Kz kc c31 f31 HCV HC HF HCS
  generalize (Lib.bytesWorld wz 5 SC).setCell ⟨wz.heap.size, 31, none⟩ (.int .u8 (v : Int)) = W2 at *
  refine wp_region_keep (by kernel_rfl) (by kernel_rfl) ?_
  repeat (any_goals (first | (focus (go_big_quiet_want; (first | ((with_reducible refine' quiet_load_kn K 26 (.tmp 5) rfl 0 _ _ _ _ rfl _ Try.underlying26 rfl Try.szN5 _ _); rotate_left 2; (focus exact rfl))); simp only [Act.put, List.setIfInBounds_toArray, List.set_cons_zero, List.set_cons_succ]; go_big_quiet_on)) | go_big_quiet_step ((first | (go_at_call 31; with_reducible exact Calls.keep (BY _)))) | quiet_step ((first | (go_at_call 31; with_reducible exact Calls.keep (BY _))))))
  refine wpQuiet_nil ?_
  intro _ hwz
  obtain ⟨y, rfl⟩ := hwz
  have Kz := K.call y.h
  clear K ks
  have K := Kz
  clear Kz
  generalize y.w = wz at K ⊢
  clear y
  go_wp2_with (first
      | (focus (first | ((with_reducible refine' wpList_load_kn K rfl 26 (.tmp 5) rfl 0 _ _ _ _ rfl _ Try.underlying26 rfl Try.szN5 _ _); rotate_left 2; (focus exact rfl))))
      | (focus ((first | ((with_reducible refine' wpList_store_kn K rfl 26 (.tmp 7) _ rfl 0 _ _ _ _ _ rfl rfl Try.szN5 _ _ _); rotate_left 2; (focus exact rfl))); (focus (with_reducible assumption)); intro wz Kz; clear K; have K := Kz; clear Kz; simp only [List.set_cons_zero, List.set_cons_succ] at K; try (simp only [Act.put, List.setIfInBounds_toArray, List.set_cons_zero, List.set_cons_succ])))
      | ((with_reducible refine wpList_new_kn K 26 _ _ _ _ #[.int .i64 0, .int .i64 0, .int .i64 0, .int .i64 0, .int .i64 0, .int .i64 0, .int .i64 0, .int .i64 0, .int .i64 0, .int .i64 0, .int .i64 0, .int .i64 0, .int .i64 0, .int .i64 0, .int .i64 0, .int .i64 0] 16 rfl Try.alN5 rfl ?_); intro gz wz Kz; clear K; have K := Kz; clear Kz; try (simp only [Act.put, List.setIfInBounds_toArray, List.set_cons_zero, List.set_cons_succ]))
      | (go_at_call 23; (with_reducible refine Calls.kn K (M1 _) ?_); intro wz Kz; clear K; have K := Kz; clear Kz)
      | (go_at_call 23; (with_reducible refine Calls.kn K (M2 _) ?_); intro wz Kz; clear K; have K := Kz; clear Kz))
  refine wp_region_kn_late K 12 [11] [(8, 16, #[.int .i64 0, .int .i64 0, .int .i64 0, .int .i64 0, .int .i64 0, .int .i64 0, .int .i64 0, .int .i64 0, .int .i64 0, .int .i64 0, .int .i64 0, .int .i64 0, .int .i64 0, .int .i64 0, .int .i64 0, .int .i64 0], 26)] (fun _ _ _ _ _ _ h => h) (by kernel_rfl) (by kernel_rfl) (mk_one ⟨_, rfl, makes_alloc _ _ _ _ _ _ Try.alN5⟩) (sz_one rfl) ?_
  apply Exists.intro
  refine ⟨?wk8, ?fin8⟩
  case wk8 =>
    intro γ
  
    simp only [List.take_succ_cons, List.take_zero]
    repeat (any_goals (first | (focus (go_big_quiet_want; (first | ((with_reducible refine' quiet_load_kng K 26 (.tmp 7) rfl 0 _ _ _ _ rfl _ Try.underlying26 rfl Try.szN5 _ _); rotate_left 2; (focus exact rfl)) | (with_reducible refine' quiet_build1 26 _ _ _ rfl _ hb rfl _)); simp only [Act.put, List.setIfInBounds_toArray, List.set_cons_zero, List.set_cons_succ]; go_big_quiet_on)) | go_big_quiet_step ((first | (go_at_call 23; with_reducible exact Calls.keepg (M1 _)) | (go_at_call 21; with_reducible exact Calls.keepg (SU _)) | (go_at_call 96; with_reducible exact Calls.keepg (DD _)) | (go_at_call 23; with_reducible exact Calls.keepg (M2 _)) | (go_at_call 19; with_reducible exact Calls.keepg (AD _)) | (go_at_call 38; with_reducible exact Calls.keepg (RT _)))) | quiet_step ((first | (go_at_call 23; with_reducible exact Calls.keepg (M1 _)) | (go_at_call 21; with_reducible exact Calls.keepg (SU _)) | (go_at_call 96; with_reducible exact Calls.keepg (DD _)) | (go_at_call 23; with_reducible exact Calls.keepg (M2 _)) | (go_at_call 19; with_reducible exact Calls.keepg (AD _)) | (go_at_call 38; with_reducible exact Calls.keepg (RT _))))))
    exact wpQuiet_nil rfl
  case fin8 =>
    intro gs wz Kz
    clear K
    have K := Kz
    clear Kz
    try simp only [mkAll, asObj, List.map_cons, List.map_nil, putAll, List.drop_succ_cons, List.drop_zero, List.length_cons, List.length_nil, Nat.zero_add, Nat.add_zero] at K ⊢
    try simp only [Act.put, List.setIfInBounds_toArray, List.set_cons_zero, List.set_cons_succ]
    generalize gs 0 = gz0 at *
    have so : Sz 16 #[.int .i64 1, .int .i64 0, .int .i64 0, .int .i64 0, .int .i64 0, .int .i64 0, .int .i64 0, .int .i64 0, .int .i64 0, .int .i64 0, .int .i64 0, .int .i64 0, .int .i64 0, .int .i64 0, .int .i64 0, .int .i64 0] := ⟨rfl, by simp [Value.oneCell']⟩
    have hb := built_rpoint sX sY so
    have sP : Sz 48 (cat3 X Y #[.int .i64 1, .int .i64 0, .int .i64 0, .int .i64 0, .int .i64 0, .int .i64 0, .int .i64 0, .int .i64 0, .int .i64 0, .int .i64 0, .int .i64 0, .int .i64 0, .int .i64 0, .int .i64 0, .int .i64 0, .int .i64 0]) := sz3 sX sY so
    clear so
    go_wp2_with (first
      | (focus ((with_reducible refine' wpList_store_kn K rfl 26 (.tmp 8) _ rfl 0 _ _ _ _ _ rfl rfl Try.szN5 _ _ _); rotate_left 2; (focus exact rfl); (focus (with_reducible assumption)); intro wz Kz; clear K; have K := Kz; clear Kz; simp only [List.set_cons_zero, List.set_cons_succ] at K; have cx := K.cell 0 rfl 0 HX.out; try (simp only [Act.put, List.setIfInBounds_toArray, List.set_cons_zero, List.set_cons_succ])))
      | (focus ((with_reducible refine' wpList_load_kn_gd K _ 26 (.tmp 8) rfl 0 _ _ _ _ rfl _ Try.underlying26 rfl Try.szN5 _ _); rotate_left 3; (focus exact rfl); rotate_left 1; (focus exact rfl)))
      | (focus (first | ((with_reducible refine' wpList_load_kn K rfl 26 (.tmp 8) rfl 0 _ _ _ _ rfl _ Try.underlying26 rfl Try.szN5 _ _); rotate_left 2; (focus exact rfl)) | ((with_reducible refine' wpList_load_kn K rfl 26 (.tmp 5) rfl 2 _ _ _ _ rfl _ Try.underlying26 rfl Try.szN5 _ _); rotate_left 2; (focus exact rfl)) | (with_reducible refine' wpList_build1 rfl 26 _ _ _ rfl _ hb rfl _) | (with_reducible refine' wpList_build3 rfl 74 _ _ _ _ _ _ _ _ _ rfl _ hb rfl rfl rfl _)))
      | (focus ((first | ((with_reducible refine' wpList_store_kn K rfl 26 (.tmp 8) _ rfl 0 _ _ _ _ _ rfl rfl Try.szN5 _ _ _); rotate_left 2; (focus exact rfl)) | ((with_reducible refine' wpList_store_kn K rfl 74 (.tmp 2) _ rfl 3 _ _ _ _ _ rfl rfl Try.szRp _ _ _); rotate_left 2; (focus exact rfl))); (focus (with_reducible assumption)); intro wz Kz; clear K; have K := Kz; clear Kz; simp only [List.set_cons_zero, List.set_cons_succ] at K; try (simp only [Act.put, List.setIfInBounds_toArray, List.set_cons_zero, List.set_cons_succ]))))
    refine bodyPost_ret (results_kn_tmp K rfl _ 3 _ _ _ _ rfl _ Try.underlying74 rfl Try.szRp rfl) rfl ?_
    exact ⟨rfl, K.fr⟩
end Go.Proofs.Ytahnlnflcgehaaa

/-
  DiskNews.
-/
import Derived.Test.YtgladedjgjhlaaaTv
namespace Go.Proofs.Ytgladedjgjhlaaa
open Go.RowKit
set_option linter.unusedVariables false
set_option linter.unusedSimpArgs false
theorem wpList_load_pt_gd {P : Program} {ops : Array Oper} {rest : List Oper} {o : Oper} {a : Act} {w0 w : World} {L : List Bk} {Q : Exit → Act → World → Prop} (K : Kn w0 L w) (hw : Region.wanted o (yielded ops a.tmps) = true) (ty : TypeId) (x : Operand) (ho : o.op = .load ty x) (i g n q m : Nat) (cs R : Array Value) (T : TypeId) (hx : a.eval x = .pointer (some ⟨g, q, none⟩))
    (d : TypeDesc) (hu : P.underlying ty = some d) (hd : d.isRow = true) (hty : (P.info? ty).map (·.size) = some m) (hi : L[i]? = some ⟨g, n, cs, T⟩) (hp : Part cs q R) (hm : R.size = m)
    (h : wpList P ops Q rest (a.put o.dst (.agg R)) w) : wpList P ops Q (o :: rest) a w :=
  wpList_step fun Kk hK => by
    simp only [hw, if_true]
    refine wp_load_mid ty x ho g q hx R.toList d (fun j u hj => ?_) hu hd (by rw [hty, Array.length_toList, hm]) (hK _ _ ?_)
    · rw [cell_of_block (K.heap i hi)]
      exact hp j u (by simpa using hj)
    · rw [Array.toArray_toList]
      exact h
set_option maxRecDepth 100000 in
theorem none_any (w : World) : Calls Try.prog 14 #[] w fun e w' => e = .returned (.pointer none) ∧ Fr (fun _ => False) w w' := by
  go_enter Try.func14, Try.ntmps14
  go_wp2_with fail
  go_ret
  exact ⟨rfl, Fr.refl _ _⟩
set_option maxRecDepth 100000 in
set_option maxHeartbeats 6400000 in
theorem dnews_lo (n : Int) (h : n < 1) (w : World) : Calls Try.prog 3 #[.int .i64 n] w fun e w' => e = .returned (.bool true) ∧ Fr (fun _ => False) w w' := by
  have sZ : Sz 128 Try.zeroCells30 := by rw [Try.zBk]; exact ⟨ub_size _ _, ub_one _ _⟩
  have t1 : decide ((50 : Int) < n) = false := by simp; omega
  have t2 : decide (n < 1) = true := by simpa using h
  go_enter Try.func3, Try.ntmps3
  go_wp2_with fail
  refine (dnew_bad n (.inl h) w).mono ?_
  rintro e w1 ⟨rfl, F1⟩
  go_wp2_with fail
  refine (none_any _).mono ?_
  rintro e w2 ⟨rfl, F2⟩
  have X2 := F2
  have G2 := F1.trans F2 (fun _ h => h.elim)
  clear F1 F2
  go_wp2_with fail
  refine (arm_nil 1 _).mono ?_
  rintro e w3 ⟨rfl, F3⟩
  have X3 := X2.trans F3 (fun _ h => h.elim)
  clear X2
  have G3 := G2.trans F3 (fun _ h => h.elim)
  clear G2 F3
  go_wp2_with fail
  refine (none_any _).mono ?_
  rintro e w4 ⟨rfl, F4⟩
  have X4 := X3.trans F4 (fun _ h => h.elim)
  clear X3
  have G4 := G3.trans F4 (fun _ h => h.elim)
  clear G3 F4
  go_wp2_with fail
  refine (crash_nil _ _).mono ?_
  rintro e w5 ⟨rfl, F5⟩
  have X5 := X4.trans F5 (fun _ h => h.elim)
  clear X4
  have G5 := G4.trans F5 (fun _ h => h.elim)
  clear G4 F5
  go_wp2_with fail
  refine (none_any _).mono ?_
  rintro e w6 ⟨rfl, F6⟩
  have X6 := X5.trans F6 (fun _ h => h.elim)
  clear X5
  have G6 := G5.trans F6 (fun _ h => h.elim)
  clear G5 F6
  go_wp2_with fail
  refine (read_nil 0 _).mono ?_
  rintro e w7 ⟨rfl, F7⟩
  have X7 := X6.trans F7 (fun _ h => h.elim)
  clear X6
  have G7 := G6.trans F7 (fun _ h => h.elim)
  clear G6 F7
  have K1 := (Kn.start w7).new (w7.heap.size) 128 Try.zeroCells30 30 rfl sZ.1
  rw [← Try.zBk]
  go_wp2_with (focus (((with_reducible refine' wpList_store_kn K1 rfl 30 (.tmp 5) _ rfl 0 _ _ _ _ _ rfl rfl Try.szBk _ _ _); rotate_left 2; (focus exact rfl)); (focus (with_reducible assumption)); intro wz Kz; clear K1; have K1 := Kz; clear Kz; simp only [List.set_cons_zero] at K1; try (simp only [Act.put, List.setIfInBounds_toArray, List.set_cons_zero, List.set_cons_succ])))
  have J1 := G7.trans K1.fr (fun _ h => h.elim)
  have Y1 := X7.trans K1.fr (fun _ h => h.elim)
  clear G7 X7 K1
  skip
  refine (disks_any _).mono ?_
  rintro e w8 ⟨rfl, F8⟩
  have X8 := Y1.trans F8 (fun _ h => h.elim)
  clear Y1
  have G8 := J1.trans F8 (fun _ h => h.elim)
  clear J1 F8
  go_wp2_with fail
  refine (none_any _).mono ?_
  rintro e w9 ⟨rfl, F9⟩
  have X9 := X8.trans F9 (fun _ h => h.elim)
  clear X8
  have G9 := G8.trans F9 (fun _ h => h.elim)
  clear G8 F9
  go_wp2_with fail
  rw [Try.zBk]
  refine (write_bad (.pointer none) 0 1 (by decide) (fun _ => 0) _ (fun W _ => reach_nil 0 W)).mono ?_
  rintro e w10 ⟨rfl, F10⟩
  have X10 := X9.trans F10 (fun _ h => h.elim)
  clear X9
  have G10 := G9.trans F10 (fun _ h => h.elim)
  clear G9 F10
  go_wp2_with fail
  refine (none_any _).mono ?_
  rintro e w11 ⟨rfl, F11⟩
  have X11 := X10.trans F11 (fun _ h => h.elim)
  clear X10
  have G11 := G10.trans F11 (fun _ h => h.elim)
  clear G10 F11
  go_wp2_with fail
  refine (sync_nil _).mono ?_
  rintro e w12 ⟨rfl, F12⟩
  have X12 := X11.trans F12 (fun _ h => h.elim)
  clear X11
  have G12 := G11.trans F12 (fun _ h => h.elim)
  clear G11 F12
  go_wp2_with fail
  refine (none_any _).mono ?_
  rintro e w13 ⟨rfl, F13⟩
  have X13 := X12.trans F13 (fun _ h => h.elim)
  clear X12
  have G13 := G12.trans F13 (fun _ h => h.elim)
  clear G12 F13
  go_wp2_with fail
  refine (size_nil _).mono ?_
  rintro e w14 ⟨rfl, F14⟩
  have X14 := X13.trans F14 (fun _ h => h.elim)
  clear X13
  have G14 := G13.trans F14 (fun _ h => h.elim)
  clear G13 F14
  go_wp2_with fail
  refine (none_any _).mono ?_
  rintro e w15 ⟨rfl, F15⟩
  have X15 := X14.trans F15 (fun _ h => h.elim)
  clear X14
  have G15 := G14.trans F15 (fun _ h => h.elim)
  clear G14 F15
  go_wp2_with fail
  refine (down_nil _).mono ?_
  rintro e w16 ⟨rfl, F16⟩
  have X16 := X15.trans F16 (fun _ h => h.elim)
  clear X15
  have G16 := G15.trans F16 (fun _ h => h.elim)
  clear G15 F16
  go_wp2_with fail
  refine (none_any _).mono ?_
  rintro e w17 ⟨rfl, F17⟩
  have X17 := X16.trans F17 (fun _ h => h.elim)
  clear X16
  have G17 := G16.trans F17 (fun _ h => h.elim)
  clear G16 F17
  go_wp2_with fail
  refine (writes_nil _).mono ?_
  rintro e w18 ⟨rfl, F18⟩
  have X18 := X17.trans F18 (fun _ h => h.elim)
  clear X17
  have G18 := G17.trans F18 (fun _ h => h.elim)
  clear G17 F18
  go_wp2_with fail
  refine (none_any _).mono ?_
  rintro e w19 ⟨rfl, F19⟩
  have X19 := X18.trans F19 (fun _ h => h.elim)
  clear X18
  have G19 := G18.trans F19 (fun _ h => h.elim)
  clear G18 F19
  go_wp2_with fail
  refine (waiting_nil _).mono ?_
  rintro e w20 ⟨rfl, F20⟩
  have X20 := X19.trans F20 (fun _ h => h.elim)
  clear X19
  have G20 := G19.trans F20 (fun _ h => h.elim)
  clear G19 F20
  go_wp2_with fail
  go_ret
  exact ⟨rfl, G20⟩
set_option maxRecDepth 100000 in
set_option maxHeartbeats 6400000 in
theorem dnews_hi (n : Int) (h : 8192 < n) (w : World) : Calls Try.prog 3 #[.int .i64 n] w fun e w' => e = .returned (.bool true) ∧ Fr (fun _ => False) w w' := by
  have sZ : Sz 128 Try.zeroCells30 := by rw [Try.zBk]; exact ⟨ub_size _ _, ub_one _ _⟩
  have t1 : decide ((50 : Int) < n) = true := by simp; omega
  have t2 : decide (n < 1) = false := by simp; omega
  have t3 : decide (n ≤ 8192) = false := by simp; omega
  have t4 : decide ((8192 : Int) < n) = true := by simpa using h
  go_enter Try.func3, Try.ntmps3
  go_wp2_with fail
  refine (dnew_bad n (.inr h) w).mono ?_
  rintro e w1 ⟨rfl, F1⟩
  go_wp2_with fail
  refine (none_any _).mono ?_
  rintro e w2 ⟨rfl, F2⟩
  have X2 := F2
  have G2 := F1.trans F2 (fun _ h => h.elim)
  clear F1 F2
  go_wp2_with fail
  refine (arm_nil 1 _).mono ?_
  rintro e w3 ⟨rfl, F3⟩
  have X3 := X2.trans F3 (fun _ h => h.elim)
  clear X2
  have G3 := G2.trans F3 (fun _ h => h.elim)
  clear G2 F3
  go_wp2_with fail
  refine (none_any _).mono ?_
  rintro e w4 ⟨rfl, F4⟩
  have X4 := X3.trans F4 (fun _ h => h.elim)
  clear X3
  have G4 := G3.trans F4 (fun _ h => h.elim)
  clear G3 F4
  go_wp2_with fail
  refine (crash_nil _ _).mono ?_
  rintro e w5 ⟨rfl, F5⟩
  have X5 := X4.trans F5 (fun _ h => h.elim)
  clear X4
  have G5 := G4.trans F5 (fun _ h => h.elim)
  clear G4 F5
  go_wp2_with fail
  refine (none_any _).mono ?_
  rintro e w6 ⟨rfl, F6⟩
  have X6 := X5.trans F6 (fun _ h => h.elim)
  clear X5
  have G6 := G5.trans F6 (fun _ h => h.elim)
  clear G5 F6
  go_wp2_with fail
  refine (read_nil 0 _).mono ?_
  rintro e w7 ⟨rfl, F7⟩
  have X7 := X6.trans F7 (fun _ h => h.elim)
  clear X6
  have G7 := G6.trans F7 (fun _ h => h.elim)
  clear G6 F7
  have K1 := (Kn.start w7).new (w7.heap.size) 128 Try.zeroCells30 30 rfl sZ.1
  rw [← Try.zBk]
  go_wp2_with (focus (((with_reducible refine' wpList_store_kn K1 rfl 30 (.tmp 5) _ rfl 0 _ _ _ _ _ rfl rfl Try.szBk _ _ _); rotate_left 2; (focus exact rfl)); (focus (with_reducible assumption)); intro wz Kz; clear K1; have K1 := Kz; clear Kz; simp only [List.set_cons_zero] at K1; try (simp only [Act.put, List.setIfInBounds_toArray, List.set_cons_zero, List.set_cons_succ])))
  have J1 := G7.trans K1.fr (fun _ h => h.elim)
  have Y1 := X7.trans K1.fr (fun _ h => h.elim)
  clear G7 X7 K1
  skip
  refine (disks_any _).mono ?_
  rintro e w8 ⟨rfl, F8⟩
  have X8 := Y1.trans F8 (fun _ h => h.elim)
  clear Y1
  have G8 := J1.trans F8 (fun _ h => h.elim)
  clear J1 F8
  go_wp2_with fail
  refine (none_any _).mono ?_
  rintro e w9 ⟨rfl, F9⟩
  have X9 := X8.trans F9 (fun _ h => h.elim)
  clear X8
  have G9 := G8.trans F9 (fun _ h => h.elim)
  clear G8 F9
  go_wp2_with fail
  rw [Try.zBk]
  refine (write_bad (.pointer none) 0 1 (by decide) (fun _ => 0) _ (fun W _ => reach_nil 0 W)).mono ?_
  rintro e w10 ⟨rfl, F10⟩
  have X10 := X9.trans F10 (fun _ h => h.elim)
  clear X9
  have G10 := G9.trans F10 (fun _ h => h.elim)
  clear G9 F10
  go_wp2_with fail
  refine (none_any _).mono ?_
  rintro e w11 ⟨rfl, F11⟩
  have X11 := X10.trans F11 (fun _ h => h.elim)
  clear X10
  have G11 := G10.trans F11 (fun _ h => h.elim)
  clear G10 F11
  go_wp2_with fail
  refine (sync_nil _).mono ?_
  rintro e w12 ⟨rfl, F12⟩
  have X12 := X11.trans F12 (fun _ h => h.elim)
  clear X11
  have G12 := G11.trans F12 (fun _ h => h.elim)
  clear G11 F12
  go_wp2_with fail
  refine (none_any _).mono ?_
  rintro e w13 ⟨rfl, F13⟩
  have X13 := X12.trans F13 (fun _ h => h.elim)
  clear X12
  have G13 := G12.trans F13 (fun _ h => h.elim)
  clear G12 F13
  go_wp2_with fail
  refine (size_nil _).mono ?_
  rintro e w14 ⟨rfl, F14⟩
  have X14 := X13.trans F14 (fun _ h => h.elim)
  clear X13
  have G14 := G13.trans F14 (fun _ h => h.elim)
  clear G13 F14
  go_wp2_with fail
  refine (none_any _).mono ?_
  rintro e w15 ⟨rfl, F15⟩
  have X15 := X14.trans F15 (fun _ h => h.elim)
  clear X14
  have G15 := G14.trans F15 (fun _ h => h.elim)
  clear G14 F15
  go_wp2_with fail
  refine (down_nil _).mono ?_
  rintro e w16 ⟨rfl, F16⟩
  have X16 := X15.trans F16 (fun _ h => h.elim)
  clear X15
  have G16 := G15.trans F16 (fun _ h => h.elim)
  clear G15 F16
  go_wp2_with fail
  refine (none_any _).mono ?_
  rintro e w17 ⟨rfl, F17⟩
  have X17 := X16.trans F17 (fun _ h => h.elim)
  clear X16
  have G17 := G16.trans F17 (fun _ h => h.elim)
  clear G16 F17
  go_wp2_with fail
  refine (writes_nil _).mono ?_
  rintro e w18 ⟨rfl, F18⟩
  have X18 := X17.trans F18 (fun _ h => h.elim)
  clear X17
  have G18 := G17.trans F18 (fun _ h => h.elim)
  clear G17 F18
  go_wp2_with fail
  refine (none_any _).mono ?_
  rintro e w19 ⟨rfl, F19⟩
  have X19 := X18.trans F19 (fun _ h => h.elim)
  clear X18
  have G19 := G18.trans F19 (fun _ h => h.elim)
  clear G18 F19
  go_wp2_with fail
  refine (waiting_nil _).mono ?_
  rintro e w20 ⟨rfl, F20⟩
  have X20 := X19.trans F20 (fun _ h => h.elim)
  clear X19
  have G20 := G19.trans F20 (fun _ h => h.elim)
  clear G19 F20
  go_wp2_with fail
  go_ret
  exact ⟨rfl, G20⟩
set_option maxRecDepth 100000 in
set_option maxHeartbeats 6400000 in
theorem dnews_small (n : Int) (m : Nat) (hm : n = (m : Int)) (h1 : 1 ≤ m) (h2 : m ≤ 50) (w : World) : Calls Try.prog 3 #[.int .i64 n] w fun e w' => e = .returned (.bool true) ∧ Fr (fun _ => False) w w' := by
  have sZ : Sz 128 Try.zeroCells30 := by rw [Try.zBk]; exact ⟨ub_size _ _, ub_one _ _⟩
  subst hm
  have t1 : decide ((50 : Int) < (m : Int)) = false := by simp; omega
  have t2 : decide ((m : Int) < 1) = false := by simp; omega
  have t3 : decide ((8192 : Int) < (m : Int)) = false := by simp; omega
  have r1 : IntKind.i64.wrap ((m : Int) - 1) = (m : Int) - 1 := IntWalk.i64_in _ (by omega)
  have r2 : wrap64 ((m : Int) - 1) = (m : Int) - 1 := IntWalk.wrap64_in _ (by omega)
  have heq : ∀ W : World, (binOp .eql 30 (.agg Try.zeroCells30) (.agg Try.zeroCells30)).run Try.prog W = .ok (.bool true) W := fun W => by rw [Try.zBk, eql_blk, beq_self_eq_true]
  go_enter Try.func3, Try.ntmps3
  go_wp2_with fail
  refine (dnew_da m h1 (by omega) w).mono ?_
  rintro e w1 ⟨d, bn, bl, rfl, D, F1⟩
  have HD := Lib.hid D
  clear D
  go_wp2_with fail
  refine (none_any _).mono ?_
  rintro e w2 ⟨rfl, F2⟩
  have X2 := F2
  have G2 := F1.trans F2 (fun _ h => h.elim)
  clear F1 F2
  go_wp2_with fail
  refine (arm_nil 1 _).mono ?_
  rintro e w3 ⟨rfl, F3⟩
  have X3 := X2.trans F3 (fun _ h => h.elim)
  clear X2
  have G3 := G2.trans F3 (fun _ h => h.elim)
  clear G2 F3
  go_wp2_with fail
  refine (none_any _).mono ?_
  rintro e w4 ⟨rfl, F4⟩
  have X4 := X3.trans F4 (fun _ h => h.elim)
  clear X3
  have G4 := G3.trans F4 (fun _ h => h.elim)
  clear G3 F4
  go_wp2_with fail
  refine (crash_nil _ _).mono ?_
  rintro e w5 ⟨rfl, F5⟩
  have X5 := X4.trans F5 (fun _ h => h.elim)
  clear X4
  have G5 := G4.trans F5 (fun _ h => h.elim)
  clear G4 F5
  go_wp2_with fail
  refine (none_any _).mono ?_
  rintro e w6 ⟨rfl, F6⟩
  have X6 := X5.trans F6 (fun _ h => h.elim)
  clear X5
  have G6 := G5.trans F6 (fun _ h => h.elim)
  clear G5 F6
  go_wp2_with fail
  refine (read_nil 0 _).mono ?_
  rintro e w7 ⟨rfl, F7⟩
  have X7 := X6.trans F7 (fun _ h => h.elim)
  clear X6
  have G7 := G6.trans F7 (fun _ h => h.elim)
  clear G6 F7
  have K1 := (Kn.start w7).new (w7.heap.size) 128 Try.zeroCells30 30 rfl sZ.1
  rw [← Try.zBk]
  go_wp2_with (focus (((with_reducible refine' wpList_store_kn K1 rfl 30 (.tmp 5) _ rfl 0 _ _ _ _ _ rfl rfl Try.szBk _ _ _); rotate_left 2; (focus exact rfl)); (focus (with_reducible assumption)); intro wz Kz; clear K1; have K1 := Kz; clear Kz; simp only [List.set_cons_zero] at K1; try (simp only [Act.put, List.setIfInBounds_toArray, List.set_cons_zero, List.set_cons_succ])))
  have J1 := G7.trans K1.fr (fun _ h => h.elim)
  have Y1 := X7.trans K1.fr (fun _ h => h.elim)
  clear G7 X7 K1
  skip
  refine (disks_any _).mono ?_
  rintro e w8 ⟨rfl, F8⟩
  have X8 := Y1.trans F8 (fun _ h => h.elim)
  clear Y1
  have G8 := J1.trans F8 (fun _ h => h.elim)
  clear J1 F8
  go_wp2_with fail
  refine (none_any _).mono ?_
  rintro e w9 ⟨rfl, F9⟩
  have X9 := X8.trans F9 (fun _ h => h.elim)
  clear X8
  have G9 := G8.trans F9 (fun _ h => h.elim)
  clear G8 F9
  go_wp2_with fail
  rw [Try.zBk]
  refine (write_bad (.pointer none) 0 1 (by decide) (fun _ => 0) _ (fun W _ => reach_nil 0 W)).mono ?_
  rintro e w10 ⟨rfl, F10⟩
  have X10 := X9.trans F10 (fun _ h => h.elim)
  clear X9
  have G10 := G9.trans F10 (fun _ h => h.elim)
  clear G9 F10
  go_wp2_with fail
  refine (none_any _).mono ?_
  rintro e w11 ⟨rfl, F11⟩
  have X11 := X10.trans F11 (fun _ h => h.elim)
  clear X10
  have G11 := G10.trans F11 (fun _ h => h.elim)
  clear G10 F11
  go_wp2_with fail
  refine (sync_nil _).mono ?_
  rintro e w12 ⟨rfl, F12⟩
  have X12 := X11.trans F12 (fun _ h => h.elim)
  clear X11
  have G12 := G11.trans F12 (fun _ h => h.elim)
  clear G11 F12
  go_wp2_with fail
  refine (none_any _).mono ?_
  rintro e w13 ⟨rfl, F13⟩
  have X13 := X12.trans F13 (fun _ h => h.elim)
  clear X12
  have G13 := G12.trans F13 (fun _ h => h.elim)
  clear G12 F13
  go_wp2_with fail
  refine (size_nil _).mono ?_
  rintro e w14 ⟨rfl, F14⟩
  have X14 := X13.trans F14 (fun _ h => h.elim)
  clear X13
  have G14 := G13.trans F14 (fun _ h => h.elim)
  clear G13 F14
  go_wp2_with fail
  refine (none_any _).mono ?_
  rintro e w15 ⟨rfl, F15⟩
  have X15 := X14.trans F15 (fun _ h => h.elim)
  clear X14
  have G15 := G14.trans F15 (fun _ h => h.elim)
  clear G14 F15
  go_wp2_with fail
  refine (down_nil _).mono ?_
  rintro e w16 ⟨rfl, F16⟩
  have X16 := X15.trans F16 (fun _ h => h.elim)
  clear X15
  have G16 := G15.trans F16 (fun _ h => h.elim)
  clear G15 F16
  go_wp2_with fail
  refine (none_any _).mono ?_
  rintro e w17 ⟨rfl, F17⟩
  have X17 := X16.trans F17 (fun _ h => h.elim)
  clear X16
  have G17 := G16.trans F17 (fun _ h => h.elim)
  clear G16 F17
  go_wp2_with fail
  refine (writes_nil _).mono ?_
  rintro e w18 ⟨rfl, F18⟩
  have X18 := X17.trans F18 (fun _ h => h.elim)
  clear X17
  have G18 := G17.trans F18 (fun _ h => h.elim)
  clear G17 F18
  go_wp2_with fail
  refine (none_any _).mono ?_
  rintro e w19 ⟨rfl, F19⟩
  have X19 := X18.trans F19 (fun _ h => h.elim)
  clear X18
  have G19 := G18.trans F19 (fun _ h => h.elim)
  clear G18 F19
  go_wp2_with fail
  refine (waiting_nil _).mono ?_
  rintro e w20 ⟨rfl, F20⟩
  have X20 := X19.trans F20 (fun _ h => h.elim)
  clear X19
  have G20 := G19.trans F20 (fun _ h => h.elim)
  clear G19 F20
  go_wp2_with fail
  rw [show ((m : Int) - 1) = ((m - 1 : Nat) : Int) by omega]
  refine (read_in (HD.out.fr X20 (fun _ _ h => h)) (m - 1) (by omega) (fun _ => 0) rfl).mono ?_
  rintro e w21 ⟨rfl, F21⟩
  have X21 := X20.trans F21 (fun _ h => h.elim)
  clear X20
  have G21 := G20.trans F21 (fun _ h => h.elim)
  clear G20 F21
  have K2 := (Kn.start w21).new (w21.heap.size) 128 Try.zeroCells30 30 rfl sZ.1
  rw [← Try.zBk]
  go_wp2_with (focus (((with_reducible refine' wpList_store_kn K2 rfl 30 (.tmp 7) _ rfl 0 _ _ _ _ _ rfl rfl Try.szBk _ _ _); rotate_left 2; (focus exact rfl)); (focus (with_reducible assumption)); intro wz Kz; clear K2; have K2 := Kz; clear Kz; simp only [List.set_cons_zero] at K2; try (simp only [Act.put, List.setIfInBounds_toArray, List.set_cons_zero, List.set_cons_succ])))
  have DD := HD.out.fr (X21.trans K2.fr (fun _ h => h.elim)) (fun _ _ h => h)
  have HDD := Lib.hid DD
  have J2 := G21.trans K2.fr (fun _ h => h.elim)
  clear G21 DD
  refine (size_ok d m (some ⟨bn, 0, none⟩) _ (HDD.out.c 0 rfl)).mono ?_
  rintro e ws ⟨rfl, Fs⟩
  have K3 := K2.call Fs
  clear K2
  go_wp2_with (focus (refine' wpList_load_pt_gd K3 rfl 30 (.tmp 7) rfl 0 _ _ 0 128 _ _ _ rfl _ Try.underlying30 rfl Try.szBk rfl (Part.whole _) sZ.1 _))
  refine (down_any d false _ ((HDD.out.fr Fs (fun _ _ h => h)).c 5 rfl)).mono ?_
  rintro e wt ⟨rfl, Ft⟩
  go_wp2_with fail
  go_ret
  exact ⟨rfl, (J2.trans Fs (fun _ h => h.elim)).trans Ft (fun _ h => h.elim)⟩
set_option maxRecDepth 100000 in
set_option maxHeartbeats 6400000 in
theorem dnews_even (n : Int) (m : Nat) (hm : m = 8192) (h1 : 50 < n) (h2 : n ≤ 8192) (hr : n.tmod 2 = 0) (w : World) : Calls Try.prog 3 #[.int .i64 n] w fun e w' => e = .returned (.bool true) ∧ Fr (fun _ => False) w w' := by
  have sZ : Sz 128 Try.zeroCells30 := by rw [Try.zBk]; exact ⟨ub_size _ _, ub_one _ _⟩
  have t1 : decide ((50 : Int) < n) = true := by simpa using h1
  have t0 : decide (n ≤ 8192) = true := by simpa using h2
  have e0 : (8192 : Int) = ((m : Nat) : Int) := by omega
  have HM := Lib.hid hm
  have HE := Lib.hid e0
  have t2 : decide ((m : Int) < 1) = false := by simp; omega
  have t3 : decide ((8192 : Int) < (m : Int)) = false := by simp; omega
  have r1 : IntKind.i64.wrap ((m : Int) - 1) = (m : Int) - 1 := IntWalk.i64_in _ (by omega)
  have r2 : wrap64 ((m : Int) - 1) = (m : Int) - 1 := IntWalk.wrap64_in _ (by omega)
  have h3 : 1 ≤ m := by omega
  have h4 : m ≤ 8192 := by omega
  clear hm e0
  have heq : ∀ W : World, (binOp .eql 30 (.agg Try.zeroCells30) (.agg Try.zeroCells30)).run Try.prog W = .ok (.bool true) W := fun W => by rw [Try.zBk, eql_blk, beq_self_eq_true]
  go_enter Try.func3, Try.ntmps3
  go_wp2_with fail
  rw [HE.out]
  refine (dnew_da m h3 h4 w).mono ?_
  rintro e w1 ⟨d, bn, bl, rfl, D, F1⟩
  have HD := Lib.hid D
  clear D
  go_wp2_with fail
  refine (none_any _).mono ?_
  rintro e w2 ⟨rfl, F2⟩
  have X2 := F2
  have G2 := F1.trans F2 (fun _ h => h.elim)
  clear F1 F2
  go_wp2_with fail
  refine (arm_nil 1 _).mono ?_
  rintro e w3 ⟨rfl, F3⟩
  have X3 := X2.trans F3 (fun _ h => h.elim)
  clear X2
  have G3 := G2.trans F3 (fun _ h => h.elim)
  clear G2 F3
  go_wp2_with fail
  refine (none_any _).mono ?_
  rintro e w4 ⟨rfl, F4⟩
  have X4 := X3.trans F4 (fun _ h => h.elim)
  clear X3
  have G4 := G3.trans F4 (fun _ h => h.elim)
  clear G3 F4
  go_wp2_with fail
  refine (crash_nil _ _).mono ?_
  rintro e w5 ⟨rfl, F5⟩
  have X5 := X4.trans F5 (fun _ h => h.elim)
  clear X4
  have G5 := G4.trans F5 (fun _ h => h.elim)
  clear G4 F5
  go_wp2_with fail
  refine (none_any _).mono ?_
  rintro e w6 ⟨rfl, F6⟩
  have X6 := X5.trans F6 (fun _ h => h.elim)
  clear X5
  have G6 := G5.trans F6 (fun _ h => h.elim)
  clear G5 F6
  go_wp2_with fail
  refine (read_nil 0 _).mono ?_
  rintro e w7 ⟨rfl, F7⟩
  have X7 := X6.trans F7 (fun _ h => h.elim)
  clear X6
  have G7 := G6.trans F7 (fun _ h => h.elim)
  clear G6 F7
  have K1 := (Kn.start w7).new (w7.heap.size) 128 Try.zeroCells30 30 rfl sZ.1
  rw [← Try.zBk]
  go_wp2_with (focus (((with_reducible refine' wpList_store_kn K1 rfl 30 (.tmp 5) _ rfl 0 _ _ _ _ _ rfl rfl Try.szBk _ _ _); rotate_left 2; (focus exact rfl)); (focus (with_reducible assumption)); intro wz Kz; clear K1; have K1 := Kz; clear Kz; simp only [List.set_cons_zero] at K1; try (simp only [Act.put, List.setIfInBounds_toArray, List.set_cons_zero, List.set_cons_succ])))
  have J1 := G7.trans K1.fr (fun _ h => h.elim)
  have Y1 := X7.trans K1.fr (fun _ h => h.elim)
  clear G7 X7 K1
  skip
  refine (disks_any _).mono ?_
  rintro e w8 ⟨rfl, F8⟩
  have X8 := Y1.trans F8 (fun _ h => h.elim)
  clear Y1
  have G8 := J1.trans F8 (fun _ h => h.elim)
  clear J1 F8
  go_wp2_with fail
  refine (none_any _).mono ?_
  rintro e w9 ⟨rfl, F9⟩
  have X9 := X8.trans F9 (fun _ h => h.elim)
  clear X8
  have G9 := G8.trans F9 (fun _ h => h.elim)
  clear G8 F9
  go_wp2_with fail
  rw [Try.zBk]
  refine (write_bad (.pointer none) 0 1 (by decide) (fun _ => 0) _ (fun W _ => reach_nil 0 W)).mono ?_
  rintro e w10 ⟨rfl, F10⟩
  have X10 := X9.trans F10 (fun _ h => h.elim)
  clear X9
  have G10 := G9.trans F10 (fun _ h => h.elim)
  clear G9 F10
  go_wp2_with fail
  refine (none_any _).mono ?_
  rintro e w11 ⟨rfl, F11⟩
  have X11 := X10.trans F11 (fun _ h => h.elim)
  clear X10
  have G11 := G10.trans F11 (fun _ h => h.elim)
  clear G10 F11
  go_wp2_with fail
  refine (sync_nil _).mono ?_
  rintro e w12 ⟨rfl, F12⟩
  have X12 := X11.trans F12 (fun _ h => h.elim)
  clear X11
  have G12 := G11.trans F12 (fun _ h => h.elim)
  clear G11 F12
  go_wp2_with fail
  refine (none_any _).mono ?_
  rintro e w13 ⟨rfl, F13⟩
  have X13 := X12.trans F13 (fun _ h => h.elim)
  clear X12
  have G13 := G12.trans F13 (fun _ h => h.elim)
  clear G12 F13
  go_wp2_with fail
  refine (size_nil _).mono ?_
  rintro e w14 ⟨rfl, F14⟩
  have X14 := X13.trans F14 (fun _ h => h.elim)
  clear X13
  have G14 := G13.trans F14 (fun _ h => h.elim)
  clear G13 F14
  go_wp2_with fail
  refine (none_any _).mono ?_
  rintro e w15 ⟨rfl, F15⟩
  have X15 := X14.trans F15 (fun _ h => h.elim)
  clear X14
  have G15 := G14.trans F15 (fun _ h => h.elim)
  clear G14 F15
  go_wp2_with fail
  refine (down_nil _).mono ?_
  rintro e w16 ⟨rfl, F16⟩
  have X16 := X15.trans F16 (fun _ h => h.elim)
  clear X15
  have G16 := G15.trans F16 (fun _ h => h.elim)
  clear G15 F16
  go_wp2_with fail
  refine (none_any _).mono ?_
  rintro e w17 ⟨rfl, F17⟩
  have X17 := X16.trans F17 (fun _ h => h.elim)
  clear X16
  have G17 := G16.trans F17 (fun _ h => h.elim)
  clear G16 F17
  go_wp2_with fail
  refine (writes_nil _).mono ?_
  rintro e w18 ⟨rfl, F18⟩
  have X18 := X17.trans F18 (fun _ h => h.elim)
  clear X17
  have G18 := G17.trans F18 (fun _ h => h.elim)
  clear G17 F18
  go_wp2_with fail
  refine (none_any _).mono ?_
  rintro e w19 ⟨rfl, F19⟩
  have X19 := X18.trans F19 (fun _ h => h.elim)
  clear X18
  have G19 := G18.trans F19 (fun _ h => h.elim)
  clear G18 F19
  go_wp2_with fail
  refine (waiting_nil _).mono ?_
  rintro e w20 ⟨rfl, F20⟩
  have X20 := X19.trans F20 (fun _ h => h.elim)
  clear X19
  have G20 := G19.trans F20 (fun _ h => h.elim)
  clear G19 F20
  go_wp2_with fail
  rw [show ((m : Int) - 1) = ((m - 1 : Nat) : Int) by omega]
  refine (read_in (HD.out.fr X20 (fun _ _ h => h)) (m - 1) (by omega) (fun _ => 0) rfl).mono ?_
  rintro e w21 ⟨rfl, F21⟩
  have X21 := X20.trans F21 (fun _ h => h.elim)
  clear X20
  have G21 := G20.trans F21 (fun _ h => h.elim)
  clear G20 F21
  have K2 := (Kn.start w21).new (w21.heap.size) 128 Try.zeroCells30 30 rfl sZ.1
  rw [← Try.zBk]
  go_wp2_with (focus (((with_reducible refine' wpList_store_kn K2 rfl 30 (.tmp 7) _ rfl 0 _ _ _ _ _ rfl rfl Try.szBk _ _ _); rotate_left 2; (focus exact rfl)); (focus (with_reducible assumption)); intro wz Kz; clear K2; have K2 := Kz; clear Kz; simp only [List.set_cons_zero] at K2; try (simp only [Act.put, List.setIfInBounds_toArray, List.set_cons_zero, List.set_cons_succ])))
  have DD := HD.out.fr (X21.trans K2.fr (fun _ h => h.elim)) (fun _ _ h => h)
  have HDD := Lib.hid DD
  have J2 := G21.trans K2.fr (fun _ h => h.elim)
  clear G21 DD
  refine (size_ok d m (some ⟨bn, 0, none⟩) _ (HDD.out.c 0 rfl)).mono ?_
  rintro e ws ⟨rfl, Fs⟩
  have K3 := K2.call Fs
  clear K2
  go_wp2_with (focus (refine' wpList_load_pt_gd K3 rfl 30 (.tmp 7) rfl 0 _ _ 0 128 _ _ _ rfl _ Try.underlying30 rfl Try.szBk rfl (Part.whole _) sZ.1 _))
  refine (down_any d false _ ((HDD.out.fr Fs (fun _ _ h => h)).c 5 rfl)).mono ?_
  rintro e wt ⟨rfl, Ft⟩
  go_wp2_with fail
  go_ret
  exact ⟨rfl, (J2.trans Fs (fun _ h => h.elim)).trans Ft (fun _ h => h.elim)⟩
set_option maxRecDepth 100000 in
set_option maxHeartbeats 6400000 in
theorem dnews_odd (n : Int) (m : Nat) (hm : m = 8191) (h1 : 50 < n) (h2 : n ≤ 8192) (hr : n.tmod 2 = 1) (w : World) : Calls Try.prog 3 #[.int .i64 n] w fun e w' => e = .returned (.bool true) ∧ Fr (fun _ => False) w w' := by
  have sZ : Sz 128 Try.zeroCells30 := by rw [Try.zBk]; exact ⟨ub_size _ _, ub_one _ _⟩
  have t1 : decide ((50 : Int) < n) = true := by simpa using h1
  have t0 : decide (n ≤ 8192) = true := by simpa using h2
  have e0 : (8191 : Int) = ((m : Nat) : Int) := by omega
  have HM := Lib.hid hm
  have HE := Lib.hid e0
  have t2 : decide ((m : Int) < 1) = false := by simp; omega
  have t3 : decide ((8192 : Int) < (m : Int)) = false := by simp; omega
  have r1 : IntKind.i64.wrap ((m : Int) - 1) = (m : Int) - 1 := IntWalk.i64_in _ (by omega)
  have r2 : wrap64 ((m : Int) - 1) = (m : Int) - 1 := IntWalk.wrap64_in _ (by omega)
  have h3 : 1 ≤ m := by omega
  have h4 : m ≤ 8192 := by omega
  clear hm e0
  have heq : ∀ W : World, (binOp .eql 30 (.agg Try.zeroCells30) (.agg Try.zeroCells30)).run Try.prog W = .ok (.bool true) W := fun W => by rw [Try.zBk, eql_blk, beq_self_eq_true]
  go_enter Try.func3, Try.ntmps3
  go_wp2_with fail
  rw [HE.out]
  refine (dnew_da m h3 h4 w).mono ?_
  rintro e w1 ⟨d, bn, bl, rfl, D, F1⟩
  have HD := Lib.hid D
  clear D
  go_wp2_with fail
  refine (none_any _).mono ?_
  rintro e w2 ⟨rfl, F2⟩
  have X2 := F2
  have G2 := F1.trans F2 (fun _ h => h.elim)
  clear F1 F2
  go_wp2_with fail
  refine (arm_nil 1 _).mono ?_
  rintro e w3 ⟨rfl, F3⟩
  have X3 := X2.trans F3 (fun _ h => h.elim)
  clear X2
  have G3 := G2.trans F3 (fun _ h => h.elim)
  clear G2 F3
  go_wp2_with fail
  refine (none_any _).mono ?_
  rintro e w4 ⟨rfl, F4⟩
  have X4 := X3.trans F4 (fun _ h => h.elim)
  clear X3
  have G4 := G3.trans F4 (fun _ h => h.elim)
  clear G3 F4
  go_wp2_with fail
  refine (crash_nil _ _).mono ?_
  rintro e w5 ⟨rfl, F5⟩
  have X5 := X4.trans F5 (fun _ h => h.elim)
  clear X4
  have G5 := G4.trans F5 (fun _ h => h.elim)
  clear G4 F5
  go_wp2_with fail
  refine (none_any _).mono ?_
  rintro e w6 ⟨rfl, F6⟩
  have X6 := X5.trans F6 (fun _ h => h.elim)
  clear X5
  have G6 := G5.trans F6 (fun _ h => h.elim)
  clear G5 F6
  go_wp2_with fail
  refine (read_nil 0 _).mono ?_
  rintro e w7 ⟨rfl, F7⟩
  have X7 := X6.trans F7 (fun _ h => h.elim)
  clear X6
  have G7 := G6.trans F7 (fun _ h => h.elim)
  clear G6 F7
  have K1 := (Kn.start w7).new (w7.heap.size) 128 Try.zeroCells30 30 rfl sZ.1
  rw [← Try.zBk]
  go_wp2_with (focus (((with_reducible refine' wpList_store_kn K1 rfl 30 (.tmp 5) _ rfl 0 _ _ _ _ _ rfl rfl Try.szBk _ _ _); rotate_left 2; (focus exact rfl)); (focus (with_reducible assumption)); intro wz Kz; clear K1; have K1 := Kz; clear Kz; simp only [List.set_cons_zero] at K1; try (simp only [Act.put, List.setIfInBounds_toArray, List.set_cons_zero, List.set_cons_succ])))
  have J1 := G7.trans K1.fr (fun _ h => h.elim)
  have Y1 := X7.trans K1.fr (fun _ h => h.elim)
  clear G7 X7 K1
  skip
  refine (disks_any _).mono ?_
  rintro e w8 ⟨rfl, F8⟩
  have X8 := Y1.trans F8 (fun _ h => h.elim)
  clear Y1
  have G8 := J1.trans F8 (fun _ h => h.elim)
  clear J1 F8
  go_wp2_with fail
  refine (none_any _).mono ?_
  rintro e w9 ⟨rfl, F9⟩
  have X9 := X8.trans F9 (fun _ h => h.elim)
  clear X8
  have G9 := G8.trans F9 (fun _ h => h.elim)
  clear G8 F9
  go_wp2_with fail
  rw [Try.zBk]
  refine (write_bad (.pointer none) 0 1 (by decide) (fun _ => 0) _ (fun W _ => reach_nil 0 W)).mono ?_
  rintro e w10 ⟨rfl, F10⟩
  have X10 := X9.trans F10 (fun _ h => h.elim)
  clear X9
  have G10 := G9.trans F10 (fun _ h => h.elim)
  clear G9 F10
  go_wp2_with fail
  refine (none_any _).mono ?_
  rintro e w11 ⟨rfl, F11⟩
  have X11 := X10.trans F11 (fun _ h => h.elim)
  clear X10
  have G11 := G10.trans F11 (fun _ h => h.elim)
  clear G10 F11
  go_wp2_with fail
  refine (sync_nil _).mono ?_
  rintro e w12 ⟨rfl, F12⟩
  have X12 := X11.trans F12 (fun _ h => h.elim)
  clear X11
  have G12 := G11.trans F12 (fun _ h => h.elim)
  clear G11 F12
  go_wp2_with fail
  refine (none_any _).mono ?_
  rintro e w13 ⟨rfl, F13⟩
  have X13 := X12.trans F13 (fun _ h => h.elim)
  clear X12
  have G13 := G12.trans F13 (fun _ h => h.elim)
  clear G12 F13
  go_wp2_with fail
  refine (size_nil _).mono ?_
  rintro e w14 ⟨rfl, F14⟩
  have X14 := X13.trans F14 (fun _ h => h.elim)
  clear X13
  have G14 := G13.trans F14 (fun _ h => h.elim)
  clear G13 F14
  go_wp2_with fail
  refine (none_any _).mono ?_
  rintro e w15 ⟨rfl, F15⟩
  have X15 := X14.trans F15 (fun _ h => h.elim)
  clear X14
  have G15 := G14.trans F15 (fun _ h => h.elim)
  clear G14 F15
  go_wp2_with fail
  refine (down_nil _).mono ?_
  rintro e w16 ⟨rfl, F16⟩
  have X16 := X15.trans F16 (fun _ h => h.elim)
  clear X15
  have G16 := G15.trans F16 (fun _ h => h.elim)
  clear G15 F16
  go_wp2_with fail
  refine (none_any _).mono ?_
  rintro e w17 ⟨rfl, F17⟩
  have X17 := X16.trans F17 (fun _ h => h.elim)
  clear X16
  have G17 := G16.trans F17 (fun _ h => h.elim)
  clear G16 F17
  go_wp2_with fail
  refine (writes_nil _).mono ?_
  rintro e w18 ⟨rfl, F18⟩
  have X18 := X17.trans F18 (fun _ h => h.elim)
  clear X17
  have G18 := G17.trans F18 (fun _ h => h.elim)
  clear G17 F18
  go_wp2_with fail
  refine (none_any _).mono ?_
  rintro e w19 ⟨rfl, F19⟩
  have X19 := X18.trans F19 (fun _ h => h.elim)
  clear X18
  have G19 := G18.trans F19 (fun _ h => h.elim)
  clear G18 F19
  go_wp2_with fail
  refine (waiting_nil _).mono ?_
  rintro e w20 ⟨rfl, F20⟩
  have X20 := X19.trans F20 (fun _ h => h.elim)
  clear X19
  have G20 := G19.trans F20 (fun _ h => h.elim)
  clear G19 F20
  go_wp2_with fail
  rw [show ((m : Int) - 1) = ((m - 1 : Nat) : Int) by omega]
  refine (read_in (HD.out.fr X20 (fun _ _ h => h)) (m - 1) (by omega) (fun _ => 0) rfl).mono ?_
  rintro e w21 ⟨rfl, F21⟩
  have X21 := X20.trans F21 (fun _ h => h.elim)
  clear X20
  have G21 := G20.trans F21 (fun _ h => h.elim)
  clear G20 F21
  have K2 := (Kn.start w21).new (w21.heap.size) 128 Try.zeroCells30 30 rfl sZ.1
  rw [← Try.zBk]
  go_wp2_with (focus (((with_reducible refine' wpList_store_kn K2 rfl 30 (.tmp 7) _ rfl 0 _ _ _ _ _ rfl rfl Try.szBk _ _ _); rotate_left 2; (focus exact rfl)); (focus (with_reducible assumption)); intro wz Kz; clear K2; have K2 := Kz; clear Kz; simp only [List.set_cons_zero] at K2; try (simp only [Act.put, List.setIfInBounds_toArray, List.set_cons_zero, List.set_cons_succ])))
  have DD := HD.out.fr (X21.trans K2.fr (fun _ h => h.elim)) (fun _ _ h => h)
  have HDD := Lib.hid DD
  have J2 := G21.trans K2.fr (fun _ h => h.elim)
  clear G21 DD
  refine (size_ok d m (some ⟨bn, 0, none⟩) _ (HDD.out.c 0 rfl)).mono ?_
  rintro e ws ⟨rfl, Fs⟩
  have K3 := K2.call Fs
  clear K2
  go_wp2_with (focus (refine' wpList_load_pt_gd K3 rfl 30 (.tmp 7) rfl 0 _ _ 0 128 _ _ _ rfl _ Try.underlying30 rfl Try.szBk rfl (Part.whole _) sZ.1 _))
  refine (down_any d false _ ((HDD.out.fr Fs (fun _ _ h => h)).c 5 rfl)).mono ?_
  rintro e wt ⟨rfl, Ft⟩
  go_wp2_with fail
  go_ret
  exact ⟨rfl, (J2.trans Fs (fun _ h => h.elim)).trans Ft (fun _ h => h.elim)⟩
theorem dnews_any (n : Int) (w : World) : Calls Try.prog 3 #[.int .i64 n] w fun e w' => e = .returned (.bool true) ∧ Fr (fun _ => False) w w' := by
  by_cases h1 : n < 1
  · exact dnews_lo n h1 w
  by_cases h2 : 8192 < n
  · exact dnews_hi n h2 w
  by_cases h3 : n ≤ 50
  · exact dnews_small n n.toNat (by omega) (by omega) (by omega) w
  · have : n.tmod 2 = 0 ∨ n.tmod 2 = 1 := by
      rw [Int.tmod_eq_emod_of_nonneg (by omega)]
      omega
    rcases this with h | h
    · exact dnews_even n 8192 rfl (by omega) (by omega) h w
    · exact dnews_odd n 8191 rfl (by omega) (by omega) h w
end Go.Proofs.Ytgladedjgjhlaaa

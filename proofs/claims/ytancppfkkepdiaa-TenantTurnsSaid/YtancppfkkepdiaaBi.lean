/-
  A directory that is new.
-/
import Derived.Test.YtancppfkkepdiaaBh
namespace Go.Proofs.Ytancppfkkepdiaa
open Go.RowKit
set_option linter.unusedVariables false
set_option linter.unusedSimpArgs false
set_option maxRecDepth 100000 in
theorem szL : (Try.prog.info? 32).map (·.size) = some (#[Value.int .i64 1, .int .i64 1, .int .i64 1] : Array Value).size := by kernel_rfl
set_option maxRecDepth 100000 in
theorem szK : (Try.prog.info? 30).map (·.size) = some 64 := by kernel_rfl
set_option maxRecDepth 100000 in
set_option maxHeartbeats 1600000 in
theorem dnew_any (a : Option Addr) (n c : Nat) (xs : List Value) (n1 : 1 ≤ n) (n16 : n ≤ 16) (R : Array Value) (hR : R.size = 64) (h1 : R.all (·.oneCell') = true) (w : World) (hB : ∀ (a' : Option Addr) (c' m : Nat), ∃ cs : Array Value, Try.prog.built 86 [(0, .slice a' n c'), (1, .agg R), (2, .agg #[.int .i64 1, .int .i64 1, .int .i64 1]), (3, .map (some m))] = some cs ∧ ∀ W : World, (Instr.box 86 (.agg cs)).run Try.prog W = .ok (.pointer (some ⟨W.heap.size, 0, none⟩)) (W.alloc (.cells cs 86))) (hs : ∀ W, Fr (fun _ => False) w W → Src Try.prog 1 51 (.slice a n c) n xs W) : Calls Try.prog 20 #[.slice a n c, .agg R, .agg #[.int .i64 1, .int .i64 1, .int .i64 1]] w fun e w' => (∃ d, e = .returned (.tuple #[.pointer (some ⟨d, 0, none⟩), .int .i64 0])) ∧ Fr (fun _ => False) w w' := by
  have hb1 := heap_alloc_new w (.cells R 30)
  have A1 := (Fr.refl (fun _ => False) w).alloc (.cells R 30)
  have hb2 := heap_alloc_new (w.alloc (.cells R 30)) (.cells #[.int .i64 1, .int .i64 1, .int .i64 1] 32)
  have A2 := A1.alloc (.cells #[.int .i64 1, .int .i64 1, .int .i64 1] 32)
  have hz : (w.alloc (.cells R 30)).heap.size = w.heap.size + 1 := by simp
  rw [hz] at hb2
  have c0 := (cell_of_block hb2 0).trans (show _ = some (Value.int .i64 1) from rfl)
  have c1 := (cell_of_block hb2 1).trans (show _ = some (Value.int .i64 1) from rfl)
  have c2 := (cell_of_block hb2 2).trans (show _ = some (Value.int .i64 1) from rfl)
  have HN := Lib.hid (And.intro n1 n16)
  have HB1 := Lib.hid ((((Fr.refl (fun _ => False) (w.alloc (.cells R 30))).alloc (.cells #[.int .i64 1, .int .i64 1, .int .i64 1] 32)).block w.heap.size (lt_of_block hb1) (fun h => h)).trans hb1)
  have HB2 := Lib.hid hb2
  have HA2 := Lib.hid A2
  have HSS := Lib.hid hs
  have HBB := Lib.hid hB
  have HRR := Lib.hid hR
  have HN9 := Lib.hid n16
  clear hz n1 n16 hb1 hb2 A1 A2 hs hB hR h1
  go_enter Try.func20, Try.ntmps20
  go_wp2_with fail
  refine (within_yes (n : Int) 16 (by have := HN.out; omega) (by have := HN.out; omega) _).mono ?_
  rintro e w1 ⟨rfl, rfl⟩
  go_wp2_with fail
  refine (within_yes 1 64 (by decide) (by decide) _).mono ?_
  rintro e w1 ⟨rfl, rfl⟩
  go_wp2_with fail
  refine (within_yes 1 16 (by decide) (by decide) _).mono ?_
  rintro e w1 ⟨rfl, rfl⟩
  go_wp2_with fail
  refine (within_yes 1 32 (by decide) (by decide) _).mono ?_
  rintro e w1 ⟨rfl, rfl⟩
  go_wp2_with fail
  refine wp_region_M #[false, false, false, false, false, false, false, false, false] 9 (by kernel_rfl) (by kernel_rfl) ?_
  refine wpM.part' (sg 0 1 ++ (sg 2 2 ++ [])) 6 9 (by kernel_rfl) ?_
  refine Wk.seg 0 1 (by kernel_rfl) (by kernel_rfl) ?_
  apply Exists.intro
  refine ⟨?wk0, ?fin0⟩
  case wk0 =>
    intro γ
    simp only [List.drop_succ_cons, List.drop_zero, List.take_succ_cons, List.take_zero]
    repeat (any_goals (first | fail | go_big_quiet_step (fail) | quiet_step (fail)))
    exact wpQuiet_nil rfl
  case fin0 =>
  (try simp only [List.getElem_toArray, List.getElem_cons_succ, List.getElem_cons_zero, Act.put, List.setIfInBounds_toArray, List.set_cons_zero, List.set_cons_succ])
  refine Wk.seg 2 2 (by kernel_rfl) (by kernel_rfl) ?_
  apply Exists.intro
  refine ⟨?wk1, ?fin1⟩
  case wk1 =>
    intro γ
    simp only [List.drop_succ_cons, List.drop_zero, List.take_succ_cons, List.take_zero]
    repeat (any_goals (first | (focus (go_big_quiet_want; (first | (refine quiet_load_rowg 30 (.tmp 4) rfl w.heap.size rfl 30 R (0, 0) _ HB1.out Try.underlying30 rfl (szK.trans (congrArg some HRR.out.symm)) ?_) | (refine quiet_load_rowg 32 (.tmp 5) rfl (w.heap.size + 1) rfl 32 #[.int .i64 1, .int .i64 1, .int .i64 1] (0, 0) _ HB2.out Try.underlying32 rfl szL ?_)); simp only [Act.put, List.setIfInBounds_toArray, List.set_cons_zero, List.set_cons_succ]; go_big_quiet_on)) | go_big_quiet_step (fail) | quiet_step (fail)))
    exact wpQuiet_nil rfl
  case fin1 =>
  (try simp only [List.getElem_toArray, List.getElem_cons_succ, List.getElem_cons_zero, Act.put, List.setIfInBounds_toArray, List.set_cons_zero, List.set_cons_succ])
  intro W1 X1
  refine wpM.fork [1, 4] 5 (by kernel_rfl) ?_
  intro k hk W2 X2
  have hk2 : k = 1 ∨ k = 4 := by simpa using hk
  rcases hk2 with rfl | rfl
  · refine wpOp_callR rfl (by kernel_rfl) 38 #[.slice a n c] (by kernel_rfl) (fun v W => (∃ a c, v = .slice a n c) ∧ Ex W2 W) ((copied_any _ n xs (by have := HN9.out; omega) W2 (HSS.out W2 (HA2.out.trans (X1.tr X2) (fun _ h => h.elim)))).mono ?_) ?_
    · rintro e W ⟨⟨a', c', rfl⟩, F⟩
      exact ⟨_, rfl, ⟨_, _, rfl⟩, F⟩
    · rintro v W3 ⟨⟨a2, c2, rfl⟩, X3⟩
      refine ⟨X3, ?_⟩
      (try simp only [List.getElem_toArray, List.getElem_cons_succ, List.getElem_cons_zero, Act.put, List.setIfInBounds_toArray, List.set_cons_zero, List.set_cons_succ])
      refine wpM.last ((4, true) :: (sg 5 1 ++ ((6, true) :: (sg 7 2 ++ [])))) 5 (by kernel_rfl) ?_
      refine Wk.val rfl (by kernel_rfl) (fun v W => ∃ m, v = .map (some m)) (fun W hx => ⟨.map (some W.heap.size), W.alloc (.map #[] 0), rfl, (Fr.refl _ W).alloc _, ⟨_, rfl⟩⟩) ?_
      rintro v W4 X4 ⟨m, rfl⟩
      (try simp only [List.getElem_toArray, List.getElem_cons_succ, List.getElem_cons_zero, Act.put, List.setIfInBounds_toArray, List.set_cons_zero, List.set_cons_succ])
      have XX := X1.tr (X2.tr (X3.tr X4))
      obtain ⟨cs, hcs, hbx⟩ := HBB.out a2 c2 m
      clear X1 X2 X3 X4
      refine Wk.seg 5 1 (by kernel_rfl) (by kernel_rfl) ?_
      apply Exists.intro
      refine ⟨?wk10, ?fin10⟩
      case wk10 =>
        intro γ
        simp only [List.drop_succ_cons, List.drop_zero, List.take_succ_cons, List.take_zero]
        repeat (any_goals (first | (focus (go_big_quiet_want; (refine quiet_build4 86 0 1 2 3 (.tmp 31) (.tmp 32) (.tmp 33) (.tmp 34) _ _ _ _ rfl _ hcs rfl rfl rfl rfl ?_); simp only [Act.put, List.setIfInBounds_toArray, List.set_cons_zero, List.set_cons_succ]; go_big_quiet_on)) | go_big_quiet_step (fail) | quiet_step (fail)))
        exact wpQuiet_nil rfl
      case fin10 =>
      (try simp only [List.getElem_toArray, List.getElem_cons_succ, List.getElem_cons_zero, Act.put, List.setIfInBounds_toArray, List.set_cons_zero, List.set_cons_succ])
      refine Wk.val rfl (by kernel_rfl) (fun v W => ∃ d, v = .pointer (some ⟨d, 0, none⟩)) (fun W hx => ⟨.pointer (some ⟨W.heap.size, 0, none⟩), W.alloc (.cells cs 86), by have h := hbx W; simp [execOp, Act.eval, h, Result.andThen], (Fr.refl _ W).alloc _, ⟨_, rfl⟩⟩) ?_
      rintro v W5 X5 ⟨d, rfl⟩
      (try simp only [List.getElem_toArray, List.getElem_cons_succ, List.getElem_cons_zero, Act.put, List.setIfInBounds_toArray, List.set_cons_zero, List.set_cons_succ])
      refine Wk.seg 7 2 (by kernel_rfl) (by kernel_rfl) ?_
      apply Exists.intro
      refine ⟨?wk20, ?fin20⟩
      case wk20 =>
        intro γ
        simp only [List.drop_succ_cons, List.drop_zero, List.take_succ_cons, List.take_zero]
        repeat (any_goals (first | fail | go_big_quiet_step (fail) | quiet_step (fail)))
        exact wpQuiet_nil rfl
      case fin20 =>
      (try simp only [List.getElem_toArray, List.getElem_cons_succ, List.getElem_cons_zero, Act.put, List.setIfInBounds_toArray, List.set_cons_zero, List.set_cons_succ])
      intro W6 X6
      have HX := Lib.hid (HA2.out.trans (XX.tr (X5.tr X6)) (fun _ h => h.elim))
      clear X5 X6 XX
      go_wp2_with fail
      go_returns
      exact ⟨⟨d, rfl⟩, HX.out⟩
  · refine wpOp_value rfl (by kernel_rfl) (v := .map (some W2.heap.size)) (w' := W2.alloc (.map #[] 0)) rfl ⟨(Fr.refl _ W2).alloc _, ?_⟩
    (try simp only [List.getElem_toArray, List.getElem_cons_succ, List.getElem_cons_zero, Act.put, List.setIfInBounds_toArray, List.set_cons_zero, List.set_cons_succ])
    have X3 : Ex W2 (W2.alloc (.map #[] 0)) := (Fr.refl _ W2).alloc _
    refine wpM.last ((1, true) :: (sg 5 1 ++ ((6, true) :: (sg 7 2 ++ [])))) 5 (by kernel_rfl) ?_
    refine Wk.call rfl (by kernel_rfl) 38 #[.slice a n c] (fun W => by kernel_rfl) (fun v W => ∃ a c, v = .slice a n c) (fun W hx => (copied_any _ n xs (by have := HN9.out; omega) W (HSS.out W (HA2.out.trans (X1.tr (X2.tr (X3.tr hx))) (fun _ h => h.elim)))).mono ?_) ?_
    · rintro e W' ⟨⟨a', c', rfl⟩, F⟩
      exact ⟨_, rfl, F, ⟨_, _, rfl⟩⟩
    rintro v W4 X4 ⟨a2, c2, rfl⟩
    (try simp only [List.getElem_toArray, List.getElem_cons_succ, List.getElem_cons_zero, Act.put, List.setIfInBounds_toArray, List.set_cons_zero, List.set_cons_succ])
    have XX := X1.tr (X2.tr (X3.tr X4))
    obtain ⟨cs, hcs, hbx⟩ := HBB.out a2 c2 W2.heap.size
    clear X1 X2 X3 X4
    refine Wk.seg 5 1 (by kernel_rfl) (by kernel_rfl) ?_
    apply Exists.intro
    refine ⟨?wk11, ?fin11⟩
    case wk11 =>
      intro γ
      simp only [List.drop_succ_cons, List.drop_zero, List.take_succ_cons, List.take_zero]
      repeat (any_goals (first | (focus (go_big_quiet_want; (refine quiet_build4 86 0 1 2 3 (.tmp 31) (.tmp 32) (.tmp 33) (.tmp 34) _ _ _ _ rfl _ hcs rfl rfl rfl rfl ?_); simp only [Act.put, List.setIfInBounds_toArray, List.set_cons_zero, List.set_cons_succ]; go_big_quiet_on)) | go_big_quiet_step (fail) | quiet_step (fail)))
      exact wpQuiet_nil rfl
    case fin11 =>
    (try simp only [List.getElem_toArray, List.getElem_cons_succ, List.getElem_cons_zero, Act.put, List.setIfInBounds_toArray, List.set_cons_zero, List.set_cons_succ])
    refine Wk.val rfl (by kernel_rfl) (fun v W => ∃ d, v = .pointer (some ⟨d, 0, none⟩)) (fun W hx => ⟨.pointer (some ⟨W.heap.size, 0, none⟩), W.alloc (.cells cs 86), by have h := hbx W; simp [execOp, Act.eval, h, Result.andThen], (Fr.refl _ W).alloc _, ⟨_, rfl⟩⟩) ?_
    rintro v W5 X5 ⟨d, rfl⟩
    (try simp only [List.getElem_toArray, List.getElem_cons_succ, List.getElem_cons_zero, Act.put, List.setIfInBounds_toArray, List.set_cons_zero, List.set_cons_succ])
    refine Wk.seg 7 2 (by kernel_rfl) (by kernel_rfl) ?_
    apply Exists.intro
    refine ⟨?wk21, ?fin21⟩
    case wk21 =>
      intro γ
      simp only [List.drop_succ_cons, List.drop_zero, List.take_succ_cons, List.take_zero]
      repeat (any_goals (first | fail | go_big_quiet_step (fail) | quiet_step (fail)))
      exact wpQuiet_nil rfl
    case fin21 =>
    (try simp only [List.getElem_toArray, List.getElem_cons_succ, List.getElem_cons_zero, Act.put, List.setIfInBounds_toArray, List.set_cons_zero, List.set_cons_succ])
    intro W6 X6
    have HX := Lib.hid (HA2.out.trans (XX.tr (X5.tr X6)) (fun _ h => h.elim))
    clear X5 X6 XX
    go_wp2_with fail
    go_returns
    exact ⟨⟨d, rfl⟩, HX.out⟩
end Go.Proofs.Ytancppfkkepdiaa

/-
  A table of tenants: State.
-/
import Derived.Test.YtancppfkkepdiaaBd
namespace Go.Proofs.Ytancppfkkepdiaa
open Go.RowKit
set_option linter.unusedVariables false
set_option linter.unusedSimpArgs false
/-- A conversion that is the same in all the worlds of the stretch. -/
theorem quiet_conv {P : Program} {K : Act → Prop} {a : Act} {o : Oper} {W0 : World} {γ : Gd W0} (t t' : TypeId) (x : Operand) (ho : o.op = .convert t t' x) (v r : Value) (hx : a.eval x = v) (hc : ∀ y : Wg γ, (convert t t' v).run P y.w = .ok r y.w) (hk : K (a.put o.dst r)) : o.quiet P a (fun w' => ∃ y : Wg γ, w' = y.w) K :=
  ⟨r, fun w' ⟨y, e⟩ => by
    subst e
    unfold Oper.quietAt execOp
    simp only [ho, hx, Sem.run_bind, hc y, Result.andThen_ok, Sem.run_pure, Oper.quietUpon]
    exact ⟨trivial, trivial⟩, hk⟩
set_option maxRecDepth 100000 in
set_option maxHeartbeats 1600000 in
theorem state_at (tb pb : Nat) (P : List Pl) (gv : Value) (hl : P.length ≤ 8) (a : Option Addr) (n c : Nat) (s : ByteArray) (w : World) (h : TB w tb pb P gv) (hcv : Cv w a n c s) (k : Nat) (x : Pl) (hx : P[k]? = some x) (hat : isAt s x = true) (hone : ∀ j y, P[j]? = some y → isAt s y = true → j = k) : Calls Try.prog 15 #[.pointer (some ⟨tb, 0, none⟩), .slice a n c] w fun e w' => e = .returned (.int .i64 x.st) ∧ Fr (fun _ => False) w w' := by
  obtain ⟨c0, c1, _⟩ := h.c
  have HT := Lib.hid h
  have HCV0 := Lib.hid hcv
  clear h hcv
  go_enter Try.func15, Try.ntmps15
  go_wp2_with fail
  refine (find_any tb pb P _ hl a n c s w HT.out HCV0.out).mono ?_
  rintro e w2 ⟨hf, F2⟩
  have HF2 := Lib.hid F2
  have HT2 := Lib.hid (HT.out.ext F2)
  have HCV := Lib.hid (HCV0.out.ext F2)
  clear F2 c0 c1
  rcases hf with ⟨k2, x2, hx2, hy2, hz2, rfl⟩ | ⟨hno, rfl⟩
  · obtain rfl : k2 = k := hone k2 x2 hx2 hy2
    obtain rfl : x2 = x := by rw [hx] at hx2; exact (Option.some.inj hx2).symm
    have hkl := (List.getElem?_eq_some_iff.1 hx).1
    obtain ⟨d0, d1, d2⟩ := HT2.out.p hx
    obtain ⟨c0, c1, _⟩ := HT2.out.c
    have q0 : (0 : Int) ≤ (k2 : Int) := Int.natCast_nonneg k2
    have q1 : (k2 : Int) < (P.length : Int) := by omega
    clear hx2 hy2 hz2 hone hat hkl hx
    go_wp2_with fail
    go_ret
    exact ⟨rfl, HF2.out⟩
  · have := hno x (List.mem_of_getElem? hx)
    rw [hat] at this
    cases this
set_option maxRecDepth 100000 in
set_option maxHeartbeats 1600000 in
theorem state_nob (tb pb : Nat) (P : List Pl) (hl : P.length ≤ 8) (a : Option Addr) (n c : Nat) (s : ByteArray) (w : World)  (h : TB w tb pb P (.slice none 0 0)) (hcv : Cv w a n c s) (hno : ∀ x ∈ P, isAt s x = false) : Calls Try.prog 15 #[.pointer (some ⟨tb, 0, none⟩), .slice a n c] w fun e w' => e = .returned (.int .i64 0) ∧ Fr (fun _ => False) w w' := by
  obtain ⟨c0, c1, _⟩ := h.c
  have HT := Lib.hid h
  have HCV0 := Lib.hid hcv
  clear h hcv
  go_enter Try.func15, Try.ntmps15
  go_wp2_with fail
  refine (find_any tb pb P _ hl a n c s w HT.out HCV0.out).mono ?_
  rintro e w2 ⟨hf, F2⟩
  have HF2 := Lib.hid F2
  have HT2 := Lib.hid (HT.out.ext F2)
  have HCV := Lib.hid (HCV0.out.ext F2)
  clear F2 c0 c1
  rcases hf with ⟨k2, x2, hx2, hy2, hz2, rfl⟩ | ⟨_, rfl⟩
  · have := hno x2 (List.mem_of_getElem? hx2)
    rw [hy2] at this
    cases this
  · obtain ⟨c0, c1, _⟩ := HT2.out.c
    clear hno
    go_wp2_with fail
    refine wp_region_mono (sg 0 6 ++ ((6, true) :: (sg 7 5 ++ []))) (by kernel_rfl) (by kernel_rfl) ?_
    refine Wk.seg 0 6 (by kernel_rfl) (by kernel_rfl) ?_
    apply Exists.intro
    refine ⟨?wk0, ?fin0⟩
    case wk0 =>
      intro γ
      have k1 : ∀ y : Wg γ, y.w.cell? ⟨tb, 1, none⟩ = some (.slice none 0 0) := fun y => y.h.cellSome (fun h => h) c1
      have cv : ∀ y : Wg γ, (convert 51 9 (.slice a n c)).run Try.prog y.w = .ok (.string s) y.w := fun y => HCV.out y.w y.h
      simp only [List.drop_succ_cons, List.drop_zero, List.take_succ_cons, List.take_zero]
      repeat (any_goals (first | (focus (go_big_quiet_want; (refine quiet_conv 51 9 (.tmp 28) rfl _ _ rfl cv ?_); simp only [Act.put, List.setIfInBounds_toArray, List.set_cons_zero, List.set_cons_succ]; go_big_quiet_on)) | go_big_quiet_step (fail) | quiet_step (fail)))
      exact wpQuiet_nil rfl
    case fin0 =>
    (try simp only [Act.put, List.setIfInBounds_toArray, List.set_cons_zero, List.set_cons_succ])
    refine Wk.call rfl (by kernel_rfl) 34 #[.slice none 0 0, .string s] (fun W => by kernel_rfl) (fun v W => v = .tuple #[.int .i64 0, .bool false]) (fun W hx => (bs_none s W).mono ?_) ?_
    · rintro e W' ⟨rfl, F⟩
      exact ⟨_, rfl, F, rfl⟩
    rintro v w4 X4 rfl
    simp only [List.getElem_toArray, List.getElem_cons_succ, List.getElem_cons_zero, Act.put, List.setIfInBounds_toArray, List.set_cons_zero, List.set_cons_succ]
    refine Wk.seg 7 5 (by kernel_rfl) (by kernel_rfl) ?_
    apply Exists.intro
    refine ⟨?wk1, ?fin1⟩
    case wk1 =>
      intro γ
      simp only [List.drop_succ_cons, List.drop_zero, List.take_succ_cons, List.take_zero]
      repeat (any_goals (first | go_big_quiet_step (fail) | quiet_step (fail)))
      exact wpQuiet_nil rfl
    case fin1 =>
    (try simp only [Act.put, List.setIfInBounds_toArray, List.set_cons_zero, List.set_cons_succ])
    intro w5 X5
    have HX := Lib.hid (HF2.out.trans (X4.tr X5) (fun _ h => h.elim))
    clear X4 X5
    go_wp2_with fail
    go_ret
    exact ⟨rfl, HX.out⟩
set_option maxRecDepth 100000 in
set_option maxHeartbeats 1600000 in
theorem state_gone (tb pb : Nat) (P : List Pl) (hl : P.length ≤ 8) (a : Option Addr) (n c : Nat) (s : ByteArray) (w : World) (gg gc : Nat) (hgc : w.cell? ⟨gg, 0, none⟩ = some (.string s))  (h : TB w tb pb P (.slice (some ⟨gg, 0, none⟩) 1 gc)) (hcv : Cv w a n c s) (hno : ∀ x ∈ P, isAt s x = false) : Calls Try.prog 15 #[.pointer (some ⟨tb, 0, none⟩), .slice a n c] w fun e w' => e = .returned (.int .i64 3) ∧ Fr (fun _ => False) w w' := by
  obtain ⟨c0, c1, _⟩ := h.c
  have HT := Lib.hid h
  have HCV0 := Lib.hid hcv
  clear h hcv
  go_enter Try.func15, Try.ntmps15
  go_wp2_with fail
  refine (find_any tb pb P _ hl a n c s w HT.out HCV0.out).mono ?_
  rintro e w2 ⟨hf, F2⟩
  have HF2 := Lib.hid F2
  have HT2 := Lib.hid (HT.out.ext F2)
  have HCV := Lib.hid (HCV0.out.ext F2)
  clear F2 c0 c1
  rcases hf with ⟨k2, x2, hx2, hy2, hz2, rfl⟩ | ⟨_, rfl⟩
  · have := hno x2 (List.mem_of_getElem? hx2)
    rw [hy2] at this
    cases this
  · obtain ⟨c0, c1, _⟩ := HT2.out.c
    have HGC := Lib.hid (HF2.out.cellSome (fun h => h) hgc)
    clear hgc
    clear hno
    go_wp2_with fail
    refine wp_region_mono (sg 0 6 ++ ((6, true) :: (sg 7 5 ++ []))) (by kernel_rfl) (by kernel_rfl) ?_
    refine Wk.seg 0 6 (by kernel_rfl) (by kernel_rfl) ?_
    apply Exists.intro
    refine ⟨?wk0, ?fin0⟩
    case wk0 =>
      intro γ
      have k1 : ∀ y : Wg γ, y.w.cell? ⟨tb, 1, none⟩ = some (.slice (some ⟨gg, 0, none⟩) 1 gc) := fun y => y.h.cellSome (fun h => h) c1
      have cv : ∀ y : Wg γ, (convert 51 9 (.slice a n c)).run Try.prog y.w = .ok (.string s) y.w := fun y => HCV.out y.w y.h
      simp only [List.drop_succ_cons, List.drop_zero, List.take_succ_cons, List.take_zero]
      repeat (any_goals (first | (focus (go_big_quiet_want; (refine quiet_conv 51 9 (.tmp 28) rfl _ _ rfl cv ?_); simp only [Act.put, List.setIfInBounds_toArray, List.set_cons_zero, List.set_cons_succ]; go_big_quiet_on)) | go_big_quiet_step (fail) | quiet_step (fail)))
      exact wpQuiet_nil rfl
    case fin0 =>
    (try simp only [Act.put, List.setIfInBounds_toArray, List.set_cons_zero, List.set_cons_succ])
    refine Wk.call rfl (by kernel_rfl) 34 #[.slice (some ⟨gg, 0, none⟩) 1 gc, .string s] (fun W => by kernel_rfl) (fun v W => v = .tuple #[.int .i64 0, .bool true]) (fun W hx => (bs_one s gg gc W (hx.cellSome (fun h => h) HGC.out)).mono ?_) ?_
    · rintro e W' ⟨rfl, F⟩
      exact ⟨_, rfl, F, rfl⟩
    rintro v w4 X4 rfl
    simp only [List.getElem_toArray, List.getElem_cons_succ, List.getElem_cons_zero, Act.put, List.setIfInBounds_toArray, List.set_cons_zero, List.set_cons_succ]
    refine Wk.seg 7 5 (by kernel_rfl) (by kernel_rfl) ?_
    apply Exists.intro
    refine ⟨?wk1, ?fin1⟩
    case wk1 =>
      intro γ
      simp only [List.drop_succ_cons, List.drop_zero, List.take_succ_cons, List.take_zero]
      repeat (any_goals (first | go_big_quiet_step (fail) | quiet_step (fail)))
      exact wpQuiet_nil rfl
    case fin1 =>
    (try simp only [Act.put, List.setIfInBounds_toArray, List.set_cons_zero, List.set_cons_succ])
    intro w5 X5
    have HX := Lib.hid (HF2.out.trans (X4.tr X5) (fun _ h => h.elim))
    clear X4 X5
    go_wp2_with fail
    go_ret
    exact ⟨rfl, HX.out⟩
end Go.Proofs.Ytancppfkkepdiaa

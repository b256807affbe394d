/-
  A table of tenants: Import.
-/
import Derived.Test.YtancppfkkepdiaaBi
namespace Go.Proofs.Ytancppfkkepdiaa
open Go.RowKit
set_option linter.unusedVariables false
set_option linter.unusedSimpArgs false
/-- State, as a contract. -/
abbrev StIs (tb : Nat) (a : Option Addr) (n c : Nat) (st : Int) (w : World) : Prop := Calls Try.prog 15 #[.pointer (some ⟨tb, 0, none⟩), .slice a n c] w fun e w' => e = .returned (.int .i64 st) ∧ Fr (fun _ => False) w w'
set_option maxRecDepth 100000 in
set_option maxHeartbeats 1600000 in
theorem imp_gone (tb : Nat) (a : Option Addr) (n c : Nat) (n1 : 1 ≤ n) (n16 : n ≤ 16) (d : Addr) (w : World) (hS : StIs tb a n c 3 w) : Calls Try.prog 8 #[.pointer (some ⟨tb, 0, none⟩), .slice a n c, .pointer (some d)] w fun e w' => e = .returned (.tuple #[.int .i64 0, .int .i64 9]) ∧ Fr (fun _ => False) w w' := by
  have HS := Lib.hid hS
  clear hS
  go_enter Try.func8, Try.ntmps8
  go_wp2_with fail
  refine (id_ok a n c n1 n16 w).mono ?_
  rintro e w1 ⟨rfl, rfl⟩
  go_wp2_with fail
  refine HS.out.mono ?_
  rintro e w1 ⟨rfl, F1⟩
  have HF := Lib.hid F1
  clear F1
  go_wp2_with fail
  go_returns
  exact ⟨rfl, HF.out⟩
set_option maxRecDepth 100000 in
set_option maxHeartbeats 1600000 in
theorem imp_full (tb pb : Nat) (P : List Pl) (gv : Value) (hl : P.length ≤ 8) (a : Option Addr) (n c : Nat) (n1 : 1 ≤ n) (n16 : n ≤ 16) (d : Addr) (w : World) (h : TB w tb pb P gv) (hS : StIs tb a n c 0 w) (hf : ∀ x ∈ P, x.st ≠ 0) : Calls Try.prog 8 #[.pointer (some ⟨tb, 0, none⟩), .slice a n c, .pointer (some d)] w fun e w' => e = .returned (.tuple #[.int .i64 0, .int .i64 7]) ∧ Fr (fun _ => False) w w' := by
  have HS := Lib.hid hS
  have HT := Lib.hid h
  have HL := Lib.hid (And.intro hl hf)
  clear hS h hl hf
  go_enter Try.func8, Try.ntmps8
  go_wp2_with fail
  refine (id_ok a n c n1 n16 w).mono ?_
  rintro e w1 ⟨rfl, rfl⟩
  go_wp2_with fail
  refine HS.out.mono ?_
  rintro e w1 ⟨rfl, F1⟩
  have HF := Lib.hid F1
  have HT1 := Lib.hid (HT.out.ext F1)
  clear F1
  obtain ⟨c0, c1, f1⟩ := HT1.out.c
  go_wp2_with fail
  refine (idx_free pb tb P gv HL.out.1 w1 HT1.out).mono ?_
  rintro e w2 ⟨hx, F2⟩
  have HF2 := Lib.hid (HF.out.trans F2 (fun _ h => h.elim))
  clear F2
  rcases hx with ⟨k, x, hx, h0, _, rfl⟩ | ⟨_, rfl⟩
  · exact absurd h0 (HL.out.2 x (List.mem_of_getElem? hx))
  · go_wp2_with fail
    go_returns
    exact ⟨rfl, HF2.out⟩
set_option maxRecDepth 100000 in
/-- A conversion, where blocks of S may turn. -/
theorem quiet_convS {P : Program} {K : Act → Prop} {a : Act} {o : Oper} {S : Nat → Prop} {W0 : World} {γ : Ks.Gs S W0} (t t' : TypeId) (x : Operand) (ho : o.op = .convert t t' x) (v r : Value) (hx : a.eval x = v) (hc : ∀ y : Ks.Ws γ, (convert t t' v).run P y.w = .ok r y.w) (hk : K (a.put o.dst r)) : o.quiet P a (fun w' => ∃ y : Ks.Ws γ, w' = y.w) K :=
  ⟨r, fun w' ⟨y, e⟩ => by
    subst e
    unfold Oper.quietAt execOp
    simp only [ho, hx, Sem.run_bind, hc y, Result.andThen_ok, Sem.run_pure, Oper.quietUpon]
    exact ⟨trivial, trivial⟩, hk⟩
/-- The text of bytes that are not in the block b. -/
def CvB (b : Nat) (w : World) (a : Option Addr) (n c : Nat) (s : ByteArray) : Prop := ∀ W : World, Fr (fun k => k = b) w W → (convert 51 9 (.slice a n c)).run Try.prog W = .ok (.string s) W
set_option maxRecDepth 100000 in
set_option maxHeartbeats 1600000 in
theorem imp_ok (tb pb : Nat) (P : List Pl) (gv : Value) (hl : P.length ≤ 8) (a : Option Addr) (n c : Nat) (s : ByteArray) (n1 : 1 ≤ n) (n16 : n ≤ 16) (d : Addr) (w : World) (h : TB w tb pb P gv) (hS : StIs tb a n c 0 w) (hcv : CvB pb w a n c s) (k : Nat) (x : Pl) (hx : P[k]? = some x) (h0 : x.st = 0) (hmin : ∀ (j : Nat) (y : Pl), j < k → P[j]? = some y → y.st ≠ 0) : Calls Try.prog 8 #[.pointer (some ⟨tb, 0, none⟩), .slice a n c, .pointer (some d)] w fun e w' => e = .returned (.tuple #[.int .i64 (k : Int), .int .i64 0]) ∧ TB w' tb pb (P.set k ⟨s, 1, some d⟩) gv ∧ Fr (fun b => b = pb) w w' := by
  have hkl := (List.getElem?_eq_some_iff.1 hx).1
  have HS := Lib.hid hS
  have HT := Lib.hid h
  have HL := Lib.hid (And.intro hl (And.intro hx (And.intro h0 hmin)))
  have HCV := Lib.hid hcv
  have HK := Lib.hid hkl
  have q0 : (0 : Int) ≤ (k : Int) := Int.natCast_nonneg k
  have q1 : (k : Int) < (P.length : Int) := by omega
  have q2 : ¬ ((k : Int) < 0) := by omega
  clear hS h hl hx h0 hmin hcv hkl
  go_enter Try.func8, Try.ntmps8
  go_wp2_with fail
  refine (id_ok a n c n1 n16 w).mono ?_
  rintro e w1 ⟨rfl, rfl⟩
  go_wp2_with fail
  refine HS.out.mono ?_
  rintro e w1 ⟨rfl, F1⟩
  have HF := Lib.hid F1
  have HT1 := Lib.hid (HT.out.ext F1)
  clear F1
  obtain ⟨c0, c1, f1⟩ := HT1.out.c
  go_wp2_with fail
  refine (idx_free pb tb P gv HL.out.1 w1 HT1.out).mono ?_
  rintro e w2 ⟨hf, F2⟩
  have HF2 := Lib.hid (HF.out.trans F2 (fun _ h => h.elim))
  have HT2 := Lib.hid (HT1.out.ext F2)
  clear F2 c0 c1 f1
  rcases hf with ⟨k2, x2, hx2, h02, hm2, rfl⟩ | ⟨hno, rfl⟩
  · obtain rfl : k2 = k := by
      rcases Nat.lt_trichotomy k2 k with h | h | h
      · exact absurd h02 (HL.out.2.2.2 k2 x2 h hx2)
      · exact h
      · exact absurd HL.out.2.2.1 (hm2 k x h HL.out.2.1)
    clear hx2 h02 hm2
    obtain ⟨c0, c1, f1⟩ := HT2.out.c
    go_wp2_with fail
    refine Ks.wp_region_mono (fun b => b = pb) (sg 0 10 ++ ((10, true) :: [])) (by kernel_rfl) (by kernel_rfl) ?_
    refine Ks.Wk.seg 0 10 (by kernel_rfl) (by kernel_rfl) ?_
    apply Exists.intro
    refine ⟨?wk1, ?fin1⟩
    case wk1 =>
      intro γ
      have k0 : ∀ z : Ks.Ws γ, z.w.cell? ⟨tb, 0, none⟩ = some (.slice (some ⟨pb, 0, none⟩) P.length P.length) := fun z => z.h.cellSome HT2.out.ne c0
      have cv : ∀ z : Ks.Ws γ, (convert 51 9 (.slice a n c)).run Try.prog z.w = .ok (.string s) z.w := fun z => HCV.out z.w ((HF2.out.mono (fun _ _ h => h.elim)).trans z.h (fun _ h => .inl h))
      simp only [List.drop_succ_cons, List.drop_zero, List.take_succ_cons, List.take_zero]
      repeat (any_goals (first | (focus (go_big_quiet_want; (refine quiet_convS 51 9 (.tmp 40) rfl _ _ rfl cv ?_); simp only [Act.put, List.setIfInBounds_toArray, List.set_cons_zero, List.set_cons_succ]; go_big_quiet_on)) | go_big_quiet_step (fail) | quiet_step (fail)))
      exact wpQuiet_nil rfl
    case fin1 =>
    (try simp only [Act.put, List.setIfInBounds_toArray, List.set_cons_zero, List.set_cons_succ])
    refine Ks.Wk.one rfl (fun W6 X6 => ?_)
    have HRW := (X6.block pb (lt_of_block HT2.out.row) (fun h => h)).trans HT2.out.row
    refine wpList_store_part rfl 70 (.tmp 44) (.tmp 43) rfl pb (k2 * 3) #[.string s, .int .i64 1, .pointer (some d)] rfl rfl (by kernel_rfl) (by simp [Value.oneCell']) 70 (pc P).toArray HRW (by have h1 := HK.out; have h2 := pc_len P; show k2 * 3 + 3 ≤ (pc P).length; omega) ?_
    intro W7 h7 F7
    have HR := Lib.hid (h7.trans (congrArg (fun z => some (Obj.cells z 70 (0, 0))) (pc_put P k2 ⟨s, 1, some d⟩ HK.out)))
    have HTB := Lib.hid ((F7.block tb (lt_of_block ((HT2.out.ext X6).blk)) HT2.out.ne).trans (HT2.out.ext X6).blk)
    have HF7 := Lib.hid ((HF2.out.mono (T := fun b => b = pb) (fun _ _ h => h.elim)).trans ((X6.mono (T := fun b => b = pb) (fun _ _ h => h.elim)).trans F7 (fun _ h => .inl h)) (fun _ h => .inl h))
    refine ⟨rfl, F7, ?_⟩
    (try simp only [Act.put, List.setIfInBounds_toArray, List.set_cons_zero, List.set_cons_succ])
    intro W8 X8
    have HX8 := Lib.hid X8
    clear X6 HRW h7 F7 X8 c0 c1 f1
    go_wp2_with fail
    go_returns
    have hlen : (P.set k2 ⟨s, 1, some d⟩).length = P.length := List.length_set
    refine ⟨rfl, ⟨?_, (HX8.out.block pb (lt_of_block HR.out) (fun h => h)).trans HR.out, HT2.out.ne⟩, HF7.out.trans HX8.out (fun _ h => h.elim)⟩
    rw [hlen]
    exact (HX8.out.block tb (lt_of_block HTB.out) (fun h => h)).trans HTB.out
  · exact absurd HL.out.2.2.1 (hno x (List.mem_of_getElem? HL.out.2.1))
end Go.Proofs.Ytancppfkkepdiaa

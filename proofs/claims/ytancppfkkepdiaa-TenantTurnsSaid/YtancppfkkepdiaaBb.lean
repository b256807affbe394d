/-
  A table of tenants: Room, IndexFunc of a free place, an Import of none.
-/
import Derived.Test.YtancppfkkepdiaaBa
namespace Go.Proofs.Ytancppfkkepdiaa
open Go.RowKit
set_option linter.unusedVariables false
set_option linter.unusedSimpArgs false
theorem id_bad (a : Option Addr) (n c : Nat) (h : n = 0 ∨ 16 < n) (w : World) : Calls Try.prog 28 #[.slice a n c] w fun e w' => e = .returned (.bool false) ∧ w = w' := by
  by_cases h0 : n = 0
  · subst h0
    clear h
    go_enter Try.func28, Try.ntmps28
    go_wp2_with fail
    go_ret
    exact ⟨rfl, rfl⟩
  · have t1 : (1 : Int) ≤ (n : Int) := by omega
    have t2 : ¬ ((n : Int) ≤ 16) := by omega
    clear h
    go_enter Try.func28, Try.ntmps28
    go_wp2_with fail
    go_ret
    exact ⟨by simp [t1, t2], rfl⟩
set_option maxRecDepth 100000 in
theorem imp_nil (tb : Nat) (a : Option Addr) (n c : Nat) (w : World) : Calls Try.prog 8 #[.pointer (some ⟨tb, 0, none⟩), .slice a n c, .pointer none] w fun e w' => e = .returned (.tuple #[.int .i64 0, .int .i64 1]) ∧ w = w' := by
  by_cases h : 1 ≤ n ∧ n ≤ 16
  · go_enter Try.func8, Try.ntmps8
    go_wp2_with fail
    refine (id_ok a n c h.1 h.2 w).mono ?_
    rintro e w1 ⟨rfl, rfl⟩
    go_wp2_with fail
    go_returns
    exact ⟨rfl, rfl⟩
  · go_enter Try.func8, Try.ntmps8
    go_wp2_with fail
    refine (id_bad a n c (by omega) w).mono ?_
    rintro e w1 ⟨rfl, rfl⟩
    go_wp2_with fail
    go_returns
    exact ⟨rfl, rfl⟩
def frees (L : List Pl) : Nat := (L.filter fun x => x.st == 0).length
theorem take_snoc {α : Type} {L : List α} {k : Nat} {m : α} (h : L[k]? = some m) : L.take (k + 1) = L.take k ++ [m] := by
  rw [List.take_add_one, h]; rfl
theorem frees_yes {L : List Pl} {k : Nat} {x : Pl} (h : L[k]? = some x) (hx : (x.st == 0) = true) : frees (L.take (k + 1)) = frees (L.take k) + 1 := by
  unfold frees
  rw [take_snoc h, List.filter_append, List.length_append]
  simp [hx]
theorem frees_no {L : List Pl} {k : Nat} {x : Pl} (h : L[k]? = some x) (hx : (x.st == 0) = false) : frees (L.take (k + 1)) = frees (L.take k) := by
  unfold frees
  rw [take_snoc h, List.filter_append, List.length_append]
  simp [hx]
theorem szP : (Try.prog.info? 70).map (·.size) = some 3 := by kernel_rfl
/-- The first free place. -/
def FreeAt (P : List Pl) (e : Ending) : Prop := (∃ (k : Nat) (x : Pl), P[k]? = some x ∧ x.st = 0 ∧ (∀ (j : Nat) (y : Pl), j < k → P[j]? = some y → y.st ≠ 0) ∧ e = .returned (.int .i64 (k : Int))) ∨ ((∀ x ∈ P, x.st ≠ 0) ∧ e = .returned (.int .i64 (-1)))
set_option maxRecDepth 100000 in
set_option maxHeartbeats 1600000 in
theorem idx_free (pb : Nat) (tb : Nat) (P : List Pl) (gv : Value) (hl : P.length ≤ 8) (w : World) (h : TB w tb pb P gv) : Calls Try.prog 29 #[.slice (some ⟨pb, 0, none⟩) P.length P.length, .func (.func 30) #[] #[]] w fun e w' => FreeAt P e ∧ Fr (fun _ => False) w w' := by
  have HT := Lib.hid h
  have HL := Lib.hid hl
  clear h hl
  go_enter Try.func29, Try.ntmps29
  go_wp2_with fail
  go_loopw [8] (fun i wr => ∃ k : Nat, k ≤ P.length ∧ i = .int .i64 (k : Int) ∧ (∀ (j : Nat) (y : Pl), j < k → P[j]? = some y → y.st ≠ 0) ∧ Fr (fun _ => False) w wr) (fun i _ => P.length - (intOf i).toNat)
  case atStart => exact ⟨0, Nat.zero_le _, by simp, fun j y hj => absurd hj (by omega), Fr.refl _ _⟩
  case round =>
    obtain ⟨k, hk, rfl, hno, F⟩ := hrel
    have HF := Lib.hid F
    have HN := Lib.hid hno
    by_cases hlt : k < P.length
    · obtain ⟨x, hx⟩ : ∃ x, P[k]? = some x := ⟨_, List.getElem?_eq_getElem hlt⟩
      obtain ⟨c0, c1, c2⟩ := (HT.out.ext F).p hx
      have q1 : (k : Int) < (P.length : Int) := by omega
      have hl := HL.out
      have w1' : wrap64 ((k : Int) + 1) = ((k + 1 : Nat) : Int) := by rw [IntWalk.wrap64_in _ (by omega)]; omega
      have W1 := Lib.hid w1'
      have HX := Lib.hid hx
      have HLT := Lib.hid hlt
      clear F hno hk hlt hx w1' hl
      go_wp2_with fail
      refine (free_any x _).mono ?_
      rintro e w1 ⟨rfl, F1⟩
      have HF1 := Lib.hid (HF.out.trans F1 (fun _ h => h.elim))
      clear F1 c0 c1 c2
      by_cases h0 : x.st = 0
      · have hb : (x.st == 0) = true := by rw [h0]; rfl
        have H0 := Lib.hid h0
        clear h0
        go_wp2_with fail
        go_ret
        exact ⟨.inl ⟨k, x, HX.out, H0.out, HN.out, rfl⟩, HF1.out⟩
      · have hb : (x.st == 0) = false := beq_eq_false_iff_ne.2 h0
        have H0 := Lib.hid h0
        clear h0
        go_wp2_with fail
        (try rw [W1.out])
        refine ⟨⟨k + 1, HLT.out, rfl, fun j y hj hy => ?_, HF1.out⟩, by simp [intOf]; have := HLT.out; omega⟩
        by_cases hjk : j = k
        · subst hjk
          have := hy.symm.trans HX.out
          injection this with e
          rw [e]; exact H0.out
        · exact HN.out j y (by omega) hy
    · obtain rfl : k = P.length := by omega
      have q1 : ¬ ((P.length : Int) < (P.length : Int)) := by omega
      clear F hno hlt hk
      go_wp2_with fail
      go_ret
      refine ⟨.inr ⟨fun x hx => ?_, rfl⟩, HF.out⟩
      obtain ⟨j, hj⟩ := List.mem_iff_getElem?.1 hx
      exact HN.out j x (List.getElem?_eq_some_iff.1 hj).1 hj
end Go.Proofs.Ytancppfkkepdiaa

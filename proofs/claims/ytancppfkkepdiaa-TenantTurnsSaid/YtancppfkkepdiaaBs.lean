/-
  A table of tenants: turn, Hold, Free, Get.
-/
import Derived.Test.YtancppfkkepdiaaBl
namespace Go.Proofs.Ytancppfkkepdiaa
open Go.RowKit
set_option linter.unusedVariables false
set_option linter.unusedSimpArgs false
theorem pc_set (P : List Pl) (k : Nat) (x : Pl) (v : Int) (hx : P[k]? = some x) : (pc P).toArray.setIfInBounds (k * 3 + 1) (.int .i64 v) = (pc (P.set k ⟨x.id, v, x.dir⟩)).toArray := by
  have hk := (List.getElem?_eq_some_iff.1 hx).1
  rw [← pc_put P k ⟨x.id, v, x.dir⟩ hk]
  obtain ⟨e0, e1, e2⟩ := pc_get P k x hx
  have hl := pc_len P
  apply Array.ext_getElem?
  intro j
  rw [Array.getElem?_setIfInBounds]
  simp only [List.getElem?_toArray, List.size_toArray, List.append_assoc]
  rw [List.getElem?_append, List.getElem?_append]
  simp only [List.length_take, List.length_drop, hl]
  rw [show min (k * 3) (P.length * 3) = k * 3 by omega]
  by_cases hj : k * 3 + 1 = j
  · subst hj
    rw [if_pos rfl, if_pos (by omega), if_neg (by omega), if_pos (by show k * 3 + 1 - k * 3 < 3; omega)]
    rw [show k * 3 + 1 - k * 3 = 1 by omega]; rfl
  · rw [if_neg hj]
    by_cases h0 : j < k * 3
    · rw [if_pos h0, List.getElem?_take, if_pos h0]
    · rw [if_neg h0]
      by_cases h3 : j < k * 3 + 3
      · rw [if_pos (by show j - k * 3 < 3; omega)]
        rcases (by omega : j = k * 3 ∨ j = k * 3 + 2) with rfl | rfl
        · rw [e0, show k * 3 - k * 3 = 0 by omega]; rfl
        · rw [e2, show k * 3 + 2 - k * 3 = 2 by omega]; rfl
      · rw [if_neg (by show ¬ (j - k * 3 < 3); omega), List.getElem?_drop]
        congr 1
        show j = k * 3 + 3 + (j - k * 3 - 3)
        omega
def gotV (held : Bool) (x : Pl) : Value := if held || x.st == 1 then .tuple #[.pointer x.dir, .int .i64 0] else .tuple #[.pointer none, .int .i64 12]
set_option maxRecDepth 100000 in
set_option maxHeartbeats 1600000 in
theorem turn_ok (tb pb : Nat) (P : List Pl) (gv : Value) (hl : P.length ≤ 8) (a : Option Addr) (n c : Nat) (s : ByteArray) (w : World) (h : TB w tb pb P gv) (hcv : Cv w a n c s) (k : Nat) (x : Pl) (hx : P[k]? = some x) (hat : isAt s x = true) (hone : ∀ j y, P[j]? = some y → isAt s y = true → j = k) (h3 : x.st ≠ 3) (u v : Int) (hu : x.st = u) : Calls Try.prog 33 #[.pointer (some ⟨tb, 0, none⟩), .slice a n c, .int .i64 u, .int .i64 v] w fun e w' => e = .returned (.int .i64 0) ∧ TB w' tb pb (P.set k ⟨x.id, v, x.dir⟩) gv ∧ Fr (fun k => k = pb) w w' := by
  have hkl := (List.getElem?_eq_some_iff.1 hx).1
  have HP := Lib.hid (place_at tb pb P _ hl a n c s w h hcv k x hx hat hone h3)
  have HT := Lib.hid h
  have HX := Lib.hid hx
  have HK := Lib.hid hkl
  have q0 : (0 : Int) ≤ (k : Int) := Int.natCast_nonneg k
  have q1 : (k : Int) < (P.length : Int) := by omega
  clear h hcv hat hone h3 hx hkl
  go_enter Try.func33, Try.ntmps33
  go_wp2_with fail
  refine HP.out.mono ?_
  rintro e w1 ⟨rfl, F1⟩
  have HT1 := Lib.hid (HT.out.ext F1)
  have HF1 := Lib.hid F1
  clear F1
  obtain ⟨c0, c1, f1⟩ := HT1.out.c
  obtain ⟨d0, d1, d2⟩ := HT1.out.p HX.out
  have f2 : w1.frozen? ⟨pb, k * 3 + 1, none⟩ = false := free_of_block HT1.out.row _
  go_wp2_with fail
  go_ret
  have FS : Fr (fun k => k = pb) w1 (w1.setCell ⟨pb, k * 3 + 1, none⟩ (.int .i64 v)) := Fr.setCell (S := fun k => k = pb) (Fr.refl _ w1) (Or.inl rfl) _
  refine ⟨rfl, ⟨?_, ?_, HT1.out.ne⟩, (HF1.out.mono (fun _ _ h => h.elim)).trans FS (fun _ h => .inl h)⟩
  · rw [List.length_set]
    exact (FS.block tb (lt_of_block HT1.out.blk) HT1.out.ne).trans HT1.out.blk
  · exact (block_setCell HT1.out.row _ _).trans (by rw [pc_set P k x v HX.out])
set_option maxRecDepth 100000 in
set_option maxHeartbeats 1600000 in
theorem turn_held (tb pb : Nat) (P : List Pl) (gv : Value) (hl : P.length ≤ 8) (a : Option Addr) (n c : Nat) (s : ByteArray) (w : World) (h : TB w tb pb P gv) (hcv : Cv w a n c s) (k : Nat) (x : Pl) (hx : P[k]? = some x) (hat : isAt s x = true) (hone : ∀ j y, P[j]? = some y → isAt s y = true → j = k) (h3 : x.st ≠ 3) (u v : Int) (hu : x.st ≠ u) : Calls Try.prog 33 #[.pointer (some ⟨tb, 0, none⟩), .slice a n c, .int .i64 u, .int .i64 v] w fun e w' => e = .returned (.int .i64 12) ∧ Fr (fun _ => False) w w' := by
  have hkl := (List.getElem?_eq_some_iff.1 hx).1
  have HP := Lib.hid (place_at tb pb P _ hl a n c s w h hcv k x hx hat hone h3)
  have HT := Lib.hid h
  have HX := Lib.hid hx
  have q0 : (0 : Int) ≤ (k : Int) := Int.natCast_nonneg k
  have q1 : (k : Int) < (P.length : Int) := by omega
  have hub : (x.st == u) = false := beq_eq_false_iff_ne.2 hu
  clear h hcv hat hone h3 hx hkl hu
  go_enter Try.func33, Try.ntmps33
  go_wp2_with fail
  refine HP.out.mono ?_
  rintro e w1 ⟨rfl, F1⟩
  have HT1 := Lib.hid (HT.out.ext F1)
  have HF1 := Lib.hid F1
  clear F1
  obtain ⟨c0, c1, f1⟩ := HT1.out.c
  obtain ⟨d0, d1, d2⟩ := HT1.out.p HX.out
  go_wp2_with fail
  go_ret
  exact ⟨rfl, HF1.out⟩
set_option maxRecDepth 100000 in
set_option maxHeartbeats 1600000 in
theorem get_at (tb pb : Nat) (P : List Pl) (gv : Value) (hl : P.length ≤ 8) (a : Option Addr) (n c : Nat) (s : ByteArray) (w : World) (h : TB w tb pb P gv) (hcv : Cv w a n c s) (k : Nat) (x : Pl) (hx : P[k]? = some x) (hat : isAt s x = true) (hone : ∀ j y, P[j]? = some y → isAt s y = true → j = k) (h3 : x.st ≠ 3) (held : Bool) : Calls Try.prog 10 #[.pointer (some ⟨tb, 0, none⟩), .slice a n c, .bool held] w fun e w' => e = .returned (gotV held x) ∧ Fr (fun _ => False) w w' := by
  have hkl := (List.getElem?_eq_some_iff.1 hx).1
  have HP := Lib.hid (place_at tb pb P _ hl a n c s w h hcv k x hx hat hone h3)
  have HT := Lib.hid h
  have HX := Lib.hid hx
  have q0 : (0 : Int) ≤ (k : Int) := Int.natCast_nonneg k
  have q1 : (k : Int) < (P.length : Int) := by omega
  clear h hcv hat hone h3 hx hkl
  go_enter Try.func10, Try.ntmps10
  go_wp2_with fail
  refine HP.out.mono ?_
  rintro e w1 ⟨rfl, F1⟩
  have HT1 := Lib.hid (HT.out.ext F1)
  have HF1 := Lib.hid F1
  clear F1
  obtain ⟨c0, c1, f1⟩ := HT1.out.c
  obtain ⟨d0, d1, d2⟩ := HT1.out.p HX.out
  have hb := heap_alloc_new w1 (.cells #[.string x.id, .int .i64 x.st, .pointer x.dir] 70)
  have g1 := (cell_of_block hb 1).trans (show _ = some (Value.int .i64 x.st) from rfl)
  have g2 := (cell_of_block hb 2).trans (show _ = some (Value.pointer x.dir) from rfl)
  have HF2 := Lib.hid (HF1.out.trans ((Fr.refl (fun _ => False) w1).alloc (.cells #[.string x.id, .int .i64 x.st, .pointer x.dir] 70)) (fun _ h => h.elim))
  clear hb
  cases held
  · by_cases h1 : x.st = 1
    · have hb1 : (x.st == 1) = true := beq_iff_eq.2 h1
      clear h1
      go_wp2_with fail
      go_returns
      exact ⟨by simp [gotV, hb1], HF2.out⟩
    · have hb1 : (x.st == 1) = false := beq_eq_false_iff_ne.2 h1
      clear h1
      go_wp2_with fail
      go_returns
      exact ⟨by simp [gotV, hb1], HF2.out⟩
  · go_wp2_with fail
    go_returns
    exact ⟨by simp [gotV], HF2.out⟩
end Go.Proofs.Ytancppfkkepdiaa

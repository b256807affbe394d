/-
  A table of tenants: find.
-/
import Derived.Test.YtancppfkkepdiaaBb
import Derived.Laws.BytesArg
namespace Go.Proofs.Ytancppfkkepdiaa
open Go.RowKit
set_option linter.unusedVariables false
set_option linter.unusedSimpArgs false
/-- The text of bytes, in whatever later world. -/
def Cv (w : World) (a : Option Addr) (n c : Nat) (s : ByteArray) : Prop := ∀ W : World, Fr (fun _ => False) w W → (convert 51 9 (.slice a n c)).run Try.prog W = .ok (.string s) W
theorem Cv.ext {w w' : World} {a : Option Addr} {n c : Nat} {s : ByteArray} (h : Cv w a n c s) (F : Fr (fun _ => False) w w') : Cv w' a n c s := fun W G => h W (F.trans G (fun _ h => h.elim))
def isAt (s : ByteArray) (x : Pl) : Bool := !(x.st == 0) && x.id.toList == s.toList
/-- Where one is. -/
def FindAt (P : List Pl) (s : ByteArray) (e : Ending) : Prop := (∃ (k : Nat) (x : Pl), P[k]? = some x ∧ isAt s x = true ∧ (∀ (j : Nat) (y : Pl), j < k → P[j]? = some y → isAt s y = false) ∧ e = .returned (.int .i64 (k : Int))) ∨ ((∀ x ∈ P, isAt s x = false) ∧ e = .returned (.int .i64 (-1)))
set_option maxRecDepth 100000 in
set_option maxHeartbeats 1600000 in
theorem find1_any (bx : Nat) (a : Option Addr) (n c : Nat) (s : ByteArray) (x : Pl) (w : World) (hbx : w.heap[bx]? = some (.cells #[.slice a n c] 51 (0, 0))) (hcv : Cv w a n c s) : Calls Try.prog 42 #[.agg #[.string x.id, .int .i64 x.st, .pointer x.dir], .pointer (some ⟨bx, 0, none⟩)] w fun e w' => e = .returned (.bool (isAt s x)) ∧ Fr (fun _ => False) w w' := by
  have A1 := (Fr.refl (fun _ => False) w).alloc (.cells #[.string x.id, .int .i64 x.st, .pointer x.dir] 70)
  have hb := heap_alloc_new w (.cells #[.string x.id, .int .i64 x.st, .pointer x.dir] 70)
  have c0 := (cell_of_block hb 0).trans (show _ = some (Value.string x.id) from rfl)
  have c1 := (cell_of_block hb 1).trans (show _ = some (Value.int .i64 x.st) from rfl)
  have c2 := (cell_of_block hb 2).trans (show _ = some (Value.pointer x.dir) from rfl)
  have HB := Lib.hid hb
  have HA := Lib.hid A1
  have HBX := Lib.hid hbx
  have HCV := Lib.hid hcv
  clear hb A1 hbx hcv
  go_enter Try.func42, Try.ntmps42
  go_wp2_with fail
  refine (free_any x _).mono ?_
  rintro e w1 ⟨rfl, F1⟩
  have HF := Lib.hid (HA.out.trans F1 (fun _ h => h.elim))
  have d0 := F1.cellSome (fun h => h) c0
  have d1 : w1.cell? ⟨bx, 0, none⟩ = some (.slice a n c) := (cell_of_block ((HF.out.block bx (lt_of_block HBX.out) (fun h => h)).trans HBX.out) 0).trans rfl
  have hc := HCV.out w1 HF.out
  clear c0 c1 c2 F1
  by_cases h0 : x.st = 0
  · have hb : (x.st == 0) = true := by rw [h0]; rfl
    have HI := Lib.hid (show isAt s x = false by simp [isAt, hb])
    clear h0
    go_wp2_with fail
    go_ret
    rw [HI.out]
    exact ⟨rfl, HF.out⟩
  · have hb : (x.st == 0) = false := beq_eq_false_iff_ne.2 h0
    have HI := Lib.hid (show isAt s x = (x.id.toList == s.toList) by simp [isAt, hb])
    clear h0
    go_wp2_with fail
    go_ret
    rw [HI.out]
    exact ⟨rfl, HF.out⟩
set_option maxRecDepth 100000 in
set_option maxHeartbeats 1600000 in
theorem idx_find (bx : Nat) (a : Option Addr) (n c : Nat) (s : ByteArray) (pb : Nat) (tb : Nat) (P : List Pl) (gv : Value) (hl : P.length ≤ 8) (w : World) (h : TB w tb pb P gv) (hbx : w.heap[bx]? = some (.cells #[.slice a n c] 51 (0, 0))) (hcv : Cv w a n c s) : Calls Try.prog 29 #[.slice (some ⟨pb, 0, none⟩) P.length P.length, .func (.func 42) #[] #[.pointer (some ⟨bx, 0, none⟩)]] w fun e w' => FindAt P s e ∧ Fr (fun _ => False) w w' := by
  have HT := Lib.hid h
  have HL := Lib.hid hl
  have HBX := Lib.hid hbx
  have HCV := Lib.hid hcv
  clear h hl hbx hcv
  go_enter Try.func29, Try.ntmps29
  go_wp2_with fail
  go_loopw [8] (fun i wr => ∃ k : Nat, k ≤ P.length ∧ i = .int .i64 (k : Int) ∧ (∀ (j : Nat) (y : Pl), j < k → P[j]? = some y → isAt s y = false) ∧ Fr (fun _ => False) w wr) (fun i _ => P.length - (intOf i).toNat)
  case atStart => exact ⟨0, Nat.zero_le _, by simp, fun j y hj => absurd hj (by omega), Fr.refl _ _⟩
  case round =>
    obtain ⟨k, hk, rfl, hno, F⟩ := hrel
    have HF := Lib.hid F
    have HN := Lib.hid hno
    by_cases hlt : k < P.length
    · obtain ⟨x, hx⟩ : ∃ x, P[k]? = some x := ⟨_, List.getElem?_eq_getElem hlt⟩
      obtain ⟨c0, c1, c2⟩ := (HT.out.ext F).p hx
      have q1 : (k : Int) < (P.length : Int) := by omega
      have hl := HL.out
      have w1' : wrap64 ((k : Int) + 1) = ((k + 1 : Nat) : Int) := by rw [IntWalk.wrap64_in _ (by omega)]; omega
      have W1 := Lib.hid w1'
      have HX := Lib.hid hx
      have HLT := Lib.hid hlt
      clear F hno hk hlt hx w1' hl
      go_wp2_with fail
      refine (find1_any bx a n c s x _ (HF.out.block bx (lt_of_block HBX.out) (fun h => h) |>.trans HBX.out) (HCV.out.ext HF.out)).mono ?_
      rintro e w1 ⟨rfl, F1⟩
      have HF1 := Lib.hid (HF.out.trans F1 (fun _ h => h.elim))
      clear F1 c0 c1 c2
      by_cases h0 : isAt s x = true
      · have H0 := Lib.hid h0
        go_wp2_with fail
        go_ret
        exact ⟨.inl ⟨k, x, HX.out, H0.out, HN.out, rfl⟩, HF1.out⟩
      · have hb : isAt s x = false := by simpa using h0
        have H0 := Lib.hid hb
        clear h0
        go_wp2_with fail
        (try rw [W1.out])
        refine ⟨⟨k + 1, HLT.out, rfl, fun j y hj hy => ?_, HF1.out⟩, by simp [intOf]; have := HLT.out; omega⟩
        by_cases hjk : j = k
        · subst hjk
          have := hy.symm.trans HX.out
          injection this with e
          rw [e]; exact H0.out
        · exact HN.out j y (by omega) hy
    · obtain rfl : k = P.length := by omega
      have q1 : ¬ ((P.length : Int) < (P.length : Int)) := by omega
      clear F hno hlt hk
      go_wp2_with fail
      go_ret
      refine ⟨.inr ⟨fun x hx => ?_, rfl⟩, HF.out⟩
      obtain ⟨j, hj⟩ := List.mem_iff_getElem?.1 hx
      exact HN.out j x (List.getElem?_eq_some_iff.1 hj).1 hj
end Go.Proofs.Ytancppfkkepdiaa

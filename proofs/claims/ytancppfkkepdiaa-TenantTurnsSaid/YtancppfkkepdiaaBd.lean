/-
  A table of tenants: find, State.
-/
import Derived.Test.YtancppfkkepdiaaBc
namespace Go.Proofs.Ytancppfkkepdiaa
open Go.RowKit
set_option linter.unusedVariables false
set_option linter.unusedSimpArgs false
set_option maxRecDepth 100000 in
set_option maxHeartbeats 1600000 in
theorem find_any (tb pb : Nat) (P : List Pl) (gv : Value) (hl : P.length ≤ 8) (a : Option Addr) (n c : Nat) (s : ByteArray) (w : World) (h : TB w tb pb P gv) (hcv : Cv w a n c s) : Calls Try.prog 32 #[.pointer (some ⟨tb, 0, none⟩), .slice a n c] w fun e w' => FindAt P s e ∧ Fr (fun _ => False) w w' := by
  have F1 := (Fr.refl (fun _ => False) w).alloc (.cells #[.slice a n c] 51)
  have T1 := h.ext F1
  obtain ⟨c0, _, _⟩ := T1.c
  have HC := Lib.hid (idx_find w.heap.size a n c s pb tb P gv hl _ T1 (heap_alloc_new w _) (hcv.ext F1))
  have HF := Lib.hid F1
  clear h hcv F1 T1
  go_enter Try.func32, Try.ntmps32
  go_wp2_with fail
  refine HC.out.mono ?_
  rintro e w2 ⟨hf, F2⟩
  have HF2 := Lib.hid (HF.out.trans F2 (fun _ h => h.elim))
  clear F2
  rcases hf with ⟨k, x, hx, hy, hz, rfl⟩ | ⟨hno, rfl⟩
  · have H := Lib.hid (And.intro hx (And.intro hy hz))
    clear hx hy hz
    go_wp2_with fail
    go_ret
    exact ⟨.inl ⟨k, x, H.out.1, H.out.2.1, H.out.2.2, rfl⟩, HF2.out⟩
  · have H := Lib.hid hno
    clear hno
    go_wp2_with fail
    go_ret
    exact ⟨.inr ⟨H.out, rfl⟩, HF2.out⟩
set_option maxRecDepth 100000 in
theorem nan_any (s : ByteArray) (w : World) : Calls Try.prog 49 #[.string s] w fun e w' => e = .returned (.bool false) ∧ w = w' := by
  have h1 : (s.toList == s.toList) = true := beq_self_eq_true _
  go_enter Try.func49, Try.ntmps49
  go_wp2_with fail
  go_ret
  exact ⟨rfl, rfl⟩
set_option maxRecDepth 100000 in
theorem nan2_any (s : ByteArray) (w : World) : Calls Try.prog 44 #[.string s] w fun e w' => e = .returned (.bool false) ∧ w = w' := by
  have h1 : (s.toList == s.toList) = true := beq_self_eq_true _
  go_enter Try.func44, Try.ntmps44
  go_wp2_with fail
  go_ret
  exact ⟨rfl, rfl⟩
theorem less_self : ∀ a : List UInt8, Op.bytesLess a a = false
  | [] => rfl
  | x :: a => by simp [Op.bytesLess, less_self a]
set_option maxRecDepth 100000 in
theorem lt_self (s : ByteArray) (w : World) : Calls Try.prog 43 #[.string s, .string s] w fun e w' => e = .returned (.bool false) ∧ w = w' := by
  have h1 := less_self s.toList
  go_enter Try.func43, Try.ntmps43
  go_wp2_with fail
  refine (nan_any s w).mono ?_
  rintro e w1 ⟨rfl, rfl⟩
  go_wp2_with fail
  go_ret
  exact ⟨rfl, rfl⟩
/-- Those that are gone: none, or one. -/
def GS (w : World) (gv : Value) (G : Option ByteArray) : Prop := match G with
  | none => gv = .slice none 0 0
  | some s => ∃ g c, gv = .slice (some ⟨g, 0, none⟩) 1 c ∧ w.cell? ⟨g, 0, none⟩ = some (.string s)
set_option maxRecDepth 100000 in
theorem bs_none (s : ByteArray) (w : World) : Calls Try.prog 34 #[.slice none 0 0, .string s] w fun e w' => e = .returned (.tuple #[.int .i64 0, .bool false]) ∧ Fr (fun _ => False) w w' := by
  go_enter Try.func34, Try.ntmps34
  go_wp2_with fail
  go_loopw [7, 8] (fun i j wr => i = .int .i64 0 ∧ j = .int .i64 0 ∧ Fr (fun _ => False) w wr) (fun _ j _ => (intOf j).toNat)
  case atStart => exact ⟨rfl, rfl, Fr.refl _ _⟩
  case round =>
    obtain ⟨rfl, rfl, F⟩ := hrel
    go_wp2_with fail
    go_returns
    exact ⟨rfl, F⟩
set_option maxRecDepth 100000 in
theorem bs_one (s : ByteArray) (g c : Nat) (w : World) (h : w.cell? ⟨g, 0, none⟩ = some (.string s)) : Calls Try.prog 34 #[.slice (some ⟨g, 0, none⟩) 1 c, .string s] w fun e w' => e = .returned (.tuple #[.int .i64 0, .bool true]) ∧ Fr (fun _ => False) w w' := by
  have hs : (s.toList == s.toList) = true := beq_self_eq_true _
  go_enter Try.func34, Try.ntmps34
  go_wp2_with fail
  go_loopw [7, 8] (fun i j wr => i = .int .i64 0 ∧ (j = .int .i64 1 ∨ j = .int .i64 0) ∧ Fr (fun _ => False) w wr) (fun _ j _ => (intOf j).toNat)
  case atStart => exact ⟨rfl, .inl (by simp), Fr.refl _ _⟩
  case round =>
    obtain ⟨rfl, hj, F⟩ := hrel
    have c0 := F.cellSome (fun h => h) h
    have HF := Lib.hid F
    clear F
    rcases hj with rfl | rfl
    · go_wp2_with fail
      refine (lt_self s _).mono ?_
      rintro e w1 ⟨rfl, rfl⟩
      go_wp2_with fail
      exact ⟨⟨rfl, .inr rfl, HF.out⟩, by simp [intOf]⟩
    · go_wp2_with fail
      go_returns
      exact ⟨rfl, HF.out⟩
end Go.Proofs.Ytancppfkkepdiaa

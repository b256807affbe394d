/-
  The contracts of codec's Reader, one a method: what is read stands before what is left, and nothing else turns.
-/
import Derived.Test.YtdlmfodnookmhaaCw
namespace Go.Proofs.Ytdlmfodnookmhaa
open Go.RowKit
set_option linter.unusedVariables false

/-- A Reader's block, and the bytes that are left. -/
structure Rd (w : World) (br : Nat) (a : Option Addr) (c : Nat) (l : List UInt8) (er : Int) : Prop where
  blk : w.heap[br]? = some (.cells #[.slice a l.length c, .int .i64 er] 56 (0, 0))
  le : l.length ≤ c
  mx : c ≤ maxLen
  ne : ¬ inBlk a br
  lies : Lies w a l

theorem Rd.fr {w w2 : World} {br c : Nat} {a : Option Addr} {l : List UInt8} {er : Int} {S : Nat → Prop} (h : Rd w br a c l er) (hF : Fr S w w2) (h1 : ¬ S br) (h2 : ∀ k, inBlk a k → ¬ S k) : Rd w2 br a c l er :=
  ⟨(hF.block br (lt_of_block h.blk) h1).trans h.blk, h.le, h.mx, h.ne, h.lies.fr hF h2⟩
theorem clone_lies (a : Addr) (l : List UInt8) (n cp : Nat) (hn : l.length = n) (w : World) (h : Lies w (some a) l) (hm : n ≤ 140737488355328) :
    Calls Try.prog 18 #[.slice (some a) n cp] w fun e w' => ∃ g c, e = .returned (.slice (some ⟨g, 0, none⟩) n c) ∧ w'.ownsRow w.heap.size 5 1 (.slice (some ⟨g, 0, none⟩) n c) n (bv l) ∧ Fr (fun _ => False) w w' := by
  subst hn
  exact clone_some a l.length cp (bv l) w (fun w2 hF => (h.fr hF (fun _ _ h => h)).src cp) hm

/-- What is left behind a taking. -/
def RdPost (w w2 : World) (br g c : Nat) (l : List UInt8) (er : Int) : Prop := ∃ o2, Rd w2 br (some ⟨g, o2, none⟩) c l er ∧ Fr (fun k => k = br) w w2
/-- The reader's error is set. -/
theorem Rd.err {w : World} {br c : Nat} {a : Option Addr} {l : List UInt8} {er : Int} (h : Rd w br a c l er) (e2 : Int) : Rd (w.setCell ⟨br, 1, none⟩ (.int .i64 e2)) br a c l e2 :=
  ⟨by simpa using block_setCell h.blk 1 (.int .i64 e2), h.le, h.mx, h.ne, h.lies.fr ((Fr.refl (fun k => k = br) w).setCell (Or.inl rfl) _) (fun k hk e => h.ne (e ▸ hk))⟩

set_option maxHeartbeats 800000 in
theorem has_yes (br c : Nat) (a : Option Addr) (l : List UInt8) (n : Int) (w : World) (h : Rd w br a c l 0) (hn : n ≤ (l.length : Int)) :
    Calls Try.prog 30 #[.pointer (some ⟨br, 0, none⟩), .int .i64 n] w fun e w' => e = .returned (.bool true) ∧ w = w' := by
  have hc0 := cell_of_block h.blk 0
  have hc1 := cell_of_block h.blk 1
  simp at hc0 hc1
  have hm : l.length ≤ 9223372036854775807 := by have := h.mx; have := h.le; unfold maxLen at *; omega
  go_enter Try.func30, Try.ntmps30
  go_wp2
  go_ret
  exact ⟨rfl, rfl⟩

set_option maxHeartbeats 800000 in
theorem has_err (br c : Nat) (a : Option Addr) (l : List UInt8) (n er : Int) (w : World) (h : Rd w br a c l er) (hn : (er == 0) = false) :
    Calls Try.prog 30 #[.pointer (some ⟨br, 0, none⟩), .int .i64 n] w fun e w' => e = .returned (.bool false) ∧ w = w' := by
  have hc0 := cell_of_block h.blk 0
  have hc1 := cell_of_block h.blk 1
  simp at hc0 hc1
  have hn2 : (er != 0) = true := by simp at hn ⊢; exact hn
  go_enter Try.func30, Try.ntmps30
  go_wp2
  go_ret
  exact ⟨rfl, rfl⟩

set_option maxHeartbeats 800000 in
theorem has_no (br c : Nat) (a : Option Addr) (l : List UInt8) (n : Int) (w : World) (h : Rd w br a c l 0) (hn : (l.length : Int) < n) :
    Calls Try.prog 30 #[.pointer (some ⟨br, 0, none⟩), .int .i64 n] w fun e w' => e = .returned (.bool false) ∧ w' = w.setCell ⟨br, 1, none⟩ (.int .i64 3) := by
  have hc0 := cell_of_block h.blk 0
  have hc1 := cell_of_block h.blk 1
  have hf1 := free_of_block h.blk 1
  simp at hc0 hc1
  have hm : l.length ≤ 9223372036854775807 := by have := h.mx; have := h.le; unfold maxLen at *; omega
  go_enter Try.func30, Try.ntmps30
  go_wp2
  go_ret
  exact ⟨rfl, rfl⟩

theorem take_end {w : World} {br c g off : Nat} {l : List UInt8} {er : Int} {n : Nat} (h : Rd w br (some ⟨g, off, none⟩) c l er) (o2 c2 n2 : Nat) (v : Value) (hn2 : n2 = (l.drop n).length) (hle : n2 ≤ c2) (hmx : c2 ≤ maxLen)
    (hv : v = .slice (some ⟨g, o2, none⟩) n2 c2) (hl : Lies w (some ⟨g, o2, none⟩) (l.drop n)) : Rd (w.setCell ⟨br, 0, none⟩ v) br (some ⟨g, o2, none⟩) c2 (l.drop n) er := by
  subst hv
  subst hn2
  have hg : g ≠ br := fun e => h.ne ⟨_, rfl, e⟩
  exact ⟨by simpa using block_setCell h.blk 0 _, hle, hmx, fun ⟨ad, e, hb⟩ => hg (by cases e; exact hb), hl.fr ((Fr.refl (fun k => k = br) w).setCell (Or.inl rfl) _) (fun k ⟨ad, e, hb⟩ e2 => hg (by cases e; exact hb.trans e2))⟩

set_option maxHeartbeats 800000 in
theorem take_any (br c g off : Nat) (l : List UInt8) (er : Int) (n : Nat) (N : Int) (hN : N = (n : Int)) (w : World) (H : Rd w br (some ⟨g, off, none⟩) c l er) (hn : n ≤ l.length) :
    Calls Try.prog 31 #[.pointer (some ⟨br, 0, none⟩), .int .i64 N] w fun e w' => e = .returned (.slice (some ⟨g, off, none⟩) n c) ∧ RdPost w w' br g (c - n) (l.drop n) er := by
  subst hN
  have hc0 := cell_of_block H.blk 0
  have hc1 := cell_of_block H.blk 1
  have hf0 := free_of_block H.blk 0
  simp at hc0 hc1
  have hm : c ≤ 9223372036854775807 := by have := H.mx; unfold maxLen at *; omega
  have hl := H.le
  go_enter Try.func31, Try.ntmps31
  go_wp2
  all_goals
    go_ret
    refine ⟨rfl, ?_⟩
  · have hcn : c = n := by assumption
    subst hcn
    exact ⟨off, take_end H off 0 (l.length - c) _ (by simp) (by omega) (by unfold maxLen; omega) rfl (Or.inl (List.drop_eq_nil_of_le hl)), (Fr.refl (fun k => k = br) w).setCell (Or.inl rfl) _⟩
  · exact ⟨off + n, take_end H (off + n) (c - n) (l.length - n) _ (by simp) (by omega) (by unfold maxLen; omega) rfl (H.lies.drop n), (Fr.refl (fun k => k = br) w).setCell (Or.inl rfl) _⟩

set_option maxHeartbeats 400000 in
theorem left_any (br c : Nat) (a : Option Addr) (l : List UInt8) (er : Int) (w : World) (h : Rd w br a c l er) :
    Calls Try.prog 15 #[.pointer (some ⟨br, 0, none⟩)] w fun e w' => e = .returned (.int .i64 l.length) ∧ w = w' := by
  have hc0 := cell_of_block h.blk 0
  simp at hc0
  go_enter Try.func15, Try.ntmps15
  go_wp2
  go_ret
  exact ⟨rfl, rfl⟩

set_option maxHeartbeats 400000 in
theorem end_err (br c : Nat) (a : Option Addr) (l : List UInt8) (er : Int) (w : World) (h : Rd w br a c l er) (hn : (er == 0) = false) :
    Calls Try.prog 14 #[.pointer (some ⟨br, 0, none⟩)] w fun e w' => e = .returned (.int .i64 er) ∧ w = w' := by
  have hc0 := cell_of_block h.blk 0
  have hc1 := cell_of_block h.blk 1
  simp at hc0 hc1
  have hn2 : (er != 0) = true := by simp at hn ⊢; exact hn
  go_enter Try.func14, Try.ntmps14
  go_wp2
  go_ret
  exact ⟨rfl, rfl⟩

set_option maxHeartbeats 400000 in
theorem end_tail (br c : Nat) (a : Option Addr) (l : List UInt8) (w : World) (h : Rd w br a c l 0) (hl : 0 < l.length) :
    Calls Try.prog 14 #[.pointer (some ⟨br, 0, none⟩)] w fun e w' => e = .returned (.int .i64 4) ∧ w = w' := by
  have hc0 := cell_of_block h.blk 0
  have hc1 := cell_of_block h.blk 1
  simp at hc0 hc1
  have hl2 : decide (0 < l.length) = true := by simpa using hl
  go_enter Try.func14, Try.ntmps14
  go_wp2
  go_ret
  exact ⟨rfl, rfl⟩

set_option maxHeartbeats 400000 in
theorem end_ok (br c : Nat) (a : Option Addr) (w : World) (h : Rd w br a c [] 0) :
    Calls Try.prog 14 #[.pointer (some ⟨br, 0, none⟩)] w fun e w' => e = .returned (.int .i64 0) ∧ w = w' := by
  have hc0 := cell_of_block h.blk 0
  have hc1 := cell_of_block h.blk 1
  simp at hc0 hc1
  go_enter Try.func14, Try.ntmps14
  go_wp2
  go_ret
  exact ⟨rfl, rfl⟩

set_option maxHeartbeats 800000 in
theorem byte_yes (br c g off : Nat) (b : UInt8) (l : List UInt8) (w : World) (h : Rd w br (some ⟨g, off, none⟩) c (b :: l) 0) :
    Calls Try.prog 25 #[.pointer (some ⟨br, 0, none⟩)] w fun e w' => e = .returned (.int .i64 b.toNat) ∧ RdPost w w' br g (c - 1) l 0 := by
  go_enter Try.func25, Try.ntmps25
  go_wp2_with fail
  refine (has_yes br c _ (b :: l) 1 _ h (by simp; omega)).mono ?_
  rintro e w1 ⟨rfl, rfl⟩
  go_wp2_with fail
  refine (take_any br c g off (b :: l) 0 1 1 rfl _ h (by simp)).mono ?_
  rintro e w2 ⟨rfl, o2, hr, hF⟩
  have hcell : w2.cell? ⟨g, off, none⟩ = some (.int .u8 b.toNat) := by
    refine hF.cellSome (p := ⟨g, off, none⟩) (fun e => h.ne ⟨_, rfl, e⟩) ?_
    rcases h.lies with e | ⟨g2, off2, e, hc⟩
    · cases e
    · obtain ⟨rfl, rfl⟩ : g = g2 ∧ off = off2 := by simpa using Option.some.inj e
      exact hc 0 (by simp)
  have hb : (b.toNat : Int) < 256 := by have := b.toNat_lt; omega
  go_wp2
  go_ret
  exact ⟨rfl, o2, by simpa using hr, hF⟩
end Go.Proofs.Ytdlmfodnookmhaa


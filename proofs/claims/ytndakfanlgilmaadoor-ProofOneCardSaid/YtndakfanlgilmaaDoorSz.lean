/-
  The walk of the law Sha2Sizes: of noughts of each count the sum is told.
-/
import Derived.Test.YtndakfanlgilmaaDoorEn
namespace Go.Proofs.YtndakfanlgilmaaDoor
open Go.RowKit
set_option linter.unusedVariables false

set_option maxRecDepth 100000 in
theorem Came.str2 {w : World} {a : Option Addr} {n c : Nat} {l : List UInt8} (h : Came w a n c l) : (convert 39 9 (.slice a n c)).run Tryd.prog w = .ok (.string ⟨l.toArray⟩) w := by
  have := run_str h.lies c 9 Tryd.underlying9
  rw [h.len] at this
  exact this
def noughts2 (n : Nat) : List UInt8 := List.replicate n 0
set_option maxRecDepth 100000 in
theorem made_noughts2 (n : Nat) : (madeCells #[Value.int .u8 0] n).toList = bv (noughts2 n) := by
  apply List.ext_getElem
  · simp [madeCells, noughts2, bv]
  · intro i h1 h2
    simp [madeCells, noughts2, bv, Nat.mod_one]
set_option maxRecDepth 100000 in
theorem parts1 {w : World} {b : Nat} {a : Option Addr} {n c : Nat} {x : List UInt8} {t : TypeId} {fr : Nat × Nat} (h : w.heap[b]? = some (.cells #[.slice a n c] t fr)) (hx : Came w a n c x) : Parts w (some ⟨b, 0, none⟩) [x] := by
  refine Or.inr ⟨b, 0, rfl, fun j hj => ?_⟩
  match j, hj with
  | 0, _ => exact ⟨a, c, by rw [cell_of_block h]; simp [hx.len], hx.lies, by have := hx.le; have := hx.len; simp; omega, hx.mx⟩
set_option maxRecDepth 100000 in
theorem came_own2 {w : World} {B n : Nat} {a : Option Addr} {c : Nat} {l : List UInt8} (h : w.ownsRow B 5 1 (.slice a n c) n (bv l)) : Came w a n c l := by
  obtain ⟨h1, h2, h3, h4⟩ := lies_own h
  refine ⟨h1.symm, h2, h3, h4, fun e => ?_⟩
  rcases h.2 with ⟨e2, h0⟩ | ⟨g, cap, cur, e2, _⟩
  · subst e; injection e2 with _ e3 e4; exact ⟨e3, e4⟩
  · subst e; cases e2
end Go.Proofs.YtndakfanlgilmaaDoor


/-
  The walk of the law Sha2Forks: a hash that goes on from here, and the one it came from, don't know of each other.
-/
import Derived.Test.YtndakfanlgilmaaDoorSums
import Derived.Stop.BytesEq
namespace Go.Proofs.YtndakfanlgilmaaDoor
open Go.RowKit
set_option linter.unusedVariables false

/-- Bytes that came in as a slice. -/
structure Came (w : World) (a : Option Addr) (n c : Nat) (l : List UInt8) : Prop where
  len : l.length = n
  le : n ≤ c
  mx : c ≤ maxLen
  lies : Lies w a l
  nil : a = none → n = 0 ∧ c = 0

set_option maxRecDepth 100000 in
theorem sum_length (l : List UInt8) : (S2.sum l).length = 32 := rfl
set_option maxRecDepth 100000 in
theorem sumc_map (l : List UInt8) : sumc l = ((S2.sum l).map Extern.Stop.cell).toArray := by
  refine (ub_ext (by simp [sum_length]) (fun j hj => ?_)).symm
  have hl := sum_length l
  rw [List.getElem?_toArray, List.getElem?_map, List.getElem?_eq_getElem (by omega)]
  have e : S2.out (S2.hw (l ++ S2.pad l.length)) = S2.sum l := rfl
  simp only [Option.map_some, Extern.Stop.cell, e, List.getD, List.getElem?_eq_getElem (show j < (S2.sum l).length by omega), Option.getD_some]
  rfl
set_option maxRecDepth 100000 in
theorem eql_sumc (x y : List UInt8) (w : World) : (binOp .eql 22 (.agg (sumc x)) (.agg (sumc y))).run Tryd.prog w = .ok (.bool (S2.sum x == S2.sum y)) w := by
  rw [sumc_map, sumc_map]
  refine run_eql_bytes w 22 5 32 Tryd.underlying22 Tryd.underlying5 ?_ _ _ (sum_length x) (sum_length y)
  intro w2
  obtain ⟨i0, hi, hz⟩ := Option.map_eq_some_iff.1 Tryd.sizeB
  simp [sizeOf, typeInfo, hi, hz]
set_option maxRecDepth 100000 in
theorem Tryd.guard32 : Tryd.prog.eqGuardType Tryd.prog.depth 22 = false := by kernel_rfl
set_option maxRecDepth 100000 in
theorem min300 (n : Nat) : (if (300 : Int) < (n : Int) then (300 : Int) else (n : Int)).toNat = min n 300 := by
  split <;> omega
set_option maxRecDepth 100000 in
theorem Came.cut {w w2 : World} {a : Option Addr} {n c : Nat} {l : List UInt8} (h : Came w a n c l) (m : Nat) (hm : m ≤ n) (hF : Fr (fun _ => False) w w2) : Came w2 a m c (l.take m) :=
  ⟨by rw [List.length_take, h.len]; omega, by have := h.le; omega, h.mx, (h.lies.grow hF).take m, fun e => by have := h.nil e; omega⟩
set_option maxRecDepth 100000 in
theorem Came.grow {w w2 : World} {a : Option Addr} {n c : Nat} {l : List UInt8} (h : Came w a n c l) {S : Nat → Prop} (hF : Fr S w w2) (hS : ∀ k, k < w.heap.size → ¬ S k) : Came w2 a n c l := by
  refine ⟨h.len, h.le, h.mx, ?_, h.nil⟩
  by_cases e : l = []
  · exact Or.inl e
  · exact h.lies.fr hF (fun k hk => hS k (h.lies.lt e k hk))
set_option maxRecDepth 100000 in
theorem Came.apart {w : World} {a : Option Addr} {n c b : Nat} {l : List UInt8} (h : Came w a n c l) (hb : w.heap.size ≤ b) : l = [] ∨ ¬ inBlk a b := by
  by_cases e : l = []
  · exact Or.inl e
  · exact Or.inr fun hk => by have := h.lies.lt e b hk; omega

set_option maxRecDepth 100000 in
theorem parts2 {w : World} {b : Nat} {a a2 : Option Addr} {n n2 c c2 : Nat} {x y : List UInt8} {t : TypeId} {fr : Nat × Nat} (h : w.heap[b]? = some (.cells #[.slice a n c, .slice a2 n2 c2] t fr)) (hx : Came w a n c x) (hy : Came w a2 n2 c2 y) : Parts w (some ⟨b, 0, none⟩) [x, y] := by
  refine Or.inr ⟨b, 0, rfl, fun j hj => ?_⟩
  match j, hj with
  | 0, _ => exact ⟨a, c, by rw [cell_of_block h]; simp [hx.len], hx.lies, by have := hx.le; have := hx.len; simp; omega, hx.mx⟩
  | 1, _ => exact ⟨a2, c2, by rw [cell_of_block h]; simp [hy.len], hy.lies, by have := hy.le; have := hy.len; simp; omega, hy.mx⟩

end Go.Proofs.YtndakfanlgilmaaDoor


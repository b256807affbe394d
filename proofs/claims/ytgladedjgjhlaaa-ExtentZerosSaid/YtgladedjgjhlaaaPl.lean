/-
  The contracts of plus and difference of package scalar.
-/
import Derived.Test.YtgladedjgjhlaaaNc
import Derived.Test.YtgladedjgjhlaaaFr
import Derived.Deep.RegionHeld3
import Derived.StillTailTactics
import Derived.Deep.RegionWith
namespace Go.Proofs.Ytgladedjgjhlaaa
open Go.RowKit
set_option linter.unusedVariables false

/-- The first n values of f as words. -/
def uq (n : Nat) (f : Nat → Nat) : Array Value := ((List.range n).map fun j => Value.int .u64 (f j : Int)).toArray
theorem uq_size (n : Nat) (f : Nat → Nat) : (uq n f).size = n := by simp [uq]
theorem uq_get (n : Nat) (f : Nat → Nat) (j : Nat) (hj : j < n) : (uq n f)[j]? = some (.int .u64 (f j : Int)) := by simp [uq, hj]
theorem uq_one (n : Nat) (f : Nat → Nat) : (uq n f).all (·.oneCell') = true := by simp [uq, Value.oneCell']
theorem uq_ext {cs : Array Value} {n : Nat} {f : Nat → Nat} (h : cs.size = n) (h2 : ∀ j, j < n → cs[j]? = some (.int .u64 (f j : Int))) : cs = uq n f := by
  apply Array.ext
  · rw [h, uq_size]
  · intro i h3 h4
    have a := h2 i (by omega)
    have b := uq_get n f i (by omega)
    rw [Array.getElem?_eq_getElem h3] at a
    rw [Array.getElem?_eq_getElem h4] at b
    exact (Option.some.inj a).trans (Option.some.inj b).symm
theorem uq_set (n : Nat) (f : Nat → Nat) (i b : Nat) (hi : i < n) : (uq n f).setIfInBounds i (.int .u64 (b : Int)) = uq n (fun j => if j = i then b else f j) := by
  refine uq_ext (by simp [uq_size]) (fun j hj => ?_)
  rw [Array.getElem?_setIfInBounds]
  by_cases h : i = j
  · subst h; simp [uq_size, hj]
  · rw [if_neg h, uq_get n f j hj, if_neg (fun e => h e.symm)]
theorem uq_congr {n : Nat} {f g : Nat → Nat} (h : ∀ j, j < n → f j = g j) : uq n f = uq n g := uq_ext (uq_size n f) (fun j hj => by rw [uq_get n f j hj, h j hj])
theorem nc_uq (X : Nat) : nc X = uq 4 (dig 18446744073709551616 X) := by
  have e : uq 4 (dig 18446744073709551616 X) = #[.int .u64 (dig 18446744073709551616 X 0 : Int), .int .u64 (dig 18446744073709551616 X 1 : Int), .int .u64 (dig 18446744073709551616 X 2 : Int), .int .u64 (dig 18446744073709551616 X 3 : Int)] := rfl
  rw [e]
  unfold nc dig
  rw [Nat.pow_zero, Nat.div_one, show 18446744073709551616 ^ 1 = 18446744073709551616 from rfl, show 18446744073709551616 ^ 2 = 340282366920938463463374607431768211456 from rfl, show 18446744073709551616 ^ 3 = 6277101735386680763835789423207666416102355444464034512896 from rfl]

theorem Fr.setRow {S : Nat → Prop} {a w : World} (h : Fr S a w) {g : Nat} (hg : S g) (cs : Array Value) : Fr S a (w.setRow g cs) :=
  ⟨h.os, h.tape, h.output, by have := h.size; simp; omega, fun k hk hs => (setRow_other w g k cs (fun e => hs (e ▸ hg))).trans (h.block k hk hs)⟩
theorem heap_at (V : World) (cs : Array Value) (t : TypeId) (b : Nat) (hb : b = V.heap.size) : (V.alloc (.cells cs t)).heap[b]? = some (.cells cs t (0, 0)) := by
  subst hb; exact heap_alloc_new V _

theorem set4 {w : World} {b : Nat} {y0 y1 y2 y3 : Value} {t : TypeId} (h : w.heap[b]? = some (.cells #[y0, y1, y2, y3] t (0, 0))) (x0 x1 x2 x3 : Value) :
    ((((w.setCell ⟨b, 0, none⟩ x0).setCell ⟨b, 1, none⟩ x1).setCell ⟨b, 2, none⟩ x2).setCell ⟨b, 3, none⟩ x3).heap[b]? = some (.cells #[x0, x1, x2, x3] t (0, 0)) :=
  block_setCell (block_setCell (block_setCell (block_setCell h 0 x0) 1 x1) 2 x2) 3 x3
theorem results_cell_tmp {P : Program} {fn : Func} {p t : Tmp} {ty : TypeId} (h : fn.results = #[.cell p ty, .tmp t]) (tmps : Array Value) (w : World) (g : Nat) (ct : TypeId) (cs : Array Value) (fr : Nat × Nat) (d : TypeDesc)
    (hp : tmps.getD p undef = .pointer (some ⟨g, 0, none⟩)) (hg : w.heap[g]? = some (.cells cs ct fr))
    (hu : P.underlying ty = some d) (hd : (match d with | .struct _ | .array _ _ => true | _ => false) = true) (hi : (P.info? ty).map (·.size) = some cs.size) :
    (results fn tmps).run P w = .ok (.tuple #[.agg cs, tmps.getD t undef]) w := by
  have hp' : tmps[p]?.getD undef = .pointer (some ⟨g, 0, none⟩) := by simpa using hp
  simp [results, h, hp', asAddr, run_loadVar_row w g ct ty cs fr d hg hu hd hi]

end Go.Proofs.Ytgladedjgjhlaaa


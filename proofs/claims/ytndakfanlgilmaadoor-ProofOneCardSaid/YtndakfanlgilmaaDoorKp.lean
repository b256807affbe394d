/-
  Regions that draw their order, whose operations and callees leave all that was there as it was (callees may make new memory): one walk, in the order of the text, serves every order.
-/
import Derived.Test.YtndakfanlgilmaaDoorFr
namespace Go.Proofs.YtndakfanlgilmaaDoor
open Go.RowKit
set_option linter.unusedVariables false

/-- A world that is as W0 was in all that W0 had. -/
structure Wd (W0 : World) where
  w : World
  h : Fr (fun _ => False) W0 w

instance instWd (W0 : World) : Nonempty (Wd W0) := ⟨⟨W0, Fr.refl _ W0⟩⟩
set_option maxRecDepth 100000 in
theorem wp_region_keep {P : Program} {id : Nat} {Q : Exit → Act → World → Prop} {a : Act} {W0 : World} {l : List Oper} (hm : P.follows .mixedOrders = true) (hB : Region.lexB .any l.toArray = true)
    (h : wpQuiet P l.toArray (fun w' => ∃ x : Wd W0, w' = x.w) (fun a' => ∀ w', (∃ x : Wd W0, w' = x.w) → Q .normal a' w') l a) : (Code.region id l.toArray true).wp P Q a W0 :=
  wp_region_quiet (C := fun w' => ∃ x : Wd W0, w' = x.w) hm hB ⟨⟨_, (Fr.refl _ W0).drew⟩, rfl⟩ (by simpa using h)

set_option maxRecDepth 100000 in
theorem Calls.keep {P : Program} {f : FuncId} {args : Array Value} {W0 : World} {x : Wd W0} {v : Value}
    (h : Calls P f args x.w fun e w' => e = .returned v ∧ Fr (fun _ => False) x.w w') : Calls P f args x.w fun e w'' => e = .returned v ∧ ∃ y : Wd W0, w'' = y.w :=
  h.mono fun _ w' ⟨he, hf⟩ => ⟨he, ⟨w', x.h.trans hf (fun _ h => h.elim)⟩, rfl⟩
set_option maxRecDepth 100000 in
theorem Calls.keep_same {P : Program} {f : FuncId} {args : Array Value} {W0 : World} {x : Wd W0} {v : Value}
    (h : Calls P f args x.w fun e w' => e = .returned v ∧ w' = x.w) : Calls P f args x.w fun e w'' => e = .returned v ∧ ∃ y : Wd W0, w'' = y.w :=
  h.mono fun _ w' ⟨he, hf⟩ => ⟨he, x, hf⟩
set_option maxRecDepth 100000 in
theorem Wd.blk {W0 : World} (x : Wd W0) {i : Nat} {o : Obj} (h : W0.heap[i]? = some o) : x.w.heap[i]? = some o :=
  (x.h.block i (Array.getElem?_eq_some_iff.1 h).1 (fun h => h)).trans h
set_option maxRecDepth 100000 in
theorem Wd.cell {W0 : World} (x : Wd W0) {b : Nat} {cs : Array Value} {t : TypeId} {fr : Nat × Nat} (h : W0.heap[b]? = some (.cells cs t fr)) (i : Nat) {v : Value} (hv : cs[i]? = some v) : x.w.cell? ⟨b, i, none⟩ = some v :=
  (cell_of_block (x.blk h) i).trans hv
set_option maxRecDepth 100000 in
/-- A whole array, or struct, read out of a block that was there. -/
theorem quiet_load_row {P : Program} {K : Act → Prop} {a : Act} {o : Oper} {W0 : World} (ty : TypeId) (x : Operand) (ho : o.op = .load ty x) (g : Nat) (hx : a.eval x = .pointer (some ⟨g, 0, none⟩))
    (t : TypeId) (cs : Array Value) (fr : Nat × Nat) (d : TypeDesc) (hg : W0.heap[g]? = some (.cells cs t fr)) (hu : P.underlying ty = some d) (hd : (match d with | .struct _ | .array _ _ => true | _ => false) = true)
    (hi : (P.info? ty).map (·.size) = some cs.size) (hk : K (a.put o.dst (.agg cs))) : o.quiet P a (fun w' => ∃ y : Wd W0, w' = y.w) K :=
  ⟨.agg cs, fun w' ⟨y, e⟩ => by
    subst e
    unfold Oper.quietAt execOp
    simp only [ho, hx, Instr.loadAt, Instr.sureAddr, Sem.run_bind, Sem.run_pure, Result.andThen_ok, run_loadVar_row y.w g t ty cs fr d (y.blk hg) hu hd hi, Oper.quietUpon]
    exact ⟨trivial, trivial⟩, hk⟩
end Go.Proofs.YtndakfanlgilmaaDoor


/-
  One whole number stored into a block that is known whole: what is known behind it.
-/
import Derived.Test.YtndakfanlgilmaaDoorFr
import Derived.Laws.CopyRow
namespace Go.Proofs.YtndakfanlgilmaaDoor
open Go.RowKit
set_option linter.unusedVariables false
set_option maxRecDepth 100000 in
theorem Fr.setRow' {a w : World} {g : Nat} {S : Nat → Prop} (h : Fr S a w) (hg : S g) (cs : Array Value) : Fr S a (w.setRow g cs) :=
  ⟨h.os, h.tape, h.output, by have := h.size; simp; omega, fun k hk hs => (setRow_other w g k cs (fun e => hs (e ▸ hg))).trans (h.block k hk hs)⟩
section
variable {P : Program}
set_option maxRecDepth 100000 in
theorem wpList_store_int {ops : Array Oper} {rest : List Oper} {o : Oper} {a : Act} {w : World} {Q : Exit → Act → World → Prop} (hgd : o.guard = none) (ty : TypeId) (x y : Operand) (ho : o.op = .store ty x y)
    (g off : Nat) (hx : a.eval x = .pointer (some ⟨g, off, none⟩)) (k : IntKind) (n : Int) (hy : a.eval y = .int k n) (hi : (P.info? ty).map (·.size) = some 1)
    (t : TypeId) (cs : Array Value) (hg : w.heap[g]? = some (.cells cs t (0, 0))) (hoff : off < cs.size)
    (h : ∀ w2 : World, w2.heap[g]? = some (.cells (cs.setIfInBounds off (.int k n)) t (0, 0)) → Fr (fun i => i = g) w w2 → wpList P ops Q rest (a.put o.dst undef) w2) : wpList P ops Q (o :: rest) a w := by
  refine wpList_plain hgd fun _ hK => ?_
  have hst := run_storeCells_at P g off t [.int k n] 0 cs w hg (by simp; omega) (by simp [Value.oneCell'])
  have e : (cs.toList.take (off + 0) ++ [Value.int k n] ++ cs.toList.drop (off + 0 + 1)).toArray = cs.setIfInBounds off (.int k n) := by
    apply Array.toList_inj.1
    rw [Array.toList_setIfInBounds, List.set_eq_take_append_cons_drop, if_pos (by simpa using hoff)]
    simp
  have key := h (w.setRow g (cs.setIfInBounds off (.int k n))) (setRow_heap _ _ _ _ _ _ hg) (Fr.setRow' (S := fun i => i = g) (Fr.refl _ w) rfl _)
  simp only [List.length_cons, List.length_nil] at hst
  rw [e] at hst
  cases hq : P.info? ty with
  | none => simp [hq] at hi
  | some i =>
    have hs : i.size = 1 := by simpa [hq] using hi
    unfold Oper.wp execOp
    simp only [ho, hx, hy, Instr.storeAt, Instr.sureAddr, Sem.run_bind, Sem.run_pure, Result.andThen_ok]
    have hrun : (storeVar ty ⟨g, off, none⟩ (.int k n)).run P w = .ok () (w.setRow g (cs.setIfInBounds off (.int k n))) := by
      simp [storeVar, sizeOf, typeInfo, hq, Value.cells, hs]
      simpa using hst
    rw [hrun]
    exact hK _ _ key
end
end Go.Proofs.YtndakfanlgilmaaDoor


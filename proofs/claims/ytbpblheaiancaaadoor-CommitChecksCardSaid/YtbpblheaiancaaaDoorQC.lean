/-
  More of worlds with known blocks: three and four new blocks at once; what is built out of rows; rows of four, eight and sixteen cells as literals. Plain.
  Regions that draw their order, whose operations and callees leave all that was there as it was, whatever they answer: one walk in an order of one's own serves every order. Plain: of no program.
  Regions that draw their order, as in Km; but the operations may touch the blocks of a set, on which the quiet ones do not hang. Plain: of no program.
  The contract of mix of package sha2.
  The block of a Hash of package sha2, and what its methods do to it.
-/
import Derived.Test.YtbpblheaiancaaaDoorQB
import Derived.Test.YtbpblheaiancaaaDoorSch
import Derived.Test.YtbpblheaiancaaaDoorQA
import Derived.Laws.CopyOwn
import Derived.Deep.MidRow
namespace Go.Proofs.YtbpblheaiancaaaDoor
open Go.RowKit
set_option linter.unusedVariables false

section
variable {P : Program}
theorem mk_list {l : List Oper} {n : Nat} : ∀ (L : List (Tmp × Obj)), (∀ j, j < L.length → ∃ x, L[j]? = some x ∧ ∃ o, l[n + j]? = some o ∧ Makes P o x) → ∀ j x, L[j]? = some x → ∃ o, l[n + j]? = some o ∧ Makes P o x := fun L h j x hx => by
  obtain ⟨x', h1, h2⟩ := h j (List.getElem?_eq_some_iff.1 hx).1
  rw [hx] at h1
  cases h1
  exact h2
theorem mk_three {l : List Oper} {n : Nat} {x0 x1 x2 : Tmp × Obj} (h : ∃ o, l[n]? = some o ∧ Makes P o x0) (h1 : ∃ o, l[n + 1]? = some o ∧ Makes P o x1) (h2 : ∃ o, l[n + 2]? = some o ∧ Makes P o x2) : ∀ j x, [x0, x1, x2][j]? = some x → ∃ o, l[n + j]? = some o ∧ Makes P o x := by
  refine mk_list _ (fun j hj => ?_)
  have : j = 0 ∨ j = 1 ∨ j = 2 := by simp at hj; omega
  rcases this with rfl | rfl | rfl
  · exact ⟨x0, rfl, h⟩
  · exact ⟨x1, rfl, h1⟩
  · exact ⟨x2, rfl, h2⟩
theorem mk_four {l : List Oper} {n : Nat} {x0 x1 x2 x3 : Tmp × Obj} (h : ∃ o, l[n]? = some o ∧ Makes P o x0) (h1 : ∃ o, l[n + 1]? = some o ∧ Makes P o x1) (h2 : ∃ o, l[n + 2]? = some o ∧ Makes P o x2) (h3 : ∃ o, l[n + 3]? = some o ∧ Makes P o x3) : ∀ j x, [x0, x1, x2, x3][j]? = some x → ∃ o, l[n + j]? = some o ∧ Makes P o x := by
  refine mk_list _ (fun j hj => ?_)
  have : j = 0 ∨ j = 1 ∨ j = 2 ∨ j = 3 := by simp at hj; omega
  rcases this with rfl | rfl | rfl | rfl
  · exact ⟨x0, rfl, h⟩
  · exact ⟨x1, rfl, h1⟩
  · exact ⟨x2, rfl, h2⟩
  · exact ⟨x3, rfl, h3⟩
theorem sz_list : ∀ (L : List (Tmp × Nat × Array Value × TypeId)), (∀ x ∈ L, x.2.2.1.size = x.2.1) → ∀ (j : Nat) (x : Tmp × Nat × Array Value × TypeId), L[j]? = some x → x.2.2.1.size = x.2.1 := fun L h j x hx => h x (List.mem_of_getElem? hx)
theorem sz_three {x0 x1 x2 : Tmp × Nat × Array Value × TypeId} (h : x0.2.2.1.size = x0.2.1) (h1 : x1.2.2.1.size = x1.2.1) (h2 : x2.2.2.1.size = x2.2.1) : ∀ (j : Nat) (x : Tmp × Nat × Array Value × TypeId), [x0, x1, x2][j]? = some x → x.2.2.1.size = x.2.1 := by
  refine sz_list _ (fun x hx => ?_)
  simp only [List.mem_cons, List.not_mem_nil, or_false] at hx
  rcases hx with rfl | rfl | rfl
  · exact h
  · exact h1
  · exact h2
theorem sz_four {x0 x1 x2 x3 : Tmp × Nat × Array Value × TypeId} (h : x0.2.2.1.size = x0.2.1) (h1 : x1.2.2.1.size = x1.2.1) (h2 : x2.2.2.1.size = x2.2.1) (h3 : x3.2.2.1.size = x3.2.1) : ∀ (j : Nat) (x : Tmp × Nat × Array Value × TypeId), [x0, x1, x2, x3][j]? = some x → x.2.2.1.size = x.2.1 := by
  refine sz_list _ (fun x hx => ?_)
  simp only [List.mem_cons, List.not_mem_nil, or_false] at hx
  rcases hx with rfl | rfl | rfl | rfl
  · exact h
  · exact h1
  · exact h2
  · exact h3
/-- A row that is built. -/
theorem quiet_build {C : World → Prop} {K : Act → Prop} {a : Act} {o : Oper} (t : TypeId) (parts : Array (Nat × Operand)) (ho : o.op = .build t parts)
    (cs : Array Value) (hb : P.built t (parts.map fun (i, x) => (i, a.eval x)).toList = some cs) (hk : K (a.put o.dst (.agg cs))) : o.quiet P a C K :=
  ⟨.agg cs, fun w' _ => by
    unfold Oper.quietAt execOp
    simp only [ho, Sem.run_bind, run_build w' t _ cs hb, Result.andThen_ok, Sem.run_pure, Oper.quietUpon]
    first | exact ⟨trivial, trivial⟩ | (refine ⟨?_, trivial⟩; assumption), hk⟩
theorem wpList_build_to {ops : Array Oper} {rest : List Oper} {o : Oper} {a : Act} {w : World} {Q : Exit → Act → World → Prop} (hg : o.guard = none) (t : TypeId) (parts : Array (Nat × Operand)) (ho : o.op = .build t parts)
    (cs : Array Value) (hb : P.built t (parts.map fun (i, x) => (i, a.eval x)).toList = some cs) (h : wpList P ops Q rest (a.put o.dst (.agg cs)) w) : wpList P ops Q (o :: rest) a w :=
  wpList_build hg t parts ho (by rw [hb]; rfl) (by rw [hb]; exact h)
theorem quiet_build1 {C : World → Prop} {K : Act → Prop} {a : Act} {o : Oper} (t : TypeId) (i0 : Nat) (x0 : Operand) (v0 : Value) (ho : o.op = .build t #[(i0, x0)])
    (cs : Array Value) (hb : P.built t [(i0, v0)] = some cs) (h0 : a.eval x0 = v0) (hk : K (a.put o.dst (.agg cs))) : o.quiet P a C K :=
  quiet_build t _ ho cs (by simp only [List.map_toArray, List.map_cons, List.map_nil, h0]; exact hb) hk
theorem wpList_build1 {ops : Array Oper} {rest : List Oper} {o : Oper} {a : Act} {w : World} {Q : Exit → Act → World → Prop} (hg : o.guard = none) (t : TypeId) (i0 : Nat) (x0 : Operand) (v0 : Value) (ho : o.op = .build t #[(i0, x0)])
    (cs : Array Value) (hb : P.built t [(i0, v0)] = some cs) (h0 : a.eval x0 = v0) (h : wpList P ops Q rest (a.put o.dst (.agg cs)) w) : wpList P ops Q (o :: rest) a w :=
  wpList_build_to hg t _ ho cs (by simp only [List.map_toArray, List.map_cons, List.map_nil, h0]; exact hb) h
theorem quiet_build2 {C : World → Prop} {K : Act → Prop} {a : Act} {o : Oper} (t : TypeId) (i0 i1 : Nat) (x0 x1 : Operand) (v0 v1 : Value) (ho : o.op = .build t #[(i0, x0), (i1, x1)])
    (cs : Array Value) (hb : P.built t [(i0, v0), (i1, v1)] = some cs) (h0 : a.eval x0 = v0) (h1 : a.eval x1 = v1) (hk : K (a.put o.dst (.agg cs))) : o.quiet P a C K :=
  quiet_build t _ ho cs (by simp only [List.map_toArray, List.map_cons, List.map_nil, h0, h1]; exact hb) hk
theorem wpList_build2 {ops : Array Oper} {rest : List Oper} {o : Oper} {a : Act} {w : World} {Q : Exit → Act → World → Prop} (hg : o.guard = none) (t : TypeId) (i0 i1 : Nat) (x0 x1 : Operand) (v0 v1 : Value) (ho : o.op = .build t #[(i0, x0), (i1, x1)])
    (cs : Array Value) (hb : P.built t [(i0, v0), (i1, v1)] = some cs) (h0 : a.eval x0 = v0) (h1 : a.eval x1 = v1) (h : wpList P ops Q rest (a.put o.dst (.agg cs)) w) : wpList P ops Q (o :: rest) a w :=
  wpList_build_to hg t _ ho cs (by simp only [List.map_toArray, List.map_cons, List.map_nil, h0, h1]; exact hb) h
theorem quiet_build3 {C : World → Prop} {K : Act → Prop} {a : Act} {o : Oper} (t : TypeId) (i0 i1 i2 : Nat) (x0 x1 x2 : Operand) (v0 v1 v2 : Value) (ho : o.op = .build t #[(i0, x0), (i1, x1), (i2, x2)])
    (cs : Array Value) (hb : P.built t [(i0, v0), (i1, v1), (i2, v2)] = some cs) (h0 : a.eval x0 = v0) (h1 : a.eval x1 = v1) (h2 : a.eval x2 = v2) (hk : K (a.put o.dst (.agg cs))) : o.quiet P a C K :=
  quiet_build t _ ho cs (by simp only [List.map_toArray, List.map_cons, List.map_nil, h0, h1, h2]; exact hb) hk
theorem wpList_build3 {ops : Array Oper} {rest : List Oper} {o : Oper} {a : Act} {w : World} {Q : Exit → Act → World → Prop} (hg : o.guard = none) (t : TypeId) (i0 i1 i2 : Nat) (x0 x1 x2 : Operand) (v0 v1 v2 : Value) (ho : o.op = .build t #[(i0, x0), (i1, x1), (i2, x2)])
    (cs : Array Value) (hb : P.built t [(i0, v0), (i1, v1), (i2, v2)] = some cs) (h0 : a.eval x0 = v0) (h1 : a.eval x1 = v1) (h2 : a.eval x2 = v2) (h : wpList P ops Q rest (a.put o.dst (.agg cs)) w) : wpList P ops Q (o :: rest) a w :=
  wpList_build_to hg t _ ho cs (by simp only [List.map_toArray, List.map_cons, List.map_nil, h0, h1, h2]; exact hb) h
theorem quiet_build4 {C : World → Prop} {K : Act → Prop} {a : Act} {o : Oper} (t : TypeId) (i0 i1 i2 i3 : Nat) (x0 x1 x2 x3 : Operand) (v0 v1 v2 v3 : Value) (ho : o.op = .build t #[(i0, x0), (i1, x1), (i2, x2), (i3, x3)])
    (cs : Array Value) (hb : P.built t [(i0, v0), (i1, v1), (i2, v2), (i3, v3)] = some cs) (h0 : a.eval x0 = v0) (h1 : a.eval x1 = v1) (h2 : a.eval x2 = v2) (h3 : a.eval x3 = v3) (hk : K (a.put o.dst (.agg cs))) : o.quiet P a C K :=
  quiet_build t _ ho cs (by simp only [List.map_toArray, List.map_cons, List.map_nil, h0, h1, h2, h3]; exact hb) hk
theorem wpList_build4 {ops : Array Oper} {rest : List Oper} {o : Oper} {a : Act} {w : World} {Q : Exit → Act → World → Prop} (hg : o.guard = none) (t : TypeId) (i0 i1 i2 i3 : Nat) (x0 x1 x2 x3 : Operand) (v0 v1 v2 v3 : Value) (ho : o.op = .build t #[(i0, x0), (i1, x1), (i2, x2), (i3, x3)])
    (cs : Array Value) (hb : P.built t [(i0, v0), (i1, v1), (i2, v2), (i3, v3)] = some cs) (h0 : a.eval x0 = v0) (h1 : a.eval x1 = v1) (h2 : a.eval x2 = v2) (h3 : a.eval x3 = v3) (h : wpList P ops Q rest (a.put o.dst (.agg cs)) w) : wpList P ops Q (o :: rest) a w :=
  wpList_build_to hg t _ ho cs (by simp only [List.map_toArray, List.map_cons, List.map_nil, h0, h1, h2, h3]; exact hb) h
end
theorem arr4 {X : Array Value} (h : X.size = 4) : ∃ a b c d, X = #[a, b, c, d] := by
  obtain ⟨l⟩ := X
  match l, h with
  | [a, b, c, d], _ => exact ⟨a, b, c, d, rfl⟩
theorem arr16 {X : Array Value} (h : X.size = 16) : ∃ a b c d e f g i j k l m n o p q, X = #[a, b, c, d, e, f, g, i, j, k, l, m, n, o, p, q] := by
  obtain ⟨l⟩ := X
  match l, h with
  | [a, b, c, d, e, f, g, i, j, k, l, m, n, o, p, q], _ => exact ⟨a, b, c, d, e, f, g, i, j, k, l, m, n, o, p, q, rfl⟩
theorem Sz.n {n : Nat} {A : Array Value} (h : Sz n A) : A.size = n := h.1
theorem Sz.cat {n m : Nat} {A B : Array Value} (hA : Sz n A) (hB : Sz m B) : Sz (n + m) (A ++ B) :=
  ⟨by rw [Array.size_append, hA.1, hB.1], by rw [Array.all_append, hA.2, hB.2]; rfl⟩
/-- What a call answers, whatever the world; all that was there stays. -/
abbrev Ans (P : Program) (f : FuncId) (args : Array Value) (v : Value) : Prop := ∀ W : World, Calls P f args W fun e w' => e = .returned v ∧ Fr (fun _ => False) W w'
/-- Two and four rows in one. -/
def cat2 (X R : Array Value) : Array Value := X ++ R
def cat3 (X Y Z : Array Value) : Array Value := X ++ (Y ++ Z)
def cat4 (X Y Z T : Array Value) : Array Value := X ++ (Y ++ (Z ++ T))
theorem part2_0 (X R : Array Value) : Part (cat2 X R) 0 X := Part.left _ _
theorem part2_1 {n : Nat} {X : Array Value} (hX : Sz n X) (R : Array Value) : Part (cat2 X R) n R := Part.right X R 0 n R hX.1 (Part.whole R)
theorem part3_0 (X Y Z : Array Value) : Part (cat3 X Y Z) 0 X := Part.left _ _
theorem part3_1 {n : Nat} {X : Array Value} (hX : Sz n X) (Y Z : Array Value) : Part (cat3 X Y Z) n Y := Part.right X (Y ++ Z) 0 n Y hX.1 (Part.left _ _)
theorem part3_2 {n m : Nat} {X Y : Array Value} (hX : Sz n X) (hY : Sz m Y) (Z : Array Value) : Part (cat3 X Y Z) (n + m) Z := Part.right X (Y ++ Z) m n Z hX.1 (Part.right Y Z 0 m Z hY.1 (Part.whole Z))
theorem part4_0 (X Y Z T : Array Value) : Part (cat4 X Y Z T) 0 X := Part.left _ _
theorem part4_1 {n : Nat} {X : Array Value} (hX : Sz n X) (Y Z T : Array Value) : Part (cat4 X Y Z T) n Y := Part.right X _ 0 n Y hX.1 (Part.left _ _)
theorem part4_2 {n m : Nat} {X Y : Array Value} (hX : Sz n X) (hY : Sz m Y) (Z T : Array Value) : Part (cat4 X Y Z T) (n + m) Z := Part.right X _ m n Z hX.1 (Part.right Y _ 0 m Z hY.1 (Part.left _ _))
theorem part4_3 {n m k : Nat} {X Y Z : Array Value} (hX : Sz n X) (hY : Sz m Y) (hZ : Sz k Z) (T : Array Value) : Part (cat4 X Y Z T) (n + (m + k)) T := Part.right X _ (m + k) n T hX.1 (Part.right Y _ k m T hY.1 (Part.right Z T 0 k T hZ.1 (Part.whole T)))
theorem sz2 {n m : Nat} {X R : Array Value} (hX : Sz n X) (hR : Sz m R) : Sz (n + m) (cat2 X R) := hX.cat hR
theorem sz3 {n m k : Nat} {X Y Z : Array Value} (hX : Sz n X) (hY : Sz m Y) (hZ : Sz k Z) : Sz (n + (m + k)) (cat3 X Y Z) := hX.cat (hY.cat hZ)
theorem sz4 {n m k l : Nat} {X Y Z T : Array Value} (hX : Sz n X) (hY : Sz m Y) (hZ : Sz k Z) (hT : Sz l T) : Sz (n + (m + (k + l))) (cat4 X Y Z T) := hX.cat (hY.cat (hZ.cat hT))
end Go.Proofs.YtbpblheaiancaaaDoor
namespace Go.Proofs.YtbpblheaiancaaaDoor
open Go.RowKit
set_option linter.unusedVariables false

abbrev Ex (w w' : World) : Prop := Fr (fun _ => False) w w'
theorem Ex.tr {a b c : World} (h : Ex a b) (k : Ex b c) : Ex a c := h.trans k (fun _ h => h.elim)
/-- No way out but the plain one. -/
def NQ : Exit → Act → World → Prop := fun _ _ _ => False

section
variable {P : Program} {md : Region.Mode} {ops : Array Oper} {Q : Act → World → Prop}

theorem Oper.wp_nq {o : Oper} {a : Act} {w : World} {K : Act → World → Prop} {Q' : Exit → Act → World → Prop} (hh : o.wp P a w K NQ) : o.wp P a w K Q' := by
  unfold Oper.wp at *
  generalize (execOp a.eval o).run P w = r at *
  cases r with
  | ok n w' =>
    cases n <;> simp only [Oper.upon] at hh ⊢ <;>
      first
        | exact hh
        | exact Calls.mono hh (fun e w'' he => by
            cases e <;> first | exact he | exact False.elim he | (obtain ⟨_, _, h⟩ := he; exact False.elim h))
  | halt x w' => cases x <;> simp only [Oper.upon] at hh ⊢ <;> first | exact hh | exact False.elim hh
theorem wpOp_nq {i : Nat} {a : Act} {w : World} {K : Act → World → Prop} {Q' : Exit → Act → World → Prop} (hh : wpOp P ops NQ i K a w) : wpOp P ops Q' i K a w := by
  unfold wpOp at *
  split
  · rename_i ho; simpa only [ho] using hh
  · rename_i o ho
    simp only [ho] at hh
    split
    · rename_i hw
      simp only [hw, if_true] at hh
      rcases hh with h | ⟨_, _, _, h⟩
      · exact .inl (Oper.wp_nq h)
      · exact False.elim h
    · rename_i hw; simp only [hw] at hh; exact hh

/-- Whatever order is picked from here on, from every world that keeps what is here. -/
def wpM (P : Program) (md : Region.Mode) (ops : Array Oper) (Q : Act → World → Prop) : Nat → Array Bool → Act → World → Prop
  | 0, listed, a, w => Region.ready md ops listed = [] ∧ ∀ w', Ex w w' → Q a w'
  | fuel + 1, listed, a, w => (Region.ready md ops listed = [] → ∀ w', Ex w w' → Q a w') ∧
    ∀ i ∈ Region.ready md ops listed, ∀ w', Ex w w' → wpOp P ops NQ i (fun a'' w'' => Ex w' w'' ∧ wpM P md ops Q fuel (listed.setIfInBounds i true) a'' w'') a w'
theorem wpM.up : ∀ (fuel : Nat) (listed : Array Bool) (a : Act) (w w' : World), Ex w w' → wpM P md ops Q fuel listed a w → wpM P md ops Q fuel listed a w'
  | 0, _, _, _, _, hx, h => ⟨h.1, fun w2 h2 => h.2 w2 (hx.tr h2)⟩
  | _ + 1, _, _, _, _, hx, h => ⟨fun h0 w2 h2 => h.1 h0 w2 (hx.tr h2), fun i hi w2 h2 => h.2 i hi w2 (hx.tr h2)⟩
theorem wpAny_of_M {Q' : Exit → Act → World → Prop} (hQ : ∀ a w, Q a w → Q' .normal a w) : ∀ (fuel : Nat) (listed : Array Bool) (a : Act) (w : World), wpM P md ops Q fuel listed a w → wpAny P md ops Q' fuel listed a w
  | 0, _, _, w, h => ⟨h.1, hQ _ _ (h.2 w (Fr.refl _ w))⟩
  | fuel + 1, _, _, w, h => ⟨fun h0 => hQ _ _ (h.1 h0 w (Fr.refl _ w)), fun i hi => wpOp_mono (fun a'' w'' h => wpAny_of_M hQ fuel _ a'' w'' h.2) (wpOp_nq (h.2 i hi w (Fr.refl _ w)))⟩

theorem quietAt_mono {o : Oper} {a : Act} {C D : World → Prop} {w : World} {v : Value} (h : ∀ w', C w' → D w') (hq : o.quietAt P a C w v) : o.quietAt P a D w v := by
  unfold Oper.quietAt at *
  generalize (execOp a.eval o).run P w = r at *
  cases r with
  | ok n w' =>
    cases n <;> simp only [Oper.quietUpon] at hq ⊢ <;>
      first
        | exact hq
        | exact ⟨hq.1, hq.2.mono fun e w'' ⟨he, hc⟩ => ⟨he, h _ hc⟩⟩
  | halt x w' => simp only [Oper.quietUpon] at hq
/-- In every world from W on the operation leaves v, and keeps what is there. -/
def YM (P : Program) (ops : Array Oper) (W : World) (o : Oper) (v : Value) (a : Act) : Prop :=
  (Region.wanted o (yielded ops a.tmps) = true ∧ ∀ w, Ex W w → o.quietAt P a (Ex w) w v) ∨ (Region.wanted o (yielded ops a.tmps) = false ∧ v = undef)
theorem YM.up {W W' : World} {o : Oper} {v : Value} {a : Act} (hx : Ex W W') (h : YM P ops W o v a) : YM P ops W' o v a :=
  h.imp (fun h => ⟨h.1, fun w hw => h.2 w (hx.tr hw)⟩) id
theorem YM.of_same {W : World} {o : Oper} {v : Value} {a a' : Act} (hy : YM P ops W o v a) (he : execOp a'.eval o = execOp a.eval o)
    (hw : Region.wanted o (yielded ops a'.tmps) = Region.wanted o (yielded ops a.tmps)) : YM P ops W o v a' := by
  unfold YM Oper.quietAt at *
  rw [he, hw]
  exact hy
theorem YM.wpOp {W w : World} {i : Nat} {o : Oper} {v : Value} {a : Act} (hi : ops[i]? = some o) (hy : YM P ops W o v a) (hx : Ex W w) {K : Act → World → Prop} (h : ∀ w', Ex w w' → K (a.put o.dst v) w') : Go.wpOp P ops NQ i K a w := by
  unfold Go.wpOp
  simp only [hi]
  rcases hy with ⟨hw, hv⟩ | ⟨hw, rfl⟩
  · simp only [hw, if_true]
    exact .inl (Oper.wp_of_quiet (C := Ex w) (K := fun a' => a' = a.put o.dst v) (Fr.refl _ w) (fun a' w' hc e => by subst e; exact h w' hc) ⟨v, fun w1 h1 => quietAt_mono (fun w2 h2 => h1.tr h2) (hv w1 (hx.tr h1)), rfl⟩)
  · simp only [hw, Bool.false_eq_true, if_false]; exact h w (Fr.refl _ w)
/-- An operation run in state b serves for state a, where it runs alike and what follows goes over. -/
theorem Oper.wp_over {o : Oper} {a b : Act} {K L : Act → World → Prop} {w : World} (hr : execOp a.eval o = execOp b.eval o) (hv : ∀ u w', L (b.put o.dst u) w' → K (a.put o.dst u) w')
    (hd : ∀ d w', L ({ b with defers := d :: b.defers }.put o.dst undef) w' → K ({ a with defers := d :: a.defers }.put o.dst undef) w') (h : o.wp P b w L NQ) : o.wp P a w K NQ := by
  unfold Oper.wp at *
  rw [hr]
  generalize (execOp b.eval o).run P w = r at *
  rcases r with ⟨n, w'⟩ | ⟨x, w'⟩
  · cases n
    all_goals simp only [Oper.upon] at h ⊢
    all_goals first
      | exact hv _ _ h
      | exact hd _ _ h
      | exact Rows.mono h fun u w'' he => hv u w'' he
      | exact Calls.mono h fun e w'' he => by
          rcases e with u | c | _
          · exact hv u w'' he
          · exact False.elim he
          · exact he
      | exact h
  · cases x
    all_goals simp only [Oper.upon] at h ⊢
    all_goals first | exact h | exact False.elim h
/-- The same of an operation by its number. -/
theorem wpOp_over {j : Nat} {o : Oper} (hj : ops[j]? = some o) {a b : Act} {K L : Act → World → Prop} {w : World} (hr : execOp a.eval o = execOp b.eval o) (hw : Region.wanted o (yielded ops a.tmps) = Region.wanted o (yielded ops b.tmps))
    (hv : ∀ u w', L (b.put o.dst u) w' → K (a.put o.dst u) w') (hd : ∀ d w', L ({ b with defers := d :: b.defers }.put o.dst undef) w' → K ({ a with defers := d :: a.defers }.put o.dst undef) w')
    (h : wpOp P ops NQ j L b w) : wpOp P ops NQ j K a w := by
  simp only [wpOp, hj, hw] at h ⊢
  by_cases c : Region.wanted o (yielded ops b.tmps) = true
  · rw [if_pos c] at h ⊢
    rcases h with h | ⟨_, _, _, h⟩
    · exact .inl (Oper.wp_over hr hv hd h)
    · exact False.elim h
  · rw [if_neg c] at h ⊢
    exact hv _ _ h
/-- What has not come up neither waits for i nor is touched by it. -/
def Fre (md : Region.Mode) (ops : Array Oper) (oi : Oper) (i : Nat) (listed : Array Bool) : Prop :=
  ∀ j oj, ops[j]? = some oj → j ≠ i → listed.getD j true = false → (∀ e ∈ oj.after, Region.binds md e = true → e.on ≠ i) → oi.apart ops oj = true
theorem Fre.next {oi : Oper} {i j : Nat} {listed : Array Bool} (h : Fre md ops oi i listed) (hj : listed.getD j true = false) : Fre md ops oi i (listed.setIfInBounds j true) := by
  intro k ok hk hne hun hw
  by_cases e : k = j
  · rw [e] at hk hne
    exact h j ok hk hne hj hw
  · rw [getD_set_ne true (fun c => e c.symm)] at hun
    exact h k ok hk hne hun hw
/-- Of two that may come up neither waits for the other. -/
theorem no_wait {i j : Nat} {oj : Oper} {listed : Array Bool} (hi : i ∈ Region.ready md ops listed) (hj : j ∈ Region.ready md ops listed) (ho : ops[j]? = some oj) : ∀ e ∈ oj.after, Region.binds md e = true → e.on ≠ i := by
  rintro e he hb rfl
  have un := (mem_ready.1 hi).1
  obtain ⟨_, o2, ho2, hl⟩ := mem_ready.1 hj
  rw [ho] at ho2
  obtain rfl := Option.some.inj ho2
  have li := hl e he hb
  simp only [Array.getD_eq_getD_getElem?] at un li
  cases hx : listed[e.on]? with
  | none => rw [hx] at li; simp at li
  | some b => rw [hx] at un li; simp at un li; rw [un] at li; cases li
theorem wpM_first {i : Nat} {oi : Oper} {v : Value} (hi : ops[i]? = some oi) (hsel : ∀ (j : Nat) (o : Oper) cs b, ops[j]? = some o → o.op ≠ .select cs b) :
    ∀ (fuel : Nat) (listed : Array Bool) (a : Act) (W : World), Fre md ops oi i listed → i ∈ Region.ready md ops listed → YM P ops W oi v a →
      wpM P md ops Q fuel (listed.setIfInBounds i true) (a.put oi.dst v) W → wpM P md ops Q (fuel + 1) listed a W
  | fuel, listed, a, W, hf, hr, hy, H => by
    refine ⟨fun e => absurd hr (by rw [e]; simp), fun j hj w' hx => ?_⟩
    rcases Nat.decEq j i with hji | hji
    · cases fuel with
      | zero => exact absurd (ready_mono hj hji) (by rw [H.1]; simp)
      | succ fuel =>
        obtain ⟨hun, oj, hoj, _⟩ := mem_ready.1 hj
        obtain ⟨s1, s2, s3⟩ := Oper.apart_spec (hf j oj hoj hji hun (no_wait hr hj hoj))
        have selj := fun cs b => hsel j oj cs b hoj
        have seli := fun cs b => hsel i oi cs b hi
        refine wpOp_over hoj (execOp_put oj selj a oi.dst v s1).symm (wanted_put oj a oi.dst v s1).symm (fun u w'' ⟨h1, h2⟩ => ⟨h1, ?_⟩) (fun d w'' ⟨h1, h2⟩ => ⟨h1, ?_⟩) (H.2 j (ready_mono hj hji) w' hx)
        · refine wpM_first (v := v) hi hsel fuel _ _ w'' (hf.next hun) (ready_mono hr (fun c => hji c.symm)) ?_ ?_
          · exact (hy.up (hx.tr h1)).of_same (execOp_put oi seli a oj.dst u s3) (wanted_put oi a oj.dst u s3)
          · rw [Array.setIfInBounds_comm _ _ hji, ← Act.put_comm a v u s2]
            exact h2
        · refine wpM_first (v := v) hi hsel fuel _ _ w'' (hf.next hun) (ready_mono hr (fun c => hji c.symm)) ?_ ?_
          · exact ((hy.up (hx.tr h1)).of_same (a' := { a with defers := d :: a.defers }) rfl rfl).of_same (execOp_put oi seli _ oj.dst undef s3) (wanted_put oi _ oj.dst undef s3)
          · rw [Array.setIfInBounds_comm _ _ hji, ← Act.put_comm _ v undef s2, ← Act.put_defers]
            exact h2
    · subst hji
      exact hy.wpOp hi hx fun w'' h2 => ⟨h2, wpM.up _ _ _ _ _ (hx.tr h2) H⟩

/-- The walk in an order of one's own: (k, false): the operation k leaves one value wherever it comes up; (k, true): it comes up when no other one can. -/
def Wk (P : Program) (md : Region.Mode) (ops : Array Oper) (Q : Act → World → Prop) : List (Nat × Bool) → Act → World → Prop
  | [], a, w => ∀ w', Ex w w' → Q a w'
  | (k, false) :: r, a, w => ∃ o v, ops[k]? = some o ∧ YM P ops w o v a ∧ Wk P md ops Q r (a.put o.dst v) w
  | (k, true) :: r, a, w => ∀ w', Ex w w' → wpOp P ops NQ k (fun a'' w'' => Ex w' w'' ∧ Wk P md ops Q r a'' w'') a w'
/-- That the order may be walked so. -/
def okB (md : Region.Mode) (ops : Array Oper) : List (Nat × Bool) → Array Bool → Bool
  | [], listed => (Region.ready md ops listed).isEmpty
  | (k, false) :: r, listed => (Region.ready md ops listed).contains k && Region.free md ops listed k && okB md ops r (listed.setIfInBounds k true)
  | (k, true) :: r, listed => (Region.ready md ops listed == [k]) && okB md ops r (listed.setIfInBounds k true)
theorem Wk.M (hs : Region.noSelect ops = true) : ∀ (l : List (Nat × Bool)) (listed : Array Bool) (a : Act) (w : World), okB md ops l listed = true → Wk P md ops Q l a w → wpM P md ops Q l.length listed a w
  | [], _, _, _, hB, h => ⟨by simpa [okB] using hB, h⟩
  | (k, false) :: r, listed, a, w, hB, h => by
    obtain ⟨o, v, h0, hy, hk⟩ := h
    simp only [okB, Bool.and_eq_true] at hB
    obtain ⟨⟨hr, hf⟩, hB'⟩ := hB
    exact wpM_first h0 (Region.noSelect_spec hs) r.length listed a w (Region.free_spec h0 hf) (by simpa using hr) hy (Wk.M hs r _ _ w hB' hk)
  | (k, true) :: r, listed, a, w, hB, h => by
    simp only [okB, Bool.and_eq_true, beq_iff_eq] at hB
    refine ⟨fun h0 => (by rw [hB.1] at h0; cases h0), fun i hi w' hx => ?_⟩
    rw [hB.1] at hi
    obtain rfl : i = k := by simpa using hi
    exact wpOp_mono (fun a'' w'' ⟨h1, h2⟩ => ⟨h1, Wk.M hs r _ a'' w'' hB.2 h2⟩) (h w' hx)
end

theorem wp_region_mono {P : Program} {id : Nat} {Q : Exit → Act → World → Prop} {a : Act} {W0 : World} {l : List Oper} (π : List (Nat × Bool)) (hm : P.follows .mixedOrders = true)
    (hB : (Region.noSelect l.toArray && (π.length == l.length) && okB .any l.toArray π (Array.replicate l.length false)) = true)
    (h : Wk P .any l.toArray (fun a w => Q .normal a w) π a W0) : (Code.region id l.toArray true).wp P Q a W0 := by
  simp only [Bool.and_eq_true, beq_iff_eq] at hB
  refine wp_region_any hm ?_
  have := wpM.up _ _ _ _ _ ((Fr.refl (fun _ => False) W0).drew) (Wk.M hB.1.1 π _ a W0 hB.2 h)
  rw [hB.1.2] at this
  have h2 := wpAny_of_M (Q' := Q) (fun _ _ h => h) _ _ _ _ this
  simpa using h2

section
variable {P : Program} {md : Region.Mode} {Q : Act → World → Prop}
/-- n operations from k on, each of which leaves one value wherever it comes up. -/
def sg (k n : Nat) : List (Nat × Bool) := (List.range' k n).map fun i => (i, false)
/-- Their slots are there, and no two are one. -/
def segB (size : Nat) : List Oper → Bool
  | [] => true
  | o :: l => (match o.dst with | some d => decide (d < size) && l.all (fun x => x.dst != some d) | none => false) && segB size l
theorem put_size (a : Act) (d : Option Tmp) (v : Value) : (a.put d v).tmps.size = a.tmps.size := by cases d <;> simp [Act.put]
theorem quiet_final {ops : Array Oper} {C : World → Prop} {aF : Act} : ∀ (l : List Oper) (a : Act), wpQuiet P ops C (fun a' => a' = aF) l a → ∀ d : Tmp, (∀ o ∈ l, o.dst ≠ some d) → aF.tmps[d]? = a.tmps[d]?
  | [], a, h, _, _ => by have h : a = aF := h; rw [h]
  | o :: l, a, h, d, hd => by
    have hne := hd o (by simp)
    have put_ne : ∀ v, (a.put o.dst v).tmps[d]? = a.tmps[d]? := fun v => by
      cases hod : o.dst with
      | none => rfl
      | some t =>
        have : t ≠ d := fun e => hne (by rw [hod, e])
        simp [Act.put, Array.getElem?_setIfInBounds_ne this]
    unfold wpQuiet at h
    split at h
    · obtain ⟨v, _, h2⟩ := h
      rw [quiet_final l _ h2 d (fun x hx => hd x (by simp [hx])), put_ne]
    · rw [quiet_final l _ h d (fun x hx => hd x (by simp [hx])), put_ne]
theorem Wk.steps {ops : Array Oper} {aF : Act} {W : World} {r : List (Nat × Bool)} : ∀ (os : List Oper) (k : Nat) (a : Act), (∀ j, j < os.length → ops[k + j]? = os[j]?) → segB a.tmps.size os = true →
    (∀ γ : Gd W, wpQuiet P ops (fun w' => ∃ y : Wg γ, w' = y.w) (fun a' => a' = aF) os a) → Wk P md ops Q r aF W → Wk P md ops Q (sg k os.length ++ r) a W
  | [], k, a, _, _, h, hr => by
    have h : a = aF := h ⟨fun _ => True, fun _ _ _ _ => trivial, W, Fr.refl _ W, trivial⟩
    rw [h]
    exact hr
  | o :: l, k, a, hl, hB, h, hr => by
    have h0 : ops[k]? = some o := by simpa using hl 0 (by simp)
    simp only [segB, Bool.and_eq_true] at hB
    obtain ⟨hB1, hB2⟩ := hB
    obtain ⟨d, hod⟩ : ∃ d, o.dst = some d := by
      cases hd : o.dst with
      | none => rw [hd] at hB1; simp at hB1
      | some d => exact ⟨d, rfl⟩
    rw [hod] at hB1
    simp only [Bool.and_eq_true, decide_eq_true_eq, List.all_eq_true] at hB1
    have one : ∀ γ : Gd W, ∀ v, wpQuiet P ops (fun w' => ∃ y : Wg γ, w' = y.w) (fun a' => a' = aF) l (a.put o.dst v) → aF.tmps[d]? = some v := fun γ v hq => by
      rw [quiet_final l _ hq d (fun x hx e => by have := hB1.2 x hx; simp [e] at this), hod]
      simp [Act.put, hB1.1]
    have key : ∀ γ : Gd W, ∃ v, YieldsIn P ops (fun w' => ∃ y : Wg γ, w' = y.w) o v a ∧ wpQuiet P ops (fun w' => ∃ y : Wg γ, w' = y.w) (fun a' => a' = aF) l (a.put o.dst v) := fun γ => by
      have hq := h γ
      unfold wpQuiet at hq
      by_cases hw : Region.wanted o (yielded ops a.tmps) = true
      · rw [if_pos hw] at hq
        obtain ⟨v, h1, h2⟩ := hq
        exact ⟨v, .inl ⟨hw, h1⟩, h2⟩
      · rw [if_neg hw] at hq
        exact ⟨undef, .inr ⟨by simpa using hw, rfl⟩, hq⟩
    obtain ⟨v, hy0, hq0⟩ := key ⟨fun _ => True, fun _ _ _ _ => trivial, W, Fr.refl _ W, trivial⟩
    have hv := one _ v hq0
    have all : ∀ γ : Gd W, YieldsIn P ops (fun w' => ∃ y : Wg γ, w' = y.w) o v a ∧ wpQuiet P ops (fun w' => ∃ y : Wg γ, w' = y.w) (fun a' => a' = aF) l (a.put o.dst v) := fun γ => by
      obtain ⟨u, h1, h2⟩ := key γ
      have hu := one γ u h2
      rw [hv] at hu
      obtain rfl := Option.some.inj hu
      exact ⟨h1, h2⟩
    refine ⟨o, v, h0, ?_, Wk.steps l (k + 1) (a.put o.dst v) (fun j hj => by have := hl (j + 1) (by simpa using hj); simpa [Nat.add_assoc, Nat.add_comm 1 j] using this) (by rw [put_size]; exact hB2) (fun γ => (all γ).2) hr⟩
    rcases hy0 with ⟨hw, _⟩ | ⟨hw, rfl⟩
    · refine .inl ⟨hw, fun w hx => ?_⟩
      have hg := (all ⟨fun w' => Ex w w', fun w1 w2 hF hw1 => Ex.tr hw1 hF, w, hx, Fr.refl _ w⟩).1
      rcases hg with ⟨_, hg⟩ | ⟨hw2, _⟩
      · exact quietAt_mono (fun w' ⟨y, e⟩ => by rw [e]; exact y.g) (hg w ⟨⟨w, hx, Fr.refl _ w⟩, rfl⟩)
      · rw [hw] at hw2; cases hw2
    · exact .inr ⟨hw, rfl⟩
/-- Operations that leave one value each, by the walk in the order of the text. -/
theorem Wk.seg {l : List Oper} {a : Act} {W : World} {r : List (Nat × Bool)} (k n : Nat) (hn : ((l.drop k).take n).length = n) (hB : segB a.tmps.size ((l.drop k).take n) = true)
    (h : ∃ aF, (∀ γ : Gd W, wpQuiet P l.toArray (fun w' => ∃ y : Wg γ, w' = y.w) (fun a' => a' = aF) ((l.drop k).take n) a) ∧ Wk P md l.toArray Q r aF W) : Wk P md l.toArray Q (sg k n ++ r) a W := by
  obtain ⟨aF, h1, h2⟩ := h
  have := Wk.steps (md := md) (Q := Q) (r := r) ((l.drop k).take n) k a (fun j hj => by
    rw [List.getElem?_take_of_lt (by omega), List.getElem?_drop, List.getElem?_toArray]) hB h1 h2
  rwa [hn] at this
/-- A call, whatever it answers. -/
theorem Wk.call {ops : Array Oper} {a : Act} {W : World} {r : List (Nat × Bool)} {k : Nat} {o : Oper} (hi : ops[k]? = some o) (hw : Region.wanted o (yielded ops a.tmps) = true) (f : FuncId) (args : Array Value)
    (hrun : ∀ w, (execOp a.eval o).run P w = .ok (.enter f args) w) (R : Value → World → Prop) (hc : ∀ w, Ex W w → Calls P f args w fun e w' => ∃ v, e = .returned v ∧ Ex w w' ∧ R v w')
    (h : ∀ v w', Ex W w' → R v w' → Wk P md ops Q r (a.put o.dst v) w') : Wk P md ops Q ((k, true) :: r) a W := by
  intro w hx
  unfold wpOp
  simp only [hi, hw, if_true]
  refine .inl ?_
  unfold Oper.wp
  rw [hrun, Oper.upon_enter]
  refine (hc w hx).mono fun e w' hh => ?_
  obtain ⟨v, rfl, h1, h2⟩ := hh
  exact ⟨h1, h v w' (hx.tr h1) h2⟩
end
end Go.Proofs.YtbpblheaiancaaaDoor
namespace Go.Proofs.YtbpblheaiancaaaDoor
open Go.RowKit
set_option linter.unusedVariables false
namespace Ks
abbrev Es (S : Nat → Prop) (w w' : World) : Prop := Fr S w w'
theorem Es.of {S : Nat → Prop} {w w' : World} (h : Ex w w') : Es S w w' := h.mono (fun _ _ h => h.elim)
theorem Es.tr {S : Nat → Prop} {a b c : World} (h : Es S a b) (k : Es S b c) : Es S a c := h.trans k (fun _ h => .inl h)

section
variable {P : Program} {md : Region.Mode} {ops : Array Oper} {Q : Act → World → Prop} {S : Nat → Prop}

/-- Whatever order is picked from here on, from every world that keeps what is here. -/
def wpM (S : Nat → Prop) (P : Program) (md : Region.Mode) (ops : Array Oper) (Q : Act → World → Prop) : Nat → Array Bool → Act → World → Prop
  | 0, listed, a, w => Region.ready md ops listed = [] ∧ ∀ w', Ex w w' → Q a w'
  | fuel + 1, listed, a, w => (Region.ready md ops listed = [] → ∀ w', Ex w w' → Q a w') ∧
    ∀ i ∈ Region.ready md ops listed, ∀ w', Ex w w' → wpOp P ops NQ i (fun a'' w'' => Es S w' w'' ∧ wpM S P md ops Q fuel (listed.setIfInBounds i true) a'' w'') a w'
theorem wpM.up : ∀ (fuel : Nat) (listed : Array Bool) (a : Act) (w w' : World), Ex w w' → wpM S P md ops Q fuel listed a w → wpM S P md ops Q fuel listed a w'
  | 0, _, _, _, _, hx, h => ⟨h.1, fun w2 h2 => h.2 w2 (hx.tr h2)⟩
  | _ + 1, _, _, _, _, hx, h => ⟨fun h0 w2 h2 => h.1 h0 w2 (hx.tr h2), fun i hi w2 h2 => h.2 i hi w2 (hx.tr h2)⟩
theorem wpAny_of_M {Q' : Exit → Act → World → Prop} (hQ : ∀ a w, Q a w → Q' .normal a w) : ∀ (fuel : Nat) (listed : Array Bool) (a : Act) (w : World), wpM S P md ops Q fuel listed a w → wpAny P md ops Q' fuel listed a w
  | 0, _, _, w, h => ⟨h.1, hQ _ _ (h.2 w (Fr.refl _ w))⟩
  | fuel + 1, _, _, w, h => ⟨fun h0 => hQ _ _ (h.1 h0 w (Fr.refl _ w)), fun i hi => wpOp_mono (fun a'' w'' h => wpAny_of_M hQ fuel _ a'' w'' h.2) (wpOp_nq (h.2 i hi w (Fr.refl _ w)))⟩

/-- In every world from W on the operation leaves v, and keeps what is there. -/
def YM (S : Nat → Prop) (P : Program) (ops : Array Oper) (W : World) (o : Oper) (v : Value) (a : Act) : Prop :=
  (Region.wanted o (yielded ops a.tmps) = true ∧ ∀ w, Es S W w → o.quietAt P a (Ex w) w v) ∨ (Region.wanted o (yielded ops a.tmps) = false ∧ v = undef)
theorem YM.up {W W' : World} {o : Oper} {v : Value} {a : Act} (hx : Es S W W') (h : YM S P ops W o v a) : YM S P ops W' o v a :=
  h.imp (fun h => ⟨h.1, fun w hw => h.2 w (hx.tr hw)⟩) id
theorem YM.of_same {W : World} {o : Oper} {v : Value} {a a' : Act} (hy : YM S P ops W o v a) (he : execOp a'.eval o = execOp a.eval o)
    (hw : Region.wanted o (yielded ops a'.tmps) = Region.wanted o (yielded ops a.tmps)) : YM S P ops W o v a' := by
  unfold YM Oper.quietAt at *
  rw [he, hw]
  exact hy
theorem YM.wpOp {W w : World} {i : Nat} {o : Oper} {v : Value} {a : Act} (hi : ops[i]? = some o) (hy : YM S P ops W o v a) (hx : Ex W w) {K : Act → World → Prop} (h : ∀ w', Ex w w' → K (a.put o.dst v) w') : Go.wpOp P ops NQ i K a w := by
  unfold Go.wpOp
  simp only [hi]
  rcases hy with ⟨hw, hv⟩ | ⟨hw, rfl⟩
  · simp only [hw, if_true]
    exact .inl (Oper.wp_of_quiet (C := Ex w) (K := fun a' => a' = a.put o.dst v) (Fr.refl _ w) (fun a' w' hc e => by subst e; exact h w' hc) ⟨v, fun w1 h1 => quietAt_mono (fun w2 h2 => h1.tr h2) (hv w1 (Es.of (hx.tr h1))), rfl⟩)
  · simp only [hw, Bool.false_eq_true, if_false]; exact h w (Fr.refl _ w)
theorem wpM_first {i : Nat} {oi : Oper} {v : Value} (hi : ops[i]? = some oi) (hsel : ∀ (j : Nat) (o : Oper) cs b, ops[j]? = some o → o.op ≠ .select cs b) :
    ∀ (fuel : Nat) (listed : Array Bool) (a : Act) (W : World), Fre md ops oi i listed → i ∈ Region.ready md ops listed → YM S P ops W oi v a →
      wpM S P md ops Q fuel (listed.setIfInBounds i true) (a.put oi.dst v) W → wpM S P md ops Q (fuel + 1) listed a W
  | fuel, listed, a, W, hf, hr, hy, H => by
    refine ⟨fun e => absurd hr (by rw [e]; simp), fun j hj w' hx => ?_⟩
    rcases Nat.decEq j i with hji | hji
    · cases fuel with
      | zero => exact absurd (ready_mono hj hji) (by rw [H.1]; simp)
      | succ fuel =>
        obtain ⟨hun, oj, hoj, _⟩ := mem_ready.1 hj
        obtain ⟨s1, s2, s3⟩ := Oper.apart_spec (hf j oj hoj hji hun (no_wait hr hj hoj))
        have selj := fun cs b => hsel j oj cs b hoj
        have seli := fun cs b => hsel i oi cs b hi
        refine wpOp_over hoj (execOp_put oj selj a oi.dst v s1).symm (wanted_put oj a oi.dst v s1).symm (fun u w'' ⟨h1, h2⟩ => ⟨h1, ?_⟩) (fun d w'' ⟨h1, h2⟩ => ⟨h1, ?_⟩) (H.2 j (ready_mono hj hji) w' hx)
        · refine wpM_first (v := v) hi hsel fuel _ _ w'' (hf.next hun) (ready_mono hr (fun c => hji c.symm)) ?_ ?_
          · exact (hy.up ((Es.of hx).tr h1)).of_same (execOp_put oi seli a oj.dst u s3) (wanted_put oi a oj.dst u s3)
          · rw [Array.setIfInBounds_comm _ _ hji, ← Act.put_comm a v u s2]
            exact h2
        · refine wpM_first (v := v) hi hsel fuel _ _ w'' (hf.next hun) (ready_mono hr (fun c => hji c.symm)) ?_ ?_
          · exact ((hy.up ((Es.of hx).tr h1)).of_same (a' := { a with defers := d :: a.defers }) rfl rfl).of_same (execOp_put oi seli _ oj.dst undef s3) (wanted_put oi _ oj.dst undef s3)
          · rw [Array.setIfInBounds_comm _ _ hji, ← Act.put_comm _ v undef s2, ← Act.put_defers]
            exact h2
    · subst hji
      exact hy.wpOp hi hx fun w'' h2 => ⟨Es.of h2, wpM.up _ _ _ _ _ (hx.tr h2) H⟩

/-- The walk in an order of one's own: (k, false): the operation k leaves one value wherever it comes up; (k, true): it comes up when no other one can. -/
def Wk (S : Nat → Prop) (P : Program) (md : Region.Mode) (ops : Array Oper) (Q : Act → World → Prop) : List (Nat × Bool) → Act → World → Prop
  | [], a, w => ∀ w', Ex w w' → Q a w'
  | (k, false) :: r, a, w => ∃ o v, ops[k]? = some o ∧ YM S P ops w o v a ∧ Wk S P md ops Q r (a.put o.dst v) w
  | (k, true) :: r, a, w => ∀ w', Ex w w' → wpOp P ops NQ k (fun a'' w'' => Es S w' w'' ∧ Wk S P md ops Q r a'' w'') a w'
theorem Wk.M (hs : Region.noSelect ops = true) : ∀ (l : List (Nat × Bool)) (listed : Array Bool) (a : Act) (w : World), okB md ops l listed = true → Wk S P md ops Q l a w → wpM S P md ops Q l.length listed a w
  | [], _, _, _, hB, h => ⟨by simpa [okB] using hB, h⟩
  | (k, false) :: r, listed, a, w, hB, h => by
    obtain ⟨o, v, h0, hy, hk⟩ := h
    simp only [okB, Bool.and_eq_true] at hB
    obtain ⟨⟨hr, hf⟩, hB'⟩ := hB
    exact wpM_first h0 (Region.noSelect_spec hs) r.length listed a w (Region.free_spec h0 hf) (by simpa using hr) hy (Wk.M hs r _ _ w hB' hk)
  | (k, true) :: r, listed, a, w, hB, h => by
    simp only [okB, Bool.and_eq_true, beq_iff_eq] at hB
    refine ⟨fun h0 => (by rw [hB.1] at h0; cases h0), fun i hi w' hx => ?_⟩
    rw [hB.1] at hi
    obtain rfl : i = k := by simpa using hi
    exact wpOp_mono (fun a'' w'' ⟨h1, h2⟩ => ⟨h1, Wk.M hs r _ a'' w'' hB.2 h2⟩) (h w' hx)
end

theorem wp_region_mono (S : Nat → Prop) {P : Program} {id : Nat} {Q : Exit → Act → World → Prop} {a : Act} {W0 : World} {l : List Oper} (π : List (Nat × Bool)) (hm : P.follows .mixedOrders = true)
    (hB : (Region.noSelect l.toArray && (π.length == l.length) && okB .any l.toArray π (Array.replicate l.length false)) = true)
    (h : Wk S P .any l.toArray (fun a w => Q .normal a w) π a W0) : (Code.region id l.toArray true).wp P Q a W0 := by
  simp only [Bool.and_eq_true, beq_iff_eq] at hB
  refine wp_region_any hm ?_
  have := wpM.up _ _ _ _ _ ((Fr.refl (fun _ => False) W0).drew) (Wk.M hB.1.1 π _ a W0 hB.2 h)
  rw [hB.1.2] at this
  have h2 := wpAny_of_M (Q' := Q) (fun _ _ h => h) _ _ _ _ this
  simpa using h2

section
variable {P : Program} {md : Region.Mode} {Q : Act → World → Prop} {S : Nat → Prop}
structure Gs (S : Nat → Prop) (W0 : World) where
  G : World → Prop
  stable : ∀ w w' : World, Fr (fun _ => False) w w' → G w → G w'
  w0 : World
  h0 : Fr S W0 w0
  g0 : G w0
structure Ws {S : Nat → Prop} {W0 : World} (γ : Gs S W0) where
  w : World
  h : Fr S W0 w
  g : γ.G w
instance instWs {S : Nat → Prop} {W0 : World} (γ : Gs S W0) : Nonempty (Ws γ) := ⟨⟨γ.w0, γ.h0, γ.g0⟩⟩
theorem Ws.blk {S : Nat → Prop} {W0 : World} {γ : Gs S W0} (y : Ws γ) {g : Nat} {o : Obj} (hg : W0.heap[g]? = some o) (hS : ¬ S g) : y.w.heap[g]? = some o := (y.h.block g (lt_of_block hg) hS).trans hg
theorem quiet_load_rows {P : Program} {K : Act → Prop} {a : Act} {o : Oper} {S : Nat → Prop} {W0 : World} {γ : Gs S W0} (ty : TypeId) (x : Operand) (ho : o.op = .load ty x) (g : Nat) (hx : a.eval x = .pointer (some ⟨g, 0, none⟩))
    (t : TypeId) (cs : Array Value) (fr : Nat × Nat) (d : TypeDesc) (hg : W0.heap[g]? = some (.cells cs t fr)) (hS : ¬ S g) (hu : P.underlying ty = some d) (hd : (match d with | .struct _ | .array _ _ => true | _ => false) = true)
    (hi : (P.info? ty).map (·.size) = some cs.size) (hk : K (a.put o.dst (.agg cs))) : o.quiet P a (fun w' => ∃ y : Ws γ, w' = y.w) K :=
  ⟨.agg cs, fun w' ⟨y, e⟩ => by
    subst e
    unfold Oper.quietAt execOp
    simp only [ho, hx, Instr.loadAt, Instr.sureAddr, Sem.run_bind, Sem.run_pure, Result.andThen_ok, run_loadVar_row y.w g t ty cs fr d (y.blk hg hS) hu hd hi, Oper.quietUpon]
    exact ⟨trivial, trivial⟩, hk⟩
theorem Calls.keeps {P : Program} {f : FuncId} {args : Array Value} {S : Nat → Prop} {W0 : World} {γ : Gs S W0} {x : Ws γ} {v : Value}
    (h : Calls P f args x.w fun e w' => e = .returned v ∧ Fr (fun _ => False) x.w w') : Calls P f args x.w fun e w'' => e = .returned v ∧ ∃ y : Ws γ, w'' = y.w :=
  h.mono fun _ w' ⟨he, hf⟩ => ⟨he, ⟨w', x.h.trans hf (fun _ h => h.elim), γ.stable _ _ hf x.g⟩, rfl⟩
theorem Wk.steps {ops : Array Oper} {aF : Act} {W : World} {r : List (Nat × Bool)} : ∀ (os : List Oper) (k : Nat) (a : Act), (∀ j, j < os.length → ops[k + j]? = os[j]?) → segB a.tmps.size os = true →
    (∀ γ : Gs S W, wpQuiet P ops (fun w' => ∃ y : Ws γ, w' = y.w) (fun a' => a' = aF) os a) → Wk S P md ops Q r aF W → Wk S P md ops Q (sg k os.length ++ r) a W
  | [], k, a, _, _, h, hr => by
    have h : a = aF := h ⟨fun _ => True, fun _ _ _ _ => trivial, W, Fr.refl _ W, trivial⟩
    rw [h]
    exact hr
  | o :: l, k, a, hl, hB, h, hr => by
    have h0 : ops[k]? = some o := by simpa using hl 0 (by simp)
    simp only [segB, Bool.and_eq_true] at hB
    obtain ⟨hB1, hB2⟩ := hB
    obtain ⟨d, hod⟩ : ∃ d, o.dst = some d := by
      cases hd : o.dst with
      | none => rw [hd] at hB1; simp at hB1
      | some d => exact ⟨d, rfl⟩
    rw [hod] at hB1
    simp only [Bool.and_eq_true, decide_eq_true_eq, List.all_eq_true] at hB1
    have one : ∀ γ : Gs S W, ∀ v, wpQuiet P ops (fun w' => ∃ y : Ws γ, w' = y.w) (fun a' => a' = aF) l (a.put o.dst v) → aF.tmps[d]? = some v := fun γ v hq => by
      rw [quiet_final l _ hq d (fun x hx e => by have := hB1.2 x hx; simp [e] at this), hod]
      simp [Act.put, hB1.1]
    have key : ∀ γ : Gs S W, ∃ v, YieldsIn P ops (fun w' => ∃ y : Ws γ, w' = y.w) o v a ∧ wpQuiet P ops (fun w' => ∃ y : Ws γ, w' = y.w) (fun a' => a' = aF) l (a.put o.dst v) := fun γ => by
      have hq := h γ
      unfold wpQuiet at hq
      by_cases hw : Region.wanted o (yielded ops a.tmps) = true
      · rw [if_pos hw] at hq
        obtain ⟨v, h1, h2⟩ := hq
        exact ⟨v, .inl ⟨hw, h1⟩, h2⟩
      · rw [if_neg hw] at hq
        exact ⟨undef, .inr ⟨by simpa using hw, rfl⟩, hq⟩
    obtain ⟨v, hy0, hq0⟩ := key ⟨fun _ => True, fun _ _ _ _ => trivial, W, Fr.refl _ W, trivial⟩
    have hv := one _ v hq0
    have all : ∀ γ : Gs S W, YieldsIn P ops (fun w' => ∃ y : Ws γ, w' = y.w) o v a ∧ wpQuiet P ops (fun w' => ∃ y : Ws γ, w' = y.w) (fun a' => a' = aF) l (a.put o.dst v) := fun γ => by
      obtain ⟨u, h1, h2⟩ := key γ
      have hu := one γ u h2
      rw [hv] at hu
      obtain rfl := Option.some.inj hu
      exact ⟨h1, h2⟩
    refine ⟨o, v, h0, ?_, Wk.steps l (k + 1) (a.put o.dst v) (fun j hj => by have := hl (j + 1) (by simpa using hj); simpa [Nat.add_assoc, Nat.add_comm 1 j] using this) (by rw [put_size]; exact hB2) (fun γ => (all γ).2) hr⟩
    rcases hy0 with ⟨hw, _⟩ | ⟨hw, rfl⟩
    · refine .inl ⟨hw, fun w hx => ?_⟩
      have hg := (all ⟨fun w' => Ex w w', fun w1 w2 hF hw1 => Ex.tr hw1 hF, w, hx, Fr.refl _ w⟩).1
      rcases hg with ⟨_, hg⟩ | ⟨hw2, _⟩
      · exact quietAt_mono (fun w' ⟨y, e⟩ => by rw [e]; exact y.g) (hg w ⟨⟨w, hx, Fr.refl _ w⟩, rfl⟩)
      · rw [hw] at hw2; cases hw2
    · exact .inr ⟨hw, rfl⟩
/-- Operations that leave one value each, by the walk in the order of the text. -/
theorem Wk.seg {l : List Oper} {a : Act} {W : World} {r : List (Nat × Bool)} (k n : Nat) (hn : ((l.drop k).take n).length = n) (hB : segB a.tmps.size ((l.drop k).take n) = true)
    (h : ∃ aF, (∀ γ : Gs S W, wpQuiet P l.toArray (fun w' => ∃ y : Ws γ, w' = y.w) (fun a' => a' = aF) ((l.drop k).take n) a) ∧ Wk S P md l.toArray Q r aF W) : Wk S P md l.toArray Q (sg k n ++ r) a W := by
  obtain ⟨aF, h1, h2⟩ := h
  have := Wk.steps (md := md) (Q := Q) (r := r) ((l.drop k).take n) k a (fun j hj => by
    rw [List.getElem?_take_of_lt (by omega), List.getElem?_drop, List.getElem?_toArray]) hB h1 h2
  rwa [hn] at this
/-- A call, whatever it answers. -/
theorem Wk.call {ops : Array Oper} {a : Act} {W : World} {r : List (Nat × Bool)} {k : Nat} {o : Oper} (hi : ops[k]? = some o) (hw : Region.wanted o (yielded ops a.tmps) = true) (f : FuncId) (args : Array Value)
    (hrun : ∀ w, (execOp a.eval o).run P w = .ok (.enter f args) w) (R : Value → World → Prop) (hc : ∀ w, Ex W w → Calls P f args w fun e w' => ∃ v, e = .returned v ∧ Ex w w' ∧ R v w')
    (h : ∀ v w', Ex W w' → R v w' → Wk S P md ops Q r (a.put o.dst v) w') : Wk S P md ops Q ((k, true) :: r) a W := by
  intro w hx
  unfold wpOp
  simp only [hi, hw, if_true]
  refine .inl ?_
  unfold Oper.wp
  rw [hrun, Oper.upon_enter]
  refine (hc w hx).mono fun e w' hh => ?_
  obtain ⟨v, rfl, h1, h2⟩ := hh
  exact ⟨Es.of h1, h v w' (hx.tr h1) h2⟩

end
/-- One operation by a law of the walk in the text's order. -/
theorem wpOp_of_list {P : Program} {ops : Array Oper} {a : Act} {w : World} {k : Nat} {o : Oper} {K : Act → World → Prop} (hi : ops[k]? = some o) (h : wpList P ops (fun e a' w' => e = .normal ∧ K a' w') [o] a w) : wpOp P ops NQ k K a w := by
  unfold wpOp
  unfold wpList at h
  simp only [hi]
  split at h
  · rename_i hw
    rw [if_pos hw]
    rcases h with h | ⟨_, _, _, h⟩
    · refine .inl ?_
      unfold Oper.wp at *
      generalize (execOp a.eval o).run P w = r at *
      rcases r with ⟨n, w'⟩ | ⟨x, w'⟩
      · cases n
        all_goals simp only [Oper.upon, wpList] at h ⊢
        all_goals first
          | exact h.2
          | exact Rows.mono h fun u w'' he => he.2
          | exact Calls.mono h fun e w'' he => by
              rcases e with u | c | _
              · exact he.2
              · exact absurd he.1 (by simp)
              · obtain ⟨_, _, h2⟩ := he; exact absurd h2.1 (by simp)
          | exact h
      · cases x
        all_goals simp only [Oper.upon] at h ⊢
        all_goals first | exact absurd h.1 (by simp) | exact h
    · exact absurd h.1 (by simp)
  · rename_i hw
    rw [if_neg hw]
    exact h.2
/-- An operation that comes up alone, by a law of the walk in the text's order. -/
theorem Wk.one {P : Program} {md : Region.Mode} {Q : Act → World → Prop} {S : Nat → Prop} {ops : Array Oper} {a : Act} {W : World} {r : List (Nat × Bool)} {k : Nat} {o : Oper} (hi : ops[k]? = some o)
    (h : ∀ w, Ex W w → wpList P ops (fun e a' w' => e = .normal ∧ Es S w w' ∧ Wk S P md ops Q r a' w') [o] a w) : Wk S P md ops Q ((k, true) :: r) a W :=
  fun w hx => wpOp_of_list hi (h w hx)
end Ks
end Go.Proofs.YtbpblheaiancaaaDoor
namespace Go.Proofs.YtbpblheaiancaaaDoor
open Go.RowKit
set_option linter.unusedVariables false

/-- A state as eight words. -/
def stv (s : S2.St) : Array Value := #[.int .u32 (s.a : Int), .int .u32 (s.b : Int), .int .u32 (s.c : Int), .int .u32 (s.d : Int), .int .u32 (s.e : Int), .int .u32 (s.f : Int), .int .u32 (s.g : Int), .int .u32 (s.h : Int)]
/-- The table of the rounds' words. -/
def Tab (w : World) : Prop := ∀ j, j < 64 → w.cell? ⟨2, j, none⟩ = some (.int .u32 (S2.K j : Int))

theorem Tab.fr {w w2 : World} {S : Nat → Prop} (h : Tab w) (hF : Fr S w w2) (hs : ¬ S 2) : Tab w2 := fun j hj => hF.cellSome (p := ⟨2, j, none⟩) hs (h j hj)
/-- The rounds' state as slots. -/
def RSt (t : S2.St) (va vb vc vd ve vf vg vh : Value) : Prop := va = .int .u32 (t.a : Int) ∧ vb = .int .u32 (t.b : Int) ∧ vc = .int .u32 (t.c : Int) ∧ vd = .int .u32 (t.d : Int) ∧ ve = .int .u32 (t.e : Int) ∧ vf = .int .u32 (t.f : Int) ∧ vg = .int .u32 (t.g : Int) ∧ vh = .int .u32 (t.h : Int)
/-- What stands while the rounds go on. -/
structure MixAt (w wr : World) (s : S2.St) : Prop where
  box : wr.heap[w.heap.size]? = some (.cells (stv s) 91 (0, 0))
  res : ∃ rs, wr.heap[w.heap.size + 1]? = some (.cells rs 91 (0, 0)) ∧ rs.size = 8
  fr : Fr (fun _ => False) w wr
theorem MixAt.to {w wr w2 : World} {s : S2.St} (h : MixAt w wr s) (hF : Fr (fun _ => False) wr w2) : MixAt w w2 s := by
  obtain ⟨rs, h1, h2⟩ := h.res
  exact ⟨(hF.block _ (lt_of_block h.box) (fun h => h)).trans h.box, ⟨rs, (hF.block _ (lt_of_block h1) (fun h => h)).trans h1, h2⟩, h.fr.trans hF (fun _ h => h.elim)⟩
theorem rnds_ok (W : List Nat) (s : S2.St) (hs : s.ok) (k : Nat) : (S2.rnds W s k).ok := by
  induction k with
  | zero => exact hs
  | succ k ih =>
    have hm : ∀ n, n % S2.M < S2.M := fun n => Nat.mod_lt _ (by decide)
    obtain ⟨h1, h2, h3, h4, h5, h6, h7, h8⟩ := ih
    exact ⟨hm _, h1, h2, h3, hm _, h5, h6, h7⟩

theorem run_index64 (f : Nat → Nat) (k : Nat) (hk : k < 64) (w : World) : (Instr.index 122 (.agg (uv 64 f)) (.int .i64 (k : Int))).run Tryd.prog w = .ok (.int .u32 (f k : Int)) w := by
  have h1 := uv_get 64 f k hk
  have hc : (0 : Int) ≤ (k : Int) ∧ (k : Int) < 64 := by omega
  obtain ⟨i0, hi, hz⟩ := Option.map_eq_some_iff.1 (show (Tryd.prog.info? 90).map (·.size) = some 1 by kernel_rfl)
  simp [Instr.index, asIntOf, run_underlying Tryd.underlying122, hk, part, sizeOf, typeInfo, hi, hz, h1]
theorem T1_eq (t : S2.St) (ok : t.ok) (k w : Nat) :
    ((↑t.h + ↑(S2.bs1 t.e) + bits .xor .u32 (bits .and .u32 ↑t.e ↑t.f) (bits .and .u32 (bits .xor .u32 (if IntKind.u32.signed = true then -1 else IntKind.u32.max) ↑t.e) ↑t.g) + ↑k) % 4294967296 + ↑w) % 4294967296 = ((S2.T1 t k w : Nat) : Int) := by
  obtain ⟨h1, h2, h3, h4, h5, h6, h7, h8⟩ := ok
  simp only [S2.M] at h1 h2 h3 h4 h5 h6 h7 h8
  have e1 : (if IntKind.u32.signed = true then (-1 : Int) else IntKind.u32.max) = ((4294967295 : Nat) : Int) := by decide
  rw [e1, (bits_u32_nat _ _ (by decide) h5).2.2, (bits_u32_nat _ _ h5 h6).2.1, (bits_u32_nat _ _ (Nat.xor_lt_two_pow (n := 32) (by decide) h5) h7).2.1,
    (bits_u32_nat _ _ (Nat.and_lt_two_pow (n := 32) _ h6) (Nat.and_lt_two_pow (n := 32) _ h7)).2.2]
  unfold S2.T1 S2.ch S2.M
  omega
theorem T2_eq (t : S2.St) (ok : t.ok) :
    (↑(S2.bs0 t.a) + bits .xor .u32 (bits .xor .u32 (bits .and .u32 ↑t.a ↑t.b) (bits .and .u32 ↑t.a ↑t.c)) (bits .and .u32 ↑t.b ↑t.c)) % 4294967296 = ((S2.T2 t : Nat) : Int) := by
  obtain ⟨h1, h2, h3, h4, h5, h6, h7, h8⟩ := ok
  simp only [S2.M] at h1 h2 h3 h4 h5 h6 h7 h8
  rw [(bits_u32_nat _ _ h1 h2).2.1, (bits_u32_nat _ _ h1 h3).2.1, (bits_u32_nat _ _ h2 h3).2.1,
    (bits_u32_nat _ _ (Nat.and_lt_two_pow (n := 32) _ h2) (Nat.and_lt_two_pow (n := 32) _ h3)).2.2,
    (bits_u32_nat _ _ (Nat.xor_lt_two_pow (n := 32) (Nat.and_lt_two_pow (n := 32) _ h2) (Nat.and_lt_two_pow (n := 32) _ h3)) (Nat.and_lt_two_pow (n := 32) _ h3)).2.2]
  unfold S2.T2 S2.maj S2.M
  omega

theorem rst_of (t : S2.St) (k w : Nat) : RSt (S2.rnd t k w) (.int .u32 ((↑(S2.T1 t k w) + ↑(S2.T2 t)) % 4294967296)) (.int .u32 ↑t.a) (.int .u32 ↑t.b) (.int .u32 ↑t.c) (.int .u32 ((↑t.d + ↑(S2.T1 t k w)) % 4294967296)) (.int .u32 ↑t.e) (.int .u32 ↑t.f) (.int .u32 ↑t.g) :=
  ⟨by show _ = Value.int .u32 (((S2.T1 t k w + S2.T2 t) % 4294967296 : Nat) : Int); simp, rfl, rfl, rfl, by show _ = Value.int .u32 (((t.d + S2.T1 t k w) % 4294967296 : Nat) : Int); simp, rfl, rfl, rfl⟩

theorem Tryd.size8 {m : S2.St} : (Tryd.prog.info? 91).map (·.size) = some (stv m).size := by
  show _ = some 8
  kernel_rfl
theorem stv_size (m : S2.St) : (stv m).size = 8 := rfl
theorem stv_one (m : S2.St) : (stv m).all (·.oneCell') = true := by simp [stv, Value.oneCell']
theorem mix_end {w wr : World} {s t m : S2.St} (h : MixAt w wr s) (hm : s.add t = m) :
    MixAt w ((((((((wr.setCell ⟨w.heap.size, 0, none⟩ (.int .u32 ((↑s.a + ↑t.a) % 4294967296))).setCell ⟨w.heap.size, 1, none⟩ (.int .u32 ((↑s.b + ↑t.b) % 4294967296))).setCell ⟨w.heap.size, 2, none⟩ (.int .u32 ((↑s.c + ↑t.c) % 4294967296))).setCell ⟨w.heap.size, 3, none⟩ (.int .u32 ((↑s.d + ↑t.d) % 4294967296))).setCell ⟨w.heap.size, 4, none⟩ (.int .u32 ((↑s.e + ↑t.e) % 4294967296))).setCell ⟨w.heap.size, 5, none⟩ (.int .u32 ((↑s.f + ↑t.f) % 4294967296))).setCell ⟨w.heap.size, 6, none⟩ (.int .u32 ((↑s.g + ↑t.g) % 4294967296))).setCell ⟨w.heap.size, 7, none⟩ (.int .u32 ((↑s.h + ↑t.h) % 4294967296))) m := by
  have hF : ∀ (W : World) (o : Nat) (v : Value), Fr (fun k => k = w.heap.size) wr W → Fr (fun k => k = w.heap.size) wr (W.setCell ⟨w.heap.size, o, none⟩ v) := fun W o v hW => hW.setCell (Or.inl rfl) v
  have hT := hF _ 7 (.int .u32 ((↑s.h + ↑t.h) % 4294967296)) (hF _ 6 (.int .u32 ((↑s.g + ↑t.g) % 4294967296)) (hF _ 5 (.int .u32 ((↑s.f + ↑t.f) % 4294967296)) (hF _ 4 (.int .u32 ((↑s.e + ↑t.e) % 4294967296)) (hF _ 3 (.int .u32 ((↑s.d + ↑t.d) % 4294967296)) (hF _ 2 (.int .u32 ((↑s.c + ↑t.c) % 4294967296)) (hF _ 1 (.int .u32 ((↑s.b + ↑t.b) % 4294967296)) (hF _ 0 (.int .u32 ((↑s.a + ↑t.a) % 4294967296)) (Fr.refl _ wr))))))))
  obtain ⟨rs, r1, r2⟩ := h.res
  refine ⟨?_, ⟨rs, (hT.block _ (lt_of_block r1) (by omega)).trans r1, r2⟩, h.fr.trans hT (fun i hi => Or.inr (by omega))⟩
  have hb := block_setCell (block_setCell (block_setCell (block_setCell (block_setCell (block_setCell (block_setCell (block_setCell h.box 0 (.int .u32 ((↑s.a + ↑t.a) % 4294967296))) 1 (.int .u32 ((↑s.b + ↑t.b) % 4294967296))) 2 (.int .u32 ((↑s.c + ↑t.c) % 4294967296))) 3 (.int .u32 ((↑s.d + ↑t.d) % 4294967296))) 4 (.int .u32 ((↑s.e + ↑t.e) % 4294967296))) 5 (.int .u32 ((↑s.f + ↑t.f) % 4294967296))) 6 (.int .u32 ((↑s.g + ↑t.g) % 4294967296))) 7 (.int .u32 ((↑s.h + ↑t.h) % 4294967296))
  rw [hb]
  subst hm
  simp [stv, S2.St.add, S2.M]

set_option maxRecDepth 100000 in
set_option maxHeartbeats 1600000 in
theorem mix_any (s : S2.St) (hs : s.ok) (b off : Nat) (l : List UInt8) (w : World) (hb : Blk w b off l) (hlt : b < w.heap.size) (hT : Tab w) (hT2 : 2 < w.heap.size) :
    Calls Tryd.prog 71 #[.agg (stv s), .pointer (some ⟨b, off, none⟩)] w fun e w' => e = .returned (.agg (stv (S2.mix s l))) ∧ Fr (fun _ => False) w w' := by
  have h0 : MixAt w ((w.alloc (.cells (stv s) 91)).alloc (.cells #[.int .u32 0, .int .u32 0, .int .u32 0, .int .u32 0, .int .u32 0, .int .u32 0, .int .u32 0, .int .u32 0] 91)) s :=
    ⟨heap_alloc2_old w _ _, ⟨_, heap_alloc2_new w _ _, rfl⟩, ((Fr.refl _ w).alloc _).alloc _⟩
  generalize hpost : S2.mix s l = m
  have Hpost := Lib.hid hpost
  clear hpost
  unfold stv at h0 ⊢
  go_enter Tryd.func71, Tryd.ntmps71
  go_wp2_with fail
  go_quiet (fail)
  go_wp2_with fail
  refine (sched_any b off l _ (hb.fr (h0.fr.drewN nq) (fun h => h)) (by simp; omega)).mono ?_
  rintro e w1 ⟨rfl, F1⟩
  have h1 := h0.to (((Fr.refl (fun _ => False) _).drewN nq).trans F1 (fun _ h => h.elim))
  clear F1 h0
  go_wp2_with fail
  go_loopw [5, 6, 7, 8, 9, 10, 11, 12, 37] (fun va vb vc vd ve vf vg vh i wr => ∃ k : Nat, k ≤ 64 ∧ i = .int .i64 k ∧ RSt (S2.rnds (S2.sch l 48) s k) va vb vc vd ve vf vg vh ∧ MixAt w wr s) (fun _ _ _ _ _ _ _ _ i _ => 64 - (intOf i).toNat)
  case atStart => exact ⟨0, by omega, by simp, ⟨rfl, rfl, rfl, rfl, rfl, rfl, rfl, rfl⟩, h1⟩
  case round =>
    obtain ⟨k, hk, rfl, ⟨rfl, rfl, rfl, rfl, rfl, rfl, rfl, rfl⟩, hM⟩ := hrel
    by_cases hlt64 : k < 64
    · have ok := rnds_ok (S2.sch l 48) s hs k
      have hn : S2.rnds (S2.sch l 48) s (k + 1) = S2.rnd (S2.rnds (S2.sch l 48) s k) (S2.K k) (S2.W l k) := rfl
      generalize ht : S2.rnds (S2.sch l 48) s k = t at ok hn ⊢
      have Ht := Lib.hid ht
      have Hn := Lib.hid hn
      clear ht hn
      have hK := (hT.fr hM.fr (fun h => h)) k hlt64
      have hu := run_index64 (S2.W l) k hlt64
      have q0 : (0 : Int) ≤ (k : Int) := by omega
      have q1 : (k : Int) < 64 := by omega
      go_wp2_with fail
      go_quiet ((go_at_call 76; exact Calls.quiet_of_same (bs1_any t.e ok.2.2.2.2.1 _)))
      rw [T1_eq t ok]
      have hu2 := T2_eq t ok
      go_wp2_with (go_at_call 76; refine (bs0_any t.a ok.1 _).mono ?_; rintro e w' ⟨rfl, rfl⟩)
      have hrel : RSt (S2.rnds (S2.sch l 48) s (k + 1)) (.int .u32 ((↑(S2.T1 t (S2.K k) (S2.W l k)) + ↑(S2.T2 t)) % 4294967296)) (.int .u32 ↑t.a) (.int .u32 ↑t.b) (.int .u32 ↑t.c) (.int .u32 ((↑t.d + ↑(S2.T1 t (S2.K k) (S2.W l k))) % 4294967296)) (.int .u32 ↑t.e) (.int .u32 ↑t.f) (.int .u32 ↑t.g) := by
        rw [Hn.out]; exact rst_of t _ _
      go_roundw
      case rel => exact ⟨k + 1, by omega, by go_num, hrel, hM.to ((Fr.refl _ _).drewN _)⟩
      case measure => simp [intOf]; omega
    · have e64 : k = 64 := by omega
      have q1 : ¬ (k : Int) < 64 := by omega
      have ok := rnds_ok (S2.sch l 48) s hs 64
      have Hm : Hid (s.add (S2.rnds (S2.sch l 48) s k) = m) := by rw [e64]; exact Hpost.out
      generalize ht : S2.rnds (S2.sch l 48) s k = t at ok Hm ⊢
      clear e64 ht
      have k0 := cell_of_block hM.box 0
      have k1 := cell_of_block hM.box 1
      have k2 := cell_of_block hM.box 2
      have k3 := cell_of_block hM.box 3
      have k4 := cell_of_block hM.box 4
      have k5 := cell_of_block hM.box 5
      have k6 := cell_of_block hM.box 6
      have k7 := cell_of_block hM.box 7
      have hf := fun o => free_of_block hM.box o
      simp [stv] at k0 k1 k2 k3 k4 k5 k6 k7
      have i0 : ∀ w : World, (Instr.index 91 (.agg #[.int .u32 ↑t.a, .int .u32 ↑t.b, .int .u32 ↑t.c, .int .u32 ↑t.d, .int .u32 ↑t.e, .int .u32 ↑t.f, .int .u32 ↑t.g, .int .u32 ↑t.h]) (.int .i64 0)).run Tryd.prog w = .ok (.int .u32 ↑t.a) w := fun _ => by kernel_rfl
      have i1 : ∀ w : World, (Instr.index 91 (.agg #[.int .u32 ↑t.a, .int .u32 ↑t.b, .int .u32 ↑t.c, .int .u32 ↑t.d, .int .u32 ↑t.e, .int .u32 ↑t.f, .int .u32 ↑t.g, .int .u32 ↑t.h]) (.int .i64 1)).run Tryd.prog w = .ok (.int .u32 ↑t.b) w := fun _ => by kernel_rfl
      have i2 : ∀ w : World, (Instr.index 91 (.agg #[.int .u32 ↑t.a, .int .u32 ↑t.b, .int .u32 ↑t.c, .int .u32 ↑t.d, .int .u32 ↑t.e, .int .u32 ↑t.f, .int .u32 ↑t.g, .int .u32 ↑t.h]) (.int .i64 2)).run Tryd.prog w = .ok (.int .u32 ↑t.c) w := fun _ => by kernel_rfl
      have i3 : ∀ w : World, (Instr.index 91 (.agg #[.int .u32 ↑t.a, .int .u32 ↑t.b, .int .u32 ↑t.c, .int .u32 ↑t.d, .int .u32 ↑t.e, .int .u32 ↑t.f, .int .u32 ↑t.g, .int .u32 ↑t.h]) (.int .i64 3)).run Tryd.prog w = .ok (.int .u32 ↑t.d) w := fun _ => by kernel_rfl
      have i4 : ∀ w : World, (Instr.index 91 (.agg #[.int .u32 ↑t.a, .int .u32 ↑t.b, .int .u32 ↑t.c, .int .u32 ↑t.d, .int .u32 ↑t.e, .int .u32 ↑t.f, .int .u32 ↑t.g, .int .u32 ↑t.h]) (.int .i64 4)).run Tryd.prog w = .ok (.int .u32 ↑t.e) w := fun _ => by kernel_rfl
      have i5 : ∀ w : World, (Instr.index 91 (.agg #[.int .u32 ↑t.a, .int .u32 ↑t.b, .int .u32 ↑t.c, .int .u32 ↑t.d, .int .u32 ↑t.e, .int .u32 ↑t.f, .int .u32 ↑t.g, .int .u32 ↑t.h]) (.int .i64 5)).run Tryd.prog w = .ok (.int .u32 ↑t.f) w := fun _ => by kernel_rfl
      have i6 : ∀ w : World, (Instr.index 91 (.agg #[.int .u32 ↑t.a, .int .u32 ↑t.b, .int .u32 ↑t.c, .int .u32 ↑t.d, .int .u32 ↑t.e, .int .u32 ↑t.f, .int .u32 ↑t.g, .int .u32 ↑t.h]) (.int .i64 6)).run Tryd.prog w = .ok (.int .u32 ↑t.g) w := fun _ => by kernel_rfl
      have i7 : ∀ w : World, (Instr.index 91 (.agg #[.int .u32 ↑t.a, .int .u32 ↑t.b, .int .u32 ↑t.c, .int .u32 ↑t.d, .int .u32 ↑t.e, .int .u32 ↑t.f, .int .u32 ↑t.g, .int .u32 ↑t.h]) (.int .i64 7)).run Tryd.prog w = .ok (.int .u32 ↑t.h) w := fun _ => by kernel_rfl
      go_wp2_with fail
      refine wp_loop_rounds 9 ?_
      rw [rounds_succ]
      go_wp2_with fail
      rw [rounds_succ]
      go_wp2_with fail
      rw [rounds_succ]
      go_wp2_with fail
      rw [rounds_succ]
      go_wp2_with fail
      rw [rounds_succ]
      go_wp2_with fail
      rw [rounds_succ]
      go_wp2_with fail
      rw [rounds_succ]
      go_wp2_with fail
      rw [rounds_succ]
      go_wp2_with fail
      have E := mix_end (s := s) (t := t) (m := m) hM Hm.out
      clear hM k0 k1 k2 k3 k4 k5 k6 k7 hf i0 i1 i2 i3 i4 i5 i6 i7
      generalize World.setCell _ ⟨w.heap.size, 7, none⟩ _ = w8 at E ⊢
      obtain ⟨hbox, ⟨rs, hres, hrs⟩, hF⟩ := E
      rw [rounds_succ]
      go_wp2_with (first
        | (with_reducible refine wpList_load_row rfl 91 (.tmp 2) rfl w.heap.size rfl 91 (stv m) (0, 0) _ hbox Tryd.underlying91 rfl Tryd.size8 ?_)
        | (with_reducible refine wpList_store_row rfl 91 (.tmp 4) (.tmp 107) rfl (w.heap.size + 1) (stv m) rfl rfl 91 rs hres Tryd.size8 (hrs.trans (stv_size m).symm) (stv_one m) ?_))
      refine bodyPost_ret (results_cell_row rfl _ _ (w.heap.size + 1) 91 (stv m) (0, 0) _ rfl (setRow_heap _ _ _ _ _ _ hres) Tryd.underlying91 rfl Tryd.size8) rfl ?_
      exact ⟨rfl, hF.trans (Fr.setRow (S := fun k => k = w.heap.size + 1) (Fr.refl _ _) rfl _) (fun i hi => Or.inr (by omega))⟩
end Go.Proofs.YtbpblheaiancaaaDoor
namespace Go.Proofs.YtbpblheaiancaaaDoor
open Go.RowKit
set_option linter.unusedVariables false

theorem setCells_block {b : Nat} {t : TypeId} : ∀ (vs : List Value) (o : Nat) (cur : List Value) (w : World), w.heap[b]? = some (.cells cur.toArray t (0, 0)) → o + vs.length ≤ cur.length →
    (w.setCells b o vs).heap[b]? = some (.cells (cur.take o ++ (vs ++ cur.drop (o + vs.length))).toArray t (0, 0)) := by
  intro vs
  induction vs with
  | nil => intro o cur w h _; simpa [World.setCells] using h
  | cons v r ih =>
    intro o cur w h hl
    simp only [List.length_cons] at hl
    have h1 := block_setCell h o v
    rw [show cur.toArray.setIfInBounds o v = (cur.set o v).toArray by simp] at h1
    have h2 := ih (o + 1) (cur.set o v) _ h1 (by simp; omega)
    rw [World.setCells, h2]
    congr 3
    have := list_seg_step cur o v r (by omega)
    simpa [List.append_assoc] using this
theorem Fr.setCells {S : Nat → Prop} {a : World} {b : Nat} (hS : S b) : ∀ (vs : List Value) (o : Nat) {w : World}, Fr S a w → Fr S a (w.setCells b o vs)
  | [], _, _, h => h
  | v :: r, o, w, h => Fr.setCells hS r (o + 1) (h.setCell (Or.inl hS) v)

/-- The cells of a Hash: eight words, 64 bytes, a count. -/
def hcells (wl : List Value) (tl : List UInt8) (n : Nat) : List Value := wl ++ (bv tl ++ [.int .i64 (n : Int)])
structure HB (w : World) (bh : Nat) (wl : List Value) (tl : List UInt8) (n : Nat) : Prop where
  blk : w.heap[bh]? = some (.cells (hcells wl tl n).toArray 93 (0, 0))
  w8 : wl.length = 8
  t64 : tl.length = 64
  one : ∀ v ∈ wl, v.oneCell' = true
theorem HB.cell {w : World} {bh n : Nat} {wl : List Value} {tl : List UInt8} (h : HB w bh wl tl n) (o : Nat) : w.cell? ⟨bh, o, none⟩ = (hcells wl tl n)[o]? := by
  rw [cell_of_block h.blk]; simp
theorem HB.count {w : World} {bh n : Nat} {wl : List Value} {tl : List UInt8} (h : HB w bh wl tl n) : w.cell? ⟨bh, 72, none⟩ = some (.int .i64 (n : Int)) := by
  rw [h.cell]
  unfold hcells
  rw [List.getElem?_append_right (by rw [h.w8]; omega), List.getElem?_append_right (by simp [h.w8, h.t64])]
  simp [h.w8, h.t64]
theorem HB.tail {w : World} {bh n : Nat} {wl : List Value} {tl : List UInt8} (h : HB w bh wl tl n) : Blk w bh 8 tl := by
  intro j hj
  rw [h.cell]
  unfold hcells
  rw [List.getElem?_append_right (by rw [h.w8]; omega), List.getElem?_append_left (by simp [h.w8, h.t64]; omega), h.w8, show 8 + j - 8 = j by omega, bv_get' tl j (by rw [h.t64]; omega)]
  simp [List.getD, h.t64, hj]
theorem HB.words {w : World} {bh n : Nat} {wl : List Value} {tl : List UInt8} (h : HB w bh wl tl n) : w.rangeAt bh 0 wl := by
  intro j v hv
  rw [h.cell]
  unfold hcells
  rw [Nat.zero_add, List.getElem?_append_left (List.getElem?_eq_some_iff.1 hv).1]
  exact hv
theorem HB.length {w : World} {bh n : Nat} {wl : List Value} {tl : List UInt8} (h : HB w bh wl tl n) : (hcells wl tl n).length = 73 := by
  simp [hcells, h.w8, h.t64]
theorem HB.fr {w w2 : World} {bh n : Nat} {wl : List Value} {tl : List UInt8} {S : Nat → Prop} (h : HB w bh wl tl n) (hF : Fr S w w2) (hs : ¬ S bh) : HB w2 bh wl tl n :=
  ⟨(hF.block bh (lt_of_block h.blk) hs).trans h.blk, h.w8, h.t64, h.one⟩
theorem HB.there {w : World} {bh n : Nat} {wl : List Value} {tl : List UInt8} (h : HB w bh wl tl n) : w.there bh 0 8 := by
  intro j hj
  refine ⟨?_, free_of_block h.blk _⟩
  rw [h.cell]
  have := h.length
  simp only [Nat.zero_add]
  rw [List.getElem?_eq_getElem (by omega)]; rfl
/-- The words are set. -/
theorem HB.setWords {w : World} {bh n : Nat} {wl : List Value} {tl : List UInt8} (h : HB w bh wl tl n) (s : S2.St) : HB (w.setCells bh 0 (stv s).toList) bh (stv s).toList tl n := by
  refine ⟨?_, rfl, h.t64, fun v hv => (Array.all_eq_true_iff_forall_mem.1 (stv_one s)) v (by simpa using hv)⟩
  rw [setCells_block (stv s).toList 0 (hcells wl tl n) w h.blk (by rw [h.length]; show 0 + 8 ≤ 73; omega)]
  congr 3
  rw [List.take_zero, List.nil_append, show 0 + (stv s).toList.length = wl.length by rw [h.w8]; rfl]
  simp [hcells]
/-- The count is set. -/
theorem HB.setCount {w : World} {bh n : Nat} {wl : List Value} {tl : List UInt8} (h : HB w bh wl tl n) (n2 : Nat) (v : Int) (hv : v = (n2 : Int)) : HB (w.setCell ⟨bh, 72, none⟩ (.int .i64 v)) bh wl tl n2 := by
  subst hv
  refine ⟨?_, h.w8, h.t64, h.one⟩
  rw [block_setCell h.blk]
  congr 2
  rw [List.setIfInBounds_toArray]
  congr 1
  unfold hcells
  rw [List.set_append_right _ _ (by rw [h.w8]; omega), List.set_append_right _ _ (by simp [h.w8, h.t64])]
  simp [h.w8, h.t64]
/-- Bytes are copied into the tail. -/
theorem HB.setTail {w : World} {bh n : Nat} {wl : List Value} {tl : List UInt8} (h : HB w bh wl tl n) (r : Nat) (x : List UInt8) (hr : r + x.length ≤ 64) :
    HB (w.setRow bh ((hcells wl tl n).toArray.toList.take (8 + r) ++ (bv x ++ (hcells wl tl n).toArray.toList.drop (8 + r + (bv x).length))).toArray) bh wl (tl.take r ++ (x ++ tl.drop (r + x.length))) n := by
  refine ⟨?_, h.w8, by simp [h.t64]; omega, h.one⟩
  rw [setRow_heap _ _ _ _ _ _ h.blk]
  congr 3
  unfold hcells
  have e1 : (wl ++ (bv tl ++ [Value.int .i64 (n : Int)])).take (8 + r) = wl ++ bv (tl.take r) := by
    rw [← h.w8, List.take_length_add_append, List.take_append_of_le_length (by simp [h.t64]; omega)]
    simp [bv, List.map_take]
  have e2 : (wl ++ (bv tl ++ [Value.int .i64 (n : Int)])).drop (8 + r + (bv x).length) = bv (tl.drop (r + x.length)) ++ [Value.int .i64 (n : Int)] := by
    rw [show 8 + r + (bv x).length = wl.length + (r + x.length) by rw [h.w8, bv_length]; omega, List.drop_length_add_append, List.drop_append_of_le_length (by simp [h.t64]; omega)]
    simp [bv, List.map_drop]
  rw [List.toList_toArray, e1, e2, bv_append, bv_append]
  simp

/-- The Hash has taken l. -/
structure HInv (w : World) (bh : Nat) (l : List UInt8) (tl : List UInt8) : Prop where
  hb : HB w bh (stv (S2.hw l)).toList tl l.length
  tail : tl.take (l.length % 64) = l.drop (64 * (l.length / 64))
end Go.Proofs.YtbpblheaiancaaaDoor

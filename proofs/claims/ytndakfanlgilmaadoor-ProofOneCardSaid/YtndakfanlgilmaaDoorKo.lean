/-
  More of worlds with known blocks: three and four new blocks at once; what is built out of rows; rows of four, eight and sixteen cells as literals. Plain.
-/
import Derived.Test.YtndakfanlgilmaaDoorKn
namespace Go.Proofs.YtndakfanlgilmaaDoor
open Go.RowKit
set_option linter.unusedVariables false

section
variable {P : Program}
set_option maxRecDepth 100000 in
theorem mk_list {l : List Oper} {n : Nat} : ∀ (L : List (Tmp × Obj)), (∀ j, j < L.length → ∃ x, L[j]? = some x ∧ ∃ o, l[n + j]? = some o ∧ Makes P o x) → ∀ j x, L[j]? = some x → ∃ o, l[n + j]? = some o ∧ Makes P o x := fun L h j x hx => by
  obtain ⟨x', h1, h2⟩ := h j (List.getElem?_eq_some_iff.1 hx).1
  rw [hx] at h1
  cases h1
  exact h2
set_option maxRecDepth 100000 in
theorem mk_three {l : List Oper} {n : Nat} {x0 x1 x2 : Tmp × Obj} (h : ∃ o, l[n]? = some o ∧ Makes P o x0) (h1 : ∃ o, l[n + 1]? = some o ∧ Makes P o x1) (h2 : ∃ o, l[n + 2]? = some o ∧ Makes P o x2) : ∀ j x, [x0, x1, x2][j]? = some x → ∃ o, l[n + j]? = some o ∧ Makes P o x := by
  refine mk_list _ (fun j hj => ?_)
  have : j = 0 ∨ j = 1 ∨ j = 2 := by simp at hj; omega
  rcases this with rfl | rfl | rfl
  · exact ⟨x0, rfl, h⟩
  · exact ⟨x1, rfl, h1⟩
  · exact ⟨x2, rfl, h2⟩
set_option maxRecDepth 100000 in
theorem mk_four {l : List Oper} {n : Nat} {x0 x1 x2 x3 : Tmp × Obj} (h : ∃ o, l[n]? = some o ∧ Makes P o x0) (h1 : ∃ o, l[n + 1]? = some o ∧ Makes P o x1) (h2 : ∃ o, l[n + 2]? = some o ∧ Makes P o x2) (h3 : ∃ o, l[n + 3]? = some o ∧ Makes P o x3) : ∀ j x, [x0, x1, x2, x3][j]? = some x → ∃ o, l[n + j]? = some o ∧ Makes P o x := by
  refine mk_list _ (fun j hj => ?_)
  have : j = 0 ∨ j = 1 ∨ j = 2 ∨ j = 3 := by simp at hj; omega
  rcases this with rfl | rfl | rfl | rfl
  · exact ⟨x0, rfl, h⟩
  · exact ⟨x1, rfl, h1⟩
  · exact ⟨x2, rfl, h2⟩
  · exact ⟨x3, rfl, h3⟩
set_option maxRecDepth 100000 in
theorem sz_list : ∀ (L : List (Tmp × Nat × Array Value × TypeId)), (∀ x ∈ L, x.2.2.1.size = x.2.1) → ∀ (j : Nat) (x : Tmp × Nat × Array Value × TypeId), L[j]? = some x → x.2.2.1.size = x.2.1 := fun L h j x hx => h x (List.mem_of_getElem? hx)
set_option maxRecDepth 100000 in
theorem sz_three {x0 x1 x2 : Tmp × Nat × Array Value × TypeId} (h : x0.2.2.1.size = x0.2.1) (h1 : x1.2.2.1.size = x1.2.1) (h2 : x2.2.2.1.size = x2.2.1) : ∀ (j : Nat) (x : Tmp × Nat × Array Value × TypeId), [x0, x1, x2][j]? = some x → x.2.2.1.size = x.2.1 := by
  refine sz_list _ (fun x hx => ?_)
  simp only [List.mem_cons, List.not_mem_nil, or_false] at hx
  rcases hx with rfl | rfl | rfl
  · exact h
  · exact h1
  · exact h2
set_option maxRecDepth 100000 in
theorem sz_four {x0 x1 x2 x3 : Tmp × Nat × Array Value × TypeId} (h : x0.2.2.1.size = x0.2.1) (h1 : x1.2.2.1.size = x1.2.1) (h2 : x2.2.2.1.size = x2.2.1) (h3 : x3.2.2.1.size = x3.2.1) : ∀ (j : Nat) (x : Tmp × Nat × Array Value × TypeId), [x0, x1, x2, x3][j]? = some x → x.2.2.1.size = x.2.1 := by
  refine sz_list _ (fun x hx => ?_)
  simp only [List.mem_cons, List.not_mem_nil, or_false] at hx
  rcases hx with rfl | rfl | rfl | rfl
  · exact h
  · exact h1
  · exact h2
  · exact h3
set_option maxRecDepth 100000 in
/-- A row that is built. -/
theorem quiet_build {C : World → Prop} {K : Act → Prop} {a : Act} {o : Oper} (t : TypeId) (parts : Array (Nat × Operand)) (ho : o.op = .build t parts)
    (cs : Array Value) (hb : P.built t (parts.map fun (i, x) => (i, a.eval x)).toList = some cs) (hk : K (a.put o.dst (.agg cs))) : o.quiet P a C K :=
  ⟨.agg cs, fun w' _ => by
    unfold Oper.quietAt execOp
    simp only [ho, Sem.run_bind, run_build w' t _ cs hb, Result.andThen_ok, Sem.run_pure, Oper.quietUpon]
    first | exact ⟨trivial, trivial⟩ | (refine ⟨?_, trivial⟩; assumption), hk⟩
set_option maxRecDepth 100000 in
theorem wpList_build_to {ops : Array Oper} {rest : List Oper} {o : Oper} {a : Act} {w : World} {Q : Exit → Act → World → Prop} (hg : o.guard = none) (t : TypeId) (parts : Array (Nat × Operand)) (ho : o.op = .build t parts)
    (cs : Array Value) (hb : P.built t (parts.map fun (i, x) => (i, a.eval x)).toList = some cs) (h : wpList P ops Q rest (a.put o.dst (.agg cs)) w) : wpList P ops Q (o :: rest) a w :=
  wpList_build hg t parts ho (by rw [hb]; rfl) (by rw [hb]; exact h)
set_option maxRecDepth 100000 in
theorem quiet_build1 {C : World → Prop} {K : Act → Prop} {a : Act} {o : Oper} (t : TypeId) (i0 : Nat) (x0 : Operand) (v0 : Value) (ho : o.op = .build t #[(i0, x0)])
    (cs : Array Value) (hb : P.built t [(i0, v0)] = some cs) (h0 : a.eval x0 = v0) (hk : K (a.put o.dst (.agg cs))) : o.quiet P a C K :=
  quiet_build t _ ho cs (by simp only [List.map_toArray, List.map_cons, List.map_nil, h0]; exact hb) hk
set_option maxRecDepth 100000 in
theorem wpList_build1 {ops : Array Oper} {rest : List Oper} {o : Oper} {a : Act} {w : World} {Q : Exit → Act → World → Prop} (hg : o.guard = none) (t : TypeId) (i0 : Nat) (x0 : Operand) (v0 : Value) (ho : o.op = .build t #[(i0, x0)])
    (cs : Array Value) (hb : P.built t [(i0, v0)] = some cs) (h0 : a.eval x0 = v0) (h : wpList P ops Q rest (a.put o.dst (.agg cs)) w) : wpList P ops Q (o :: rest) a w :=
  wpList_build_to hg t _ ho cs (by simp only [List.map_toArray, List.map_cons, List.map_nil, h0]; exact hb) h
set_option maxRecDepth 100000 in
theorem quiet_build2 {C : World → Prop} {K : Act → Prop} {a : Act} {o : Oper} (t : TypeId) (i0 i1 : Nat) (x0 x1 : Operand) (v0 v1 : Value) (ho : o.op = .build t #[(i0, x0), (i1, x1)])
    (cs : Array Value) (hb : P.built t [(i0, v0), (i1, v1)] = some cs) (h0 : a.eval x0 = v0) (h1 : a.eval x1 = v1) (hk : K (a.put o.dst (.agg cs))) : o.quiet P a C K :=
  quiet_build t _ ho cs (by simp only [List.map_toArray, List.map_cons, List.map_nil, h0, h1]; exact hb) hk
set_option maxRecDepth 100000 in
theorem wpList_build2 {ops : Array Oper} {rest : List Oper} {o : Oper} {a : Act} {w : World} {Q : Exit → Act → World → Prop} (hg : o.guard = none) (t : TypeId) (i0 i1 : Nat) (x0 x1 : Operand) (v0 v1 : Value) (ho : o.op = .build t #[(i0, x0), (i1, x1)])
    (cs : Array Value) (hb : P.built t [(i0, v0), (i1, v1)] = some cs) (h0 : a.eval x0 = v0) (h1 : a.eval x1 = v1) (h : wpList P ops Q rest (a.put o.dst (.agg cs)) w) : wpList P ops Q (o :: rest) a w :=
  wpList_build_to hg t _ ho cs (by simp only [List.map_toArray, List.map_cons, List.map_nil, h0, h1]; exact hb) h
set_option maxRecDepth 100000 in
theorem quiet_build3 {C : World → Prop} {K : Act → Prop} {a : Act} {o : Oper} (t : TypeId) (i0 i1 i2 : Nat) (x0 x1 x2 : Operand) (v0 v1 v2 : Value) (ho : o.op = .build t #[(i0, x0), (i1, x1), (i2, x2)])
    (cs : Array Value) (hb : P.built t [(i0, v0), (i1, v1), (i2, v2)] = some cs) (h0 : a.eval x0 = v0) (h1 : a.eval x1 = v1) (h2 : a.eval x2 = v2) (hk : K (a.put o.dst (.agg cs))) : o.quiet P a C K :=
  quiet_build t _ ho cs (by simp only [List.map_toArray, List.map_cons, List.map_nil, h0, h1, h2]; exact hb) hk
set_option maxRecDepth 100000 in
theorem wpList_build3 {ops : Array Oper} {rest : List Oper} {o : Oper} {a : Act} {w : World} {Q : Exit → Act → World → Prop} (hg : o.guard = none) (t : TypeId) (i0 i1 i2 : Nat) (x0 x1 x2 : Operand) (v0 v1 v2 : Value) (ho : o.op = .build t #[(i0, x0), (i1, x1), (i2, x2)])
    (cs : Array Value) (hb : P.built t [(i0, v0), (i1, v1), (i2, v2)] = some cs) (h0 : a.eval x0 = v0) (h1 : a.eval x1 = v1) (h2 : a.eval x2 = v2) (h : wpList P ops Q rest (a.put o.dst (.agg cs)) w) : wpList P ops Q (o :: rest) a w :=
  wpList_build_to hg t _ ho cs (by simp only [List.map_toArray, List.map_cons, List.map_nil, h0, h1, h2]; exact hb) h
set_option maxRecDepth 100000 in
theorem quiet_build4 {C : World → Prop} {K : Act → Prop} {a : Act} {o : Oper} (t : TypeId) (i0 i1 i2 i3 : Nat) (x0 x1 x2 x3 : Operand) (v0 v1 v2 v3 : Value) (ho : o.op = .build t #[(i0, x0), (i1, x1), (i2, x2), (i3, x3)])
    (cs : Array Value) (hb : P.built t [(i0, v0), (i1, v1), (i2, v2), (i3, v3)] = some cs) (h0 : a.eval x0 = v0) (h1 : a.eval x1 = v1) (h2 : a.eval x2 = v2) (h3 : a.eval x3 = v3) (hk : K (a.put o.dst (.agg cs))) : o.quiet P a C K :=
  quiet_build t _ ho cs (by simp only [List.map_toArray, List.map_cons, List.map_nil, h0, h1, h2, h3]; exact hb) hk
set_option maxRecDepth 100000 in
theorem wpList_build4 {ops : Array Oper} {rest : List Oper} {o : Oper} {a : Act} {w : World} {Q : Exit → Act → World → Prop} (hg : o.guard = none) (t : TypeId) (i0 i1 i2 i3 : Nat) (x0 x1 x2 x3 : Operand) (v0 v1 v2 v3 : Value) (ho : o.op = .build t #[(i0, x0), (i1, x1), (i2, x2), (i3, x3)])
    (cs : Array Value) (hb : P.built t [(i0, v0), (i1, v1), (i2, v2), (i3, v3)] = some cs) (h0 : a.eval x0 = v0) (h1 : a.eval x1 = v1) (h2 : a.eval x2 = v2) (h3 : a.eval x3 = v3) (h : wpList P ops Q rest (a.put o.dst (.agg cs)) w) : wpList P ops Q (o :: rest) a w :=
  wpList_build_to hg t _ ho cs (by simp only [List.map_toArray, List.map_cons, List.map_nil, h0, h1, h2, h3]; exact hb) h
end
set_option maxRecDepth 100000 in
theorem arr4 {X : Array Value} (h : X.size = 4) : ∃ a b c d, X = #[a, b, c, d] := by
  obtain ⟨l⟩ := X
  match l, h with
  | [a, b, c, d], _ => exact ⟨a, b, c, d, rfl⟩
set_option maxRecDepth 100000 in
theorem arr16 {X : Array Value} (h : X.size = 16) : ∃ a b c d e f g i j k l m n o p q, X = #[a, b, c, d, e, f, g, i, j, k, l, m, n, o, p, q] := by
  obtain ⟨l⟩ := X
  match l, h with
  | [a, b, c, d, e, f, g, i, j, k, l, m, n, o, p, q], _ => exact ⟨a, b, c, d, e, f, g, i, j, k, l, m, n, o, p, q, rfl⟩
set_option maxRecDepth 100000 in
theorem Sz.n {n : Nat} {A : Array Value} (h : Sz n A) : A.size = n := h.1
set_option maxRecDepth 100000 in
theorem Sz.cat {n m : Nat} {A B : Array Value} (hA : Sz n A) (hB : Sz m B) : Sz (n + m) (A ++ B) :=
  ⟨by rw [Array.size_append, hA.1, hB.1], by rw [Array.all_append, hA.2, hB.2]; rfl⟩
/-- What a call answers, whatever the world; all that was there stays. -/
abbrev Ans (P : Program) (f : FuncId) (args : Array Value) (v : Value) : Prop := ∀ W : World, Calls P f args W fun e w' => e = .returned v ∧ Fr (fun _ => False) W w'
/-- Two and four rows in one. -/
def cat2 (X R : Array Value) : Array Value := X ++ R
def cat3 (X Y Z : Array Value) : Array Value := X ++ (Y ++ Z)
def cat4 (X Y Z T : Array Value) : Array Value := X ++ (Y ++ (Z ++ T))
set_option maxRecDepth 100000 in
theorem part2_0 (X R : Array Value) : Part (cat2 X R) 0 X := Part.left _ _
set_option maxRecDepth 100000 in
theorem part2_1 {n : Nat} {X : Array Value} (hX : Sz n X) (R : Array Value) : Part (cat2 X R) n R := Part.right X R 0 n R hX.1 (Part.whole R)
set_option maxRecDepth 100000 in
theorem part3_0 (X Y Z : Array Value) : Part (cat3 X Y Z) 0 X := Part.left _ _
set_option maxRecDepth 100000 in
theorem part3_1 {n : Nat} {X : Array Value} (hX : Sz n X) (Y Z : Array Value) : Part (cat3 X Y Z) n Y := Part.right X (Y ++ Z) 0 n Y hX.1 (Part.left _ _)
set_option maxRecDepth 100000 in
theorem part3_2 {n m : Nat} {X Y : Array Value} (hX : Sz n X) (hY : Sz m Y) (Z : Array Value) : Part (cat3 X Y Z) (n + m) Z := Part.right X (Y ++ Z) m n Z hX.1 (Part.right Y Z 0 m Z hY.1 (Part.whole Z))
set_option maxRecDepth 100000 in
theorem part4_0 (X Y Z T : Array Value) : Part (cat4 X Y Z T) 0 X := Part.left _ _
set_option maxRecDepth 100000 in
theorem part4_1 {n : Nat} {X : Array Value} (hX : Sz n X) (Y Z T : Array Value) : Part (cat4 X Y Z T) n Y := Part.right X _ 0 n Y hX.1 (Part.left _ _)
set_option maxRecDepth 100000 in
theorem part4_2 {n m : Nat} {X Y : Array Value} (hX : Sz n X) (hY : Sz m Y) (Z T : Array Value) : Part (cat4 X Y Z T) (n + m) Z := Part.right X _ m n Z hX.1 (Part.right Y _ 0 m Z hY.1 (Part.left _ _))
set_option maxRecDepth 100000 in
theorem part4_3 {n m k : Nat} {X Y Z : Array Value} (hX : Sz n X) (hY : Sz m Y) (hZ : Sz k Z) (T : Array Value) : Part (cat4 X Y Z T) (n + (m + k)) T := Part.right X _ (m + k) n T hX.1 (Part.right Y _ k m T hY.1 (Part.right Z T 0 k T hZ.1 (Part.whole T)))
set_option maxRecDepth 100000 in
theorem sz2 {n m : Nat} {X R : Array Value} (hX : Sz n X) (hR : Sz m R) : Sz (n + m) (cat2 X R) := hX.cat hR
set_option maxRecDepth 100000 in
theorem sz3 {n m k : Nat} {X Y Z : Array Value} (hX : Sz n X) (hY : Sz m Y) (hZ : Sz k Z) : Sz (n + (m + k)) (cat3 X Y Z) := hX.cat (hY.cat hZ)
set_option maxRecDepth 100000 in
theorem sz4 {n m k l : Nat} {X Y Z T : Array Value} (hX : Sz n X) (hY : Sz m Y) (hZ : Sz k Z) (hT : Sz l T) : Sz (n + (m + (k + l))) (cat4 X Y Z T) := hX.cat (hY.cat (hZ.cat hT))
end Go.Proofs.YtndakfanlgilmaaDoor


/-
  Worlds of which some blocks are known whole: one hypothesis for all of them, and laws for loads, stores, new blocks, calls and regions over it. Plain: they hold of every program.
-/
import Derived.Test.YtndakfanlgilmaaDoorKt
import Derived.Test.YtndakfanlgilmaaDoorKp
import Derived.Test.YtndakfanlgilmaaDoorSc
import Derived.Deep.MidRow
import Derived.OneCell
import Derived.Lib.Hide
namespace Go.Proofs.YtndakfanlgilmaaDoor
open Go.RowKit
set_option linter.unusedVariables false

/-- A row of n plain cells. -/
def Sz (n : Nat) (R : Array Value) : Prop := R.size = n ∧ R.all (·.oneCell') = true
/-- A block of the call's own: where, how many cells, which, its type. -/
structure Bk where
  g : Nat
  n : Nat
  cs : Array Value
  T : TypeId
/-- All that was there when the call began is as it was, and these blocks of its own are known. -/
structure Kn (w0 : World) (L : List Bk) (w : World) : Prop where
  fr : Fr (fun _ => False) w0 w
  blk : ∀ (i : Nat) (b : Bk), L[i]? = some b → w0.heap.size ≤ b.g ∧ w.heap[b.g]? = some (.cells b.cs b.T (0, 0)) ∧ b.cs.size = b.n
  two : ∀ (i j : Nat) (x y : Bk), L[i]? = some x → L[j]? = some y → x.g = y.g → i = j

set_option maxRecDepth 100000 in
theorem Fr.kp {w w2 : World} (F : Fr (fun _ => False) w w2) {i : Nat} {o : Obj} (h : w.heap[i]? = some o) : w2.heap[i]? = some o :=
  (F.block i (lt_of_block h) (fun h => h)).trans h
set_option maxRecDepth 100000 in
theorem Fr.sr {S : Nat → Prop} {a w : World} (h : Fr S a w) {g : Nat} (hg : S g) (cs : Array Value) : Fr S a (w.setRow g cs) :=
  ⟨h.os, h.tape, h.output, by have := h.size; simp [World.setRow]; omega, fun k hk hs => (setRow_other w g k cs (fun e => hs (e ▸ hg))).trans (h.block k hk hs)⟩
set_option maxRecDepth 100000 in
theorem Kn.start (w : World) : Kn w [] w := ⟨Fr.refl _ w, fun i b h => by simp at h, fun i j x y h => by simp at h⟩
set_option maxRecDepth 100000 in
theorem Kn.call {w0 w w' : World} {L : List Bk} (K : Kn w0 L w) (F : Fr (fun _ => False) w w') : Kn w0 L w' :=
  ⟨K.fr.trans F (fun _ h => h.elim), fun i b h => ⟨(K.blk i b h).1, F.kp (K.blk i b h).2.1, (K.blk i b h).2.2⟩, K.two⟩
set_option maxRecDepth 100000 in
theorem Kn.made {w0 w w' : World} {L : List Bk} (K : Kn w0 L w) (g n : Nat) (cs : Array Value) (T : TypeId) (F : Fr (fun _ => False) w w') (hl : w.heap.size ≤ g) (hg : w'.heap[g]? = some (.cells cs T (0, 0))) (hn : cs.size = n) : Kn w0 (⟨g, n, cs, T⟩ :: L) w' := by
  have K' := K.call F
  refine ⟨K'.fr, ?_, ?_⟩
  · intro i b h
    cases i with
    | zero => obtain rfl : ⟨g, n, cs, T⟩ = b := by simpa using h
              exact ⟨Nat.le_trans K.fr.size hl, hg, hn⟩
    | succ i => exact K'.blk i b (by simpa using h)
  · intro i j x y hi hj e
    cases i with
    | zero =>
      cases j with
      | zero => rfl
      | succ j =>
        obtain rfl : ⟨g, n, cs, T⟩ = x := by simpa using hi
        have := lt_of_block (K.blk j y (by simpa using hj)).2.1
        have e : g = y.g := e
        omega
    | succ i =>
      cases j with
      | zero =>
        obtain rfl : ⟨g, n, cs, T⟩ = y := by simpa using hj
        have := lt_of_block (K.blk i x (by simpa using hi)).2.1
        have e : x.g = g := e
        omega
      | succ j => rw [K.two i j x y (by simpa using hi) (by simpa using hj) e]
set_option maxRecDepth 100000 in
theorem Kn.new {w0 w : World} {L : List Bk} (K : Kn w0 L w) (g n : Nat) (cs : Array Value) (T : TypeId) (hg : g = w.heap.size) (hn : cs.size = n) : Kn w0 (⟨g, n, cs, T⟩ :: L) (w.alloc (.cells cs T)) := by
  subst hg
  exact K.made _ n cs T ((Fr.refl _ w).alloc _) (Nat.le_refl _) (heap_alloc_new w _) hn
set_option maxRecDepth 100000 in
theorem Kn.set {w0 w w' : World} {L : List Bk} (K : Kn w0 L w) (i : Nat) (b : Bk) (hi : L[i]? = some b) (R : Array Value) (hR : R.size = b.n) (F : Fr (fun k => k = b.g) w w') (hg : w'.heap[b.g]? = some (.cells R b.T (0, 0))) : Kn w0 (L.set i ⟨b.g, b.n, R, b.T⟩) w' := by
  have hb := K.blk i b hi
  have hlt : i < L.length := (List.getElem?_eq_some_iff.1 hi).1
  have shape : ∀ (j : Nat) (x : Bk), (L.set i ⟨b.g, b.n, R, b.T⟩)[j]? = some x → (j = i ∧ x = ⟨b.g, b.n, R, b.T⟩) ∨ (j ≠ i ∧ L[j]? = some x) := by
    intro j x h
    by_cases c : i = j
    · subst c
      rw [List.getElem?_set_self hlt] at h
      exact .inl ⟨rfl, (Option.some.inj h).symm⟩
    · rw [List.getElem?_set_ne c] at h
      exact .inr ⟨fun e => c e.symm, h⟩
  refine ⟨K.fr.trans F (fun k hk => Or.inr (by have : k = b.g := hk; omega)), ?_, ?_⟩
  · intro j x h
    rcases shape j x h with ⟨rfl, rfl⟩ | ⟨c, h'⟩
    · exact ⟨hb.1, hg, hR⟩
    · have hx := K.blk j x h'
      exact ⟨hx.1, (F.block _ (lt_of_block hx.2.1) (fun e => c (K.two j i x b h' hi e))).trans hx.2.1, hx.2.2⟩
  · intro j k x y hj hk e
    rcases shape j x hj with ⟨rfl, rfl⟩ | ⟨c, h'⟩ <;> rcases shape k y hk with ⟨rfl, rfl⟩ | ⟨c2, h2⟩
    · rfl
    · exact K.two j k b y hi h2 e
    · exact K.two j k x b h' hi e
    · exact K.two j k x y h' h2 e
set_option maxRecDepth 100000 in
theorem Kn.heap {w0 w : World} {L : List Bk} (K : Kn w0 L w) (i : Nat) {g n : Nat} {cs : Array Value} {T : TypeId} (h : L[i]? = some ⟨g, n, cs, T⟩) : w.heap[g]? = some (.cells cs T (0, 0)) := (K.blk i _ h).2.1
set_option maxRecDepth 100000 in
theorem Kn.size {w0 w : World} {L : List Bk} (K : Kn w0 L w) (i : Nat) {g n : Nat} {cs : Array Value} {T : TypeId} (h : L[i]? = some ⟨g, n, cs, T⟩) : cs.size = n := (K.blk i _ h).2.2

/-- R lies in cs from place o on. -/
def Part (cs : Array Value) (o : Nat) (R : Array Value) : Prop := ∀ (j : Nat) (u : Value), R[j]? = some u → cs[o + j]? = some u
set_option maxRecDepth 100000 in
theorem Part.whole (cs : Array Value) : Part cs 0 cs := fun j u h => by rwa [Nat.zero_add]
set_option maxRecDepth 100000 in
theorem Part.left (A B : Array Value) : Part (A ++ B) 0 A := fun j u h => by
  rw [Nat.zero_add, Array.getElem?_append_left (Array.getElem?_eq_some_iff.1 h).1]; exact h
set_option maxRecDepth 100000 in
theorem Part.right (A B : Array Value) (o n : Nat) (R : Array Value) (hA : A.size = n) (h : Part B o R) : Part (A ++ B) (n + o) R := fun j u hj => by
  rw [Array.getElem?_append_right (by omega), show n + o + j - A.size = o + j by omega]; exact h j u hj
set_option maxRecDepth 100000 in
theorem Part.inl (A B : Array Value) (o : Nat) (R : Array Value) (h : Part A o R) : Part (A ++ B) o R := fun j u hj => by
  have := h j u hj
  rw [Array.getElem?_append_left (Array.getElem?_eq_some_iff.1 this).1]; exact this

section
variable {P : Program} {ops : Array Oper} {rest : List Oper} {o : Oper} {a : Act} {w w0 : World} {L : List Bk} {Q : Exit → Act → World → Prop}

set_option maxRecDepth 100000 in
/-- A whole row is loaded. -/
theorem wpList_load_kn (K : Kn w0 L w) (hgd : o.guard = none) (ty : TypeId) (x : Operand) (ho : o.op = .load ty x) (i g n : Nat) (cs : Array Value) (T : TypeId) (hx : a.eval x = .pointer (some ⟨g, 0, none⟩))
    (d : TypeDesc) (hu : P.underlying ty = some d) (hd : (match d with | .struct _ | .array _ _ => true | _ => false) = true) (hty : (P.info? ty).map (·.size) = some n) (hi : L[i]? = some ⟨g, n, cs, T⟩)
    (h : wpList P ops Q rest (a.put o.dst (.agg cs)) w) : wpList P ops Q (o :: rest) a w :=
  wpList_load_row hgd ty x ho g hx T cs (0, 0) d (K.heap i hi) hu hd (by rw [hty, K.size i hi]) h
set_option maxRecDepth 100000 in
/-- A part of a row is loaded. -/
theorem wpList_load_pt (K : Kn w0 L w) (hgd : o.guard = none) (ty : TypeId) (x : Operand) (ho : o.op = .load ty x) (i g n q m : Nat) (cs R : Array Value) (T : TypeId) (hx : a.eval x = .pointer (some ⟨g, q, none⟩))
    (d : TypeDesc) (hu : P.underlying ty = some d) (hd : d.isRow = true) (hty : (P.info? ty).map (·.size) = some m) (hi : L[i]? = some ⟨g, n, cs, T⟩) (hp : Part cs q R) (hm : R.size = m)
    (h : wpList P ops Q rest (a.put o.dst (.agg R)) w) : wpList P ops Q (o :: rest) a w := by
  refine wpList_load_mid hgd ty x ho g q hx R.toList d (fun j u hj => ?_) hu hd (by rw [hty, Array.length_toList, hm]) ?_
  · rw [cell_of_block (K.heap i hi)]
    exact hp j u (by simpa using hj)
  · rw [Array.toArray_toList]; exact h
set_option maxRecDepth 100000 in
/-- A row is stored over a whole block. -/
theorem wpList_store_kn (K : Kn w0 L w) (hgd : o.guard = none) (ty : TypeId) (x y : Operand) (ho : o.op = .store ty x y) (i g n : Nat) (cs R : Array Value) (T : TypeId) (hx : a.eval x = .pointer (some ⟨g, 0, none⟩)) (hy : a.eval y = .agg R)
    (hty : (P.info? ty).map (·.size) = some n) (hi : L[i]? = some ⟨g, n, cs, T⟩) (hR : Sz n R)
    (h : ∀ w' : World, Kn w0 (L.set i ⟨g, n, R, T⟩) w' → wpList P ops Q rest (a.put o.dst undef) w') : wpList P ops Q (o :: rest) a w := by
  have hg := K.heap i hi
  have hs := K.size i hi
  refine wpList_store_row hgd ty x y ho g R hx hy T cs hg (by rw [hty, hR.1]) (by rw [hs, hR.1]) hR.2 (h _ ?_)
  exact K.set i ⟨g, n, cs, T⟩ hi R hR.1 (Fr.sr (S := fun k => k = g) (Fr.refl _ _) rfl _) (setRow_heap _ _ _ _ _ _ hg)
set_option maxRecDepth 100000 in
/-- A number is stored into a block. -/
theorem wpList_store1_kn (K : Kn w0 L w) (hgd : o.guard = none) (ty : TypeId) (x y : Operand) (ho : o.op = .store ty x y) (i g n off : Nat) (cs : Array Value) (T : TypeId) (k : IntKind) (v : Int) (hx : a.eval x = .pointer (some ⟨g, off, none⟩)) (hy : a.eval y = .int k v)
    (hty : (P.info? ty).map (·.size) = some 1) (hi : L[i]? = some ⟨g, n, cs, T⟩) (hoff : off < n)
    (h : ∀ w' : World, Kn w0 (L.set i ⟨g, n, cs.setIfInBounds off (.int k v), T⟩) w' → wpList P ops Q rest (a.put o.dst undef) w') : wpList P ops Q (o :: rest) a w := by
  have hg := K.heap i hi
  have hs := K.size i hi
  exact wpList_store_int hgd ty x y ho g off hx k v hy hty T cs hg (by omega) fun w2 h2 F => h w2 (K.set i ⟨g, n, cs, T⟩ hi _ (by rw [Array.size_setIfInBounds]; exact hs) F h2)
set_option maxRecDepth 100000 in
theorem Kn.cell {w0 w : World} {L : List Bk} (K : Kn w0 L w) (i : Nat) {g n : Nat} {cs : Array Value} {T : TypeId} (h : L[i]? = some ⟨g, n, cs, T⟩) (j : Nat) {v : Value} (hv : cs[j]? = some v) : w.cell? ⟨g, j, none⟩ = some v :=
  (cell_of_block (K.heap i h) j).trans hv
set_option maxRecDepth 100000 in
theorem Kn.free {w0 w : World} {L : List Bk} (K : Kn w0 L w) (i : Nat) {g n : Nat} {cs : Array Value} {T : TypeId} (h : L[i]? = some ⟨g, n, cs, T⟩) (j : Nat) : w.frozen? ⟨g, j, none⟩ = false := free_of_block (K.heap i h) j
set_option maxRecDepth 100000 in
theorem Kn.cellg {γ : Gd w} (K : Kn w0 L w) (y : Wg γ) (i : Nat) {g n : Nat} {cs : Array Value} {T : TypeId} (h : L[i]? = some ⟨g, n, cs, T⟩) (j : Nat) {v : Value} (hv : cs[j]? = some v) : y.w.cell? ⟨g, j, none⟩ = some v := y.cell (K.heap i h) j hv
set_option maxRecDepth 100000 in
theorem Kn.celld (K : Kn w0 L w) (y : Wd w) (i : Nat) {g n : Nat} {cs : Array Value} {T : TypeId} (h : L[i]? = some ⟨g, n, cs, T⟩) (j : Nat) {v : Value} (hv : cs[j]? = some v) : y.w.cell? ⟨g, j, none⟩ = some v := y.cell (K.heap i h) j hv
set_option maxRecDepth 100000 in
/-- An element of a row that is a value. -/
theorem run_index_row {A : Array Value} {t e : TypeId} {n k : Nat} {kk kq : IntKind} {z : Int} (hu : P.underlying t = some (.array n e)) (he : (P.info? e).map (·.size) = some 1) (hue : P.underlying e = some (.int kq)) (hk : k < n) (h : A[k]? = some (.int kk z)) (w : World) :
    (Instr.index t (.agg A) (.int .i64 (k : Int))).run P w = .ok (.int kk z) w := by
  obtain ⟨i0, hi, hz⟩ := Option.map_eq_some_iff.1 he
  simp [Instr.index, asIntOf, run_underlying hu, run_underlying hue, hk, part, sizeOf, typeInfo, isAgg, hi, hz, h]
set_option maxRecDepth 100000 in
/-- A new block. -/
theorem wpList_new_kn (K : Kn w0 L w) (T : TypeId) (t : Tmp) (ty : TypeId) (pos : String) (after : Array Edge) (z : Array Value) (n : Nat)
    (ho : o = { dst := some t, op := .alloc T, type := ty, pos := pos, after := after, guard := none })
    (hz : ∀ w, (Instr.alloc T true (.tuple #[])).run P w = .ok (.pointer (some ⟨w.heap.size, 0, none⟩)) (w.alloc (.cells z T))) (hn : z.size = n)
    (h : ∀ (g : Nat) (w' : World), Kn w0 (⟨g, n, z, T⟩ :: L) w' → wpList P ops Q rest (a.put (some t) (.pointer (some ⟨g, 0, none⟩))) w') : wpList P ops Q (o :: rest) a w := by
  subst ho
  refine wpList_plain rfl fun _ hK => ?_
  unfold Oper.wp execOp
  simp only [Sem.run_bind, Sem.run_pure, Result.andThen_ok, hz w]
  exact hK _ _ (h _ _ (K.new _ n z T rfl hn))
set_option maxRecDepth 100000 in
/-- A call. -/
theorem Calls.kn {f : FuncId} {args : Array Value} {v : Value} {Q : Ending → World → Prop} (K : Kn w0 L w) (h : Calls P f args w fun e w' => e = .returned v ∧ Fr (fun _ => False) w w')
    (k : ∀ w' : World, Kn w0 L w' → Q (.returned v) w') : Calls P f args w Q :=
  h.mono fun e w' ⟨he, F⟩ => by subst he; exact k w' (K.call F)
set_option maxRecDepth 100000 in
/-- In a drawn region. -/
theorem quiet_load_kn {C : Act → Prop} (K : Kn w0 L w) (ty : TypeId) (x : Operand) (ho : o.op = .load ty x) (i g n : Nat) (cs : Array Value) (T : TypeId) (hx : a.eval x = .pointer (some ⟨g, 0, none⟩))
    (d : TypeDesc) (hu : P.underlying ty = some d) (hd : (match d with | .struct _ | .array _ _ => true | _ => false) = true) (hty : (P.info? ty).map (·.size) = some n) (hi : L[i]? = some ⟨g, n, cs, T⟩)
    (hk : C (a.put o.dst (.agg cs))) : o.quiet P a (fun w' => ∃ y : Wd w, w' = y.w) C :=
  quiet_load_row ty x ho g hx T cs (0, 0) d (K.heap i hi) hu hd (by rw [hty, K.size i hi]) hk
set_option maxRecDepth 100000 in
theorem quiet_load_kng {C : Act → Prop} {γ : Gd w} (K : Kn w0 L w) (ty : TypeId) (x : Operand) (ho : o.op = .load ty x) (i g n : Nat) (cs : Array Value) (T : TypeId) (hx : a.eval x = .pointer (some ⟨g, 0, none⟩))
    (d : TypeDesc) (hu : P.underlying ty = some d) (hd : (match d with | .struct _ | .array _ _ => true | _ => false) = true) (hty : (P.info? ty).map (·.size) = some n) (hi : L[i]? = some ⟨g, n, cs, T⟩)
    (hk : C (a.put o.dst (.agg cs))) : o.quiet P a (fun w' => ∃ y : Wg γ, w' = y.w) C :=
  quiet_load_rowg ty x ho g hx T cs (0, 0) d (K.heap i hi) hu hd (by rw [hty, K.size i hi]) hk
set_option maxRecDepth 100000 in
theorem run_load_pt {w' : World} {g q m : Nat} {cs R : Array Value} {T : TypeId} {fr : Nat × Nat} (hg : w'.heap[g]? = some (.cells cs T fr)) (ty : TypeId) (d : TypeDesc) (hu : P.underlying ty = some d) (hd : d.isRow = true) (hty : (P.info? ty).map (·.size) = some m) (hp : Part cs q R) (hm : R.size = m) :
    (Instr.loadAt ty (.pointer (some ⟨g, q, none⟩))).run P w' = .ok (.agg R) w' := by
  have h := run_loadAt_mid (P := P) w' g q ty R.toList d (fun j u hj => by rw [cell_of_block hg]; exact hp j u (by simpa using hj)) hu hd (by rw [hty, Array.length_toList, hm])
  rwa [Array.toArray_toList] at h
set_option maxRecDepth 100000 in
theorem quiet_load_pt {C : Act → Prop} (K : Kn w0 L w) (ty : TypeId) (x : Operand) (ho : o.op = .load ty x) (i g n q m : Nat) (cs R : Array Value) (T : TypeId) (hx : a.eval x = .pointer (some ⟨g, q, none⟩))
    (d : TypeDesc) (hu : P.underlying ty = some d) (hd : d.isRow = true) (hty : (P.info? ty).map (·.size) = some m) (hi : L[i]? = some ⟨g, n, cs, T⟩) (hp : Part cs q R) (hm : R.size = m)
    (hk : C (a.put o.dst (.agg R))) : o.quiet P a (fun w' => ∃ y : Wd w, w' = y.w) C :=
  ⟨.agg R, fun w' ⟨y, e⟩ => by
    subst e
    have hr := run_load_pt (P := P) (y.blk (K.heap i hi)) ty d hu hd hty hp hm
    unfold Oper.quietAt execOp
    simp only [ho, hx, Sem.run_bind, hr, Result.andThen_ok, Sem.run_pure, Oper.quietUpon]
    exact ⟨trivial, trivial⟩, hk⟩
set_option maxRecDepth 100000 in
theorem quiet_load_ptg {C : Act → Prop} {γ : Gd w} (K : Kn w0 L w) (ty : TypeId) (x : Operand) (ho : o.op = .load ty x) (i g n q m : Nat) (cs R : Array Value) (T : TypeId) (hx : a.eval x = .pointer (some ⟨g, q, none⟩))
    (d : TypeDesc) (hu : P.underlying ty = some d) (hd : d.isRow = true) (hty : (P.info? ty).map (·.size) = some m) (hi : L[i]? = some ⟨g, n, cs, T⟩) (hp : Part cs q R) (hm : R.size = m)
    (hk : C (a.put o.dst (.agg R))) : o.quiet P a (fun w' => ∃ y : Wg γ, w' = y.w) C :=
  ⟨.agg R, fun w' ⟨y, e⟩ => by
    subst e
    have hr := run_load_pt (P := P) (y.blk (K.heap i hi)) ty d hu hd hty hp hm
    unfold Oper.quietAt execOp
    simp only [ho, hx, Sem.run_bind, hr, Result.andThen_ok, Sem.run_pure, Oper.quietUpon]
    exact ⟨trivial, trivial⟩, hk⟩
/-- The new blocks at the end of a drawn region. -/
def mkAll (gs : Nat → Nat) : List (Tmp × Nat × Array Value × TypeId) → Nat → List Bk → List Bk
  | [], _, L => L
  | (_, n, z, T) :: r, k, L => mkAll gs r (k + 1) (⟨gs k, n, z, T⟩ :: L)
set_option maxRecDepth 100000 in
theorem Kn.all {w0 w : World} (gs : Nat → Nat) : ∀ (AL : List (Tmp × Nat × Array Value × TypeId)) (k : Nat) (L : List Bk), Kn w0 L w → (∀ (j : Nat) (x : Tmp × Nat × Array Value × TypeId), AL[j]? = some x → w0.heap.size ≤ gs (k + j) ∧ w.heap[gs (k + j)]? = some (.cells x.2.2.1 x.2.2.2 (0, 0)) ∧ x.2.2.1.size = x.2.1) →
    (∀ (j j' : Nat), j < AL.length → j' < AL.length → j ≠ j' → gs (k + j) ≠ gs (k + j')) → (∀ (j i : Nat) (b : Bk), j < AL.length → L[i]? = some b → b.g ≠ gs (k + j)) → Kn w0 (mkAll gs AL k L) w
  | [], _, _, K, _, _, _ => K
  | (t, n, z, T) :: r, k, L, K, hg, hne, hL => by
    have h0 := hg 0 (t, n, z, T) rfl
    have K' : Kn w0 (⟨gs k, n, z, T⟩ :: L) w := by
      refine ⟨K.fr, ?_, ?_⟩
      · intro i b h
        cases i with
        | zero => obtain rfl : ⟨gs k, n, z, T⟩ = b := by simpa using h
                  exact h0
        | succ i => exact K.blk i b (by simpa using h)
      · intro i j x y hi hj e
        cases i with
        | zero =>
          cases j with
          | zero => rfl
          | succ j =>
            obtain rfl : ⟨gs k, n, z, T⟩ = x := by simpa using hi
            exact absurd e.symm (hL 0 j y (by simp) (by simpa using hj))
        | succ i =>
          cases j with
          | zero =>
            obtain rfl : ⟨gs k, n, z, T⟩ = y := by simpa using hj
            exact absurd e (hL 0 i x (by simp) (by simpa using hi))
          | succ j => rw [K.two i j x y (by simpa using hi) (by simpa using hj) e]
    refine Kn.all gs r (k + 1) _ K' ?_ ?_ ?_
    · intro j x hj
      have := hg (j + 1) x (by simpa using hj)
      rwa [show k + (j + 1) = k + 1 + j by omega] at this
    · intro j j' hj hj' hne'
      have := hne (j + 1) (j' + 1) (by simpa using hj) (by simpa using hj') (by omega)
      rwa [show k + (j + 1) = k + 1 + j by omega, show k + (j' + 1) = k + 1 + j' by omega] at this
    · intro j i b hj hi
      cases i with
      | zero =>
        obtain rfl : ⟨gs k, n, z, T⟩ = b := by simpa using hi
        have := hne 0 (j + 1) (by simp) (by simpa using hj) (by omega)
        rwa [show k + (j + 1) = k + 1 + j by omega] at this
      | succ i =>
        have := hL (j + 1) i b (by simpa using hj) (by simpa using hi)
        rwa [show k + (j + 1) = k + 1 + j by omega] at this
def asObj (AL : List (Tmp × Nat × Array Value × TypeId)) : List (Tmp × Obj) := AL.map fun x => (x.1, .cells x.2.2.1 x.2.2.2 (0, 0))
set_option maxRecDepth 100000 in
/-- A drawn region: n keeping operations, new blocks AL, stores. -/
theorem wp_region_kn_late {id : Nat} {l : List Oper} (K : Kn w0 L w) (n : Nat) (late : List Nat) (AL : List (Tmp × Nat × Array Value × TypeId)) (hQp : late ≠ [] → ∀ (c : List PanicEntry) (a : Act) (t : Tmp) (v : Value) (w : World), Q (.panic c) (a.put (some t) v) w → Q (.panic c) a w)
    (hm : P.follows .mixedOrders = true) (hB : tailB l.toArray n (n + AL.length) late = true)
    (hmk : ∀ j x, (asObj AL)[j]? = some x → ∃ o, l[n + j]? = some o ∧ Makes P o x) (hsz : ∀ (j : Nat) (x : Tmp × Nat × Array Value × TypeId), AL[j]? = some x → x.2.2.1.size = x.2.1)
    (h : ∃ aF, (∀ γ : Gd w, wpQuiet P l.toArray (fun w' => ∃ y : Wg γ, w' = y.w) (fun a' => a' = aF) (l.take n) a) ∧
      ∀ (gs : Nat → Nat) (w' : World), Kn w0 (mkAll gs AL 0 L) w' → wpList P l.toArray Q (l.drop (n + AL.length)) (putAll gs (asObj AL) 0 aF) w') : (Code.region id l.toArray true).wp P Q a w := by
  obtain ⟨aF, h1, h2⟩ := h
  have hl : (asObj AL).length = AL.length := by simp [asObj]
  refine wp_region_late n late (asObj AL) hQp hm (by rw [hl]; exact hB) hmk ⟨aF, h1, ?_⟩
  intro gs w' F hg hne
  rw [hl]
  refine h2 gs w' ?_
  have hg' : ∀ (j : Nat) (x : Tmp × Nat × Array Value × TypeId), AL[j]? = some x → w.heap.size ≤ gs j ∧ w'.heap[gs j]? = some (.cells x.2.2.1 x.2.2.2 (0, 0)) := fun j x hj => hg j (x.1, .cells x.2.2.1 x.2.2.2 (0, 0)) (by simp [asObj, hj])
  refine Kn.all gs AL 0 L (K.call F) ?_ ?_ ?_
  · intro j x hj
    rw [Nat.zero_add]
    exact ⟨Nat.le_trans K.fr.size (hg' j x hj).1, (hg' j x hj).2, hsz j x hj⟩
  · intro j j' hj hj' hd
    rw [Nat.zero_add, Nat.zero_add]
    exact hne j j' (by rw [hl]; exact hj) (by rw [hl]; exact hj') hd
  · intro j i b hj hi
    rw [Nat.zero_add]
    have h1 := lt_of_block (K.blk i b hi).2.1
    have h2 := (hg' j _ (List.getElem?_eq_getElem hj)).1
    omega
set_option maxRecDepth 100000 in
theorem wp_region_kn_tail {id : Nat} {l : List Oper} (K : Kn w0 L w) (n : Nat) (AL : List (Tmp × Nat × Array Value × TypeId)) (hm : P.follows .mixedOrders = true) (hB : tailB l.toArray n (n + AL.length) [] = true)
    (hmk : ∀ j x, (asObj AL)[j]? = some x → ∃ o, l[n + j]? = some o ∧ Makes P o x) (hsz : ∀ (j : Nat) (x : Tmp × Nat × Array Value × TypeId), AL[j]? = some x → x.2.2.1.size = x.2.1)
    (h : ∃ aF, (∀ γ : Gd w, wpQuiet P l.toArray (fun w' => ∃ y : Wg γ, w' = y.w) (fun a' => a' = aF) (l.take n) a) ∧
      ∀ (gs : Nat → Nat) (w' : World), Kn w0 (mkAll gs AL 0 L) w' → wpList P l.toArray Q (l.drop (n + AL.length)) (putAll gs (asObj AL) 0 aF) w') : (Code.region id l.toArray true).wp P Q a w :=
  wp_region_kn_late K n [] AL (fun h => absurd rfl h) hm hB hmk hsz h
set_option maxRecDepth 100000 in
theorem sz_nil : ∀ (j : Nat) (x : Tmp × Nat × Array Value × TypeId), ([] : List (Tmp × Nat × Array Value × TypeId))[j]? = some x → x.2.2.1.size = x.2.1 := fun j x h => by simp at h
set_option maxRecDepth 100000 in
theorem sz_one {x0 : Tmp × Nat × Array Value × TypeId} (h : x0.2.2.1.size = x0.2.1) : ∀ (j : Nat) (x : Tmp × Nat × Array Value × TypeId), [x0][j]? = some x → x.2.2.1.size = x.2.1 := fun j x hx => by
  rcases j with _ | j
  · have : x0 = x := by simpa using hx
    subst this; exact h
  · simp at hx
set_option maxRecDepth 100000 in
theorem sz_two {x0 x1 : Tmp × Nat × Array Value × TypeId} (h : x0.2.2.1.size = x0.2.1) (h1 : x1.2.2.1.size = x1.2.1) : ∀ (j : Nat) (x : Tmp × Nat × Array Value × TypeId), [x0, x1][j]? = some x → x.2.2.1.size = x.2.1 := fun j x hx => by
  rcases j with _ | _ | j
  · have : x0 = x := by simpa using hx
    subst this; exact h
  · have : x1 = x := by simpa using hx
    subst this; exact h1
  · simp at hx
set_option maxRecDepth 100000 in
/-- The result lies in a block. -/
theorem results_kn {fn : Func} {p : Tmp} {ty : TypeId} (K : Kn w0 L w) (h : fn.results = #[.cell p ty]) (tmps : Array Value) (i g n : Nat) (cs : Array Value) (T : TypeId) (hp : tmps.getD p undef = .pointer (some ⟨g, 0, none⟩))
    (d : TypeDesc) (hu : P.underlying ty = some d) (hd : (match d with | .struct _ | .array _ _ => true | _ => false) = true) (hty : (P.info? ty).map (·.size) = some n) (hi : L[i]? = some ⟨g, n, cs, T⟩) :
    (results fn tmps).run P w = .ok (.agg cs) w :=
  results_cell_row h tmps w g T cs (0, 0) d hp (K.heap i hi) hu hd (by rw [hty, K.size i hi])
set_option maxRecDepth 100000 in
theorem results_kn_tmp {fn : Func} {p t : Tmp} {ty : TypeId} (K : Kn w0 L w) (h : fn.results = #[.cell p ty, .tmp t]) (tmps : Array Value) (i g n : Nat) (cs : Array Value) (T : TypeId) (hp : tmps.getD p undef = .pointer (some ⟨g, 0, none⟩))
    (d : TypeDesc) (hu : P.underlying ty = some d) (hd : (match d with | .struct _ | .array _ _ => true | _ => false) = true) (hty : (P.info? ty).map (·.size) = some n) (hi : L[i]? = some ⟨g, n, cs, T⟩) :
    (results fn tmps).run P w = .ok (.tuple #[.agg cs, tmps.getD t undef]) w := by
  have hp' : tmps[p]?.getD undef = .pointer (some ⟨g, 0, none⟩) := by simpa using hp
  simp [results, h, hp', asAddr, run_loadVar_row w g T ty cs (0, 0) d (K.heap i hi) hu hd (by rw [hty, K.size i hi])]
end
end Go.Proofs.YtndakfanlgilmaaDoor


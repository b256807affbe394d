/-
  Regions that draw their order: operations and callees that leave all that was there as it was, then new blocks, then stores: one walk, in the order of the text, serves every order.
-/
import Derived.Test.YtndakfanlgilmaaDoorKp
import Derived.StillTail
namespace Go.Proofs.YtndakfanlgilmaaDoor
open Go.RowKit
set_option linter.unusedVariables false

/-- What stays true as long as what was there stays as it was; and a world where it is true. -/
structure Gd (W0 : World) where
  G : World → Prop
  stable : ∀ w w' : World, Fr (fun _ => False) w w' → G w → G w'
  w0 : World
  h0 : Fr (fun _ => False) W0 w0
  g0 : G w0
structure Wg {W0 : World} (γ : Gd W0) where
  w : World
  h : Fr (fun _ => False) W0 w
  g : γ.G w
instance instWg {W0 : World} (γ : Gd W0) : Nonempty (Wg γ) := ⟨⟨γ.w0, γ.h0, γ.g0⟩⟩
set_option maxRecDepth 100000 in
theorem Calls.keepg {P : Program} {f : FuncId} {args : Array Value} {W0 : World} {γ : Gd W0} {x : Wg γ} {v : Value}
    (h : Calls P f args x.w fun e w' => e = .returned v ∧ Fr (fun _ => False) x.w w') : Calls P f args x.w fun e w'' => e = .returned v ∧ ∃ y : Wg γ, w'' = y.w :=
  h.mono fun _ w' ⟨he, hf⟩ => ⟨he, ⟨w', x.h.trans hf (fun _ h => h.elim), γ.stable _ _ hf x.g⟩, rfl⟩
set_option maxRecDepth 100000 in
theorem Calls.keepg_same {P : Program} {f : FuncId} {args : Array Value} {W0 : World} {γ : Gd W0} {x : Wg γ} {v : Value}
    (h : Calls P f args x.w fun e w' => e = .returned v ∧ w' = x.w) : Calls P f args x.w fun e w'' => e = .returned v ∧ ∃ y : Wg γ, w'' = y.w :=
  h.mono fun _ w' ⟨he, hf⟩ => ⟨he, x, hf⟩
set_option maxRecDepth 100000 in
theorem Wg.blk {W0 : World} {γ : Gd W0} (x : Wg γ) {i : Nat} {o : Obj} (h : W0.heap[i]? = some o) : x.w.heap[i]? = some o :=
  (x.h.block i (Array.getElem?_eq_some_iff.1 h).1 (fun h => h)).trans h
set_option maxRecDepth 100000 in
theorem Wg.cell {W0 : World} {γ : Gd W0} (x : Wg γ) {b : Nat} {cs : Array Value} {t : TypeId} {fr : Nat × Nat} (h : W0.heap[b]? = some (.cells cs t fr)) (i : Nat) {v : Value} (hv : cs[i]? = some v) : x.w.cell? ⟨b, i, none⟩ = some v :=
  (cell_of_block (x.blk h) i).trans hv
set_option maxRecDepth 100000 in
theorem quiet_load_rowg {P : Program} {K : Act → Prop} {a : Act} {o : Oper} {W0 : World} {γ : Gd W0} (ty : TypeId) (x : Operand) (ho : o.op = .load ty x) (g : Nat) (hx : a.eval x = .pointer (some ⟨g, 0, none⟩))
    (t : TypeId) (cs : Array Value) (fr : Nat × Nat) (d : TypeDesc) (hg : W0.heap[g]? = some (.cells cs t fr)) (hu : P.underlying ty = some d) (hd : (match d with | .struct _ | .array _ _ => true | _ => false) = true)
    (hi : (P.info? ty).map (·.size) = some cs.size) (hk : K (a.put o.dst (.agg cs))) : o.quiet P a (fun w' => ∃ y : Wg γ, w' = y.w) K :=
  ⟨.agg cs, fun w' ⟨y, e⟩ => by
    subst e
    unfold Oper.quietAt execOp
    simp only [ho, hx, Instr.loadAt, Instr.sureAddr, Sem.run_bind, Sem.run_pure, Result.andThen_ok, run_loadVar_row y.w g t ty cs fr d (y.blk hg) hu hd hi, Oper.quietUpon]
    exact ⟨trivial, trivial⟩, hk⟩

section
variable {P : Program} {ops : Array Oper}

set_option maxRecDepth 100000 in
/-- What the walk in the order of the text says of each operation. -/
theorem quiet_steps {C : World → Prop} {aF : Act} : ∀ (l : List Oper) (a : Act), l.Pairwise (fun x y => ∀ d, x.dst = some d → y.dst ≠ some d) → wpQuiet P ops C (fun a' => a' = aF) l a →
    aF.defers = a.defers ∧ aF.tmps.size = a.tmps.size ∧ (∀ t : Tmp, (∀ o ∈ l, o.dst ≠ some t) → aF.tmps[t]? = a.tmps[t]?) ∧
    ∀ (j : Nat) (o : Oper), l[j]? = some o → ∃ (v : Value) (aj : Act), YieldsIn P ops C o v aj ∧ (∀ (t : Tmp) (j' : Nat) (o' : Oper), j' < j → l[j']? = some o' → o'.dst = some t → aj.tmps[t]? = aF.tmps[t]?) ∧
      (∀ t : Tmp, (∀ (j' : Nat) (o' : Oper), j' < j → l[j']? = some o' → o'.dst ≠ some t) → aj.tmps[t]? = a.tmps[t]?) ∧ (∀ t : Tmp, o.dst = some t → aF.tmps[t]? = (a.tmps.setIfInBounds t v)[t]?)
  | [], a, _, h => by
    have h : a = aF := h
    subst h
    exact ⟨rfl, rfl, fun _ _ => rfl, fun j o hj => by simp at hj⟩
  | o :: l, a, hp, h => by
    obtain ⟨hp1, hp2⟩ := List.pairwise_cons.1 hp
    have hv : ∃ v, YieldsIn P ops C o v a ∧ wpQuiet P ops C (fun a' => a' = aF) l (a.put o.dst v) := by
      unfold wpQuiet at h
      by_cases hw : Region.wanted o (yielded ops a.tmps) = true
      · rw [if_pos hw] at h
        obtain ⟨v, h1, h2⟩ := h
        exact ⟨v, .inl ⟨hw, h1⟩, h2⟩
      · rw [if_neg hw] at h
        exact ⟨undef, .inr ⟨by simpa using hw, rfl⟩, h⟩
    obtain ⟨v, hy, hr⟩ := hv
    obtain ⟨i1, i2, i3, i4⟩ := quiet_steps l _ hp2 hr
    have pd : (a.put o.dst v).defers = a.defers := by cases o.dst <;> rfl
    have ps : (a.put o.dst v).tmps.size = a.tmps.size := by cases o.dst <;> simp [Act.put]
    have pn : ∀ t, o.dst ≠ some t → (a.put o.dst v).tmps[t]? = a.tmps[t]? := fun t ht => by
      cases hd : o.dst with
      | none => rfl
      | some d =>
        have : d ≠ t := fun e => ht (by rw [hd, e])
        simp [Act.put, Array.getElem?_setIfInBounds_ne this]
    have py : ∀ t, o.dst = some t → (a.put o.dst v).tmps[t]? = (a.tmps.setIfInBounds t v)[t]? := fun t ht => by rw [ht]; rfl
    have head : ∀ t, o.dst = some t → aF.tmps[t]? = (a.tmps.setIfInBounds t v)[t]? := fun t ht => by
      rw [i3 t (fun o' ho' => hp1 o' ho' t ht), py t ht]
    refine ⟨i1.trans pd, i2.trans ps, fun t ht => ?_, fun j oj hj => ?_⟩
    · rw [i3 t (fun o' ho' => ht o' (by simp [ho'])), pn t (ht o (by simp))]
    · cases j with
      | zero =>
        have e : o = oj := by simpa using hj
        subst e
        exact ⟨v, a, hy, fun t j' o' h' => by omega, fun t _ => rfl, head⟩
      | succ j =>
        have hj : l[j]? = some oj := by simpa using hj
        obtain ⟨u, aj, k1, k2, k3, k4⟩ := i4 j oj hj
        refine ⟨u, aj, k1, fun t j' o' h' ho' hd => ?_, fun t ht => ?_, fun t ht => ?_⟩
        · cases j' with
          | zero =>
            have e : o = o' := by simpa using ho'
            subst e
            rw [k3 t (fun j2 o2 _ h2 => hp1 o2 (List.mem_of_getElem? h2) t hd), py t hd, head t hd]
          | succ j' => exact k2 t j' o' (by omega) (by simpa using ho') hd
        · rw [k3 t (fun j2 o2 hl h2 => ht (j2 + 1) o2 (by omega) (by simpa using h2)), pn t (ht 0 o (by omega) (by simp))]
        · rw [k4 t ht]
          simp [Array.getElem?_setIfInBounds, ps]

/-- What is asked of the region's text: n operations that keep, new blocks up to m, stores behind; those of 'late' (a part of a pair, a copy) may come up behind the stores too. -/
def tailB (ops : Array Oper) (n m : Nat) (late : List Nat) : Bool :=
  Region.noSelect ops && decide (n ≤ m) && decide (m < ops.size) &&
  ((List.range m).all fun i => late.contains i || (List.range (m + 1)).any fun j => decide (i < j) && (j == m || !late.contains j) && Region.waitsFor .any ops j i) && Region.chainB .any ops m &&
  Region.seqB .any ops (ops.size - m) m (Array.replicate m true ++ Array.replicate (ops.size - m) false) &&
  ((List.range m).all fun i => match ops[i]? with
    | some o => (o.after.all fun e => !Region.binds .any e || decide (e.on < i)) && ((List.range i).all fun j => match ops[j]? with | some o' => o'.dst.isNone || o.dst != o'.dst | none => false)
    | none => false) &&
  ((List.range n).all fun i => match ops[i]? with
    | some o => (o.looksAt ops).all fun t => (List.range m).all fun j => match ops[j]? with
      | some o' => o'.dst != some t || (decide (j < i) && Region.waitsFor .any ops i j)
      | none => false
    | none => false) &&
  (late.all fun i => decide (i < n) && match ops[i]? with
    | some o => (match o.op with | .extract _ _ => true | .move _ => true | _ => false) && (List.range ops.size).all fun j => j == i || Region.waitsFor .any ops i j || Region.waitsFor .any ops j i || (match ops[j]? with | some o' => o.apart ops o' | none => false)
    | none => false)

/-- The new blocks, by their slots. -/
def putAll (gs : Nat → Nat) : List (Tmp × Obj) → Nat → Act → Act
  | [], _, a => a
  | (t, _) :: l, k, a => putAll gs l (k + 1) (a.put (some t) (.pointer (some ⟨gs k, 0, none⟩)))

/-- The operation makes this block. -/
def Makes (P : Program) (o : Oper) (x : Tmp × Obj) : Prop :=
  o.dst = some x.1 ∧ o.guard = none ∧ ∀ (ρ : Operand → Value) (w : World), (execOp ρ o).run P w = .ok (.value (.pointer (some ⟨w.heap.size, 0, none⟩))) (w.alloc x.2)
set_option maxRecDepth 100000 in
theorem makes_alloc {P : Program} (T : TypeId) (t : Tmp) (ty : TypeId) (pos : String) (after : Array Edge) (cs : Array Value) (h : ∀ w, (Instr.alloc T true (.tuple #[])).run P w = .ok (.pointer (some ⟨w.heap.size, 0, none⟩)) (w.alloc (.cells cs T))) :
    Makes P { dst := some t, op := .alloc T, type := ty, pos := pos, after := after, guard := none } (t, .cells cs T) :=
  ⟨rfl, rfl, fun ρ w => by simp [execOp, h w, Result.andThen]⟩

structure St (ops : Array Oper) (W0 : World) (a aF : Act) (n : Nat) (AL : List (Tmp × Obj)) (gs : Nat → Nat) (listed : Array Bool) (act : Act) (w : World) : Prop where
  fr : Fr (fun _ => False) W0 w
  df : act.defers = a.defers
  sz : act.tmps.size = a.tmps.size
  q : ∀ i o t, i < n → ops[i]? = some o → o.dst = some t → listed.getD i false = true → act.tmps[t]? = aF.tmps[t]?
  al : ∀ j x, AL[j]? = some x → listed.getD (n + j) false = true → act.tmps[x.1]? = (a.tmps.setIfInBounds x.1 (.pointer (some ⟨gs j, 0, none⟩)))[x.1]? ∧ W0.heap.size ≤ gs j ∧ w.heap[gs j]? = some x.2
  ne : ∀ j j' x x', AL[j]? = some x → AL[j']? = some x' → j ≠ j' → listed.getD (n + j) false = true → listed.getD (n + j') false = true → gs j ≠ gs j'
  oth : ∀ t, (∀ i o, i < n + AL.length → ops[i]? = some o → listed.getD i false = true → o.dst ≠ some t) → act.tmps[t]? = a.tmps[t]?

set_option maxRecDepth 100000 in
theorem getD_set_self {listed : Array Bool} {i j : Nat} (h : (listed.setIfInBounds i true).getD j false = true) : j = i ∨ listed.getD j false = true := by
  by_cases e : i = j
  · exact .inl e.symm
  · rw [getD_set_ne false e] at h; exact .inr h
set_option maxRecDepth 100000 in
theorem put_get (a : Act) (d : Option Tmp) (v : Value) (t : Tmp) : (a.put d v).tmps[t]? = if d = some t then (a.tmps.setIfInBounds t v)[t]? else a.tmps[t]? := by
  cases d with
  | none => simp [Act.put]
  | some d =>
    by_cases e : d = t
    · subst e; simp [Act.put]
    · rw [if_neg (by simpa using e)]; simp [Act.put, Array.getElem?_setIfInBounds_ne e]
set_option maxRecDepth 100000 in
theorem put_sz (a : Act) (d : Option Tmp) (v : Value) : (a.put d v).tmps.size = a.tmps.size := by cases d <;> simp [Act.put]
set_option maxRecDepth 100000 in
theorem put_df (a : Act) (d : Option Tmp) (v : Value) : (a.put d v).defers = a.defers := by cases d <;> rfl
set_option maxRecDepth 100000 in
theorem set_get_sz {a b : Array Value} (h : a.size = b.size) (t : Nat) (v : Value) : (a.setIfInBounds t v)[t]? = (b.setIfInBounds t v)[t]? := by simp [Array.getElem?_setIfInBounds, h]

set_option maxRecDepth 100000 in
theorem tailB_all {n m : Nat} {late : List Nat} (h : tailB ops n m late = true) : Region.noSelect ops = true ∧ n ≤ m ∧ m < ops.size ∧
    (∀ i, i < m → i ∉ late → ∃ j, i < j ∧ j ≤ m ∧ (j = m ∨ j ∉ late) ∧ Region.waitsFor .any ops j i = true) ∧ Region.chainB .any ops m = true ∧
    Region.seqB .any ops (ops.size - m) m (Array.replicate m true ++ Array.replicate (ops.size - m) false) = true ∧
    (∀ i o, i < m → ops[i]? = some o → (∀ e ∈ o.after, Region.binds .any e = true → e.on < i) ∧ ∀ j o' d, j < i → ops[j]? = some o' → o'.dst = some d → o.dst ≠ some d) ∧
    (∀ i o, i < n → ops[i]? = some o → ∀ t ∈ o.looksAt ops, ∀ j o', j < m → ops[j]? = some o' → o'.dst = some t → j < i ∧ Region.waitsFor .any ops i j = true) ∧
    (∀ i o, i ∈ late → ops[i]? = some o → i < n ∧ ((∃ x k, o.op = .extract x k) ∨ ∃ x, o.op = .move x) ∧ ∀ j o', ops[j]? = some o' → j ≠ i → (Region.waitsFor .any ops i j = true ∨ Region.waitsFor .any ops j i = true) ∨ o.apart ops o' = true) := by
  unfold tailB at h
  simp only [Bool.and_eq_true, decide_eq_true_eq] at h
  obtain ⟨⟨⟨⟨⟨⟨⟨⟨h1, h2⟩, h3⟩, h4⟩, h5⟩, h6⟩, h7⟩, h8⟩, h9⟩ := h
  refine ⟨h1, h2, h3, fun i hi hn => ?_, h5, h6, fun i o hi ho => ?_, fun i o hi ho t ht j o' hj ho' hd => ?_, fun i o hi ho => ?_⟩
  · have := List.all_eq_true.1 h4 i (List.mem_range.2 hi)
    simp only [Bool.or_eq_true] at this
    rcases this with h | h
    · exact absurd (by simpa using h) hn
    · obtain ⟨j, hj, hj2⟩ := List.any_eq_true.1 h
      simp only [Bool.and_eq_true, decide_eq_true_eq, Bool.or_eq_true, beq_iff_eq, Bool.not_eq_true'] at hj2
      obtain ⟨⟨a, b⟩, c⟩ := hj2
      exact ⟨j, a, by have := List.mem_range.1 hj; omega, b.imp id (fun h => by simpa using h), c⟩
  · have := List.all_eq_true.1 h7 i (List.mem_range.2 hi)
    simp only [ho, Bool.and_eq_true] at this
    obtain ⟨a1, a2⟩ := this
    refine ⟨fun e he hb => ?_, fun j o' d hj ho' hd e => ?_⟩
    · have := Array.all_eq_true_iff_forall_mem.1 a1 e he
      simpa [hb] using this
    · have := List.all_eq_true.1 a2 j (List.mem_range.2 hj)
      simp [ho', hd, e] at this
  · have := List.all_eq_true.1 h8 i (List.mem_range.2 hi)
    simp only [ho] at this
    have := List.all_eq_true.1 this t ht
    have := List.all_eq_true.1 this j (List.mem_range.2 hj)
    simpa [ho', hd] using this
  · have := List.all_eq_true.1 h9 i hi
    simp only [ho, Bool.and_eq_true, decide_eq_true_eq] at this
    obtain ⟨a, b, c⟩ := this
    refine ⟨a, ?_, fun j o' ho' hne => ?_⟩
    · cases hq : o.op <;> rw [hq] at b <;> first | exact .inl ⟨_, _, rfl⟩ | exact .inr ⟨_, rfl⟩ | cases b
    · have hjs : j < ops.size := (Array.getElem?_eq_some_iff.1 ho').1
      have := List.all_eq_true.1 c j (List.mem_range.2 hjs)
      simpa [ho', hne] using this

set_option maxRecDepth 100000 in
/-- The stores wait as long as one that isn't late hasn't come up. -/
theorem tail_waits2 {m : Nat} {late : List Nat} {listed : Array Bool} (hs : ∀ i, i < m → i ∉ late → ∃ j, i < j ∧ j ≤ m ∧ (j = m ∨ j ∉ late) ∧ Region.waitsFor .any ops j i = true) (hc : Region.chainB .any ops m = true) (hn : m < ops.size) (inv : HeadInv .any ops m listed) :
    ∀ (d i : Nat), m - i = d → i < m → i ∉ late → listed.getD i true = false → ∀ t, m ≤ t → t ∉ Region.ready .any ops listed := by
  intro d
  induction d using Nat.strongRecOn with
  | _ d ih =>
    intro i hd hi hl hun t ht hr
    obtain ⟨_, ot, hot, hall⟩ := mem_ready.1 hr
    have htlt : t < ops.size := (Array.getElem?_eq_some_iff.1 hot).1
    by_cases htn : t = m
    · subst htn
      obtain ⟨j, hij, hjle, hjl, hw⟩ := hs i hi hl
      obtain ⟨oj, hoj, e, he, hb, hon⟩ := Region.waitsFor_spec hw
      by_cases hjt : j = t
      · subst hjt
        have : oj = ot := Option.some.inj (hoj.symm.trans hot)
        subst this
        have h2 := hall e he hb
        rw [hon, getD_both hun] at h2
        cases h2
      · cases hl2 : listed.getD j false with
        | true =>
          have h2 := inv.closed j oj hoj hl2 e he hb
          rw [hon, getD_both hun] at h2
          cases h2
        | false =>
          have hjs : j < listed.size := by rw [inv.size]; omega
          exact ih (t - j) (by omega) j rfl (by omega) (hjl.resolve_left hjt) (getD_in hjs hl2) t (Nat.le_refl _) hr
    · have h1 := List.all_eq_true.1 hc t (List.mem_range.2 htlt)
      simp only [Bool.or_eq_true, decide_eq_true_eq] at h1
      rcases h1 with h1 | h1
      · omega
      · obtain ⟨o', ho', e, he, hb, hon⟩ := Region.waitsFor_spec h1
        have : o' = ot := Option.some.inj (ho'.symm.trans hot)
        subst this
        have h2 := hall e he hb
        rw [hon, getD_both (inv.tail (t - 1) (by omega) (by omega))] at h2
        cases h2

set_option maxRecDepth 100000 in
/-- A part of a pair, a copy: what it yields doesn't hang on the world. -/
theorem pure_of {o : Oper} (h : (∃ x k, o.op = .extract x k) ∨ ∃ x, o.op = .move x) {a : Act} {C : World → Prop} {w0 : World} {v : Value} (hq : o.quietAt P a C w0 v) :
    ∀ w, (execOp a.eval o).run P w = .ok (.value v) w := by
  intro w
  obtain ⟨dst, op, type, pos, after, guard⟩ := o
  rcases h with ⟨x, k, h⟩ | ⟨x, h⟩
  · simp only at h
    subst h
    unfold Oper.quietAt execOp at hq
    unfold execOp
    simp only [Instr.extract] at hq ⊢
    cases hx : a.eval x <;> simp [hx, stuck, Oper.quietUpon] at hq ⊢
    rename_i vs
    cases hv : vs[k]? <;> simp [hv] at hq ⊢
    all_goals exact hq
  · simp only at h
    subst h
    unfold Oper.quietAt execOp at hq
    unfold execOp
    simp [Oper.quietUpon] at hq ⊢
    exact hq

set_option maxRecDepth 100000 in
theorem eval_of_get {a b : Act} {x : Operand} (h : ∀ t, x = .tmp t → a.tmps[t]? = b.tmps[t]?) : a.eval x = b.eval x := by
  cases x with
  | tmp t => simp [Act.eval, h t rfl]
  | _ => rfl
set_option maxRecDepth 100000 in
theorem looks_same {o : Oper} (hs : ∀ cs b, o.op ≠ .select cs b) {a b : Act} (h : ∀ t ∈ o.looksAt ops, a.tmps[t]? = b.tmps[t]?) :
    execOp a.eval o = execOp b.eval o ∧ Region.wanted o (yielded ops a.tmps) = Region.wanted o (yielded ops b.tmps) := by
  constructor
  · refine execOp_congr o hs fun x hx => eval_of_get fun t e => h t ?_
    subst e
    exact List.mem_append_left _ (List.mem_filterMap.2 ⟨.tmp t, by simpa using hx, rfl⟩)
  · unfold Region.wanted
    cases hg : o.guard with
    | none => rfl
    | some gw =>
      obtain ⟨g, want⟩ := gw
      have hy : yielded ops a.tmps g = yielded ops b.tmps g := by
        unfold yielded
        cases ht : (ops[g]?).bind (·.dst) with
        | none => rfl
        | some t => simp [h t (by simp [Oper.looksAt, hg, ht])]
      simp only [hy]

set_option maxRecDepth 100000 in
theorem putAll_df (gs : Nat → Nat) : ∀ (l : List (Tmp × Obj)) (k : Nat) (a : Act), (putAll gs l k a).defers = a.defers
  | [], _, _ => rfl
  | (t, _) :: l, k, a => by unfold putAll; rw [putAll_df gs l]; rfl
set_option maxRecDepth 100000 in
theorem putAll_sz (gs : Nat → Nat) : ∀ (l : List (Tmp × Obj)) (k : Nat) (a : Act), (putAll gs l k a).tmps.size = a.tmps.size
  | [], _, _ => rfl
  | (t, _) :: l, k, a => by unfold putAll; rw [putAll_sz gs l, put_sz]
set_option maxRecDepth 100000 in
theorem putAll_oth (gs : Nat → Nat) : ∀ (l : List (Tmp × Obj)) (k : Nat) (a : Act) (t : Tmp), (∀ x ∈ l, x.1 ≠ t) → (putAll gs l k a).tmps[t]? = a.tmps[t]?
  | [], _, _, _, _ => rfl
  | (s, _) :: l, k, a, t, h => by
    unfold putAll
    rw [putAll_oth gs l _ _ t (fun x hx => h x (by simp [hx])), put_get, if_neg (by have := h _ (List.mem_cons_self ..); simpa using this)]
set_option maxRecDepth 100000 in
theorem putAll_at (gs : Nat → Nat) : ∀ (l : List (Tmp × Obj)) (k : Nat) (a : Act) (j : Nat) (x : Tmp × Obj), l.Pairwise (fun x y => x.1 ≠ y.1) → l[j]? = some x →
    (putAll gs l k a).tmps[x.1]? = (a.tmps.setIfInBounds x.1 (.pointer (some ⟨gs (k + j), 0, none⟩)))[x.1]?
  | [], _, _, j, x, _, h => by simp at h
  | (s, o) :: l, k, a, j, x, hp, h => by
    obtain ⟨hp1, hp2⟩ := List.pairwise_cons.1 hp
    unfold putAll
    cases j with
    | zero =>
      have e : (s, o) = x := by simpa using h
      subst e
      rw [putAll_oth gs l _ _ _ (fun y hy => (hp1 y hy).symm), put_get, if_pos rfl, Nat.add_zero]
    | succ j =>
      rw [putAll_at gs l (k + 1) _ j x hp2 (by simpa using h), show k + 1 + j = k + (j + 1) by omega]
      exact set_get_sz (put_sz _ _ _) _ _

set_option maxRecDepth 100000 in
theorem erase_spec {l : List Nat} (hn : l.Nodup) {i : Nat} (hi : i ∈ l) : (l.erase i).Nodup ∧ (l.erase i).length + 1 = l.length ∧ ∀ j, j ∈ l.erase i ↔ j ≠ i ∧ j ∈ l :=
  ⟨hn.erase i, by rw [List.length_erase_of_mem hi]; have := List.length_pos_of_mem hi; omega, fun j => hn.mem_erase_iff⟩

set_option maxRecDepth 100000 in
theorem tail_core {Q' : Exit → Act → World → Prop} {W0 : World} {a aF : Act} {n : Nat} {late : List Nat} {AL : List (Tmp × Obj)} (hB : tailB ops n (n + AL.length) late = true) (hQp : late ≠ [] → ∀ (c : List PanicEntry) (a : Act) (t : Tmp) (v : Value) (w : World), Q' (.panic c) (a.put (some t) v) w → Q' (.panic c) a w)
    (hmk : ∀ j x, AL[j]? = some x → ∃ o, ops[n + j]? = some o ∧ Makes P o x)
    (hw : ∀ γ : Gd W0, wpQuiet P ops (fun w' => ∃ y : Wg γ, w' = y.w) (fun a' => a' = aF) (ops.toList.take n) a)
    (hend : ∀ (gs : Nat → Nat) (w : World), Fr (fun _ => False) W0 w → (∀ j x, AL[j]? = some x → W0.heap.size ≤ gs j ∧ w.heap[gs j]? = some x.2) → (∀ j j', j < AL.length → j' < AL.length → j ≠ j' → gs j ≠ gs j') →
      wpList P ops Q' (ops.toList.drop (n + AL.length)) (putAll gs AL 0 aF) w) :
    ∀ (f : Nat) (un : List Nat) (listed : Array Bool) (act : Act) (w : World) (gs : Nat → Nat), un.length = f → un.Nodup → (∀ i, i ∈ un ↔ i < n + AL.length ∧ listed.getD i false = false) → HeadInv .any ops (n + AL.length) listed →
      St ops W0 a aF n AL gs listed act w → wpAny P .any ops Q' (f + (ops.size - (n + AL.length))) listed act w := by
  obtain ⟨b1, b2, b3, b4, b5, b6, b7, b8, b9⟩ := tailB_all hB
  have hl : ∀ (i : Nat) (o : Oper), i < n → ((ops.toList.take n)[i]? = some o ↔ i < n ∧ ops[i]? = some o) := fun i o hi => by
    rw [List.getElem?_take]; simp [hi]
  have hpw : (ops.toList.take n).Pairwise (fun x y => ∀ d, x.dst = some d → y.dst ≠ some d) := by
    rw [List.pairwise_iff_getElem]
    intro i j hi hj hij d hd
    simp only [List.length_take, Array.length_toList] at hi hj
    simp only [List.getElem_take, Array.getElem_toList] at hd ⊢
    exact (b7 j _ (by omega) (Array.getElem?_eq_getElem (by omega))).2 i _ d hij (Array.getElem?_eq_getElem (by omega)) hd
  have steps := fun γ => quiet_steps _ _ hpw (hw γ)
  have hALp : AL.Pairwise (fun x y => x.1 ≠ y.1) := by
    rw [List.pairwise_iff_getElem]
    intro i j hi hj hij e
    obtain ⟨oi, h1, m1⟩ := hmk i _ (List.getElem?_eq_getElem hi)
    obtain ⟨oj, h2, m2⟩ := hmk j _ (List.getElem?_eq_getElem hj)
    exact (b7 (n + j) oj (by omega) h2).2 (n + i) oi _ (by omega) h1 m1.1 (by rw [m2.1, e])
  have γ0 : Gd W0 := ⟨fun _ => True, fun _ _ _ _ => trivial, W0, Fr.refl _ _, trivial⟩
  obtain ⟨s1, s2, s3, _⟩ := steps γ0
  intro f
  induction f with
  | zero =>
    intro un listed act w gs hlen hnd hun inv st
    have hnil : un = [] := List.eq_nil_of_length_eq_zero hlen
    subst hnil
    have hall : ∀ i, i < n + AL.length → listed.getD i false = true := fun i hi => by
      cases h : listed.getD i false with
      | true => rfl
      | false => have := (hun i).2 ⟨hi, h⟩; cases this
    have hli : listed = Array.replicate (n + AL.length) true ++ Array.replicate (ops.size - (n + AL.length)) false := by
      apply Array.ext
      · simp [inv.size]; omega
      · intro i h1 h2
        have hs := inv.size
        by_cases c : i < n + AL.length
        · have := hall i c
          rw [Array.getElem_append_left (by simpa using c)]
          simpa [h1] using this
        · have := inv.tail i (by omega) (by omega)
          rw [Array.getElem_append_right (by simp; omega)]
          simpa [h1] using this
    have hact : act = putAll gs AL 0 aF := by
      have ed : act.defers = (putAll gs AL 0 aF).defers := by rw [putAll_df, st.df, s1]
      have et : act.tmps = (putAll gs AL 0 aF).tmps := by
        apply Array.ext_getElem?
        intro t
        by_cases hA : ∃ x ∈ AL, x.1 = t
        · obtain ⟨x, hx, rfl⟩ := hA
          obtain ⟨j, hj⟩ := List.getElem?_of_mem hx
          have hjl : j < AL.length := (List.getElem?_eq_some_iff.1 hj).1
          rw [(st.al j x hj (hall _ (by omega))).1, putAll_at gs AL 0 aF j x hALp hj, Nat.zero_add]
          exact set_get_sz s2.symm _ _
        · rw [putAll_oth gs AL 0 aF t (fun x hx e => hA ⟨x, hx, e⟩)]
          by_cases hq : ∃ i o, i < n ∧ ops[i]? = some o ∧ o.dst = some t
          · obtain ⟨i, o, h1, h2, h3⟩ := hq
            exact st.q i o t h1 h2 h3 (hall i (by omega))
          · rw [s3 t (fun o ho hd => by
              obtain ⟨i, hi⟩ := List.getElem?_of_mem ho
              have hin : i < n := by have := (List.getElem?_eq_some_iff.1 hi).1; simp at this; omega
              exact hq ⟨i, o, hin, ((hl i o hin).1 hi).2, hd⟩)]
            refine st.oth t fun i o hi ho _ hd => ?_
            by_cases c : i < n
            · exact hq ⟨i, o, c, ho, hd⟩
            · obtain ⟨o', h1, h2⟩ := hmk (i - n) _ (List.getElem?_eq_getElem (by omega))
              rw [show n + (i - n) = i by omega, ho] at h1
              obtain rfl := Option.some.inj h1
              rw [h2.1] at hd
              exact hA ⟨_, List.getElem_mem _, Option.some.inj hd⟩
      cases act
      cases h : putAll gs AL 0 aF
      rw [h] at ed et
      simp only at ed et
      rw [ed, et]
    have := wpAny_of_seq (P := P) (ops := ops) (md := .any) (Q' := Q') (ops.toList.drop (n + AL.length)) (n + AL.length) listed act w (fun j => by simp [List.getElem?_drop]) (by simpa [hli] using b6)
      (by
        rw [hact]
        refine hend gs w st.fr (fun j x hj => (st.al j x hj (hall _ (by have := (List.getElem?_eq_some_iff.1 hj).1; omega))).2) fun j j' h1 h2 hne => ?_
        exact st.ne j j' _ _ (List.getElem?_eq_getElem h1) (List.getElem?_eq_getElem h2) hne (hall _ (by omega)) (hall _ (by omega)))
    simpa using this
  | succ f ih =>
    intro un listed act w gs hlen hnd hun inv st
    have hpos : ∃ i, i ∈ un := by
      cases un with
      | nil => simp at hlen
      | cons i l => exact ⟨i, by simp⟩
    obtain ⟨i0, hi0⟩ := hpos
    have hrdy : ∀ d i, i ≤ d → i < n + AL.length → listed.getD i false = false → ∃ r, r ∈ Region.ready .any ops listed ∧ r < n + AL.length := by
      intro d
      induction d with
      | zero =>
        intro i h0 hi hu
        obtain ⟨o, ho⟩ : ∃ o, ops[i]? = some o := ⟨_, Array.getElem?_eq_getElem (by omega)⟩
        exact ⟨i, mem_ready.2 ⟨getD_in (by rw [inv.size]; omega) hu, o, ho, fun e he hb => by have := (b7 i o hi ho).1 e he hb; omega⟩, hi⟩
      | succ d ihd =>
        intro i h0 hi hu
        obtain ⟨o, ho⟩ : ∃ o, ops[i]? = some o := ⟨_, Array.getElem?_eq_getElem (by omega)⟩
        by_cases hc : ∃ e ∈ o.after, Region.binds .any e = true ∧ listed.getD e.on false = false
        · obtain ⟨e, he, hb, hf⟩ := hc
          have := (b7 i o hi ho).1 e he hb
          exact ihd e.on (by omega) (by omega) hf
        · exact ⟨i, mem_ready.2 ⟨getD_in (by rw [inv.size]; omega) hu, o, ho, fun e he hb => by
            cases h : listed.getD e.on false with
            | true => rfl
            | false => exact absurd ⟨e, he, hb, h⟩ hc⟩, hi⟩
    obtain ⟨hi0m, hi0u⟩ := (hun i0).1 hi0
    obtain ⟨r0, hr0, hr0m⟩ := hrdy i0 i0 (Nat.le_refl _) hi0m hi0u
    have hne : Region.ready .any ops listed ≠ [] := by
      intro h; rw [h] at hr0; cases hr0
    have dstne : ∀ i o, i < n + AL.length → ops[i]? = some o → ∀ k o' t, k ≠ i → k < n + AL.length → ops[k]? = some o' → o'.dst = some t → o.dst ≠ some t := fun i o him ho k o' t hk hkm ho' hd e => by
      rcases Nat.lt_or_gt_of_ne hk with c | c
      · exact (b7 i o him ho).2 k o' t c ho' hd e
      · exact (b7 k o' hkm ho').2 i o t c ho e hd
    have prep : ∀ i, i ∈ Region.ready .any ops listed → i < n + AL.length → (un.erase i).Nodup ∧ (un.erase i).length = f ∧ (∀ j, j ∈ un.erase i ↔ j < n + AL.length ∧ (listed.setIfInBounds i true).getD j false = false) ∧ (listed.setIfInBounds i true).getD i false = true := fun i hi him => by
      obtain ⟨hiu, o, ho, hdeps⟩ := mem_ready.1 hi
      have hil : i < listed.size := by rw [inv.size]; omega
      have hself : (listed.setIfInBounds i true).getD i false = true := by simp [hil]
      obtain ⟨e1, e2, e3⟩ := erase_spec hnd ((hun i).2 ⟨him, getD_both hiu⟩)
      refine ⟨e1, by omega, fun j => ?_, hself⟩
      rw [e3, hun]
      by_cases c : j = i
      · subst c; rw [hself]; simp
      · rw [getD_set_ne false (Ne.symm c)]; simp [c]
    -- an operation that keeps
    have quietStep : ∀ i o, i < n → i ∈ Region.ready .any ops listed → ops[i]? = some o → ∃ v, YieldsIn P ops (fun w' => ∃ y : Wg (W0 := W0) ⟨fun w' => Fr (fun _ => False) w w', fun a b h k => k.trans h (fun _ h => h.elim), w, st.fr, Fr.refl _ _⟩, w' = y.w) o v act ∧
        ∀ w', Fr (fun _ => False) W0 w' → Fr (fun _ => False) w w' → wpAny P .any ops Q' (f + (ops.size - (n + AL.length))) (listed.setIfInBounds i true) (act.put o.dst v) w' := by
      intro i o hin hi ho
      have him : i < n + AL.length := by omega
      obtain ⟨hiu, o2, ho2, hdeps⟩ := mem_ready.1 hi
      rw [ho] at ho2
      obtain rfl := Option.some.inj ho2
      obtain ⟨e1, e2, hun2, hself⟩ := prep i hi him
      have selno := fun cs b => Region.noSelect_spec b1 i o cs b ho
      obtain ⟨t1, t2, t3, t4⟩ := steps ⟨fun w' => Fr (fun _ => False) w w', fun a b h k => k.trans h (fun _ h => h.elim), w, st.fr, Fr.refl _ _⟩
      obtain ⟨v, aj, k1, k2, k3, k4⟩ := t4 i o ((hl i o hin).2 ⟨hin, ho⟩)
      have same : ∀ t ∈ o.looksAt ops, act.tmps[t]? = aj.tmps[t]? := fun t ht => by
        by_cases hq : ∃ j o', j < n + AL.length ∧ ops[j]? = some o' ∧ o'.dst = some t
        · obtain ⟨j, o', h1, h2, h3⟩ := hq
          obtain ⟨c1, c2⟩ := b8 i o hin ho t ht j o' h1 h2 h3
          obtain ⟨o2, ho2, e, he, hb, hon⟩ := Region.waitsFor_spec c2
          rw [ho] at ho2
          obtain rfl := Option.some.inj ho2
          have hlj := hdeps e he hb
          rw [hon] at hlj
          rw [st.q j o' t (by omega) h2 h3 hlj, k2 t j o' c1 ((hl j o' (by omega)).2 ⟨by omega, h2⟩) h3]
        · rw [st.oth t (fun j o' hj ho' _ hd => hq ⟨j, o', hj, ho', hd⟩), k3 t (fun j o' hj ho' hd => hq ⟨j, o', by omega, ((hl j o' (by omega)).1 ho').2, hd⟩)]
      obtain ⟨x1, x2⟩ := looks_same selno same
      refine ⟨v, k1.of_same x1 x2, fun w' hw0 hww => ?_⟩
      refine ih _ _ _ _ gs e2 e1 hun2 (inv.set hi him) ⟨hw0, (put_df _ _ _).trans st.df, (put_sz _ _ _).trans st.sz, fun k o' t hk ho' hd hlk => ?_, fun j x hj hlj => ?_, fun j j' x x' hj hj' hne h1 h2 => ?_, fun t ht => ?_⟩
      · by_cases c : k = i
        · subst c
          rw [ho] at ho'
          obtain rfl := Option.some.inj ho'
          rw [put_get, if_pos hd, k4 t hd]
          exact set_get_sz st.sz _ _
        · rw [put_get, if_neg (dstne i o him ho k o' t c (by omega) ho' hd)]
          exact st.q k o' t hk ho' hd ((getD_set_self hlk).resolve_left c)
      · have hlj := (getD_set_self hlj).resolve_left (by omega)
        obtain ⟨c1, c2, c3⟩ := st.al j x hj hlj
        obtain ⟨ox, hox, mx⟩ := hmk j x hj
        refine ⟨?_, c2, (hww.block _ (Array.getElem?_eq_some_iff.1 c3).1 (fun h => h)).trans c3⟩
        rw [put_get, if_neg (dstne i o him ho (n + j) ox _ (by omega) (by have := (List.getElem?_eq_some_iff.1 hj).1; omega) hox mx.1), c1]
      · exact st.ne j j' x x' hj hj' hne ((getD_set_self h1).resolve_left (by omega)) ((getD_set_self h2).resolve_left (by omega))
      · rw [put_get, if_neg (ht i o him ho hself)]
        exact st.oth t fun k o' hk ho' hlk => ht k o' hk ho' (getD_set_true hlk)
    rw [show f + 1 + (ops.size - (n + AL.length)) = (f + (ops.size - (n + AL.length))) + 1 by omega]
    by_cases hlate : ∀ i ∈ un, i ∈ late
    · -- only what may come late is left: it is taken first
      have hr0l : r0 ∈ late := hlate r0 ((hun r0).2 ⟨hr0m, getD_both (mem_ready.1 hr0).1⟩)
      obtain ⟨hr0u, o, ho, hdeps⟩ := mem_ready.1 hr0
      obtain ⟨hn0, hpure, hap⟩ := b9 r0 o hr0l ho
      obtain ⟨v, hy, hk⟩ := quietStep r0 o hn0 hr0 ho
      have hY : Yields P ops o v act := by
        rcases hy with ⟨hw, hv⟩ | hu
        · exact .inl ⟨hw, pure_of hpure (hv w ⟨⟨w, st.fr, Fr.refl _ _⟩, rfl⟩)⟩
        · exact .inr hu
      refine wpAny_first ho (Region.noSelect_spec b1) (fun c a w h => by
        have hq := hQp (fun e => by rw [e] at hr0l; cases hr0l)
        cases hd : o.dst with
        | none => rw [hd] at h; exact h
        | some t => rw [hd] at h; exact hq c a t v w h) _ listed act w (fun j oj hj hne hju hno => ?_) hr0 hY (hk w st.fr (Fr.refl _ _))
      rcases hap j oj hj hne with (h | h) | h
      · obtain ⟨o2, ho2, e, he, hb, hon⟩ := Region.waitsFor_spec h
        rw [ho] at ho2
        obtain rfl := Option.some.inj ho2
        have h1 := hdeps e he hb
        rw [hon, getD_both hju] at h1
        cases h1
      · obtain ⟨o2, ho2, e, he, hb, hon⟩ := Region.waitsFor_spec h
        rw [hj] at ho2
        obtain rfl := Option.some.inj ho2
        exact absurd hon (hno e he hb)
      · exact h
    refine ⟨fun h => absurd h hne, fun i hi => ?_⟩
    have hx : ∃ i1 ∈ un, i1 ∉ late := by
      apply Classical.byContradiction
      intro h
      exact hlate fun i hi => Classical.byContradiction fun h2 => h ⟨i, hi, h2⟩
    obtain ⟨i1, hi1, hi1l⟩ := hx
    obtain ⟨hi1m, hi1u⟩ := (hun i1).1 hi1
    have him : i < n + AL.length := by
      rcases Nat.lt_or_ge i (n + AL.length) with h | h
      · exact h
      · exact absurd hi (tail_waits2 b4 b5 b3 inv _ i1 rfl hi1m hi1l (getD_in (by rw [inv.size]; omega) hi1u) i h)
    obtain ⟨hiu, o, ho, hdeps⟩ := mem_ready.1 hi
    obtain ⟨e1, e2, hun2, hself⟩ := prep i hi him
    have inv2 := inv.set hi him
    have dstne := dstne i o him ho
    by_cases hin : i < n
    · obtain ⟨v, hy, hk⟩ := quietStep i o hin hi ho
      refine wpOp_of_qOp (C := fun w' => ∃ y : Wg (W0 := W0) ⟨fun w' => Fr (fun _ => False) w w', fun a b h k => k.trans h (fun _ h => h.elim), w, st.fr, Fr.refl _ _⟩, w' = y.w) ⟨⟨w, st.fr, Fr.refl _ _⟩, rfl⟩ (fun a' w' hC ha' => ?_) (hy.qOp ho (K := fun a' => a' = act.put o.dst v) rfl)
      obtain ⟨y, rfl⟩ := hC
      subst ha'
      exact hk y.w y.h y.g
    · -- a new block
      obtain ⟨x, hx⟩ : ∃ x, AL[i - n]? = some x := ⟨_, List.getElem?_eq_getElem (by omega)⟩
      obtain ⟨o', ho', mk1, mk2, mk3⟩ := hmk (i - n) x hx
      rw [show n + (i - n) = i by omega, ho] at ho'
      obtain rfl := Option.some.inj ho'
      have hwant : Region.wanted o (yielded ops act.tmps) = true := by simp [Region.wanted, mk2]
      unfold wpOp
      simp only [ho, hwant, if_true]
      left
      unfold Oper.wp
      rw [mk3]
      show wpAny P .any ops Q' _ _ _ _
      refine ih _ _ _ _ (fun j => if j = i - n then w.heap.size else gs j) e2 e1 hun2 inv2 ⟨st.fr.alloc _, (put_df _ _ _).trans st.df, (put_sz _ _ _).trans st.sz, fun k o' t hk ho' hd hlk => ?_, fun j y hj hlj => ?_, fun j j' y y' hj hj' hne h1 h2 => ?_, fun t ht => ?_⟩
      · rw [put_get, if_neg (dstne k o' t (by omega) (by omega) ho' hd)]
        exact st.q k o' t hk ho' hd ((getD_set_self hlk).resolve_left (by omega))
      · by_cases c : j = i - n
        · subst c
          rw [hx] at hj
          obtain rfl := Option.some.inj hj
          simp only [if_true]
          rw [put_get, if_pos mk1]
          exact ⟨set_get_sz st.sz _ _, st.fr.size, heap_alloc_new w _⟩
        · simp only [if_neg c]
          obtain ⟨c1, c2, c3⟩ := st.al j y hj ((getD_set_self hlj).resolve_left (by omega))
          obtain ⟨ox, hox, mx⟩ := hmk j y hj
          refine ⟨?_, c2, (Below.heap_alloc _ _ _ (Array.getElem?_eq_some_iff.1 c3).1).trans c3⟩
          rw [put_get, if_neg (dstne (n + j) ox _ (by omega) (by have := (List.getElem?_eq_some_iff.1 hj).1; omega) hox mx.1), c1]
      · by_cases c : j = i - n
        · have c' : j' ≠ i - n := fun h => hne (c.trans h.symm)
          simp only [if_pos c, if_neg c']
          obtain ⟨_, _, c3⟩ := st.al j' y' hj' ((getD_set_self h2).resolve_left (by omega))
          have := (Array.getElem?_eq_some_iff.1 c3).1
          omega
        · by_cases c' : j' = i - n
          · simp only [if_neg c, if_pos c']
            obtain ⟨_, _, c3⟩ := st.al j y hj ((getD_set_self h1).resolve_left (by omega))
            have := (Array.getElem?_eq_some_iff.1 c3).1
            omega
          · simp only [if_neg c, if_neg c']
            exact st.ne j j' y y' hj hj' hne ((getD_set_self h1).resolve_left (by omega)) ((getD_set_self h2).resolve_left (by omega))
      · rw [put_get, if_neg (ht i o him ho hself)]
        exact st.oth t fun k o' hk ho' hlk => ht k o' hk ho' (getD_set_true hlk)

set_option maxRecDepth 100000 in
/-- The region: n operations that keep, the new blocks AL, stores. -/
theorem wp_region_late {id : Nat} {Q : Exit → Act → World → Prop} {a : Act} {W0 : World} {l : List Oper} (n : Nat) (late : List Nat) (AL : List (Tmp × Obj)) (hQp : late ≠ [] → ∀ (c : List PanicEntry) (a : Act) (t : Tmp) (v : Value) (w : World), Q (.panic c) (a.put (some t) v) w → Q (.panic c) a w) (hm : P.follows .mixedOrders = true) (hB : tailB l.toArray n (n + AL.length) late = true)
    (hmk : ∀ j x, AL[j]? = some x → ∃ o, l[n + j]? = some o ∧ Makes P o x)
    (h : ∃ aF, (∀ γ : Gd W0, wpQuiet P l.toArray (fun w' => ∃ y : Wg γ, w' = y.w) (fun a' => a' = aF) (l.take n) a) ∧
      ∀ (gs : Nat → Nat) (w : World), Fr (fun _ => False) W0 w → (∀ j x, AL[j]? = some x → W0.heap.size ≤ gs j ∧ w.heap[gs j]? = some x.2) → (∀ j j', j < AL.length → j' < AL.length → j ≠ j' → gs j ≠ gs j') →
        wpList P l.toArray Q (l.drop (n + AL.length)) (putAll gs AL 0 aF) w) : (Code.region id l.toArray true).wp P Q a W0 := by
  obtain ⟨aF, h1, h2⟩ := h
  obtain ⟨b1, b2, b3, b4, b5, b6, b7, b8, b9⟩ := tailB_all hB
  refine wp_region_any hm ?_
  have inv0 : HeadInv .any l.toArray (n + AL.length) (Array.replicate l.toArray.size false) :=
    ⟨by simp, fun j oj _ hl => (by rw [getD_replicate_false] at hl; cases hl), fun t _ ht => getD_in (by simpa using ht) (getD_replicate_false _ _)⟩
  have := tail_core (P := P) (ops := l.toArray) (Q' := Q) (W0 := W0) (a := a) (aF := aF) (n := n) (AL := AL) hB hQp (fun j x hj => by simpa using hmk j x hj) (by simpa using h1) (by simpa using h2) (n + AL.length) (List.range (n + AL.length)) (Array.replicate l.toArray.size false) a { W0 with drawn := W0.drawn + 1 } (fun _ => 0)
    (by simp) List.nodup_range (fun i => by rw [List.mem_range, getD_replicate_false]; simp) inv0
    ⟨(Fr.refl _ W0).drew, rfl, rfl, fun i o t _ _ _ hl => (by rw [getD_replicate_false] at hl; cases hl), fun j x _ hl => (by rw [getD_replicate_false] at hl; cases hl), fun j j' x x' _ _ _ hl => (by rw [getD_replicate_false] at hl; cases hl), fun _ _ => rfl⟩
  rw [show n + AL.length + (l.toArray.size - (n + AL.length)) = l.toArray.size by omega] at this
  exact this
set_option maxRecDepth 100000 in
/-- The same with none that may come up late. -/
theorem wp_region_tail {id : Nat} {Q : Exit → Act → World → Prop} {a : Act} {W0 : World} {l : List Oper} (n : Nat) (AL : List (Tmp × Obj)) (hm : P.follows .mixedOrders = true) (hB : tailB l.toArray n (n + AL.length) [] = true)
    (hmk : ∀ j x, AL[j]? = some x → ∃ o, l[n + j]? = some o ∧ Makes P o x)
    (h : ∃ aF, (∀ γ : Gd W0, wpQuiet P l.toArray (fun w' => ∃ y : Wg γ, w' = y.w) (fun a' => a' = aF) (l.take n) a) ∧
      ∀ (gs : Nat → Nat) (w : World), Fr (fun _ => False) W0 w → (∀ j x, AL[j]? = some x → W0.heap.size ≤ gs j ∧ w.heap[gs j]? = some x.2) → (∀ j j', j < AL.length → j' < AL.length → j ≠ j' → gs j ≠ gs j') →
        wpList P l.toArray Q (l.drop (n + AL.length)) (putAll gs AL 0 aF) w) : (Code.region id l.toArray true).wp P Q a W0 :=
  wp_region_late n [] AL (fun h => absurd rfl h) hm hB hmk h
set_option maxRecDepth 100000 in
theorem mk_one {l : List Oper} {n : Nat} {x0 : Tmp × Obj} (h : ∃ o, l[n]? = some o ∧ Makes P o x0) : ∀ j x, [x0][j]? = some x → ∃ o, l[n + j]? = some o ∧ Makes P o x := by
  intro j x hx
  rcases j with _ | j
  · have : x0 = x := by simpa using hx
    subst this; exact h
  · simp at hx
set_option maxRecDepth 100000 in
theorem mk_two {l : List Oper} {n : Nat} {x0 x1 : Tmp × Obj} (h : ∃ o, l[n]? = some o ∧ Makes P o x0) (h1 : ∃ o, l[n + 1]? = some o ∧ Makes P o x1) : ∀ j x, [x0, x1][j]? = some x → ∃ o, l[n + j]? = some o ∧ Makes P o x := by
  intro j x hx
  rcases j with _ | _ | j
  · have : x0 = x := by simpa using hx
    subst this; exact h
  · have : x1 = x := by simpa using hx
    subst this; exact h1
  · simp at hx
set_option maxRecDepth 100000 in
theorem mk_nil {l : List Oper} {n : Nat} : ∀ (j : Nat) (x : Tmp × Obj), ([] : List (Tmp × Obj))[j]? = some x → ∃ o, l[n + j]? = some o ∧ Makes P o x := by
  intro j x hx; simp at hx
end
end Go.Proofs.YtndakfanlgilmaaDoor


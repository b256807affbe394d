/-
  What comes out of a sum and a path.
  Regions that draw their order, as in Ks; each operation j may touch blocks of S j of its own; what an operation leaves hangs on no block that an operation touches which does not wait for it. Plain: of no program.
  The document's log: half, node, Sum.
  The law's log: its filling.
  The document's paths, and what shows a beginning.
  Texts of sums; rows of texts compared.
  A claim that came in as an argument: two places, rows of 32, two sums.
  Two rows of sums of one's own; a byte stored into one; operations of which any may come first.
-/
import Derived.Test.YtikdgjgcopjocaaDoorQHc
import Derived.Test.YtikdgjgcopjocaaDoorKs
import Derived.Deep.Slices
import Derived.Deep.Strs
namespace Go.Proofs.YtikdgjgcopjocaaDoor
open Go.RowKit
set_option linter.unusedVariables false
set_option linter.unusedSimpArgs false
set_option maxRecDepth 100000 in
theorem wrA (k : Nat) (h : k + 1 ≤ 9223372036854775807) : wrap64 (((k + 1 : Nat) : Int) - 1) = (k : Int) := by rw [IntWalk.wrap64_in _ (by omega)]; omega
set_option maxRecDepth 100000 in
theorem wrC (k : Nat) (h : k ≤ 9223372036854775807) : wrap64 (k : Int) = (k : Int) := IntWalk.wrap64_in _ (by omega)
set_option maxRecDepth 100000 in
theorem wrS (i h : Nat) (h1 : h ≤ i) (h2 : i ≤ 9223372036854775807) : wrap64 ((i : Int) - (h : Int)) = ((i - h : Nat) : Int) := by rw [IntWalk.wrap64_in _ (by omega)]; omega
set_option maxRecDepth 100000 in
theorem quiet_load_cellsS {P : Program} {C : Act → Prop} {a : Act} {o : Oper} {S : Nat → Prop} {W0 : World} {γ : Ks.Gs S W0} (ty : TypeId) (x : Operand) (ho : o.op = .load ty x) (g q : Nat) (hx : a.eval x = .pointer (some ⟨g, q, none⟩)) (R : Array Value) (m : Nat)
    (d : TypeDesc) (hu : P.underlying ty = some d) (hd : d.isRow = true) (hty : (P.info? ty).map (·.size) = some m) (hc : ∀ z : Ks.Ws γ, ∀ (i : Nat) (u : Value), R[i]? = some u → z.w.cell? ⟨g, q + i, none⟩ = some u) (hm : R.size = m)
    (hk : C (a.put o.dst (.agg R))) : o.quiet P a (fun w' => ∃ y : Ks.Ws γ, w' = y.w) C :=
  ⟨.agg R, fun w' ⟨y, e⟩ => by
    subst e
    have hr := run_loadVar_mid (P := P) y.w g q ty R.toList d (fun j u hj => hc y j u (by rw [← hj, Array.getElem?_toList])) hu hd (by rw [hty, Array.length_toList, hm])
    rw [Array.toArray_toList] at hr
    unfold Oper.quietAt execOp
    simp only [ho, hx, Instr.loadAt, Instr.sureAddr, Sem.run_bind, Sem.run_pure, Result.andThen_ok, hr, Oper.quietUpon]
    exact ⟨trivial, trivial⟩, hk⟩
set_option maxRecDepth 100000 in
theorem Calls.keepS {P : Program} {f : FuncId} {args : Array Value} {S : Nat → Prop} {W0 : World} {γ : Ks.Gs S W0} {x : Ks.Ws γ} {v : Value} (h : Calls P f args x.w fun e w' => e = .returned v ∧ x.w = w') : Calls P f args x.w fun e w'' => e = .returned v ∧ ∃ y : Ks.Ws γ, w'' = y.w :=
  h.mono fun _ w' ⟨he, hf⟩ => ⟨he, x, hf.symm⟩
def z32 : List UInt8 := List.replicate 32 0
set_option maxRecDepth 100000 in
theorem z32_row : ub 32 (fun _ => 0) = krow z32 := by kernel_rfl
set_option maxRecDepth 100000 in
theorem z32_len : z32.length = 32 := rfl
set_option maxRecDepth 100000 in
theorem Lg.climb_len (s : List UInt8) (hs : s.length = 32) : ∀ (r : List (List UInt8)) (i n : Nat), (Lg.climb z32 s i n r).1.length = 32
  | [], i, n => by unfold Lg.climb; split <;> first | exact hs | rfl
  | x :: r, i, n => by
    unfold Lg.climb
    split
    · exact hs
    · split <;> rfl
set_option maxRecDepth 100000 in
theorem rev_take (x : List UInt8) (r : List (List UInt8)) : (x :: r).reverse.take r.length = r.reverse := by
  rw [List.reverse_cons, List.take_append_of_le_length (by simp)]
  exact List.take_of_length_le (by simp)
set_option maxRecDepth 100000 in
theorem rev_last (x : List UInt8) (r : List (List UInt8)) : (x :: r).reverse[r.length]? = some x := by
  rw [List.reverse_cons, List.getElem?_append_right (by simp)]; simp
end Go.Proofs.YtikdgjgcopjocaaDoor
namespace Go.Proofs.YtikdgjgcopjocaaDoor
open Go.RowKit
set_option linter.unusedVariables false
namespace Kj
open Ks (Es)
section
variable {P : Program} {md : Region.Mode} {ops : Array Oper} {Q : Act → World → Prop} {S : Nat → Nat → Prop}

/-- Whatever order is picked from here on, from every world that keeps what is here. -/
def wpM (S : Nat → Nat → Prop) (P : Program) (md : Region.Mode) (ops : Array Oper) (Q : Act → World → Prop) : Nat → Array Bool → Act → World → Prop
  | 0, listed, a, w => Region.ready md ops listed = [] ∧ ∀ w', Ex w w' → Q a w'
  | fuel + 1, listed, a, w => (Region.ready md ops listed = [] → ∀ w', Ex w w' → Q a w') ∧
    ∀ i ∈ Region.ready md ops listed, ∀ w', Ex w w' → wpOp P ops NQ i (fun a'' w'' => Es (S i) w' w'' ∧ wpM S P md ops Q fuel (listed.setIfInBounds i true) a'' w'') a w'
set_option maxRecDepth 100000 in
theorem wpM.up : ∀ (fuel : Nat) (listed : Array Bool) (a : Act) (w w' : World), Ex w w' → wpM S P md ops Q fuel listed a w → wpM S P md ops Q fuel listed a w'
  | 0, _, _, _, _, hx, h => ⟨h.1, fun w2 h2 => h.2 w2 (hx.tr h2)⟩
  | _ + 1, _, _, _, _, hx, h => ⟨fun h0 w2 h2 => h.1 h0 w2 (hx.tr h2), fun i hi w2 h2 => h.2 i hi w2 (hx.tr h2)⟩
set_option maxRecDepth 100000 in
theorem wpAny_of_M {Q' : Exit → Act → World → Prop} (hQ : ∀ a w, Q a w → Q' .normal a w) : ∀ (fuel : Nat) (listed : Array Bool) (a : Act) (w : World), wpM S P md ops Q fuel listed a w → wpAny P md ops Q' fuel listed a w
  | 0, _, _, w, h => ⟨h.1, hQ _ _ (h.2 w (Fr.refl _ w))⟩
  | fuel + 1, _, _, w, h => ⟨fun h0 => hQ _ _ (h.1 h0 w (Fr.refl _ w)), fun i hi => wpOp_mono (fun a'' w'' h => wpAny_of_M hQ fuel _ a'' w'' h.2) (wpOp_nq (h.2 i hi w (Fr.refl _ w)))⟩

/-- In every world from W on the operation leaves v, and keeps what is there. -/
def YM (S : Nat → Prop) (P : Program) (ops : Array Oper) (W : World) (o : Oper) (v : Value) (a : Act) : Prop :=
  (Region.wanted o (yielded ops a.tmps) = true ∧ ∀ w, Es S W w → o.quietAt P a (Ex w) w v) ∨ (Region.wanted o (yielded ops a.tmps) = false ∧ v = undef)
set_option maxRecDepth 100000 in
theorem YM.up {S : Nat → Prop} {W W' : World} {o : Oper} {v : Value} {a : Act} (hx : Es S W W') (h : YM S P ops W o v a) : YM S P ops W' o v a :=
  h.imp (fun h => ⟨h.1, fun w hw => h.2 w (hx.tr hw)⟩) id
set_option maxRecDepth 100000 in
theorem YM.of_same {S : Nat → Prop} {W : World} {o : Oper} {v : Value} {a a' : Act} (hy : YM S P ops W o v a) (he : execOp a'.eval o = execOp a.eval o)
    (hw : Region.wanted o (yielded ops a'.tmps) = Region.wanted o (yielded ops a.tmps)) : YM S P ops W o v a' := by
  unfold YM Oper.quietAt at *
  rw [he, hw]
  exact hy
set_option maxRecDepth 100000 in
theorem YM.wpOp {S : Nat → Prop} {W w : World} {i : Nat} {o : Oper} {v : Value} {a : Act} (hi : ops[i]? = some o) (hy : YM S P ops W o v a) (hx : Ex W w) {K : Act → World → Prop} (h : ∀ w', Ex w w' → K (a.put o.dst v) w') : Go.wpOp P ops NQ i K a w := by
  unfold Go.wpOp
  simp only [hi]
  rcases hy with ⟨hw, hv⟩ | ⟨hw, rfl⟩
  · simp only [hw, if_true]
    exact .inl (Oper.wp_of_quiet (C := Ex w) (K := fun a' => a' = a.put o.dst v) (Fr.refl _ w) (fun a' w' hc e => by subst e; exact h w' hc) ⟨v, fun w1 h1 => quietAt_mono (fun w2 h2 => h1.tr h2) (hv w1 (Ks.Es.of (hx.tr h1))), rfl⟩)
  · simp only [hw, Bool.false_eq_true, if_false]; exact h w (Fr.refl _ w)
set_option maxRecDepth 100000 in
theorem wpM_first {T : Nat → Prop} {i : Nat} {oi : Oper} {v : Value} (hi : ops[i]? = some oi) (hz : ∀ j oz, ops[j]? = some oz → (∃ e ∈ oz.after, Region.binds md e = true ∧ e.on = i) ∨ ∀ b, S j b → T b) (hsel : ∀ (j : Nat) (o : Oper) cs b, ops[j]? = some o → o.op ≠ .select cs b) :
    ∀ (fuel : Nat) (listed : Array Bool) (a : Act) (W : World), Fre md ops oi i listed → i ∈ Region.ready md ops listed → YM T P ops W oi v a →
      wpM S P md ops Q fuel (listed.setIfInBounds i true) (a.put oi.dst v) W → wpM S P md ops Q (fuel + 1) listed a W
  | fuel, listed, a, W, hf, hr, hy, H => by
    refine ⟨fun e => absurd hr (by rw [e]; simp), fun j hj w' hx => ?_⟩
    rcases Nat.decEq j i with hji | hji
    · cases fuel with
      | zero => exact absurd (ready_mono hj hji) (by rw [H.1]; simp)
      | succ fuel =>
        obtain ⟨hun, oj, hoj, _⟩ := mem_ready.1 hj
        have hjz : ∀ b, S j b → T b := (hz j oj hoj).resolve_left (fun ⟨e, he, hb, hon⟩ => no_wait hr hj hoj e he hb hon)
        obtain ⟨s1, s2, s3⟩ := Oper.apart_spec (hf j oj hoj hji hun (no_wait hr hj hoj))
        have selj := fun cs b => hsel j oj cs b hoj
        have seli := fun cs b => hsel i oi cs b hi
        refine wpOp_over hoj (execOp_put oj selj a oi.dst v s1).symm (wanted_put oj a oi.dst v s1).symm (fun u w'' ⟨h1, h2⟩ => ⟨h1, ?_⟩) (fun d w'' ⟨h1, h2⟩ => ⟨h1, ?_⟩) (H.2 j (ready_mono hj hji) w' hx)
        · refine wpM_first (v := v) hi hz hsel fuel _ _ w'' (hf.next hun) (ready_mono hr (fun c => hji c.symm)) ?_ ?_
          · exact (hy.up (Ks.Es.tr (Ks.Es.of hx) (h1.mono (fun b _ => hjz b)))).of_same (execOp_put oi seli a oj.dst u s3) (wanted_put oi a oj.dst u s3)
          · rw [Array.setIfInBounds_comm _ _ hji, ← Act.put_comm a v u s2]
            exact h2
        · refine wpM_first (v := v) hi hz hsel fuel _ _ w'' (hf.next hun) (ready_mono hr (fun c => hji c.symm)) ?_ ?_
          · exact ((hy.up (Ks.Es.tr (Ks.Es.of hx) (h1.mono (fun b _ => hjz b)))).of_same (a' := { a with defers := d :: a.defers }) rfl rfl).of_same (execOp_put oi seli _ oj.dst undef s3) (wanted_put oi _ oj.dst undef s3)
          · rw [Array.setIfInBounds_comm _ _ hji, ← Act.put_comm _ v undef s2, ← Act.put_defers]
            exact h2
    · subst hji
      exact hy.wpOp hi hx fun w'' h2 => ⟨Ks.Es.of h2, wpM.up _ _ _ _ _ (hx.tr h2) H⟩

/-- The walk in an order of one's own: (k, false): the operation k leaves one value wherever it comes up; (k, true): it comes up when no other one can. -/
def Wk (S : Nat → Nat → Prop) (P : Program) (md : Region.Mode) (ops : Array Oper) (Q : Act → World → Prop) : List (Nat × Bool) → Act → World → Prop
  | [], a, w => ∀ w', Ex w w' → Q a w'
  | (k, false) :: r, a, w => ∃ (o : Oper) (v : Value) (T : Nat → Prop), ops[k]? = some o ∧ (∀ j oz, ops[j]? = some oz → (∃ e ∈ oz.after, Region.binds md e = true ∧ e.on = k) ∨ ∀ b, S j b → T b) ∧ YM T P ops w o v a ∧ Wk S P md ops Q r (a.put o.dst v) w
  | (k, true) :: r, a, w => ∀ w', Ex w w' → wpOp P ops NQ k (fun a'' w'' => Es (S k) w' w'' ∧ Wk S P md ops Q r a'' w'') a w'
/-- That z waits for k. -/
def zB (md : Region.Mode) (ops : Array Oper) (z k : Nat) : Bool := match ops[z]? with
  | some oz => oz.after.any fun e => Region.binds md e && e.on == k
  | none => true
set_option maxRecDepth 100000 in
theorem zB_spec {md : Region.Mode} {ops : Array Oper} {z k : Nat} (h : zB md ops z k = true) : ∀ oz, ops[z]? = some oz → ∃ e ∈ oz.after, Region.binds md e = true ∧ e.on = k := by
  intro oz ho
  unfold zB at h
  rw [ho] at h
  obtain ⟨i, hi, h2⟩ := Array.any_eq_true.1 h
  simp only [Bool.and_eq_true, beq_iff_eq] at h2
  exact ⟨_, Array.getElem_mem hi, h2.1, h2.2⟩
/-- That j waits for all of a stretch. -/
def segW (md : Region.Mode) (ops : Array Oper) (j k n : Nat) : Bool := (List.range n).all fun i => zB md ops j (k + i)
set_option maxRecDepth 100000 in
theorem segW_spec {md : Region.Mode} {ops : Array Oper} {j k n : Nat} (h : segW md ops j k n = true) {oz : Oper} (ho : ops[j]? = some oz) (i : Nat) (h1 : k ≤ i) (h2 : i < k + n) : ∃ e ∈ oz.after, Region.binds md e = true ∧ e.on = i := by
  have := List.all_eq_true.1 h (i - k) (List.mem_range.2 (by omega))
  rw [show k + (i - k) = i by omega] at this
  exact zB_spec this oz ho
/-- That the order may be walked so. -/
def okZ (md : Region.Mode) (ops : Array Oper) : List (Nat × Bool) → Array Bool → Bool
  | [], listed => (Region.ready md ops listed).isEmpty
  | (k, false) :: r, listed => (Region.ready md ops listed).contains k && Region.free md ops listed k && okZ md ops r (listed.setIfInBounds k true)
  | (k, true) :: r, listed => (Region.ready md ops listed == [k]) && okZ md ops r (listed.setIfInBounds k true)
set_option maxRecDepth 100000 in
theorem Wk.M (hs : Region.noSelect ops = true) : ∀ (l : List (Nat × Bool)) (listed : Array Bool) (a : Act) (w : World), okZ md ops l listed = true → Wk S P md ops Q l a w → wpM S P md ops Q l.length listed a w
  | [], _, _, _, hB, h => ⟨by simpa [okZ] using hB, h⟩
  | (k, false) :: r, listed, a, w, hB, h => by
    obtain ⟨o, v, T, h0, hw, hy, hk⟩ := h
    simp only [okZ, Bool.and_eq_true] at hB
    obtain ⟨⟨hr, hf⟩, hB'⟩ := hB
    exact wpM_first h0 hw (Region.noSelect_spec hs) r.length listed a w (Region.free_spec h0 hf) (by simpa using hr) hy (Wk.M hs r _ _ w hB' hk)
  | (k, true) :: r, listed, a, w, hB, h => by
    simp only [okZ, Bool.and_eq_true, beq_iff_eq] at hB
    refine ⟨fun h0 => (by rw [hB.1] at h0; cases h0), fun i hi w' hx => ?_⟩
    rw [hB.1] at hi
    obtain rfl : i = k := by simpa using hi
    exact wpOp_mono (fun a'' w'' ⟨h1, h2⟩ => ⟨h1, Wk.M hs r _ a'' w'' hB.2 h2⟩) (h w' hx)
end

set_option maxRecDepth 100000 in
theorem wp_region_mono (S : Nat → Nat → Prop) {P : Program} {id : Nat} {Q : Exit → Act → World → Prop} {a : Act} {W0 : World} {l : List Oper} (π : List (Nat × Bool)) (hm : P.follows .mixedOrders = true)
    (hB : (Region.noSelect l.toArray && (π.length == l.length) && okZ .any l.toArray π (Array.replicate l.length false)) = true)
    (h : Wk S P .any l.toArray (fun a w => Q .normal a w) π a W0) : (Code.region id l.toArray true).wp P Q a W0 := by
  simp only [Bool.and_eq_true, beq_iff_eq] at hB
  refine wp_region_any hm ?_
  have := wpM.up _ _ _ _ _ ((Fr.refl (fun _ => False) W0).drew) (Wk.M hB.1.1 π _ a W0 hB.2 h)
  rw [hB.1.2] at this
  have h2 := wpAny_of_M (Q' := Q) (fun _ _ h => h) _ _ _ _ this
  simpa using h2

section
variable {P : Program} {md : Region.Mode} {Q : Act → World → Prop} {S : Nat → Nat → Prop} {T : Nat → Prop}
open Ks (Gs Ws)
set_option maxRecDepth 100000 in
theorem Wk.steps {ops : Array Oper} {aF : Act} {W : World} {r : List (Nat × Bool)} : ∀ (os : List Oper) (k : Nat) (a : Act), (∀ j, j < os.length → ops[k + j]? = os[j]?) → segB a.tmps.size os = true → (∀ i, k ≤ i → i < k + os.length → ∀ j oz, ops[j]? = some oz → (∃ e ∈ oz.after, Region.binds md e = true ∧ e.on = i) ∨ ∀ b, S j b → T b) →
    (∀ γ : Gs T W, wpQuiet P ops (fun w' => ∃ y : Ws γ, w' = y.w) (fun a' => a' = aF) os a) → Wk S P md ops Q r aF W → Wk S P md ops Q (sg k os.length ++ r) a W
  | [], k, a, _, _, _, h, hr => by
    have h : a = aF := h ⟨fun _ => True, fun _ _ _ _ => trivial, W, Fr.refl _ W, trivial⟩
    rw [h]
    exact hr
  | o :: l, k, a, hl, hB, hT, h, hr => by
    have h0 : ops[k]? = some o := by simpa using hl 0 (by simp)
    simp only [segB, Bool.and_eq_true] at hB
    obtain ⟨hB1, hB2⟩ := hB
    obtain ⟨d, hod⟩ : ∃ d, o.dst = some d := by
      cases hd : o.dst with
      | none => rw [hd] at hB1; simp at hB1
      | some d => exact ⟨d, rfl⟩
    rw [hod] at hB1
    simp only [Bool.and_eq_true, decide_eq_true_eq, List.all_eq_true] at hB1
    have one : ∀ γ : Gs T W, ∀ v, wpQuiet P ops (fun w' => ∃ y : Ws γ, w' = y.w) (fun a' => a' = aF) l (a.put o.dst v) → aF.tmps[d]? = some v := fun γ v hq => by
      rw [quiet_final l _ hq d (fun x hx e => by have := hB1.2 x hx; simp [e] at this), hod]
      simp [Act.put, hB1.1]
    have key : ∀ γ : Gs T W, ∃ v, YieldsIn P ops (fun w' => ∃ y : Ws γ, w' = y.w) o v a ∧ wpQuiet P ops (fun w' => ∃ y : Ws γ, w' = y.w) (fun a' => a' = aF) l (a.put o.dst v) := fun γ => by
      have hq := h γ
      unfold wpQuiet at hq
      by_cases hw : Region.wanted o (yielded ops a.tmps) = true
      · rw [if_pos hw] at hq
        obtain ⟨v, h1, h2⟩ := hq
        exact ⟨v, .inl ⟨hw, h1⟩, h2⟩
      · rw [if_neg hw] at hq
        exact ⟨undef, .inr ⟨by simpa using hw, rfl⟩, hq⟩
    obtain ⟨v, hy0, hq0⟩ := key ⟨fun _ => True, fun _ _ _ _ => trivial, W, Fr.refl _ W, trivial⟩
    have hv := one _ v hq0
    have all : ∀ γ : Gs T W, YieldsIn P ops (fun w' => ∃ y : Ws γ, w' = y.w) o v a ∧ wpQuiet P ops (fun w' => ∃ y : Ws γ, w' = y.w) (fun a' => a' = aF) l (a.put o.dst v) := fun γ => by
      obtain ⟨u, h1, h2⟩ := key γ
      have hu := one γ u h2
      rw [hv] at hu
      obtain rfl := Option.some.inj hu
      exact ⟨h1, h2⟩
    refine ⟨o, v, T, h0, hT k (Nat.le_refl _) (by simp), ?_, Wk.steps l (k + 1) (a.put o.dst v) (fun j hj => by have := hl (j + 1) (by simpa using hj); simpa [Nat.add_assoc, Nat.add_comm 1 j] using this) (by rw [put_size]; exact hB2) (fun i h1 h2 => hT i (by omega) (by simp only [List.length_cons]; omega)) (fun γ => (all γ).2) hr⟩
    rcases hy0 with ⟨hw, _⟩ | ⟨hw, rfl⟩
    · refine .inl ⟨hw, fun w hx => ?_⟩
      have hg := (all ⟨fun w' => Ex w w', fun w1 w2 hF hw1 => Ex.tr hw1 hF, w, hx, Fr.refl _ w⟩).1
      rcases hg with ⟨_, hg⟩ | ⟨hw2, _⟩
      · exact quietAt_mono (fun w' ⟨y, e⟩ => by rw [e]; exact y.g) (hg w ⟨⟨w, hx, Fr.refl _ w⟩, rfl⟩)
      · rw [hw] at hw2; cases hw2
    · exact .inr ⟨hw, rfl⟩
set_option maxRecDepth 100000 in
/-- Operations that leave one value each, by the walk in the order of the text. -/
theorem Wk.seg {l : List Oper} {a : Act} {W : World} {r : List (Nat × Bool)} (T : Nat → Prop) (k n : Nat) (hn : ((l.drop k).take n).length = n) (hB : segB a.tmps.size ((l.drop k).take n) = true)
    (hT : ∀ j b, S j b → segW md l.toArray j k n = true ∨ T b)
    (h : ∃ aF, (∀ γ : Gs T W, wpQuiet P l.toArray (fun w' => ∃ y : Ws γ, w' = y.w) (fun a' => a' = aF) ((l.drop k).take n) a) ∧ Wk S P md l.toArray Q r aF W) : Wk S P md l.toArray Q (sg k n ++ r) a W := by
  obtain ⟨aF, h1, h2⟩ := h
  have := Wk.steps (md := md) (Q := Q) (r := r) ((l.drop k).take n) k a (fun j hj => by
    rw [List.getElem?_take_of_lt (by omega), List.getElem?_drop, List.getElem?_toArray]) hB (fun i hi1 hi2 j oz hoz => by
      rw [hn] at hi2
      by_cases hw : segW md l.toArray j k n = true
      · exact .inl (segW_spec hw hoz i hi1 hi2)
      · exact .inr fun b hb => (hT j b hb).resolve_left hw) h1 h2
  rwa [hn] at this
set_option maxRecDepth 100000 in
/-- A call, whatever it answers. -/
theorem Wk.call {ops : Array Oper} {a : Act} {W : World} {r : List (Nat × Bool)} {k : Nat} {o : Oper} (hi : ops[k]? = some o) (hw : Region.wanted o (yielded ops a.tmps) = true) (f : FuncId) (args : Array Value)
    (hrun : ∀ w, (execOp a.eval o).run P w = .ok (.enter f args) w) (R : Value → World → Prop) (hc : ∀ w, Ex W w → Calls P f args w fun e w' => ∃ v, e = .returned v ∧ Ex w w' ∧ R v w')
    (h : ∀ v w', Ex W w' → R v w' → Wk S P md ops Q r (a.put o.dst v) w') : Wk S P md ops Q ((k, true) :: r) a W := by
  intro w hx
  unfold wpOp
  simp only [hi, hw, if_true]
  refine .inl ?_
  unfold Oper.wp
  rw [hrun, Oper.upon_enter]
  refine (hc w hx).mono fun e w' hh => ?_
  obtain ⟨v, rfl, h1, h2⟩ := hh
  exact ⟨Ks.Es.of h1, h v w' (hx.tr h1) h2⟩

end
set_option maxRecDepth 100000 in
/-- An operation that comes up alone, by a law of the walk in the text's order. -/
theorem Wk.one {P : Program} {md : Region.Mode} {Q : Act → World → Prop} {S : Nat → Nat → Prop} {ops : Array Oper} {a : Act} {W : World} {r : List (Nat × Bool)} {k : Nat} {o : Oper} (hi : ops[k]? = some o)
    (h : ∀ w, Ex W w → wpList P ops (fun e a' w' => e = .normal ∧ Es (S k) w w' ∧ Wk S P md ops Q r a' w') [o] a w) : Wk S P md ops Q ((k, true) :: r) a W :=
  fun w hx => Ks.wpOp_of_list hi (h w hx)
end Kj
end Go.Proofs.YtikdgjgcopjocaaDoor
namespace Go.Proofs.YtikdgjgcopjocaaDoor
open Go.RowKit
set_option linter.unusedVariables false
set_option linter.unusedSimpArgs false
/-- A string's value. -/
def str (l : List UInt8) : Value := .string ⟨l.toArray⟩
set_option maxRecDepth 100000 in
theorem str_cells (l : List UInt8) : (str l).cells = #[str l] := rfl
set_option maxRecDepth 100000 in
theorem str_oneg (l : List UInt8) : (str l).oneCell' = true := rfl
/-- Strings that lie behind an address. -/
def Sv (w : World) (a : Option Addr) (W : List (List UInt8)) : Prop := W = [] ∨ ∃ g off, a = some ⟨g, off, none⟩ ∧ ∀ (j : Nat) (x : List UInt8), W[j]? = some x → w.cell? ⟨g, off + j, none⟩ = some (str x)
set_option maxRecDepth 100000 in
theorem Sv.fr {w w2 : World} {a : Option Addr} {W : List (List UInt8)} {S : Nat → Prop} (h : Sv w a W) (F : Fr S w w2) (hS : ∀ k, inBlk a k → ¬ S k) : Sv w2 a W :=
  h.imp id fun ⟨g, off, e, hc⟩ => ⟨g, off, e, fun j x hx => F.cellSome (hS g ⟨_, e, rfl⟩) (hc j x hx)⟩
set_option maxRecDepth 100000 in
theorem Sv.ext {w w2 : World} {a : Option Addr} {W : List (List UInt8)} (h : Sv w a W) (F : Fr (fun _ => False) w w2) : Sv w2 a W := h.fr F (fun _ _ h => h)
set_option maxRecDepth 100000 in
theorem Sv.nil (w : World) (a : Option Addr) : Sv w a [] := Or.inl rfl
set_option maxRecDepth 100000 in
theorem Sv.take {w : World} {a : Option Addr} {W : List (List UInt8)} (h : Sv w a W) (k : Nat) : Sv w a (W.take k) := by
  rcases h with h | ⟨g, off, e, hc⟩
  · rw [h]; simp [Sv]
  · exact Or.inr ⟨g, off, e, fun j x hx => hc j x (by
      rw [List.getElem?_take] at hx
      split at hx
      · exact hx
      · cases hx)⟩
set_option maxRecDepth 100000 in
theorem Sv.drop {w : World} {g off : Nat} {W : List (List UInt8)} (h : Sv w (some ⟨g, off, none⟩) W) (k : Nat) : Sv w (some ⟨g, off + k, none⟩) (W.drop k) := by
  rcases h with h | ⟨g2, off2, e, hc⟩
  · rw [h]; simp [Sv]
  · cases e
    exact Or.inr ⟨g, off + k, rfl, fun j x hx => by
      have := hc (k + j) x (by rw [← List.getElem?_drop]; exact hx)
      rw [show off + k + j = off + (k + j) by omega]; exact this⟩
set_option maxRecDepth 100000 in
theorem Sv.at {w : World} {a : Option Addr} {W : List (List UInt8)} (h : Sv w a W) (h0 : 0 < W.length) : ∃ g off, a = some ⟨g, off, none⟩ := by
  rcases h with h1 | ⟨g, off, e, _⟩
  · rw [h1] at h0; simp at h0
  · exact ⟨g, off, e⟩
set_option maxRecDepth 100000 in
theorem Sv.cell {w : World} {g off : Nat} {W : List (List UInt8)} (h : Sv w (some ⟨g, off, none⟩) W) {k : Nat} {x : List UInt8} (hx : W[k]? = some x) : w.cell? ⟨g, off + k, none⟩ = some (str x) := by
  rcases h with h1 | ⟨g2, off2, e, hc⟩
  · rw [h1] at hx; simp at hx
  · cases e; exact hc k x hx
set_option maxRecDepth 100000 in
theorem rsum_str (l : List UInt8) (hl : l.length ≤ 1000000) (w : World) (hE : REnv w) : Calls Tryd.prog 12 #[str l] w fun e w' => e = .returned (str (S2.sum l)) ∧ Fr (fun _ => False) w w' := by
  refine (rsum_any ⟨l.toArray⟩ (by show l.toArray.size ≤ _; simp; omega) w hE).mono ?_
  rintro e w' ⟨rfl, F⟩
  exact ⟨by rw [sb_mk]; rfl, F⟩
set_option maxRecDepth 100000 in
theorem str_add (x y : List UInt8) (hx : x.length ≤ 1000000) (hy : y.length ≤ 1000000) (W : World) : (Op.stringOp .add ⟨x.toArray⟩ ⟨y.toArray⟩).run Tryd.prog W = .ok (str (x ++ y)) W := run_string_add_lists W x y (by omega) (by omega)
set_option maxRecDepth 100000 in
theorem REnv.ext {w w2 : World} (h : REnv w) (F : Fr (fun _ => False) w w2) : REnv w2 := h.fr F (fun h => h) (fun h => h)
set_option maxRecDepth 100000 in
theorem wrD (p : Nat) (h : p * 2 ≤ 9223372036854775807) : wrap64 ((p : Int) * 2) = ((p * 2 : Nat) : Int) := by rw [IntWalk.wrap64_in _ (by omega)]; omega
set_option maxRecDepth 100000 in
theorem half_meas {n p : Nat} (h : p < n - p) (h0 : 0 < p) (u : Int) (hu : u = ((p * 2 : Nat) : Int)) : n - u.toNat < n - ((p : Int)).toNat := by
  rw [hu, Int.toNat_natCast, Int.toNat_natCast]; omega
set_option maxRecDepth 100000 in
theorem hf_loop {n j : Nat} (h2 : 2 ≤ n) (hj : j ≤ Nat.log2 (n - 1)) : (2 ^ j < n - 2 ^ j ↔ j < Nat.log2 (n - 1)) ∧ 2 ^ j < n := by
  have h1 := Nat.log2_self_le (show n - 1 ≠ 0 by omega)
  have h3 := Nat.lt_log2_self (n := n - 1)
  have hp : 2 ^ j ≤ 2 ^ Nat.log2 (n - 1) := Nat.pow_le_pow_right (by decide) hj
  refine ⟨⟨fun h => ?_, fun h => ?_⟩, by omega⟩
  · rcases Nat.lt_or_ge j (Nat.log2 (n - 1)) with h4 | h4
    · exact h4
    · obtain rfl : j = Nat.log2 (n - 1) := by omega
      rw [Nat.pow_succ] at h3
      omega
  · have : 2 ^ (j + 1) ≤ 2 ^ Nat.log2 (n - 1) := Nat.pow_le_pow_right (by decide) h
    rw [Nat.pow_succ] at this
    omega
set_option maxRecDepth 100000 in
theorem lit12 (f : Nat → Value) : ((List.range 12).map f).toArray = (f 0 :: f 1 :: f 2 :: f 3 :: f 4 :: f 5 :: f 6 :: f 7 :: f 8 :: f 9 :: f 10 :: f 11 :: []).toArray := by kernel_rfl
set_option maxRecDepth 100000 in
theorem leaf_all (W : List (List UInt8)) : Lg.All32 (W.map Lg.leaf) := fun x hx => by obtain ⟨y, _, rfl⟩ := List.mem_map.1 hx; rfl
set_option maxRecDepth 100000 in
theorem mem_le_take {W : List (List UInt8)} {m : Nat} (h : ∀ x ∈ W, x.length ≤ m) (k : Nat) : (∀ x ∈ W.take k, x.length ≤ m) ∧ (∀ x ∈ W.drop k, x.length ≤ m) := ⟨fun x hx => h x (List.mem_of_mem_take hx), fun x hx => h x (List.mem_of_mem_drop hx)⟩
end Go.Proofs.YtikdgjgcopjocaaDoor
namespace Go.Proofs.YtikdgjgcopjocaaDoor
open Go.RowKit
set_option linter.unusedVariables false
set_option linter.unusedSimpArgs false
/-- A row of bytes, whatever they are, that may be written. -/
def Tw (w : World) (a : Option Addr) (n : Nat) : Prop := n = 0 ∨ ∃ g cs T fz, a = some ⟨g, 0, none⟩ ∧ w.heap[g]? = some (.cells cs T fz) ∧ (fz = (0, 0) ∨ n ≤ fz.1) ∧ ∀ j, j < n → ∃ y : UInt8, cs[j]? = some (.int .u8 (y.toNat : Int))
set_option maxRecDepth 100000 in
theorem Tw.fr {w w' : World} {a : Option Addr} {n : Nat} {S : Nat → Prop} (h : Tw w a n) (F : Fr S w w') (hS : ∀ k, ob a = some k → ¬ S k) : Tw w' a n := by
  rcases h with h | ⟨g, cs, T, fz, e, hg, r⟩
  · exact Or.inl h
  · exact Or.inr ⟨g, cs, T, fz, e, (F.block g (lt_of_block hg) (hS g (by rw [e]; rfl))).trans hg, r⟩
set_option maxRecDepth 100000 in
theorem Tw.at {w : World} {a : Option Addr} {n : Nat} (h : Tw w a n) (j : Nat) (hj : j < n) : ∃ (g : Nat) (y : UInt8), a = some ⟨g, 0, none⟩ ∧ g < w.heap.size ∧ w.cell? ⟨g, j, none⟩ = some (.int .u8 (y.toNat : Int)) ∧ w.frozen? ⟨g, j, none⟩ = false ∧ ∀ u : UInt8, Tw (w.setCell ⟨g, j, none⟩ (.int .u8 (u.toNat : Int))) a n := by
  rcases h with h | ⟨g, cs, T, fz, e, hg, hfz, hc⟩
  · omega
  · obtain ⟨y, hy⟩ := hc j hj
    refine ⟨g, y, e, lt_of_block hg, (cell_of_block hg j).trans hy, ?_, fun u => Or.inr ⟨g, cs.setIfInBounds j (.int .u8 (u.toNat : Int)), T, fz, e, block_setCellF hg j _, hfz, fun i hi => ?_⟩⟩
    · rcases hfz with e | e
      · subst e; simp [World.frozen?, hg]
      · simp [World.frozen?, hg]; omega
    · rw [Array.getElem?_setIfInBounds]
      by_cases e : j = i
      · subst e
        refine ⟨u, ?_⟩
        rw [if_pos rfl, if_pos (Array.getElem?_eq_some_iff.1 hy).1]
      · rw [if_neg e]; exact hc i hi
set_option maxRecDepth 100000 in
theorem Own.tw {w : World} {B n c : Nat} {a : Option Addr} {l : List UInt8} (h : Own w B (.slice a n c) l) (hn : n = l.length) : Tw w a n := by
  subst hn
  rcases h with ⟨e, e2⟩ | ⟨g, cap, cur, fz, e, hb, hg, hfz, hnc, hcm, hcs, ht⟩
  · left; rw [e2]; rfl
  · right
    injection e with e1 e2 e3
    refine ⟨g, cur, _, fz, e1, hg, ?_, fun j hj => ?_⟩
    · exact hfz.imp id (fun h => by omega)
    · have h1 : (cur.toList.take l.length)[j]? = (bv l)[j]? := by rw [ht]
      rw [List.getElem?_take_of_lt hj, bv_get' l j hj, Array.getElem?_toList] at h1
      exact ⟨l[j], h1⟩
set_option maxRecDepth 100000 in
theorem xor_byteg (x y : UInt8) : bits .xor .u8 (x.toNat : Int) (y.toNat : Int) = ((x ^^^ y).toNat : Int) := by
  have e1 : (BitVec.ofInt 8 (x.toNat : Int)).toNat = x.toNat := by have := x.toNat_lt; simp
  have e2 : (BitVec.ofInt 8 (y.toNat : Int)).toNat = y.toNat := by have := y.toNat_lt; simp
  show IntKind.u8.wrap ((BitVec.ofInt 8 (x.toNat : Int) ^^^ BitVec.ofInt 8 (y.toNat : Int)).toNat : Int) = _
  rw [BitVec.toNat_xor, e1, e2, UInt8.toNat_xor, IntKind.wrap_u8]
  have := Nat.xor_lt_two_pow (n := 8) x.toNat_lt y.toNat_lt
  omega
set_option maxRecDepth 100000 in
theorem lit53 (f : Nat → Value) : ((List.range 53).map f).toArray = (f 0 :: f 1 :: f 2 :: f 3 :: f 4 :: f 5 :: f 6 :: f 7 :: f 8 :: f 9 :: f 10 :: f 11 :: f 12 :: f 13 :: f 14 :: f 15 :: f 16 :: f 17 :: f 18 :: f 19 :: f 20 :: f 21 :: f 22 :: f 23 :: f 24 :: f 25 :: f 26 :: f 27 :: f 28 :: f 29 :: f 30 :: f 31 :: f 32 :: f 33 :: f 34 :: f 35 :: f 36 :: f 37 :: f 38 :: f 39 :: f 40 :: f 41 :: f 42 :: f 43 :: f 44 :: f 45 :: f 46 :: f 47 :: f 48 :: f 49 :: f 50 :: f 51 :: f 52 :: []).toArray := by kernel_rfl
set_option maxRecDepth 100000 in
theorem sInfo : ∃ ti z, Tryd.prog.info? 9 = some ti ∧ ti.zero = some z ∧ ti.size = 1 ∧ ti.bytes = 16 ∧ z.cells.size = 1 := ⟨_, .string ⟨#[]⟩, rfl, by kernel_rfl, by kernel_rfl, by kernel_rfl, by kernel_rfl⟩
/-- Strings of one's own. -/
def Os (w : World) (base : Nat) (v : Value) (W : List (List UInt8)) : Prop := w.ownsRow base 9 1 v W.length (W.map str)
set_option maxRecDepth 100000 in
theorem Os.nil (w : World) (base : Nat) : Os w base (.slice none 0 0) [] := World.ownsRow_nil _ _ _ _
set_option maxRecDepth 100000 in
theorem Os.snoc {w : World} {base : Nat} {v : Value} {W : List (List UInt8)} {x : List UInt8} (h : w.ownsRow base 9 1 v (W.length + 1) (W.map str ++ [str x])) : Os w base v (W ++ [x]) := by
  unfold Os; rw [List.length_append, List.map_append]; exact h
set_option maxRecDepth 100000 in
theorem Os.view {w : World} {base : Nat} {v : Value} {W : List (List UInt8)} (h : Os w base v W) : ∃ a c, v = .slice a W.length c ∧ W.length ≤ c ∧ c ≤ maxLen ∧ Sv w a W ∧ (∀ k, inBlk a k → v.ownBlock = some k) := by
  rcases h.2 with ⟨e, h0⟩ | ⟨g, cap, cur, e, hb, hg, hc, hm, hs, ht⟩
  · refine ⟨none, 0, by rw [e, h0], by omega, by unfold maxLen; omega, ?_, fun k hk => by obtain ⟨ad, h1, _⟩ := hk; cases h1⟩
    rw [List.eq_nil_of_length_eq_zero h0]; exact Sv.nil _ _
  · refine ⟨some ⟨g, 0, none⟩, cap, e, hc, hm, Or.inr ⟨g, 0, rfl, fun j x hx => ?_⟩, fun k hk => by obtain ⟨ad, h1, h2⟩ := hk; cases h1; rw [e, ← h2]; rfl⟩
    have hj := (List.getElem?_eq_some_iff.1 hx).1
    rw [Nat.zero_add, cell_of_block hg, ← Array.getElem?_toList]
    have h1 : (cur.toList.take (W.length * 1))[j]? = (W.map str)[j]? := by rw [ht]
    rw [List.getElem?_take_of_lt (by omega), List.getElem?_map, hx] at h1
    exact h1
set_option maxRecDepth 100000 in
theorem src_str {w : World} {b : Nat} {x : List UInt8} {t : TypeId} {fr : Nat × Nat} (h : w.heap[b]? = some (.cells #[str x] t fr)) : Src Tryd.prog 1 42 (.slice (some ⟨b, 0, none⟩) 1 1) 1 [str x] w :=
  Src.ofSlice _ Tryd.underlying42 ⟨b, 0, none⟩ 1 1 _ rfl (fun j u hj => by
    rw [Addr.add_mid, Nat.zero_add, cell_of_block h, ← Array.getElem?_toList]; exact hj) (fun u hu => by rw [List.mem_singleton.1 hu]; rfl)
set_option maxRecDepth 100000 in
theorem take_snoc' {LL : List (List UInt8)} {i K : Nat} (hl : LL.length = K) (hi : i < K) : LL.take (i + 1) = LL.take i ++ [LL.getD i []] := by
  rw [List.take_succ_eq_append_getElem (by omega), List.getD_eq_getElem?_getD, List.getElem?_eq_getElem (by omega)]; rfl
end Go.Proofs.YtikdgjgcopjocaaDoor
namespace Go.Proofs.YtikdgjgcopjocaaDoor
open Go.RowKit
set_option linter.unusedVariables false
set_option linter.unusedSimpArgs false
set_option maxRecDepth 100000 in
theorem mkS (x : List UInt8) (w : World) : (Instr.buildSlice 42 1 #[(0, str x)]).run Tryd.prog w = .ok (.slice (some ⟨w.heap.size, 0, none⟩) 1 1) (w.alloc (.cells #[str x] 9)) := by kernel_rfl
set_option maxRecDepth 100000 in
theorem mkS0 (w : World) : (Instr.buildSlice 42 0 #[]).run Tryd.prog w = .ok (.slice (some ⟨w.heap.size, 0, none⟩) 0 0) (w.alloc (.cells #[] 9)) := by kernel_rfl
set_option maxRecDepth 100000 in
theorem Os.empty {w : World} {b base : Nat} (h : w.heap[b]? = some (.cells #[] 9 (0, 0))) (hb : base ≤ b) : Os w base (.slice (some ⟨b, 0, none⟩) 0 0) [] := by
  refine ⟨rfl, .inr ⟨b, 0, #[], rfl, hb, h, Nat.le_refl _, by unfold maxLen; omega, rfl, rfl⟩⟩
set_option maxRecDepth 100000 in
theorem wD (i h : Nat) (hi : h ≤ i) (h9 : i ≤ 1000) : wrap64 ((i : Int) - (h : Int)) = ((i - h : Nat) : Int) := by rw [IntWalk.wrap64_in _ (by omega)]; omega
structure Nonempty2 (p : Prop) : Prop where
  h : p
end Go.Proofs.YtikdgjgcopjocaaDoor
namespace Go.Proofs.YtikdgjgcopjocaaDoor
open Go.RowKit
set_option linter.unusedVariables false
set_option linter.unusedSimpArgs false
set_option maxRecDepth 100000 in
theorem str_ne_same (l : List UInt8) (W : World) : (binOp .neq 9 (.string ⟨l.toArray⟩) (.string ⟨l.toArray⟩)).run Tryd.prog W = .ok (.bool false) W := by
  simp [binOp, Op.stringOp]
set_option maxRecDepth 100000 in
theorem Kv.one {w : World} {g off : Nat} {P : List (List UInt8)} (h : Kv w (some ⟨g, off, none⟩) P) {k : Nat} {x : List UInt8} (hx : P[k]? = some x) : Lies w (some ⟨g, off + k * 32, none⟩) x := by
  have hl := (h.drop k).lies
  have h32 := h.all x (List.mem_of_getElem? hx)
  have e : (P.drop k).flatten.take 32 = x := by
    have hk := (List.getElem?_eq_some_iff.1 hx).1
    rw [List.drop_eq_getElem_cons hk, List.flatten_cons, List.take_append_of_le_length (by rw [(List.getElem?_eq_some_iff.1 hx).2, h32]; exact Nat.le_refl _), (List.getElem?_eq_some_iff.1 hx).2, List.take_of_length_le (by omega)]
  have := hl.take 32
  rwa [e] at this
set_option maxRecDepth 100000 in
theorem lit21 (f : Nat → Value) : ((List.range 21).map f).toArray = (f 0 :: f 1 :: f 2 :: f 3 :: f 4 :: f 5 :: f 6 :: f 7 :: f 8 :: f 9 :: f 10 :: f 11 :: f 12 :: f 13 :: f 14 :: f 15 :: f 16 :: f 17 :: f 18 :: f 19 :: f 20 :: []).toArray := by kernel_rfl
set_option maxRecDepth 100000 in
theorem lit26 (f : Nat → Value) : ((List.range 26).map f).toArray = (f 0 :: f 1 :: f 2 :: f 3 :: f 4 :: f 5 :: f 6 :: f 7 :: f 8 :: f 9 :: f 10 :: f 11 :: f 12 :: f 13 :: f 14 :: f 15 :: f 16 :: f 17 :: f 18 :: f 19 :: f 20 :: f 21 :: f 22 :: f 23 :: f 24 :: f 25 :: []).toArray := by kernel_rfl
set_option maxRecDepth 100000 in
set_option maxHeartbeats 6400000 in
theorem texts_in {KK : Act → World → Prop} {Q : Exit → Act → World → Prop} {w : World} {a : Option Addr} {n c Z i : Nat} {u : Value} {P : List (List UInt8)} (hi : i < n) (hn9 : n ≤ 1000) (hPn : P.length = n) (hK : Kv w a P) (hO : Os w Z u (P.take i)) (hz : Z ≤ w.heap.size) (fr : Array Value) (hn : fr.size = 21) (p0 : fr[0]? = some (.slice a n c)) (p3 : fr[3]? = some (u)) (p4 : fr[4]? = some (.int .i64 (i : Int)))
    (hC : ∀ t' w' u', t'.size = 21 → t'[0]? = some (.slice a n c) → t'[3]? = some u' → t'[4]? = some (.int .i64 ((i + 1 : Nat) : Int)) → Os w' Z u' (P.take (i + 1)) → Fr (fun k => Z ≤ k) w w' → KK ⟨t', []⟩ w') :
    Code.wp Tryd.prog (loopAt Tryd.f17 0) (Exit.then KK Q) ⟨fr, []⟩ w := by
  obtain ⟨g, off, rfl⟩ := hK.at (by omega)
  have hlt : (P.take i).length = i := by rw [List.length_take, hPn]; exact Nat.min_eq_left (Nat.le_of_lt hi)
  obtain ⟨ti, z, hI⟩ := sInfo
  have HI := Lib.hid hI
  have q1 : (i : Int) < (n : Int) := by omega
  have q4 : (0 : Int) ≤ (i : Int) := Int.natCast_nonneg i
  obtain ⟨x, hx⟩ : ∃ x, x = P.getD i [] := ⟨_, rfl⟩
  have hxi : P[i]? = some x := by rw [hx, List.getD_eq_getElem?_getD, List.getElem?_eq_getElem (by omega)]; rfl
  have hone := hK.one hxi
  have h32 := hK.all x (List.mem_of_getElem? hxi)
  have hcv := run_str hone 32 9 Tryd.underlying9
  rw [h32] at hcv
  have W1 : wrap64 ((i : Int) + 1) = ((i + 1 : Nat) : Int) := by rw [IntWalk.wrap64_in _ (by omega)]; omega
  have HC := Lib.hid hC
  have HO := Lib.hid hO
  have HX := Lib.hid (And.intro hx (And.intro hPn (And.intro hi (And.intro hz hn9))))
  have HLT := Lib.hid hlt
  clear hC hO hx hPn hz hn9 hxi hone h32 hK hI hlt
  obtain ⟨f, hff, rfl⟩ := frame_open hn
  have e0 := hff 0 _ p0
  have e3 := hff 3 _ p3
  have e4 := hff 4 _ p4
  clear hff hn p0 p3 p4
  rw [lit21, e0, e3, e4]
  clear e0 e3 e4
  conv => arg 2; whnf
  go_wp2_with (first | (focus (refine wpList_buildSlice rfl 42 1 _ rfl #[(0, str x)] (by first | kernel_rfl | rfl | simp [Act.eval]) (mkS x w) ?_; (try simp only [Act.put, List.setIfInBounds_toArray, List.set_cons_zero, List.set_cons_succ]))) | (focus ((refine wpList_app _ rfl (.tmp 12) (.tmp 18) 42 42 rfl Z 9 ti z 1 16 Tryd.underlying42 HI.out.1 HI.out.2.1 HI.out.2.2.1 HI.out.2.2.2.1 HI.out.2.2.2.2 (by decide) u _ _ rfl (own_ext HO.out ((Fr.refl (fun _ => False) w).alloc (.cells #[str x] 9))) _ rfl 1 [str x] (src_str (heap_alloc_new _ _)) (by have := HLT.out; have := HX.out; unfold maxLen; omega) (by have := HLT.out; have := HX.out; omega) (by have := HX.out.2.2.2.1; have := ((Fr.refl (fun _ => False) w).alloc (.cells #[str x] 9)).size; omega) ?_); intro u2 w2 O2 G2 G2x; refine Hid.out ?_)))
  have hO2 : Os w2 Z u2 (P.take (i + 1)) := by
    rw [take_snoc' HX.out.2.1 HX.out.2.2.1, ← HX.out.1]
    exact Os.snoc O2
  have hF : Fr (fun k => Z ≤ k) w w2 := (((Fr.refl (fun _ => False) w).alloc (.cells #[str x] 9)).mono (T := fun k => Z ≤ k) (fun _ _ h => h.elim)).trans (Fr.ofGrown G2) (fun k h => .inl (ownsRow_lt HO.out k h).1)
  have H2 := Lib.hid (And.intro hO2 hF)
  clear hO2 hF O2 G2 G2x
  refine Lib.hid ?_
  (try simp only [Act.put, List.setIfInBounds_toArray, List.set_cons_zero, List.set_cons_succ])
  go_wp2_with fail
  exact HC.out _ _ u2 (by first | rfl | simp) rfl rfl (congrArg (fun z => some (Value.int .i64 z)) W1) H2.out.1 H2.out.2
set_option maxRecDepth 100000 in
set_option maxHeartbeats 6400000 in
theorem texts_end {KK : Act → World → Prop} {Q : Exit → Act → World → Prop} {w : World} {a : Option Addr} {n c : Nat} {u : Value} (fr : Array Value) (hn : fr.size = 21) (p0 : fr[0]? = some (.slice a n c)) (p3 : fr[3]? = some (u)) (p4 : fr[4]? = some (.int .i64 (n : Int)))
    (hQ : ∀ t', t'.size = 21 → t'[0]? = some (.slice a n c) → t'[3]? = some (u) → Q (.exit 0) ⟨t', []⟩ w) :
    Code.wp Tryd.prog (loopAt Tryd.f17 0) (Exit.then KK Q) ⟨fr, []⟩ w := by
  have q2 : ¬ ((n : Int) < (n : Int)) := by omega
  have q2b : ¬ (n < n) := by omega
  have HK := Lib.hid hQ
  clear hQ
  obtain ⟨f, hff, rfl⟩ := frame_open hn
  have e0 := hff 0 _ p0
  have e3 := hff 3 _ p3
  have e4 := hff 4 _ p4
  clear hff hn p0 p3 p4
  rw [lit21, e0, e3, e4]
  clear e0 e3 e4
  conv => arg 2; whnf
  go_wp2_with fail
  exact HK.out _ (by first | rfl | simp) rfl rfl
set_option maxRecDepth 100000 in
set_option maxHeartbeats 6400000 in
theorem texts_any (a : Option Addr) (c n : Nat) (P : List (List UInt8)) (hPn : P.length = n) (hn9 : n ≤ 1000) (w : World) (hK : Kv w a P) : Calls Tryd.prog 17 #[.slice a n c] w fun e w' => (∃ v, e = .returned v ∧ Os w' w.heap.size v P) ∧ Fr (fun _ => False) w w' := by
  have HK := Lib.hid hK
  have HN := Lib.hid (And.intro hPn hn9)
  clear hK hPn hn9
  go_enter Tryd.func17, Tryd.ntmps17
  go_wp2_with (focus (refine wpList_buildSlice rfl 42 0 _ rfl #[] (by first | kernel_rfl | rfl | simp [Act.eval]) (mkS0 w) ?_; (try simp only [Act.put, List.setIfInBounds_toArray, List.set_cons_zero, List.set_cons_succ])))
  have F0 := (Fr.refl (fun _ => False) w).alloc (.cells #[] 9)
  have HO := Lib.hid (Os.empty (heap_alloc_new w (.cells #[] 9)) (Nat.le_refl _))
  have HF0 := Lib.hid F0
  generalize (w.alloc (.cells #[] 9)) = w1 at *
  clear F0
  refine wp_loop_up n (fun i t w' => ∃ u, t.size = 21 ∧ t[0]? = some (.slice a n c) ∧ t[3]? = some u ∧ t[4]? = some (.int .i64 (i : Int)) ∧ Os w' w.heap.size u (P.take i) ∧ Fr (fun _ => False) w w') _ w1 ⟨_, by first | rfl | simp, rfl, rfl, rfl, by rw [List.take_zero]; exact HO.out, HF0.out⟩ ?_
  rintro i t w2 hi ⟨u, hn, p0, p3, p4, hO2, F2⟩ KK hKK
  by_cases hlt : i < n
  · exact texts_in hlt HN.out.2 HN.out.1 (HK.out.ext F2) hO2 F2.size t hn p0 p3 p4 (fun t' w3 u3 b0 b1 b2 b3 b4 b5 => hKK t' w3 hlt ⟨u3, b0, b1, b2, b3, b4, F2.trans b5 (fun k h => .inr h)⟩)
  · have : i = n := by omega
    subst this
    rw [List.take_of_length_le (by have := HN.out.1; omega)] at hO2
    refine texts_end t hn p0 p3 p4 (fun t' hn p0 p3 => ?_)
    have H2 := Lib.hid (And.intro hO2 F2)
    clear hKK hO2 F2
    obtain ⟨f, hff, rfl⟩ := frame_open hn
    have e0 := hff 0 _ p0
    have e3 := hff 3 _ p3
    clear hff hn p0 p3
    rw [lit21, e0, e3]
    clear e0 e3
    go_wp2_with fail
    go_ret
    exact ⟨⟨_, rfl, H2.out.1⟩, H2.out.2⟩
set_option maxRecDepth 100000 in
set_option maxHeartbeats 6400000 in
theorem same_in {KK : Act → World → Prop} {Q : Exit → Act → World → Prop} {w : World} {a a2 : Option Addr} {n c c2 i : Nat} {P : List (List UInt8)} (hi : i < n) (hn9 : n ≤ 1000) (hPn : P.length = n) (hS : Sv w a P) (hS2 : Sv w a2 P) (fr : Array Value) (hn : fr.size = 26) (p0 : fr[0]? = some (.slice a n c)) (p1 : fr[1]? = some (.slice a2 n c2)) (p5 : fr[5]? = some (.int .i64 (i : Int)))
    (hC : ∀ t' w', t'.size = 26 → t'[0]? = some (.slice a n c) → t'[1]? = some (.slice a2 n c2) → t'[5]? = some (.int .i64 ((i + 1 : Nat) : Int)) → Fr (fun _ => False) w w' → KK ⟨t', []⟩ w') :
    Code.wp Tryd.prog (loopAt Tryd.f18 0) (Exit.then KK Q) ⟨fr, []⟩ w := by
  obtain ⟨g, off, rfl⟩ := hS.at (by omega)
  obtain ⟨g2, off2, rfl⟩ := hS2.at (by omega)
  have q1 : (i : Int) < (n : Int) := by omega
  have q4 : (0 : Int) ≤ (i : Int) := Int.natCast_nonneg i
  obtain ⟨x, hx⟩ : ∃ x, x = P.getD i [] := ⟨_, rfl⟩
  have hxi : P[i]? = some x := by rw [hx, List.getD_eq_getElem?_getD, List.getElem?_eq_getElem (by omega)]; rfl
  have H1 := Lib.hid (And.intro hS hS2)
  have k1 : ∀ y : Wd w, y.w.cell? ⟨g, off + i, none⟩ = some (.string ⟨x.toArray⟩) := fun y => (H1.out.1.ext y.h).cell hxi
  have k2 : ∀ y : Wd w, y.w.cell? ⟨g2, off2 + i, none⟩ = some (.string ⟨x.toArray⟩) := fun y => (H1.out.2.ext y.h).cell hxi
  have k3 : ∀ W : World, (binOp .neq 9 (.string ⟨x.toArray⟩) (.string ⟨x.toArray⟩)).run Tryd.prog W = .ok (.bool false) W := fun W => str_ne_same _ W
  have W1 : wrap64 ((i : Int) + 1) = ((i + 1 : Nat) : Int) := by rw [IntWalk.wrap64_in _ (by omega)]; omega
  have HC := Lib.hid hC
  clear hC hS hS2 hPn hn9 hx hxi
  obtain ⟨f, hff, rfl⟩ := frame_open hn
  have e0 := hff 0 _ p0
  have e1 := hff 1 _ p1
  have e5 := hff 5 _ p5
  clear hff hn p0 p1 p5
  rw [lit26, e0, e1, e5]
  clear e0 e1 e5
  conv => arg 2; whnf
  go_wp2_with fail
  refine wp_region_keep (by kernel_rfl) (by kernel_rfl) ?_
  repeat (any_goals (first | go_big_quiet_step (fail) | quiet_step (fail)))
  refine wpQuiet_nil ?_
  intro _ hwz
  obtain ⟨y, rfl⟩ := hwz
  go_wp2_with fail
  exact HC.out _ _ (by first | rfl | simp) rfl rfl (congrArg (fun z => some (Value.int .i64 z)) (show wrap64 ((i : Int) + 1) = ((i + 1 : Nat) : Int) from W1)) y.h
set_option maxRecDepth 100000 in
set_option maxHeartbeats 6400000 in
theorem same_end {KK : Act → World → Prop} {Q : Exit → Act → World → Prop} {w : World} {a a2 : Option Addr} {n c c2 : Nat} (fr : Array Value) (hn : fr.size = 26) (p0 : fr[0]? = some (.slice a n c)) (p1 : fr[1]? = some (.slice a2 n c2)) (p5 : fr[5]? = some (.int .i64 (n : Int)))
    (hQ : ∀ t', t'.size = 26 → Q (.exit 0) ⟨t', []⟩ w) :
    Code.wp Tryd.prog (loopAt Tryd.f18 0) (Exit.then KK Q) ⟨fr, []⟩ w := by
  have q2 : ¬ ((n : Int) < (n : Int)) := by omega
  have q2b : ¬ (n < n) := by omega
  have HK := Lib.hid hQ
  clear hQ
  obtain ⟨f, hff, rfl⟩ := frame_open hn
  have e0 := hff 0 _ p0
  have e1 := hff 1 _ p1
  have e5 := hff 5 _ p5
  clear hff hn p0 p1 p5
  rw [lit26, e0, e1, e5]
  clear e0 e1 e5
  conv => arg 2; whnf
  go_wp2_with fail
  exact HK.out _ (by first | rfl | simp)
set_option maxRecDepth 100000 in
set_option maxHeartbeats 6400000 in
theorem same_eq (a a2 : Option Addr) (c c2 n : Nat) (P : List (List UInt8)) (hPn : P.length = n) (hn9 : n ≤ 1000) (w : World) (hS : Sv w a P) (hS2 : Sv w a2 P) : Calls Tryd.prog 18 #[.slice a n c, .slice a2 n c2] w fun e w' => e = .returned (.bool true) ∧ Fr (fun _ => False) w w' := by
  have HK := Lib.hid (And.intro hS hS2)
  have HN := Lib.hid (And.intro hPn hn9)
  clear hS hS2 hPn hn9
  go_enter Tryd.func18, Tryd.ntmps18
  go_wp2_with fail
  refine wp_loop_up n (fun i t w' => t.size = 26 ∧ t[0]? = some (.slice a n c) ∧ t[1]? = some (.slice a2 n c2) ∧ t[5]? = some (.int .i64 (i : Int)) ∧ Fr (fun _ => False) w w') _ w ⟨by first | rfl | simp, rfl, rfl, rfl, Fr.refl _ _⟩ ?_
  rintro i t w2 hi ⟨hn, p0, p1, p5, F2⟩ KK hKK
  by_cases hlt : i < n
  · exact same_in hlt HN.out.2 HN.out.1 (HK.out.1.ext F2) (HK.out.2.ext F2) t hn p0 p1 p5 (fun t' w3 b0 b1 b2 b3 b4 => hKK t' w3 hlt ⟨b0, b1, b2, b3, F2.trans b4 (fun _ h => h.elim)⟩)
  · have : i = n := by omega
    subst this
    refine same_end t hn p0 p1 p5 (fun t' hn => ?_)
    have H2 := Lib.hid F2
    clear hKK F2
    obtain ⟨f, hff, rfl⟩ := frame_open hn
    clear hff hn 
    rw [lit26]
    go_wp2_with fail
    go_ret
    exact ⟨rfl, H2.out⟩
end Go.Proofs.YtikdgjgcopjocaaDoor
namespace Go.Proofs.YtikdgjgcopjocaaDoor
open Go.ChangeShapes Go.WideShapes Go.ChangeAt Go.RowKit
set_option linter.unusedVariables false

section
variable {H : Type} {enc : TypeId × Value → H} {W : World} {base : Nat} {v : Value} {d : DataW H} {p : List MemPlace}
set_option maxRecDepth 100000 in
theorem cells_row32 {n : Nat} {cs : List Value} {y : DataW H × List MemPlace} (hf : DataW.trod enc Tryd.prog W 0 (fun _ => true) true n 23 cs = some y) : ∃ l : List UInt8, cs = bv l ∧ l.length = 32 := by
  have A : WideMaps.ArrKey Tryd.prog 23 5 32 := ⟨Tryd.underlying23, by kernel_rfl, by kernel_rfl, by kernel_rfl⟩
  have hce : Tryd.prog.cellsOf 5 = 1 := A.one
  have hct : Tryd.prog.cellsOf 23 = 32 := A.size
  cases n with
  | zero => simp [DataW.trod] at hf
  | succ fuel =>
    simp only [DataW.trod, A.hu, hce, hct, Nat.mul_one] at hf
    split at hf
    · rename_i hlen
      obtain ⟨xs, hm, hx⟩ := Option.map_eq_some_iff.1 hf
      have key : ∀ i, i < 32 → ∃ y : UInt8, cs[i]? = some (.int .u8 (y.toNat : Int)) := by
        intro i hi
        obtain ⟨b, hb, hf2⟩ := Lib.mapM_at hm i i (by simp [hi])
        obtain ⟨z, hc, _, hwf⟩ := DataW.trod_int Tryd.underlying5 hf2
        have hb8 := bounds_u8 hwf
        refine ⟨UInt8.ofNat z.toNat, ?_⟩
        have h2 : cs[i]? = some (.int .u8 z) := by
          have := congrArg (·[0]?) hc
          simpa [List.getElem?_take, List.getElem?_drop] using this
        rw [h2]
        congr 2
        have : (UInt8.ofNat z.toNat).toNat = z.toNat % 256 := rfl
        omega
      obtain ⟨f, hf⟩ : ∃ f : Nat → UInt8, ∀ j, j < 32 → cs[j]? = some (.int .u8 ((f j).toNat : Int)) := ⟨fun i => if h : i < 32 then Classical.choose (key i h) else 0, fun j hj => by
        simp only [dif_pos hj]; exact Classical.choose_spec (key j hj)⟩
      refine ⟨(List.range 32).map f, ?_, by simp⟩
      apply List.ext_getElem?
      intro j
      by_cases hj : j < 32
      · rw [hf j hj, bv_get]; simp [hj]
      · rw [List.getElem?_eq_none (by omega), List.getElem?_eq_none (by simp; omega)]
    · cases hf
set_option maxRecDepth 100000 in
theorem trod_struct6 {P : Program} {w : World} {b : Nat} {spare : Nat → Bool} {held : Bool} {t : TypeId} {f0 f1 f2 f3 f4 f5 : Field} {fuel : Nat} {cs : List Value} {x : DataW H × List MemPlace} (ht : P.underlying t = some (.struct #[f0, f1, f2, f3, f4, f5])) (h : DataW.trod enc P w b spare held fuel t cs = some x) :
    ∃ y0 y1 y2 y3 y4 y5 n, cs.length = P.cellsOf t ∧ DataW.trod enc P w b spare held n f0.type ((cs.drop f0.offset).take (P.cellsOf f0.type)) = some y0 ∧ DataW.trod enc P w b spare held n f1.type ((cs.drop f1.offset).take (P.cellsOf f1.type)) = some y1 ∧
      DataW.trod enc P w b spare held n f2.type ((cs.drop f2.offset).take (P.cellsOf f2.type)) = some y2 ∧ DataW.trod enc P w b spare held n f3.type ((cs.drop f3.offset).take (P.cellsOf f3.type)) = some y3 ∧
      DataW.trod enc P w b spare held n f4.type ((cs.drop f4.offset).take (P.cellsOf f4.type)) = some y4 ∧ DataW.trod enc P w b spare held n f5.type ((cs.drop f5.offset).take (P.cellsOf f5.type)) = some y5 := by
  obtain ⟨xs, n, _, rfl, hl, hlen, hf⟩ := DataW.trod_struct ht h
  match xs, hlen with
  | [y0, y1, y2, y3, y4, y5], _ => exact ⟨y0, y1, y2, y3, y4, y5, n, hl, by simpa using hf 0 f0 rfl, by simpa using hf 1 f1 rfl, by simpa using hf 2 f2 rfl, by simpa using hf 3 f3 rfl, by simpa using hf 4 f4 rfl, by simpa using hf 5 f5 rfl⟩
set_option maxRecDepth 100000 in
theorem cells_rows32 {n : Nat} {cs : List Value} {y : DataW H × List MemPlace} (hf : DataW.trod enc Tryd.prog W 0 (fun _ => true) true n 32 cs = some y) :
    ∃ a m c P, cs = [.slice a m c] ∧ P.length = m ∧ m ≤ c ∧ c ≤ maxLen ∧ Kv W a P := by
  have c32 : Tryd.prog.cellsOf 23 = 32 := by kernel_rfl
  rcases Deep.open_slice Tryd.underlying32 hf with ⟨hcs, hx⟩ | ⟨a, len, cap, m, n, D, Pl, hcs, hb, hl, hm, hmm, hx, hc⟩
  · exact ⟨none, 0, 0, [], hcs, rfl, Nat.le_refl _, Nat.zero_le _, Kv.nil _ _⟩
  · simp only [if_true] at hmm
    rw [c32] at hc
    have each : ∀ i, ∃ x : List UInt8, i < len → W.cells? 0 (a.add (i * 32)) 32 = some (bv x) ∧ x.length = 32 := fun i => by
      by_cases hi : i < len
      · obtain ⟨cs', h1, h2⟩ := hc i (by omega)
        obtain ⟨x, e, hk⟩ := cells_row32 h2
        exact ⟨x, fun _ => ⟨by rw [h1, e], hk⟩⟩
      · exact ⟨[], fun h => absurd h hi⟩
    obtain ⟨B, hB⟩ := Classical.axiomOfChoice each
    have hall : Lg.All32 ((List.range len).map B) := fun x hx => by
      obtain ⟨j, hj, rfl⟩ := List.mem_map.1 hx
      exact (hB j (by simpa using hj)).2
    refine ⟨some a, len, cap, (List.range len).map B, hcs, by simp, hl, hm, ?_, hall⟩
    by_cases h0 : len = 0
    · subst h0; exact Or.inl rfl
    · refine Or.inr ?_
      have hs0 := ((World.cells?_some (hB 0 (by omega)).1).2.2 0 (by decide)).trans (bv_get' _ 0 (by rw [(hB 0 (by omega)).2]; decide))
      obtain ⟨ab, ao, spot⟩ := a
      have hspot : spot = none := by simpa [Addr.add] using World.cell?_spot hs0
      subst hspot
      refine ⟨ab, ao, rfl, fun j hj => ?_⟩
      have hfl := hall.flat
      rw [hfl] at hj
      simp only [List.length_map, List.length_range] at hj
      have hq : j / 32 < len := by omega
      have hr : j % 32 < 32 := Nat.mod_lt _ (by decide)
      obtain ⟨h4, hx32⟩ := hB (j / 32) hq
      have hs := (World.cells?_some h4).2.2 (j % 32) hr
      have hat := hall.at (k := j / 32) (x := B (j / 32)) (by simp [hq]) (j % 32) hr
      rw [show j / 32 * 32 + j % 32 = j by omega] at hat
      rw [show (bv (B (j / 32)))[j % 32]? = some (.int .u8 ((B (j / 32))[j % 32]'(by omega)).toNat) from bv_get' _ _ (by omega)] at hs
      rw [List.getElem?_eq_getElem (by omega), List.getElem?_eq_getElem (by rw [hx32]; omega)] at hat
      rw [Option.some.inj hat]
      rw [Addr.add_mid, Addr.add_mid, Nat.add_assoc, show j / 32 * 32 + j % 32 = j by omega] at hs
      exact hs
/-- A claim's 68 cells. -/
def claimRow (i n : Int) (s : Value) (old root : List UInt8) (b : Value) : Array Value := (.int .i64 i :: .int .i64 n :: s :: (bv old ++ (bv root ++ [b]))).toArray
end
end Go.Proofs.YtikdgjgcopjocaaDoor
namespace Go.Proofs.YtikdgjgcopjocaaDoor
open Go.RowKit
set_option linter.unusedVariables false
set_option linter.unusedSimpArgs false
namespace Ks
set_option maxRecDepth 100000 in
theorem Wk.seqs {S : Nat → Prop} {P : Program} {md : Region.Mode} {ops : Array Oper} {Q : Act → World → Prop} {fuel : Nat} (hs : Region.noSelect ops = true) : ∀ (l : List (Nat × Bool)) (listed : Array Bool) (a : Act) (w : World), okC md ops l listed = true →
    Wk S P md ops (fun a w => wpM S P md ops Q fuel (marks l listed) a w) l a w → wpM S P md ops Q (fuel + l.length) listed a w
  | [], _, _, w, _, h => h w (Fr.refl _ w)
  | (k, false) :: r, listed, a, w, hB, h => by
    obtain ⟨o, v, h0, hy, hk⟩ := h
    simp only [okC, Bool.and_eq_true] at hB
    obtain ⟨⟨hr, hf⟩, hB'⟩ := hB
    exact wpM_first h0 (Region.noSelect_spec hs) (fuel + r.length) listed a w (Region.free_spec h0 hf) (by simpa using hr) hy (Wk.seqs hs r _ _ w hB' hk)
  | (k, true) :: r, listed, a, w, hB, h => by
    simp only [okC, Bool.and_eq_true, beq_iff_eq] at hB
    refine ⟨fun h0 => (by rw [hB.1] at h0; cases h0), fun i hi w' hx => ?_⟩
    rw [hB.1] at hi
    obtain rfl : i = k := by simpa using hi
    exact wpOp_mono (fun a'' w'' ⟨h1, h2⟩ => ⟨h1, Wk.seqs hs r _ a'' w'' hB.2 h2⟩) (h w' hx)
set_option maxRecDepth 100000 in
theorem wp_region_part (S : Nat → Prop) {P : Program} {id : Nat} {Q : Exit → Act → World → Prop} {a : Act} {W0 : World} {l : List Oper} (π : List (Nat × Bool)) (n : Nat) (L2 : Array Bool) (hm : P.follows .mixedOrders = true)
    (hB : (Region.noSelect l.toArray && okC .any l.toArray π (Array.replicate l.length false) && (l.length == n + π.length) && (marks π (Array.replicate l.length false) == L2)) = true)
    (h : Wk S P .any l.toArray (fun a w => wpM S P .any l.toArray (fun a w => Q .normal a w) n L2 a w) π a W0) : (Code.region id l.toArray true).wp P Q a W0 := by
  simp only [Bool.and_eq_true, beq_iff_eq] at hB
  obtain ⟨⟨⟨h1, h2⟩, h3⟩, rfl⟩ := hB
  refine wp_region_any hm ?_
  have := wpM.up _ _ _ _ _ ((Fr.refl (fun _ => False) W0).drew) (Wk.seqs h1 π _ a W0 h2 h)
  rw [← h3] at this
  have h4 := wpAny_of_M (Q' := Q) (fun _ _ h => h) _ _ _ _ this
  simpa using h4
set_option maxRecDepth 100000 in
/-- One alone may come up now. -/
theorem wpM.only {S : Nat → Prop} {P : Program} {md : Region.Mode} {ops : Array Oper} {Q : Act → World → Prop} {L : Array Bool} {a : Act} {w : World} (k : Nat) (n : Nat) (L2 : Array Bool) {o : Oper} (hi : ops[k]? = some o) (hB : (Region.ready md ops L == [k] && L.setIfInBounds k true == L2) = true)
    (h : ∀ w', Ex w w' → wpList P ops (fun e a'' w'' => e = .normal ∧ Es S w' w'' ∧ wpM S P md ops Q n L2 a'' w'') [o] a w') : wpM S P md ops Q (n + 1) L a w := by
  simp only [Bool.and_eq_true, beq_iff_eq] at hB
  obtain ⟨h1, rfl⟩ := hB
  refine ⟨fun h0 => (by rw [h0] at h1; simp at h1), fun i hI w' hx => ?_⟩
  rw [h1] at hI
  obtain rfl : i = k := by simpa using hI
  exact wpOp_of_list hi (h w' hx)
set_option maxRecDepth 100000 in
/-- Two may come up now. -/
theorem wpM.two {S : Nat → Prop} {P : Program} {md : Region.Mode} {ops : Array Oper} {Q : Act → World → Prop} {L : Array Bool} {a : Act} {w : World} (k j : Nat) (n : Nat) (L2 L3 : Array Bool) {o o2 : Oper} (hi : ops[k]? = some o) (hj : ops[j]? = some o2) (hB : (Region.ready md ops L == [k, j] && L.setIfInBounds k true == L2 && L.setIfInBounds j true == L3) = true)
    (h : ∀ w', Ex w w' → wpList P ops (fun e a'' w'' => e = .normal ∧ Es S w' w'' ∧ wpM S P md ops Q n L2 a'' w'') [o] a w')
    (h2 : ∀ w', Ex w w' → wpList P ops (fun e a'' w'' => e = .normal ∧ Es S w' w'' ∧ wpM S P md ops Q n L3 a'' w'') [o2] a w') : wpM S P md ops Q (n + 1) L a w := by
  simp only [Bool.and_eq_true, beq_iff_eq] at hB
  obtain ⟨⟨h1, rfl⟩, rfl⟩ := hB
  refine ⟨fun h0 => (by rw [h0] at h1; simp at h1), fun i hI w' hx => ?_⟩
  rw [h1] at hI
  rcases (show i = k ∨ i = j by simpa using hI) with rfl | rfl
  · exact wpOp_of_list hi (h w' hx)
  · exact wpOp_of_list hj (h2 w' hx)
set_option maxRecDepth 100000 in
theorem wpM.last {S : Nat → Prop} {P : Program} {md : Region.Mode} {ops : Array Oper} {Q : Act → World → Prop} {L : Array Bool} {a : Act} {w : World} (l : List (Nat × Bool)) (m : Nat) (hB : (Region.noSelect ops && okB md ops l L && (m == l.length)) = true)
    (h : Wk S P md ops Q l a w) : wpM S P md ops Q m L a w := by
  simp only [Bool.and_eq_true, beq_iff_eq] at hB
  obtain ⟨⟨h1, h2⟩, rfl⟩ := hB
  exact Wk.M h1 l L a w h2 h
end Ks
/-- A byte of one of the rows, changed. -/
def setb (P : List (List UInt8)) (k j : Nat) (b : UInt8) : List (List UInt8) := P.set k ((P.getD k []).set j b)
set_option maxRecDepth 100000 in
theorem setb_len (P : List (List UInt8)) (k j : Nat) (b : UInt8) : (setb P k j b).length = P.length := by simp [setb]
set_option maxRecDepth 100000 in
theorem setb_all {P : List (List UInt8)} (h : Lg.All32 P) (k j : Nat) (b : UInt8) : Lg.All32 (setb P k j b) := fun x hx => by
  rcases List.mem_or_eq_of_mem_set hx with h1 | h1
  · exact h x h1
  · by_cases hk : k < P.length
    · rw [h1, List.length_set, List.getD_eq_getElem?_getD, List.getElem?_eq_getElem hk]; exact h _ (List.getElem_mem _)
    · unfold setb at hx
      rw [List.set_eq_of_length_le (by omega)] at hx
      exact h x hx
set_option maxRecDepth 100000 in
theorem setb_flat (b : UInt8) (j : Nat) (hj : j < 32) : ∀ (P : List (List UInt8)) (k : Nat), Lg.All32 P → k < P.length → (setb P k j b).flatten = P.flatten.set (k * 32 + j) b
  | [], k, _, hk => by simp at hk
  | x :: P, 0, h, _ => by
    have hx : x.length = 32 := h x (by simp)
    show (x.set j b) ++ P.flatten = (x ++ P.flatten).set (0 * 32 + j) b
    rw [List.set_append_left _ _ (by omega), show 0 * 32 + j = j by omega]
  | x :: P, k + 1, h, hk => by
    have hx : x.length = 32 := h x (by simp)
    have ih := setb_flat b j hj P k (fun y hy => h y (by simp [hy])) (by simpa using hk)
    show x ++ (setb P k j b).flatten = (x ++ P.flatten).set ((k + 1) * 32 + j) b
    rw [List.set_append_right _ _ (by omega), ih, hx, show (k + 1) * 32 + j - 32 = k * 32 + j by omega]
set_option maxRecDepth 100000 in
theorem bv_sets (l : List UInt8) (i : Nat) (y : UInt8) : (bv l).set i (.int .u8 (y.toNat : Int)) = bv (l.set i y) := by simp [bv, List.map_set]
set_option maxRecDepth 100000 in
theorem wpList_store_own32 {ops : Array Oper} {rest : List Oper} {o : Oper} {a : Act} {w : World} {Q : Exit → Act → World → Prop} (hgd : o.guard = none) (x y : Operand) (ho : o.op = .store 5 x y)
    (g n c Z k j : Nat) (P : List (List UInt8)) (b : UInt8) (h32 : Lg.All32 P) (hP : P.length = n) (hk : k < n) (hj : j < 32) (hO : Or32 w Z (.slice (some ⟨g, 0, none⟩) n c) P) (hx : a.eval x = .pointer (some ⟨g, k * 32 + j, none⟩)) (hy : a.eval y = .int .u8 (b.toNat : Int))
    (h : ∀ w2 : World, Or32 w2 Z (.slice (some ⟨g, 0, none⟩) n c) (setb P k j b) → Fr (fun i => i = g) w w2 → wpList Tryd.prog ops Q rest (a.put o.dst undef) w2) : wpList Tryd.prog ops Q (o :: rest) a w := by
  rcases hO.2 with ⟨e, h0⟩ | ⟨g2, cap, cur, e, hb, hg, hc, hm, hs, ht⟩
  · cases e
  · cases e
    have hfl := h32.flat
    have hoff : k * 32 + j < cur.size := by rw [hs]; have := Nat.mul_le_mul_right 32 (show k + 1 ≤ c by omega); omega
    refine wpList_store_int hgd 5 x y ho g (k * 32 + j) hx .u8 _ hy (by kernel_rfl) 23 cur hg hoff fun w2 h2 F2 => h w2 ?_ F2
    refine ⟨by rw [bv_length, setb_flat b j hj P k h32 (by omega), List.length_set, hfl, setb_len], .inr ⟨g, c, _, by rw [setb_len, hP], hb, h2, by rw [setb_len]; exact hc, hm, by rw [Array.size_setIfInBounds]; exact hs, ?_⟩⟩
    rw [Array.toList_setIfInBounds, setb_len, List.take_set, ht, bv_sets, setb_flat b j hj P k h32 (by omega)]
/-- Two rows of one's own, apart from each other. -/
structure Two (w : World) (Z : Nat) (vp vq : Value) (P Q : List (List UInt8)) : Prop where
  p : Or32 w Z vp P
  q : Or32 w Z vq Q
  ap : ∀ k, vp.ownBlock = some k → vq.ownBlock ≠ some k
set_option maxRecDepth 100000 in
theorem Two.ext {w w' : World} {Z : Nat} {vp vq : Value} {P Q : List (List UInt8)} (h : Two w Z vp vq P Q) (F : Fr (fun _ => False) w w') : Two w' Z vp vq P Q := ⟨own_ext h.p F, own_ext h.q F, h.ap⟩
set_option maxRecDepth 100000 in
theorem Two.swap {w : World} {Z : Nat} {vp vq : Value} {P Q : List (List UInt8)} (h : Two w Z vp vq P Q) : Two w Z vq vp Q P := ⟨h.q, h.p, fun k h1 h2 => h.ap k h2 h1⟩
set_option maxRecDepth 100000 in
theorem Two.app {w w' : World} {Z : Nat} {vp vq v : Value} {P Q : List (List UInt8)} {r : List UInt8} (h : Two w Z vp vq P Q) (O : w'.ownsRow Z 23 32 v (P.length + 1) (bv P.flatten ++ bv r)) (G : w.grownBy w' vp.ownBlock) (hb : v.ownBlock = vp.ownBlock ∨ v.ownBlock = some w.heap.size) : Two w' Z v vq (P ++ [r]) Q :=
  ⟨Or32.snoc O, own_fr h.q (Fr.ofGrown G) (fun k hk hs => h.ap k hs hk), fun k hk hq => by
    rcases hb with hb | hb
    · exact h.ap k (by rw [← hb]; exact hk) hq
    · have h1 := (ownsRow_lt h.q k hq).2
      rw [hb] at hk
      have := Option.some.inj hk
      omega⟩
set_option maxRecDepth 100000 in
theorem Two.set {w w' : World} {Z g n c : Nat} {vq : Value} {P Q : List (List UInt8)} {P' : List (List UInt8)} (h : Two w Z (.slice (some ⟨g, 0, none⟩) n c) vq P Q) (O : Or32 w' Z (.slice (some ⟨g, 0, none⟩) n c) P') (F : Fr (fun i => i = g) w w') : Two w' Z (.slice (some ⟨g, 0, none⟩) n c) vq P' Q :=
  ⟨O, own_fr h.q F (fun k hk hs => h.ap k (by rw [hs]; rfl) hk), h.ap⟩
end Go.Proofs.YtikdgjgcopjocaaDoor

/-
  Regions that draw their order, whose operations and callees leave all that was there as it was, whatever they answer: one walk in an order of one's own serves every order. Plain: of no program.
-/
import Derived.Test.YtndakfanlgilmaaDoorKt
namespace Go.Proofs.YtndakfanlgilmaaDoor
open Go.RowKit
set_option linter.unusedVariables false

abbrev Ex (w w' : World) : Prop := Fr (fun _ => False) w w'
set_option maxRecDepth 100000 in
theorem Ex.tr {a b c : World} (h : Ex a b) (k : Ex b c) : Ex a c := h.trans k (fun _ h => h.elim)
/-- No way out but the plain one. -/
def NQ : Exit → Act → World → Prop := fun _ _ _ => False

section
variable {P : Program} {md : Region.Mode} {ops : Array Oper} {Q : Act → World → Prop}

set_option maxRecDepth 100000 in
theorem Oper.wp_nq {o : Oper} {a : Act} {w : World} {K : Act → World → Prop} {Q' : Exit → Act → World → Prop} (hh : o.wp P a w K NQ) : o.wp P a w K Q' := by
  unfold Oper.wp at *
  generalize (execOp a.eval o).run P w = r at *
  cases r with
  | ok n w' =>
    cases n <;> simp only [Oper.upon] at hh ⊢ <;>
      first
        | exact hh
        | exact Calls.mono hh (fun e w'' he => by
            cases e <;> first | exact he | exact False.elim he | (obtain ⟨_, _, h⟩ := he; exact False.elim h))
  | halt x w' => cases x <;> simp only [Oper.upon] at hh ⊢ <;> first | exact hh | exact False.elim hh
set_option maxRecDepth 100000 in
theorem wpOp_nq {i : Nat} {a : Act} {w : World} {K : Act → World → Prop} {Q' : Exit → Act → World → Prop} (hh : wpOp P ops NQ i K a w) : wpOp P ops Q' i K a w := by
  unfold wpOp at *
  split
  · rename_i ho; simpa only [ho] using hh
  · rename_i o ho
    simp only [ho] at hh
    split
    · rename_i hw
      simp only [hw, if_true] at hh
      rcases hh with h | ⟨_, _, _, h⟩
      · exact .inl (Oper.wp_nq h)
      · exact False.elim h
    · rename_i hw; simp only [hw] at hh; exact hh

/-- Whatever order is picked from here on, from every world that keeps what is here. -/
def wpM (P : Program) (md : Region.Mode) (ops : Array Oper) (Q : Act → World → Prop) : Nat → Array Bool → Act → World → Prop
  | 0, listed, a, w => Region.ready md ops listed = [] ∧ ∀ w', Ex w w' → Q a w'
  | fuel + 1, listed, a, w => (Region.ready md ops listed = [] → ∀ w', Ex w w' → Q a w') ∧
    ∀ i ∈ Region.ready md ops listed, ∀ w', Ex w w' → wpOp P ops NQ i (fun a'' w'' => Ex w' w'' ∧ wpM P md ops Q fuel (listed.setIfInBounds i true) a'' w'') a w'
set_option maxRecDepth 100000 in
theorem wpM.up : ∀ (fuel : Nat) (listed : Array Bool) (a : Act) (w w' : World), Ex w w' → wpM P md ops Q fuel listed a w → wpM P md ops Q fuel listed a w'
  | 0, _, _, _, _, hx, h => ⟨h.1, fun w2 h2 => h.2 w2 (hx.tr h2)⟩
  | _ + 1, _, _, _, _, hx, h => ⟨fun h0 w2 h2 => h.1 h0 w2 (hx.tr h2), fun i hi w2 h2 => h.2 i hi w2 (hx.tr h2)⟩
set_option maxRecDepth 100000 in
theorem wpAny_of_M {Q' : Exit → Act → World → Prop} (hQ : ∀ a w, Q a w → Q' .normal a w) : ∀ (fuel : Nat) (listed : Array Bool) (a : Act) (w : World), wpM P md ops Q fuel listed a w → wpAny P md ops Q' fuel listed a w
  | 0, _, _, w, h => ⟨h.1, hQ _ _ (h.2 w (Fr.refl _ w))⟩
  | fuel + 1, _, _, w, h => ⟨fun h0 => hQ _ _ (h.1 h0 w (Fr.refl _ w)), fun i hi => wpOp_mono (fun a'' w'' h => wpAny_of_M hQ fuel _ a'' w'' h.2) (wpOp_nq (h.2 i hi w (Fr.refl _ w)))⟩

set_option maxRecDepth 100000 in
theorem quietAt_mono {o : Oper} {a : Act} {C D : World → Prop} {w : World} {v : Value} (h : ∀ w', C w' → D w') (hq : o.quietAt P a C w v) : o.quietAt P a D w v := by
  unfold Oper.quietAt at *
  generalize (execOp a.eval o).run P w = r at *
  cases r with
  | ok n w' =>
    cases n <;> simp only [Oper.quietUpon] at hq ⊢ <;>
      first
        | exact hq
        | exact ⟨hq.1, hq.2.mono fun e w'' ⟨he, hc⟩ => ⟨he, h _ hc⟩⟩
  | halt x w' => simp only [Oper.quietUpon] at hq
/-- In every world from W on the operation leaves v, and keeps what is there. -/
def YM (P : Program) (ops : Array Oper) (W : World) (o : Oper) (v : Value) (a : Act) : Prop :=
  (Region.wanted o (yielded ops a.tmps) = true ∧ ∀ w, Ex W w → o.quietAt P a (Ex w) w v) ∨ (Region.wanted o (yielded ops a.tmps) = false ∧ v = undef)
set_option maxRecDepth 100000 in
theorem YM.up {W W' : World} {o : Oper} {v : Value} {a : Act} (hx : Ex W W') (h : YM P ops W o v a) : YM P ops W' o v a :=
  h.imp (fun h => ⟨h.1, fun w hw => h.2 w (hx.tr hw)⟩) id
set_option maxRecDepth 100000 in
theorem YM.of_same {W : World} {o : Oper} {v : Value} {a a' : Act} (hy : YM P ops W o v a) (he : execOp a'.eval o = execOp a.eval o)
    (hw : Region.wanted o (yielded ops a'.tmps) = Region.wanted o (yielded ops a.tmps)) : YM P ops W o v a' := by
  unfold YM Oper.quietAt at *
  rw [he, hw]
  exact hy
set_option maxRecDepth 100000 in
theorem YM.wpOp {W w : World} {i : Nat} {o : Oper} {v : Value} {a : Act} (hi : ops[i]? = some o) (hy : YM P ops W o v a) (hx : Ex W w) {K : Act → World → Prop} (h : ∀ w', Ex w w' → K (a.put o.dst v) w') : Go.wpOp P ops NQ i K a w := by
  unfold Go.wpOp
  simp only [hi]
  rcases hy with ⟨hw, hv⟩ | ⟨hw, rfl⟩
  · simp only [hw, if_true]
    exact .inl (Oper.wp_of_quiet (C := Ex w) (K := fun a' => a' = a.put o.dst v) (Fr.refl _ w) (fun a' w' hc e => by subst e; exact h w' hc) ⟨v, fun w1 h1 => quietAt_mono (fun w2 h2 => h1.tr h2) (hv w1 (hx.tr h1)), rfl⟩)
  · simp only [hw, Bool.false_eq_true, if_false]; exact h w (Fr.refl _ w)
set_option maxRecDepth 100000 in
/-- An operation run in state b serves for state a, where it runs alike and what follows goes over. -/
theorem Oper.wp_over {o : Oper} {a b : Act} {K L : Act → World → Prop} {w : World} (hr : execOp a.eval o = execOp b.eval o) (hv : ∀ u w', L (b.put o.dst u) w' → K (a.put o.dst u) w')
    (hd : ∀ d w', L ({ b with defers := d :: b.defers }.put o.dst undef) w' → K ({ a with defers := d :: a.defers }.put o.dst undef) w') (h : o.wp P b w L NQ) : o.wp P a w K NQ := by
  unfold Oper.wp at *
  rw [hr]
  generalize (execOp b.eval o).run P w = r at *
  rcases r with ⟨n, w'⟩ | ⟨x, w'⟩
  · cases n
    all_goals simp only [Oper.upon] at h ⊢
    all_goals first
      | exact hv _ _ h
      | exact hd _ _ h
      | exact Rows.mono h fun u w'' he => hv u w'' he
      | exact Calls.mono h fun e w'' he => by
          rcases e with u | c | _
          · exact hv u w'' he
          · exact False.elim he
          · exact he
      | exact h
  · cases x
    all_goals simp only [Oper.upon] at h ⊢
    all_goals first | exact h | exact False.elim h
set_option maxRecDepth 100000 in
/-- The same of an operation by its number. -/
theorem wpOp_over {j : Nat} {o : Oper} (hj : ops[j]? = some o) {a b : Act} {K L : Act → World → Prop} {w : World} (hr : execOp a.eval o = execOp b.eval o) (hw : Region.wanted o (yielded ops a.tmps) = Region.wanted o (yielded ops b.tmps))
    (hv : ∀ u w', L (b.put o.dst u) w' → K (a.put o.dst u) w') (hd : ∀ d w', L ({ b with defers := d :: b.defers }.put o.dst undef) w' → K ({ a with defers := d :: a.defers }.put o.dst undef) w')
    (h : wpOp P ops NQ j L b w) : wpOp P ops NQ j K a w := by
  simp only [wpOp, hj, hw] at h ⊢
  by_cases c : Region.wanted o (yielded ops b.tmps) = true
  · rw [if_pos c] at h ⊢
    rcases h with h | ⟨_, _, _, h⟩
    · exact .inl (Oper.wp_over hr hv hd h)
    · exact False.elim h
  · rw [if_neg c] at h ⊢
    exact hv _ _ h
/-- What has not come up neither waits for i nor is touched by it. -/
def Fre (md : Region.Mode) (ops : Array Oper) (oi : Oper) (i : Nat) (listed : Array Bool) : Prop :=
  ∀ j oj, ops[j]? = some oj → j ≠ i → listed.getD j true = false → (∀ e ∈ oj.after, Region.binds md e = true → e.on ≠ i) → oi.apart ops oj = true
set_option maxRecDepth 100000 in
theorem Fre.next {oi : Oper} {i j : Nat} {listed : Array Bool} (h : Fre md ops oi i listed) (hj : listed.getD j true = false) : Fre md ops oi i (listed.setIfInBounds j true) := by
  intro k ok hk hne hun hw
  by_cases e : k = j
  · rw [e] at hk hne
    exact h j ok hk hne hj hw
  · rw [getD_set_ne true (fun c => e c.symm)] at hun
    exact h k ok hk hne hun hw
set_option maxRecDepth 100000 in
/-- Of two that may come up neither waits for the other. -/
theorem no_wait {i j : Nat} {oj : Oper} {listed : Array Bool} (hi : i ∈ Region.ready md ops listed) (hj : j ∈ Region.ready md ops listed) (ho : ops[j]? = some oj) : ∀ e ∈ oj.after, Region.binds md e = true → e.on ≠ i := by
  rintro e he hb rfl
  have un := (mem_ready.1 hi).1
  obtain ⟨_, o2, ho2, hl⟩ := mem_ready.1 hj
  rw [ho] at ho2
  obtain rfl := Option.some.inj ho2
  have li := hl e he hb
  simp only [Array.getD_eq_getD_getElem?] at un li
  cases hx : listed[e.on]? with
  | none => rw [hx] at li; simp at li
  | some b => rw [hx] at un li; simp at un li; rw [un] at li; cases li
set_option maxRecDepth 100000 in
theorem wpM_first {i : Nat} {oi : Oper} {v : Value} (hi : ops[i]? = some oi) (hsel : ∀ (j : Nat) (o : Oper) cs b, ops[j]? = some o → o.op ≠ .select cs b) :
    ∀ (fuel : Nat) (listed : Array Bool) (a : Act) (W : World), Fre md ops oi i listed → i ∈ Region.ready md ops listed → YM P ops W oi v a →
      wpM P md ops Q fuel (listed.setIfInBounds i true) (a.put oi.dst v) W → wpM P md ops Q (fuel + 1) listed a W
  | fuel, listed, a, W, hf, hr, hy, H => by
    refine ⟨fun e => absurd hr (by rw [e]; simp), fun j hj w' hx => ?_⟩
    rcases Nat.decEq j i with hji | hji
    · cases fuel with
      | zero => exact absurd (ready_mono hj hji) (by rw [H.1]; simp)
      | succ fuel =>
        obtain ⟨hun, oj, hoj, _⟩ := mem_ready.1 hj
        obtain ⟨s1, s2, s3⟩ := Oper.apart_spec (hf j oj hoj hji hun (no_wait hr hj hoj))
        have selj := fun cs b => hsel j oj cs b hoj
        have seli := fun cs b => hsel i oi cs b hi
        refine wpOp_over hoj (execOp_put oj selj a oi.dst v s1).symm (wanted_put oj a oi.dst v s1).symm (fun u w'' ⟨h1, h2⟩ => ⟨h1, ?_⟩) (fun d w'' ⟨h1, h2⟩ => ⟨h1, ?_⟩) (H.2 j (ready_mono hj hji) w' hx)
        · refine wpM_first (v := v) hi hsel fuel _ _ w'' (hf.next hun) (ready_mono hr (fun c => hji c.symm)) ?_ ?_
          · exact (hy.up (hx.tr h1)).of_same (execOp_put oi seli a oj.dst u s3) (wanted_put oi a oj.dst u s3)
          · rw [Array.setIfInBounds_comm _ _ hji, ← Act.put_comm a v u s2]
            exact h2
        · refine wpM_first (v := v) hi hsel fuel _ _ w'' (hf.next hun) (ready_mono hr (fun c => hji c.symm)) ?_ ?_
          · exact ((hy.up (hx.tr h1)).of_same (a' := { a with defers := d :: a.defers }) rfl rfl).of_same (execOp_put oi seli _ oj.dst undef s3) (wanted_put oi _ oj.dst undef s3)
          · rw [Array.setIfInBounds_comm _ _ hji, ← Act.put_comm _ v undef s2, ← Act.put_defers]
            exact h2
    · subst hji
      exact hy.wpOp hi hx fun w'' h2 => ⟨h2, wpM.up _ _ _ _ _ (hx.tr h2) H⟩

/-- The walk in an order of one's own: (k, false): the operation k leaves one value wherever it comes up; (k, true): it comes up when no other one can. -/
def Wk (P : Program) (md : Region.Mode) (ops : Array Oper) (Q : Act → World → Prop) : List (Nat × Bool) → Act → World → Prop
  | [], a, w => ∀ w', Ex w w' → Q a w'
  | (k, false) :: r, a, w => ∃ o v, ops[k]? = some o ∧ YM P ops w o v a ∧ Wk P md ops Q r (a.put o.dst v) w
  | (k, true) :: r, a, w => ∀ w', Ex w w' → wpOp P ops NQ k (fun a'' w'' => Ex w' w'' ∧ Wk P md ops Q r a'' w'') a w'
/-- That the order may be walked so. -/
def okB (md : Region.Mode) (ops : Array Oper) : List (Nat × Bool) → Array Bool → Bool
  | [], listed => (Region.ready md ops listed).isEmpty
  | (k, false) :: r, listed => (Region.ready md ops listed).contains k && Region.free md ops listed k && okB md ops r (listed.setIfInBounds k true)
  | (k, true) :: r, listed => (Region.ready md ops listed == [k]) && okB md ops r (listed.setIfInBounds k true)
set_option maxRecDepth 100000 in
theorem Wk.M (hs : Region.noSelect ops = true) : ∀ (l : List (Nat × Bool)) (listed : Array Bool) (a : Act) (w : World), okB md ops l listed = true → Wk P md ops Q l a w → wpM P md ops Q l.length listed a w
  | [], _, _, _, hB, h => ⟨by simpa [okB] using hB, h⟩
  | (k, false) :: r, listed, a, w, hB, h => by
    obtain ⟨o, v, h0, hy, hk⟩ := h
    simp only [okB, Bool.and_eq_true] at hB
    obtain ⟨⟨hr, hf⟩, hB'⟩ := hB
    exact wpM_first h0 (Region.noSelect_spec hs) r.length listed a w (Region.free_spec h0 hf) (by simpa using hr) hy (Wk.M hs r _ _ w hB' hk)
  | (k, true) :: r, listed, a, w, hB, h => by
    simp only [okB, Bool.and_eq_true, beq_iff_eq] at hB
    refine ⟨fun h0 => (by rw [hB.1] at h0; cases h0), fun i hi w' hx => ?_⟩
    rw [hB.1] at hi
    obtain rfl : i = k := by simpa using hi
    exact wpOp_mono (fun a'' w'' ⟨h1, h2⟩ => ⟨h1, Wk.M hs r _ a'' w'' hB.2 h2⟩) (h w' hx)
end

set_option maxRecDepth 100000 in
theorem wp_region_mono {P : Program} {id : Nat} {Q : Exit → Act → World → Prop} {a : Act} {W0 : World} {l : List Oper} (π : List (Nat × Bool)) (hm : P.follows .mixedOrders = true)
    (hB : (Region.noSelect l.toArray && (π.length == l.length) && okB .any l.toArray π (Array.replicate l.length false)) = true)
    (h : Wk P .any l.toArray (fun a w => Q .normal a w) π a W0) : (Code.region id l.toArray true).wp P Q a W0 := by
  simp only [Bool.and_eq_true, beq_iff_eq] at hB
  refine wp_region_any hm ?_
  have := wpM.up _ _ _ _ _ ((Fr.refl (fun _ => False) W0).drew) (Wk.M hB.1.1 π _ a W0 hB.2 h)
  rw [hB.1.2] at this
  have h2 := wpAny_of_M (Q' := Q) (fun _ _ h => h) _ _ _ _ this
  simpa using h2

section
variable {P : Program} {md : Region.Mode} {Q : Act → World → Prop}
/-- n operations from k on, each of which leaves one value wherever it comes up. -/
def sg (k n : Nat) : List (Nat × Bool) := (List.range' k n).map fun i => (i, false)
/-- Their slots are there, and no two are one. -/
def segB (size : Nat) : List Oper → Bool
  | [] => true
  | o :: l => (match o.dst with | some d => decide (d < size) && l.all (fun x => x.dst != some d) | none => false) && segB size l
set_option maxRecDepth 100000 in
theorem put_size (a : Act) (d : Option Tmp) (v : Value) : (a.put d v).tmps.size = a.tmps.size := by cases d <;> simp [Act.put]
set_option maxRecDepth 100000 in
theorem quiet_final {ops : Array Oper} {C : World → Prop} {aF : Act} : ∀ (l : List Oper) (a : Act), wpQuiet P ops C (fun a' => a' = aF) l a → ∀ d : Tmp, (∀ o ∈ l, o.dst ≠ some d) → aF.tmps[d]? = a.tmps[d]?
  | [], a, h, _, _ => by have h : a = aF := h; rw [h]
  | o :: l, a, h, d, hd => by
    have hne := hd o (by simp)
    have put_ne : ∀ v, (a.put o.dst v).tmps[d]? = a.tmps[d]? := fun v => by
      cases hod : o.dst with
      | none => rfl
      | some t =>
        have : t ≠ d := fun e => hne (by rw [hod, e])
        simp [Act.put, Array.getElem?_setIfInBounds_ne this]
    unfold wpQuiet at h
    split at h
    · obtain ⟨v, _, h2⟩ := h
      rw [quiet_final l _ h2 d (fun x hx => hd x (by simp [hx])), put_ne]
    · rw [quiet_final l _ h d (fun x hx => hd x (by simp [hx])), put_ne]
set_option maxRecDepth 100000 in
theorem Wk.steps {ops : Array Oper} {aF : Act} {W : World} {r : List (Nat × Bool)} : ∀ (os : List Oper) (k : Nat) (a : Act), (∀ j, j < os.length → ops[k + j]? = os[j]?) → segB a.tmps.size os = true →
    (∀ γ : Gd W, wpQuiet P ops (fun w' => ∃ y : Wg γ, w' = y.w) (fun a' => a' = aF) os a) → Wk P md ops Q r aF W → Wk P md ops Q (sg k os.length ++ r) a W
  | [], k, a, _, _, h, hr => by
    have h : a = aF := h ⟨fun _ => True, fun _ _ _ _ => trivial, W, Fr.refl _ W, trivial⟩
    rw [h]
    exact hr
  | o :: l, k, a, hl, hB, h, hr => by
    have h0 : ops[k]? = some o := by simpa using hl 0 (by simp)
    simp only [segB, Bool.and_eq_true] at hB
    obtain ⟨hB1, hB2⟩ := hB
    obtain ⟨d, hod⟩ : ∃ d, o.dst = some d := by
      cases hd : o.dst with
      | none => rw [hd] at hB1; simp at hB1
      | some d => exact ⟨d, rfl⟩
    rw [hod] at hB1
    simp only [Bool.and_eq_true, decide_eq_true_eq, List.all_eq_true] at hB1
    have one : ∀ γ : Gd W, ∀ v, wpQuiet P ops (fun w' => ∃ y : Wg γ, w' = y.w) (fun a' => a' = aF) l (a.put o.dst v) → aF.tmps[d]? = some v := fun γ v hq => by
      rw [quiet_final l _ hq d (fun x hx e => by have := hB1.2 x hx; simp [e] at this), hod]
      simp [Act.put, hB1.1]
    have key : ∀ γ : Gd W, ∃ v, YieldsIn P ops (fun w' => ∃ y : Wg γ, w' = y.w) o v a ∧ wpQuiet P ops (fun w' => ∃ y : Wg γ, w' = y.w) (fun a' => a' = aF) l (a.put o.dst v) := fun γ => by
      have hq := h γ
      unfold wpQuiet at hq
      by_cases hw : Region.wanted o (yielded ops a.tmps) = true
      · rw [if_pos hw] at hq
        obtain ⟨v, h1, h2⟩ := hq
        exact ⟨v, .inl ⟨hw, h1⟩, h2⟩
      · rw [if_neg hw] at hq
        exact ⟨undef, .inr ⟨by simpa using hw, rfl⟩, hq⟩
    obtain ⟨v, hy0, hq0⟩ := key ⟨fun _ => True, fun _ _ _ _ => trivial, W, Fr.refl _ W, trivial⟩
    have hv := one _ v hq0
    have all : ∀ γ : Gd W, YieldsIn P ops (fun w' => ∃ y : Wg γ, w' = y.w) o v a ∧ wpQuiet P ops (fun w' => ∃ y : Wg γ, w' = y.w) (fun a' => a' = aF) l (a.put o.dst v) := fun γ => by
      obtain ⟨u, h1, h2⟩ := key γ
      have hu := one γ u h2
      rw [hv] at hu
      obtain rfl := Option.some.inj hu
      exact ⟨h1, h2⟩
    refine ⟨o, v, h0, ?_, Wk.steps l (k + 1) (a.put o.dst v) (fun j hj => by have := hl (j + 1) (by simpa using hj); simpa [Nat.add_assoc, Nat.add_comm 1 j] using this) (by rw [put_size]; exact hB2) (fun γ => (all γ).2) hr⟩
    rcases hy0 with ⟨hw, _⟩ | ⟨hw, rfl⟩
    · refine .inl ⟨hw, fun w hx => ?_⟩
      have hg := (all ⟨fun w' => Ex w w', fun w1 w2 hF hw1 => Ex.tr hw1 hF, w, hx, Fr.refl _ w⟩).1
      rcases hg with ⟨_, hg⟩ | ⟨hw2, _⟩
      · exact quietAt_mono (fun w' ⟨y, e⟩ => by rw [e]; exact y.g) (hg w ⟨⟨w, hx, Fr.refl _ w⟩, rfl⟩)
      · rw [hw] at hw2; cases hw2
    · exact .inr ⟨hw, rfl⟩
set_option maxRecDepth 100000 in
/-- Operations that leave one value each, by the walk in the order of the text. -/
theorem Wk.seg {l : List Oper} {a : Act} {W : World} {r : List (Nat × Bool)} (k n : Nat) (hn : ((l.drop k).take n).length = n) (hB : segB a.tmps.size ((l.drop k).take n) = true)
    (h : ∃ aF, (∀ γ : Gd W, wpQuiet P l.toArray (fun w' => ∃ y : Wg γ, w' = y.w) (fun a' => a' = aF) ((l.drop k).take n) a) ∧ Wk P md l.toArray Q r aF W) : Wk P md l.toArray Q (sg k n ++ r) a W := by
  obtain ⟨aF, h1, h2⟩ := h
  have := Wk.steps (md := md) (Q := Q) (r := r) ((l.drop k).take n) k a (fun j hj => by
    rw [List.getElem?_take_of_lt (by omega), List.getElem?_drop, List.getElem?_toArray]) hB h1 h2
  rwa [hn] at this
set_option maxRecDepth 100000 in
/-- A call, whatever it answers. -/
theorem Wk.call {ops : Array Oper} {a : Act} {W : World} {r : List (Nat × Bool)} {k : Nat} {o : Oper} (hi : ops[k]? = some o) (hw : Region.wanted o (yielded ops a.tmps) = true) (f : FuncId) (args : Array Value)
    (hrun : ∀ w, (execOp a.eval o).run P w = .ok (.enter f args) w) (R : Value → World → Prop) (hc : ∀ w, Ex W w → Calls P f args w fun e w' => ∃ v, e = .returned v ∧ Ex w w' ∧ R v w')
    (h : ∀ v w', Ex W w' → R v w' → Wk P md ops Q r (a.put o.dst v) w') : Wk P md ops Q ((k, true) :: r) a W := by
  intro w hx
  unfold wpOp
  simp only [hi, hw, if_true]
  refine .inl ?_
  unfold Oper.wp
  rw [hrun, Oper.upon_enter]
  refine (hc w hx).mono fun e w' hh => ?_
  obtain ⟨v, rfl, h1, h2⟩ := hh
  exact ⟨h1, h v w' (hx.tr h1) h2⟩
end
end Go.Proofs.YtndakfanlgilmaaDoor


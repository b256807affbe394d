/-
  Regions that draw their order, as in Km, walked in parts: where several operations may come up that leave unlike memory, each of them is walked. Plain: of no program.
-/
import Derived.Test.YtndakfanlgilmaaDoorKs
namespace Go.Proofs.YtndakfanlgilmaaDoor
open Go.RowKit
set_option linter.unusedVariables false

/-- What has come up behind a list. -/
def marks : List (Nat × Bool) → Array Bool → Array Bool
  | [], L => L
  | (k, _) :: r, L => marks r (L.setIfInBounds k true)
/-- That the order may be walked so, as far as it goes. -/
def okC (md : Region.Mode) (ops : Array Oper) : List (Nat × Bool) → Array Bool → Bool
  | [], _ => true
  | (k, false) :: r, listed => (Region.ready md ops listed).contains k && Region.free md ops listed k && okC md ops r (listed.setIfInBounds k true)
  | (k, true) :: r, listed => (Region.ready md ops listed == [k]) && okC md ops r (listed.setIfInBounds k true)
section
variable {P : Program} {md : Region.Mode} {ops : Array Oper} {Q : Act → World → Prop}
set_option maxRecDepth 100000 in
theorem Wk.seqs {fuel : Nat} (hs : Region.noSelect ops = true) : ∀ (l : List (Nat × Bool)) (listed : Array Bool) (a : Act) (w : World), okC md ops l listed = true →
    Wk P md ops (fun a w => wpM P md ops Q fuel (marks l listed) a w) l a w → wpM P md ops Q (fuel + l.length) listed a w
  | [], _, _, w, _, h => h w (Fr.refl _ w)
  | (k, false) :: r, listed, a, w, hB, h => by
    obtain ⟨o, v, h0, hy, hk⟩ := h
    simp only [okC, Bool.and_eq_true] at hB
    obtain ⟨⟨hr, hf⟩, hB'⟩ := hB
    exact wpM_first h0 (Region.noSelect_spec hs) (fuel + r.length) listed a w (Region.free_spec h0 hf) (by simpa using hr) hy (Wk.seqs hs r _ _ w hB' hk)
  | (k, true) :: r, listed, a, w, hB, h => by
    simp only [okC, Bool.and_eq_true, beq_iff_eq] at hB
    refine ⟨fun h0 => (by rw [hB.1] at h0; cases h0), fun i hi w' hx => ?_⟩
    rw [hB.1] at hi
    obtain rfl : i = k := by simpa using hi
    exact wpOp_mono (fun a'' w'' ⟨h1, h2⟩ => ⟨h1, Wk.seqs hs r _ a'' w'' hB.2 h2⟩) (h w' hx)
set_option maxRecDepth 100000 in
/-- A part of the walk: the list l, then n more; L: what has come up ahead. -/
theorem wpM.part {L L2 : Array Bool} {a : Act} {w : World} (l : List (Nat × Bool)) (n m : Nat) (hB : (Region.noSelect ops && okC md ops l L && (marks l L == L2) && (m == n + l.length)) = true)
    (h : Wk P md ops (fun a w => wpM P md ops Q n L2 a w) l a w) : wpM P md ops Q m L a w := by
  simp only [Bool.and_eq_true, beq_iff_eq] at hB
  obtain ⟨⟨⟨h1, h2⟩, h3⟩, rfl⟩ := hB
  subst h3
  exact Wk.seqs h1 l L a w h2 h
set_option maxRecDepth 100000 in
theorem wpM.part' {L : Array Bool} {a : Act} {w : World} (l : List (Nat × Bool)) (n m : Nat) (hB : (Region.noSelect ops && okC md ops l L && (m == n + l.length)) = true)
    (h : Wk P md ops (fun a w => wpM P md ops Q n (marks l L) a w) l a w) : wpM P md ops Q m L a w := by
  simp only [Bool.and_eq_true, beq_iff_eq] at hB
  obtain ⟨⟨h1, h2⟩, rfl⟩ := hB
  exact Wk.seqs h1 l L a w h2 h
set_option maxRecDepth 100000 in
theorem wpM.last {L : Array Bool} {a : Act} {w : World} (l : List (Nat × Bool)) (m : Nat) (hB : (Region.noSelect ops && okB md ops l L && (m == l.length)) = true)
    (h : Wk P md ops Q l a w) : wpM P md ops Q m L a w := by
  simp only [Bool.and_eq_true, beq_iff_eq] at hB
  obtain ⟨⟨h1, h2⟩, rfl⟩ := hB
  exact Wk.M h1 l L a w h2 h
set_option maxRecDepth 100000 in
/-- All that may come up now, each by itself. -/
theorem wpM.fork {L : Array Bool} {a : Act} {w : World} (ks : List Nat) (n : Nat) (hB : (Region.ready md ops L == ks && !ks.isEmpty) = true)
    (h : ∀ k ∈ ks, ∀ w', Ex w w' → wpOp P ops NQ k (fun a'' w'' => Ex w' w'' ∧ wpM P md ops Q n (L.setIfInBounds k true) a'' w'') a w') : wpM P md ops Q (n + 1) L a w := by
  simp only [Bool.and_eq_true, beq_iff_eq] at hB
  obtain ⟨rfl, h2⟩ := hB
  exact ⟨fun h0 => (by rw [h0] at h2; simp at h2), h⟩
end
set_option maxRecDepth 100000 in
theorem wp_region_M {P : Program} {id : Nat} {Q : Exit → Act → World → Prop} {a : Act} {W0 : World} {l : List Oper} (L : Array Bool) (n : Nat) (hm : P.follows .mixedOrders = true) (hB : (Array.replicate l.length false == L && n == l.length) = true)
    (h : wpM P .any l.toArray (fun a w => Q .normal a w) n L a W0) : (Code.region id l.toArray true).wp P Q a W0 := by
  simp only [Bool.and_eq_true, beq_iff_eq] at hB
  obtain ⟨rfl, rfl⟩ := hB
  refine wp_region_any hm ?_
  have h2 := wpAny_of_M (Q' := Q) (fun _ _ h => h) _ _ _ _ (wpM.up _ _ _ _ _ ((Fr.refl (fun _ => False) W0).drew) h)
  simpa using h2
section
variable {P : Program} {md : Region.Mode} {ops : Array Oper} {Q : Act → World → Prop}
set_option maxRecDepth 100000 in
theorem wpOp_value {k : Nat} {o : Oper} {a : Act} {w w' : World} {v : Value} {K : Act → World → Prop} (hk : ops[k]? = some o) (hw : Region.wanted o (yielded ops a.tmps) = true) (hr : (execOp a.eval o).run P w = .ok (.value v) w') (h : K (a.put o.dst v) w') : wpOp P ops NQ k K a w := by
  unfold wpOp
  simp only [hk, hw, if_true]
  refine .inl ?_
  unfold Oper.wp
  rw [hr, Oper.upon_value]
  exact h
set_option maxRecDepth 100000 in
theorem wpOp_call {k : Nat} {o : Oper} {a : Act} {w : World} {f : FuncId} {args : Array Value} {x : Value} {K : Act → World → Prop} (hk : ops[k]? = some o) (hw : Region.wanted o (yielded ops a.tmps) = true) (hr : (execOp a.eval o).run P w = .ok (.enter f args) w)
    (hc : Calls P f args w fun e w' => e = .returned x ∧ Ex w w') (h : ∀ w', Ex w w' → K (a.put o.dst x) w') : wpOp P ops NQ k K a w := by
  unfold wpOp
  simp only [hk, hw, if_true]
  refine .inl ?_
  unfold Oper.wp
  rw [hr, Oper.upon_enter]
  refine hc.mono ?_
  rintro e w' ⟨rfl, hx⟩
  exact h w' hx
/-- An operation that makes memory: what it leaves, and where. -/
structure Mk (P : Program) (ops : Array Oper) (W : World) (o : Oper) (a : Act) (R : Value → World → Prop) : Prop where
  wanted : Region.wanted o (yielded ops a.tmps) = true
  run : ∀ w, Ex W w → ∃ v w', (execOp a.eval o).run P w = .ok (.value v) w' ∧ Ex w w' ∧ R v w'
/-- A call that answers one value, of what another operation made. -/
structure Us (P : Program) (ops : Array Oper) (W : World) (o : Oper) (d : Option Tmp) (a : Act) (R : Value → World → Prop) (x : Value) : Prop where
  wanted : ∀ v, Region.wanted o (yielded ops (a.put d v).tmps) = true
  run : ∀ v w, Ex W w → R v w → ∃ f args, (execOp (a.put d v).eval o).run P w = .ok (.enter f args) w ∧ Calls P f args w fun e w' => e = .returned x ∧ Ex w w'
set_option maxRecDepth 100000 in
/-- Two calls of new memory each, of which one comes behind the other; the memory in whatever order. -/
theorem wpM.pair {L : Array Bool} {a : Act} {W : World} (n : Nat) (b1 c1 b2 c2 : Nat) {p1 q1 p2 q2 : Oper} (h1 : ops[b1]? = some p1) (h2 : ops[c1]? = some q1) (h3 : ops[b2]? = some p2) (h4 : ops[c2]? = some q2) (R1 R2 : Value → World → Prop) (x1 x2 : Value)
    (st1 : ∀ v w w', Ex w w' → R1 v w → R1 v w') (st2 : ∀ v w w', Ex w w' → R2 v w → R2 v w')
    (hA : (Region.noSelect ops && p1.apart ops p2 && q1.apart ops p2) = true)
    (hL : (Region.ready md ops L == [b1, b2] && Region.ready md ops (L.setIfInBounds b1 true) == [c1, b2] && Region.ready md ops (L.setIfInBounds b2 true) == [b1] && Region.ready md ops ((L.setIfInBounds b1 true).setIfInBounds c1 true) == [b2] &&
      Region.ready md ops ((L.setIfInBounds b1 true).setIfInBounds b2 true) == [c1] && Region.ready md ops (((L.setIfInBounds b1 true).setIfInBounds c1 true).setIfInBounds b2 true) == [c2] &&
      (L.setIfInBounds b2 true).setIfInBounds b1 true == (L.setIfInBounds b1 true).setIfInBounds b2 true && ((L.setIfInBounds b1 true).setIfInBounds b2 true).setIfInBounds c1 true == ((L.setIfInBounds b1 true).setIfInBounds c1 true).setIfInBounds b2 true) = true)
    (m1 : Mk P ops W p1 a R1) (m2 : Mk P ops W p2 a R2) (u1 : Us P ops W q1 p1.dst a R1 x1) (u2 : ∀ v1, Us P ops W q2 p2.dst ((a.put p1.dst v1).put q1.dst x1) R2 x2)
    (h : ∀ v1 v2 w, Ex W w → wpM P md ops Q n ((((L.setIfInBounds b1 true).setIfInBounds c1 true).setIfInBounds b2 true).setIfInBounds c2 true) ((((a.put p1.dst v1).put q1.dst x1).put p2.dst v2).put q2.dst x2) w) : wpM P md ops Q (n + 4) L a W := by
  simp only [Bool.and_eq_true, beq_iff_eq] at hA hL
  obtain ⟨⟨hs, A12⟩, Aq2⟩ := hA
  obtain ⟨⟨⟨⟨⟨⟨⟨r00, r10⟩, r01⟩, r20⟩, r11⟩, r21⟩, e1⟩, e2⟩ := hL
  have sel := Region.noSelect_spec hs
  obtain ⟨s1, s2, s3⟩ := Oper.apart_spec A12
  obtain ⟨s7, s8, s9⟩ := Oper.apart_spec Aq2
  have S1 := fun cs b => sel b1 p1 cs b h1
  have S2 := fun cs b => sel c1 q1 cs b h2
  have S3 := fun cs b => sel b2 p2 cs b h3
  have g21 : ∀ v1 v2 w, Ex W w → R2 v2 w → wpM P md ops Q (n + 1) (((L.setIfInBounds b1 true).setIfInBounds c1 true).setIfInBounds b2 true) (((a.put p1.dst v1).put q1.dst x1).put p2.dst v2) w := fun v1 v2 w hx hR => by
    refine wpM.fork [c2] n (by rw [r21]; simp) (fun k hk w' hx' => ?_)
    obtain rfl : k = c2 := by simpa using hk
    obtain ⟨f, args, hr, hc⟩ := (u2 v1).run v2 w' (hx.tr hx') (st2 _ _ _ hx' hR)
    exact wpOp_call h4 ((u2 v1).wanted v2) hr hc (fun w'' h'' => ⟨h'', h v1 v2 w'' ((hx.tr hx').tr h'')⟩)
  have g11 : ∀ v1 v2 w, Ex W w → R1 v1 w → R2 v2 w → wpM P md ops Q (n + 2) ((L.setIfInBounds b1 true).setIfInBounds b2 true) ((a.put p1.dst v1).put p2.dst v2) w := fun v1 v2 w hx hR1 hR2 => by
    refine wpM.fork [c1] (n + 1) (by rw [r11]; simp) (fun k hk w' hx' => ?_)
    obtain rfl : k = c1 := by simpa using hk
    obtain ⟨f, args, hr, hc⟩ := u1.run v1 w' (hx.tr hx') (st1 _ _ _ hx' hR1)
    refine wpOp_call h2 (by rw [wanted_put q1 _ p2.dst v2 s9]; exact u1.wanted v1) (by rw [execOp_put q1 S2 _ p2.dst v2 s9]; exact hr) hc (fun w'' h'' => ⟨h'', ?_⟩)
    rw [e2, ← Act.put_comm (a.put p1.dst v1) x1 v2 s8]
    exact g21 v1 v2 w'' ((hx.tr hx').tr h'') (st2 _ _ _ (hx'.tr h'') hR2)
  have g20 : ∀ v1 w, Ex W w → wpM P md ops Q (n + 2) ((L.setIfInBounds b1 true).setIfInBounds c1 true) ((a.put p1.dst v1).put q1.dst x1) w := fun v1 w hx => by
    refine wpM.fork [b2] (n + 1) (by rw [r20]; simp) (fun k hk w' hx' => ?_)
    obtain rfl : k = b2 := by simpa using hk
    obtain ⟨v2, w'', hr, h'', hR⟩ := m2.run w' (hx.tr hx')
    exact wpOp_value h3 (by rw [wanted_put p2 _ q1.dst x1 s7, wanted_put p2 _ p1.dst v1 s1]; exact m2.wanted) (by rw [execOp_put p2 S3 _ q1.dst x1 s7, execOp_put p2 S3 _ p1.dst v1 s1]; exact hr) ⟨h'', g21 v1 v2 w'' ((hx.tr hx').tr h'') hR⟩
  have g10 : ∀ v1 w, Ex W w → R1 v1 w → wpM P md ops Q (n + 3) (L.setIfInBounds b1 true) (a.put p1.dst v1) w := fun v1 w hx hR => by
    refine wpM.fork [c1, b2] (n + 2) (by rw [r10]; simp) (fun k hk w' hx' => ?_)
    rcases (show k = c1 ∨ k = b2 by simpa using hk) with rfl | rfl
    · obtain ⟨f, args, hr, hc⟩ := u1.run v1 w' (hx.tr hx') (st1 _ _ _ hx' hR)
      exact wpOp_call h2 (u1.wanted v1) hr hc (fun w'' h'' => ⟨h'', g20 v1 w'' ((hx.tr hx').tr h'')⟩)
    · obtain ⟨v2, w'', hr, h'', hR2⟩ := m2.run w' (hx.tr hx')
      exact wpOp_value h3 (by rw [wanted_put p2 _ p1.dst v1 s1]; exact m2.wanted) (by rw [execOp_put p2 S3 _ p1.dst v1 s1]; exact hr) ⟨h'', g11 v1 v2 w'' ((hx.tr hx').tr h'') (st1 _ _ _ (hx'.tr h'') hR) hR2⟩
  have g01 : ∀ v2 w, Ex W w → R2 v2 w → wpM P md ops Q (n + 3) (L.setIfInBounds b2 true) (a.put p2.dst v2) w := fun v2 w hx hR => by
    refine wpM.fork [b1] (n + 2) (by rw [r01]; simp) (fun k hk w' hx' => ?_)
    obtain rfl : k = b1 := by simpa using hk
    obtain ⟨v1, w'', hr, h'', hR1⟩ := m1.run w' (hx.tr hx')
    refine wpOp_value h1 (by rw [wanted_put p1 _ p2.dst v2 s3]; exact m1.wanted) (by rw [execOp_put p1 S1 _ p2.dst v2 s3]; exact hr) ⟨h'', ?_⟩
    rw [e1, ← Act.put_comm a v1 v2 s2]
    exact g11 v1 v2 w'' ((hx.tr hx').tr h'') hR1 (st2 _ _ _ (hx'.tr h'') hR)
  refine wpM.fork [b1, b2] (n + 3) (by rw [r00]; simp) (fun k hk w' hx' => ?_)
  rcases (show k = b1 ∨ k = b2 by simpa using hk) with rfl | rfl
  · obtain ⟨v1, w'', hr, h'', hR⟩ := m1.run w' hx'
    exact wpOp_value h1 m1.wanted hr ⟨h'', g10 v1 w'' (hx'.tr h'') hR⟩
  · obtain ⟨v2, w'', hr, h'', hR⟩ := m2.run w' hx'
    exact wpOp_value h3 m2.wanted hr ⟨h'', g01 v2 w'' (hx'.tr h'') hR⟩
set_option maxRecDepth 100000 in
/-- Two calls of new memory each, in whatever order. -/
theorem wpM.diamond {L : Array Bool} {a : Act} {W : World} (n : Nat) (b1 c1 b2 c2 : Nat) {p1 q1 p2 q2 : Oper} (h1 : ops[b1]? = some p1) (h2 : ops[c1]? = some q1) (h3 : ops[b2]? = some p2) (h4 : ops[c2]? = some q2) (R1 R2 : Value → World → Prop) (x1 x2 : Value)
    (st1 : ∀ v w w', Ex w w' → R1 v w → R1 v w') (st2 : ∀ v w w', Ex w w' → R2 v w → R2 v w')
    (hA : (Region.noSelect ops && p1.apart ops p2 && p1.apart ops q2 && q1.apart ops p2 && q1.apart ops q2) = true)
    (hL : (Region.ready md ops L == [b1, b2] && Region.ready md ops (L.setIfInBounds b1 true) == [c1, b2] && Region.ready md ops (L.setIfInBounds b2 true) == [b1, c2] && Region.ready md ops ((L.setIfInBounds b1 true).setIfInBounds c1 true) == [b2] &&
      Region.ready md ops ((L.setIfInBounds b2 true).setIfInBounds c2 true) == [b1] && Region.ready md ops ((L.setIfInBounds b1 true).setIfInBounds b2 true) == [c1, c2] && Region.ready md ops (((L.setIfInBounds b1 true).setIfInBounds c1 true).setIfInBounds b2 true) == [c2] && Region.ready md ops (((L.setIfInBounds b1 true).setIfInBounds b2 true).setIfInBounds c2 true) == [c1] &&
      (L.setIfInBounds b2 true).setIfInBounds b1 true == (L.setIfInBounds b1 true).setIfInBounds b2 true && ((L.setIfInBounds b1 true).setIfInBounds b2 true).setIfInBounds c1 true == ((L.setIfInBounds b1 true).setIfInBounds c1 true).setIfInBounds b2 true &&
      ((L.setIfInBounds b2 true).setIfInBounds c2 true).setIfInBounds b1 true == ((L.setIfInBounds b1 true).setIfInBounds b2 true).setIfInBounds c2 true && (((L.setIfInBounds b1 true).setIfInBounds b2 true).setIfInBounds c2 true).setIfInBounds c1 true == (((L.setIfInBounds b1 true).setIfInBounds c1 true).setIfInBounds b2 true).setIfInBounds c2 true) = true)
    (m1 : Mk P ops W p1 a R1) (m2 : Mk P ops W p2 a R2) (u1 : Us P ops W q1 p1.dst a R1 x1) (u2 : Us P ops W q2 p2.dst a R2 x2)
    (h : ∀ v1 v2 w, Ex W w → wpM P md ops Q n ((((L.setIfInBounds b1 true).setIfInBounds c1 true).setIfInBounds b2 true).setIfInBounds c2 true) ((((a.put p1.dst v1).put q1.dst x1).put p2.dst v2).put q2.dst x2) w) : wpM P md ops Q (n + 4) L a W := by
  simp only [Bool.and_eq_true, beq_iff_eq] at hA hL
  obtain ⟨⟨⟨⟨hs, A12⟩, A1q⟩, Aq2⟩, Aqq⟩ := hA
  obtain ⟨⟨⟨⟨⟨⟨⟨⟨⟨⟨⟨r00, r10⟩, r01⟩, r20⟩, r02⟩, r11⟩, r21⟩, r12⟩, e1⟩, e2⟩, e3⟩, e4⟩ := hL
  have sel := Region.noSelect_spec hs
  obtain ⟨s1, s2, s3⟩ := Oper.apart_spec A12
  obtain ⟨s4, s5, s6⟩ := Oper.apart_spec A1q
  obtain ⟨s7, s8, s9⟩ := Oper.apart_spec Aq2
  obtain ⟨t1, t2, t3⟩ := Oper.apart_spec Aqq
  have S1 := fun cs b => sel b1 p1 cs b h1
  have S2 := fun cs b => sel c1 q1 cs b h2
  have S3 := fun cs b => sel b2 p2 cs b h3
  have S4 := fun cs b => sel c2 q2 cs b h4
  -- one of the two threads is at its end
  have g21 : ∀ v1 v2 w, Ex W w → R2 v2 w → wpM P md ops Q (n + 1) (((L.setIfInBounds b1 true).setIfInBounds c1 true).setIfInBounds b2 true) (((a.put p1.dst v1).put q1.dst x1).put p2.dst v2) w := fun v1 v2 w hx hR => by
    refine wpM.fork [c2] n (by rw [r21]; simp) (fun k hk w' hx' => ?_)
    obtain rfl : k = c2 := by simpa using hk
    obtain ⟨f, args, hr, hc⟩ := u2.run v2 w' (hx.tr hx') (st2 _ _ _ hx' hR)
    have ec : ((a.put p1.dst v1).put q1.dst x1).put p2.dst v2 = ((a.put p2.dst v2).put p1.dst v1).put q1.dst x1 := by
      rw [Act.put_comm (a.put p1.dst v1) x1 v2 s8, Act.put_comm a v1 v2 s2]
    have e5 : execOp (((a.put p1.dst v1).put q1.dst x1).put p2.dst v2).eval q2 = execOp (a.put p2.dst v2).eval q2 := by
      rw [ec, execOp_put q2 S4 _ q1.dst x1 t1, execOp_put q2 S4 _ p1.dst v1 s4]
    have e6 : Region.wanted q2 (yielded ops (((a.put p1.dst v1).put q1.dst x1).put p2.dst v2).tmps) = true := by
      rw [ec, wanted_put q2 _ q1.dst x1 t1, wanted_put q2 _ p1.dst v1 s4]
      exact u2.wanted v2
    exact wpOp_call h4 e6 (by rw [e5]; exact hr) hc (fun w'' h'' => ⟨h'', h v1 v2 w'' ((hx.tr hx').tr h'')⟩)
  have g12 : ∀ v1 v2 w, Ex W w → R1 v1 w → wpM P md ops Q (n + 1) (((L.setIfInBounds b1 true).setIfInBounds b2 true).setIfInBounds c2 true) (((a.put p1.dst v1).put p2.dst v2).put q2.dst x2) w := fun v1 v2 w hx hR => by
    refine wpM.fork [c1] n (by rw [r12]; simp) (fun k hk w' hx' => ?_)
    obtain rfl : k = c1 := by simpa using hk
    obtain ⟨f, args, hr, hc⟩ := u1.run v1 w' (hx.tr hx') (st1 _ _ _ hx' hR)
    have e5 : execOp (((a.put p1.dst v1).put p2.dst v2).put q2.dst x2).eval q1 = execOp (a.put p1.dst v1).eval q1 := by
      rw [execOp_put q1 S2 _ q2.dst x2 t3, execOp_put q1 S2 _ p2.dst v2 s9]
    have e6 : Region.wanted q1 (yielded ops (((a.put p1.dst v1).put p2.dst v2).put q2.dst x2).tmps) = true := by
      rw [wanted_put q1 _ q2.dst x2 t3, wanted_put q1 _ p2.dst v2 s9]
      exact u1.wanted v1
    refine wpOp_call h2 e6 (by rw [e5]; exact hr) hc (fun w'' h'' => ⟨h'', ?_⟩)
    rw [e4, ← Act.put_comm ((a.put p1.dst v1).put p2.dst v2) x1 x2 t2, ← Act.put_comm (a.put p1.dst v1) x1 v2 s8]
    exact h v1 v2 w'' ((hx.tr hx').tr h'')
  have g11 : ∀ v1 v2 w, Ex W w → R1 v1 w → R2 v2 w → wpM P md ops Q (n + 2) ((L.setIfInBounds b1 true).setIfInBounds b2 true) ((a.put p1.dst v1).put p2.dst v2) w := fun v1 v2 w hx hR1 hR2 => by
    refine wpM.fork [c1, c2] (n + 1) (by rw [r11]; simp) (fun k hk w' hx' => ?_)
    rcases (show k = c1 ∨ k = c2 by simpa using hk) with rfl | rfl
    · obtain ⟨f, args, hr, hc⟩ := u1.run v1 w' (hx.tr hx') (st1 _ _ _ hx' hR1)
      refine wpOp_call h2 (by rw [wanted_put q1 _ p2.dst v2 s9]; exact u1.wanted v1) (by rw [execOp_put q1 S2 _ p2.dst v2 s9]; exact hr) hc (fun w'' h'' => ⟨h'', ?_⟩)
      rw [e2, ← Act.put_comm (a.put p1.dst v1) x1 v2 s8]
      exact g21 v1 v2 w'' ((hx.tr hx').tr h'') (st2 _ _ _ (hx'.tr h'') hR2)
    · obtain ⟨f, args, hr, hc⟩ := u2.run v2 w' (hx.tr hx') (st2 _ _ _ hx' hR2)
      have ec := Act.put_comm a v1 v2 s2
      refine wpOp_call h4 (by rw [ec, wanted_put q2 _ p1.dst v1 s4]; exact u2.wanted v2) (by rw [ec, execOp_put q2 S4 _ p1.dst v1 s4]; exact hr) hc (fun w'' h'' => ⟨h'', ?_⟩)
      exact g12 v1 v2 w'' ((hx.tr hx').tr h'') (st1 _ _ _ (hx'.tr h'') hR1)
  have g20 : ∀ v1 w, Ex W w → wpM P md ops Q (n + 2) ((L.setIfInBounds b1 true).setIfInBounds c1 true) ((a.put p1.dst v1).put q1.dst x1) w := fun v1 w hx => by
    refine wpM.fork [b2] (n + 1) (by rw [r20]; simp) (fun k hk w' hx' => ?_)
    obtain rfl : k = b2 := by simpa using hk
    obtain ⟨v2, w'', hr, h'', hR⟩ := m2.run w' (hx.tr hx')
    exact wpOp_value h3 (by rw [wanted_put p2 _ q1.dst x1 s7, wanted_put p2 _ p1.dst v1 s1]; exact m2.wanted) (by rw [execOp_put p2 S3 _ q1.dst x1 s7, execOp_put p2 S3 _ p1.dst v1 s1]; exact hr) ⟨h'', g21 v1 v2 w'' ((hx.tr hx').tr h'') hR⟩
  have g02 : ∀ v2 w, Ex W w → wpM P md ops Q (n + 2) ((L.setIfInBounds b2 true).setIfInBounds c2 true) ((a.put p2.dst v2).put q2.dst x2) w := fun v2 w hx => by
    refine wpM.fork [b1] (n + 1) (by rw [r02]; simp) (fun k hk w' hx' => ?_)
    obtain rfl : k = b1 := by simpa using hk
    obtain ⟨v1, w'', hr, h'', hR⟩ := m1.run w' (hx.tr hx')
    refine wpOp_value h1 (by rw [wanted_put p1 _ q2.dst x2 s6, wanted_put p1 _ p2.dst v2 s3]; exact m1.wanted) (by rw [execOp_put p1 S1 _ q2.dst x2 s6, execOp_put p1 S1 _ p2.dst v2 s3]; exact hr) ⟨h'', ?_⟩
    rw [e3, ← Act.put_comm (a.put p2.dst v2) v1 x2 s5, ← Act.put_comm a v1 v2 s2]
    exact g12 v1 v2 w'' ((hx.tr hx').tr h'') hR
  have g10 : ∀ v1 w, Ex W w → R1 v1 w → wpM P md ops Q (n + 3) (L.setIfInBounds b1 true) (a.put p1.dst v1) w := fun v1 w hx hR => by
    refine wpM.fork [c1, b2] (n + 2) (by rw [r10]; simp) (fun k hk w' hx' => ?_)
    rcases (show k = c1 ∨ k = b2 by simpa using hk) with rfl | rfl
    · obtain ⟨f, args, hr, hc⟩ := u1.run v1 w' (hx.tr hx') (st1 _ _ _ hx' hR)
      exact wpOp_call h2 (u1.wanted v1) hr hc (fun w'' h'' => ⟨h'', g20 v1 w'' ((hx.tr hx').tr h'')⟩)
    · obtain ⟨v2, w'', hr, h'', hR2⟩ := m2.run w' (hx.tr hx')
      exact wpOp_value h3 (by rw [wanted_put p2 _ p1.dst v1 s1]; exact m2.wanted) (by rw [execOp_put p2 S3 _ p1.dst v1 s1]; exact hr) ⟨h'', g11 v1 v2 w'' ((hx.tr hx').tr h'') (st1 _ _ _ (hx'.tr h'') hR) hR2⟩
  have g01 : ∀ v2 w, Ex W w → R2 v2 w → wpM P md ops Q (n + 3) (L.setIfInBounds b2 true) (a.put p2.dst v2) w := fun v2 w hx hR => by
    refine wpM.fork [b1, c2] (n + 2) (by rw [r01]; simp) (fun k hk w' hx' => ?_)
    rcases (show k = b1 ∨ k = c2 by simpa using hk) with rfl | rfl
    · obtain ⟨v1, w'', hr, h'', hR1⟩ := m1.run w' (hx.tr hx')
      refine wpOp_value h1 (by rw [wanted_put p1 _ p2.dst v2 s3]; exact m1.wanted) (by rw [execOp_put p1 S1 _ p2.dst v2 s3]; exact hr) ⟨h'', ?_⟩
      rw [e1, ← Act.put_comm a v1 v2 s2]
      exact g11 v1 v2 w'' ((hx.tr hx').tr h'') hR1 (st2 _ _ _ (hx'.tr h'') hR)
    · obtain ⟨f, args, hr, hc⟩ := u2.run v2 w' (hx.tr hx') (st2 _ _ _ hx' hR)
      exact wpOp_call h4 (u2.wanted v2) hr hc (fun w'' h'' => ⟨h'', g02 v2 w'' ((hx.tr hx').tr h'')⟩)
  refine wpM.fork [b1, b2] (n + 3) (by rw [r00]; simp) (fun k hk w' hx' => ?_)
  rcases (show k = b1 ∨ k = b2 by simpa using hk) with rfl | rfl
  · obtain ⟨v1, w'', hr, h'', hR⟩ := m1.run w' hx'
    exact wpOp_value h1 m1.wanted hr ⟨h'', g10 v1 w'' (hx'.tr h'') hR⟩
  · obtain ⟨v2, w'', hr, h'', hR⟩ := m2.run w' hx'
    exact wpOp_value h3 m2.wanted hr ⟨h'', g01 v2 w'' (hx'.tr h'') hR⟩
end
end Go.Proofs.YtndakfanlgilmaaDoor


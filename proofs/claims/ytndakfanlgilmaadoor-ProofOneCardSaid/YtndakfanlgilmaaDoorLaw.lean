/-
  Plain laws of this verifier: from a walk that answers true and leaves all that was there as it was, to the post of a row.
-/
import Derived.Test.YtndakfanlgilmaaDoorFr
import Derived.Test.YtndakfanlgilmaaDoorRows
import Derived.ProofKit
import Derived.OpenShut
import Derived.SizedLaws
namespace Go.Proofs.YtndakfanlgilmaaDoor
open Go.ChangeShapes Go.WideShapes Go.ChangeAt Go.RowKit
set_option linter.unusedVariables false

set_option maxRecDepth 100000 in
theorem Tryd.own : ownKnob Tryd.prog.godebug = none := by kernel_rfl
set_option maxRecDepth 100000 in
theorem Tryd.laidOut : laidOutB Tryd.prog = true := by kernel_rfl

section
variable {H : Type} {enc : TypeId × Value → H}

set_option maxRecDepth 100000 in
theorem trodAll_below {P : Program} (hl : laidOutB P = true) {W W2 : World} (hb : Below W.heap.size W W2) (ts : List TypeId) : ∀ (vs : List Value) (ds : List (DataW H)) (ps : List MemPlace),
    (ts.all fun t => P.readableRec t && decide (t < P.types.size)) = true → DataW.TrodAll enc P W 0 (fun _ => true) true ts vs ds ps → (∀ x ∈ ps, x.block < W.heap.size) →
    DataW.TrodAll enc P W2 0 (fun b => decide (b < W.heap.size)) true ts vs ds ps := by
  induction ts with
  | nil =>
    intro vs ds ps _ h _
    obtain ⟨rfl, rfl, rfl⟩ := trodAll_nil h
    exact trodAll_mk0
  | cons t ts ih =>
    intro vs ds ps hr h hlt
    obtain ⟨v, vs2, d, ds2, p, q, rfl, rfl, rfl, hd, hq⟩ := trodAll_cons h
    simp only [List.all_cons, Bool.and_eq_true, decide_eq_true_eq] at hr
    exact trodAll_cons_mk (Below.trod hl hr.1.1 hr.1.2 hd hb (fun x hx => hlt x (by simp [hx]))) (ih _ _ _ hr.2 hq (fun x hx => hlt x (by simp [hx])))

set_option maxRecDepth 100000 in
/-- The law's post: it answered true, and nothing that was there has turned. -/
theorem law_post {f : Func} {s : ChangeSpec} {W W2 : World} {args : Array Value} {ds gs : List (DataW H)} {before : List MemPlace} (hvars : s.vars = []) (hres : f.resultTypes.toList = [4])
    (hread : (f.params.toList.all fun t => Tryd.prog.readableRec t && decide (t < Tryd.prog.types.size)) = true)
    (hW : DataW.Whole enc Tryd.prog f.params.toList s.vars false W args.toList ds gs before) (hfn : (s.fn H (ds ++ gs)) = { results := [.lit (.bool true)], args := ds, vars := [] }) (hb : Below W.heap.size W W2) :
    s.post enc Tryd.prog f false true false false W args (.bool true) W2 := by
  obtain ⟨p, q, hA, hV, hp, hfz, hnd⟩ := hW
  rw [hvars] at hV
  obtain ⟨rfl, rfl⟩ := trodVars_none hV
  rw [List.append_nil] at hp
  subst hp
  have hlt : ∀ x ∈ before, x.block < W.heap.size := fun x hx => by
    have hW' : DataW.Whole enc Tryd.prog f.params.toList s.vars false W args.toList ds [] before := ⟨before, [], hA, by rw [hvars]; rfl, by simp, hfz, hnd⟩
    exact hW'.lt x hx
  refine ⟨ds, [], before, [], before, [], ⟨before, [], hA, by rw [hvars]; rfl, by simp, hfz, hnd⟩, ?_, ?_, ?_, hb.frame _, fun h => by cases h⟩
  · rw [hfn, hres, show f.resultTypes.size = 1 by rw [← Array.length_toList, hres]; rfl]
    exact trodAll_mk1 (shut_bool Tryd.underlying4 _)
  · rw [hfn]
    exact trodAll_below Tryd.laidOut hb _ _ _ _ hread hA hlt
  · rw [hfn, hvars]
    rfl
end
end Go.Proofs.YtndakfanlgilmaaDoor


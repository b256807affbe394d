/-
  At every input the Go function ProofOne returns true and leaves its arguments as they were. Where the tables of the program that it reads stand as the program lays them.
-/
import Derived.Test.YtndakfanlgilmaaDoorArg
import Derived.Test.YtndakfanlgilmaaDoorQPe
import Derived.Test.YtndakfanlgilmaaDoorCards
import Derived.Test.YtndakfanlgilmaaDoorTie
import Derived.ProofKit
import Derived.LaidMore
import Derived.OpenShut
import Derived.Stop.Joined
import Derived.SevenTiedAt
namespace Go.Proofs.YtndakfanlgilmaaDoor.proofOne
open Go.ChangeShapes Go.WideShapes Go.ChangeAt Go.RowKit
set_option linter.unusedVariables false

set_option maxRecDepth 100000 in
theorem door_met (os : Go.Os) (args : Array Value) : laidMetH Tryd.prog Rows.proofOneRow.laid ((World.doorLaid Tryd.prog 400 os).forCall (fun _ _ => 0) ⟨#[], args, []⟩).memory :=
  laidMetH_of_parts3 (fuel := 8) (laidMet_of_run' 8 (by kernel_rfl) (by kernel_rfl)) (by kernel_rfl) (by kernel_rfl)

set_option maxRecDepth 100000 in
theorem lifted (os : Go.Os) (started : os.Started) (H : Type) (enc : TypeId × Value → H) :
    ReturnsInHanded {} Tryd.checked os 3 .any (fun w args => (Rows.proofOneSpec.pre enc Tryd.prog Tryd.f3 [] false w args ∧ laidMetH Tryd.prog Rows.proofOneRow.laid w) ∧ sizedMet enc Tryd.prog Tryd.f3 (OpenSpec.ofChange Rows.proofOneSpec) false w args)
      (Rows.proofOneSpec.post enc Tryd.prog Tryd.f3 false true false false) := by
  refine returnsInHanded_of_change_and (C := Tryd.checked) (X := fun w _ => laidMetH Tryd.prog Rows.proofOneRow.laid w) (fun _ _ _ hh h => h.of_heap hh) Tryd.own started (by kernel_rfl) Tryd.func3
    (ChangeSpec.witness_shaped (enc := enc) (C := Tryd.checked) (os := os) (X := fun w _ => laidMetH Tryd.prog Rows.proofOneRow.laid w) false (World.doorLaid Tryd.prog 400 os) #[.agg (krow (List.replicate 32 0)), .agg (pfRow (.slice none 0 0) false (List.replicate 32 0) (List.replicate 32 0)), .agg (pfRow (.slice none 0 0) false (List.replicate 32 0) (List.replicate 32 0))] 8 rfl (World.shaped_of_RefB (by kernel_rfl) (by kernel_rfl)) (by kernel_rfl) (by kernel_rfl) (by kernel_rfl) (door_met os _)) ?_
  intro W base args ds gs before hval0 hW _ _ hL _
  have hval : ∀ (j : Nat) t v, Tryd.f3.params[j]? = some t → args[j]? = some v → Value.okWide Tryd.prog W .any base t v := hval0
  have hW' := hW
  obtain ⟨p, q, hA0, hV, rfl, hfz, hnd⟩ := hW
  have hA : DataW.TrodAll enc Tryd.prog W 0 (fun _ => true) true Tryd.f3.params.toList args.toList ds p := hA0
  rw [Tryd.params3] at hA hval
  obtain ⟨v0, v1, v2, d0, d1, d2, p0, p1, p2, rfl, rfl, rfl, h0, h1, h2⟩ := trodAll_three hA
  obtain ⟨rfl, rfl⟩ := trodVars_none hV
  obtain ⟨l0, rfl, k0⟩ := open_pkey (hval 0 23 v0 rfl rfl) h0
  obtain ⟨x1, y1, t1, P1, a1, n1, c1, rfl, k1⟩ := open_proof (hval 1 28 v1 rfl rfl) h1
  obtain ⟨x2, y2, t2, P2, a2, n2, c2, rfl, k2⟩ := open_proof (hval 2 28 v2 rfl rfl) h2
  refine (pone_any l0 x1 y1 t1 P1 a1 n1 c1 x2 y2 t2 P2 a2 n2 c2 k0 k1.1 k1.2.1 k1.2.2.1 k1.2.2.2.1 k1.2.2.2.2.1 k2.1 k2.2.1 k2.2.2.1 k2.2.2.2.1 k2.2.2.2.2.1 W k1.2.2.2.2.2 k2.2.2.2.2.2 (env_of (by kernel_rfl) hL (.tail _ (.tail _ (.head _)))) (renv_of (by kernel_rfl) hL (.head _) (.tail _ (.head _)))).mono fun e W' ⟨he, hg⟩ => ?_
  subst he
  exact ⟨_, rfl, law_post rfl rfl (by kernel_rfl) hW' rfl (hg.below (Nat.le_refl _) (fun _ _ h => h))⟩

set_option maxRecDepth 100000 in
theorem row_holds : Rows.ProofOneSaid :=
  OpenClaim.holds_of_wide 3 Tryd.f3 rfl rfl rfl rfl rfl rfl rfl ⟨rfl, rfl, rfl, rfl, rfl⟩ rfl rfl rfl rfl rfl (by kernel_rfl) Tryd.func3 (by kernel_rfl)
    (of_decide_eq_true (by kernel_rfl)) (by unfold Func.isWrapper; first | (rw [if_pos (by decide +kernel)]; kernel_rfl) | (rw [if_neg (by decide +kernel)]; exact ⟨rfl, rfl⟩))
    (fun os started H enc _ => lifted os started H enc)

set_option maxRecDepth 100000 in
theorem proved : Rows.ProofOneCardSaid :=
  Claim7.holds_tied_plain_at .later [] [.data, .data, .data] true (true, Rows.proofOneCard.stood.harness.2) false
    row_holds (fun _ h => by cases h) (by kernel_rfl) (fun _ h => by cases h) proofOne_row_tie rfl ⟨rfl, rfl⟩ (by kernel_rfl) rfl
    (fun f fn hf hfn => by
      obtain rfl : f = 3 := Option.some.inj ((show Tryd.prog.funcNamed "custumal/custumallaw15.ProofOne" = some 3 by kernel_rfl).symm.trans hf) |>.symm
      obtain rfl : fn = Tryd.f3 := (Option.some.inj (Tryd.func3.symm.trans hfn)).symm
      exact ⟨by kernel_rfl, fun j t ht => by
        rw [Tryd.params3] at ht
        have hm : t ∈ #[23, 28, 28].toList := by simpa using Array.mem_of_getElem? ht
        have hall : (#[23, 28, 28].toList.all fun u => !Tryd.prog.wantsStandIn u) = true := by kernel_rfl
        exact (show Tryd.prog.wantsStandIn t = false by simpa using List.all_eq_true.1 hall t hm)⟩)
    (by kernel_rfl)
#print axioms proved
end Go.Proofs.YtndakfanlgilmaaDoor.proofOne

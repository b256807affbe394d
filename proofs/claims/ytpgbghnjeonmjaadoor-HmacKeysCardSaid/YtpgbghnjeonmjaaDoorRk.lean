/-
  The contract of Key of package custumalref03.
-/
import Derived.Test.YtpgbghnjeonmjaaDoorNu
namespace Go.Proofs.YtpgbghnjeonmjaaDoor
open Go.RowKit
set_option linter.unusedVariables false

set_option maxRecDepth 100000 in
set_option maxHeartbeats 800000 in
theorem rkey_any (k s : List UInt8) (z : Int) (u : Nat) (hu : IntKind.u64.wrap z = (u : Int)) (hk : k.length ≤ 1000) (hs : s.length ≤ 1000) (w : World) (hR : REnv w) :
    Calls Tryd.prog 18 #[.string ⟨k.toArray⟩, .string ⟨s.toArray⟩, .int .i64 z] w fun e w' => e = .returned (.string ⟨(HM.of k (s ++ 0 :: S2.be8 u)).toArray⟩) ∧ Fr (fun _ => False) w w' := by
  have hb8 : (S2.be8 u).length = 8 := rfl
  obtain ⟨x1, hx1⟩ : ∃ x1, x1 = s ++ [0] := ⟨_, rfl⟩
  have l1 : x1.length = s.length + 1 := by rw [hx1]; simp
  have c1 : ∀ W : World, (Op.stringOp .add ⟨s.toArray⟩ ⟨#[0]⟩).run Tryd.prog W = .ok (.string ⟨x1.toArray⟩) W := fun W => by rw [hx1]; exact run_string_add_lists W s [0] (by omega) (by simp)
  obtain ⟨x2, hx2⟩ : ∃ x2, x2 = x1 ++ S2.be8 u := ⟨_, rfl⟩
  have l2 : x2.length = s.length + 9 := by rw [hx2, List.length_append, l1, hb8]
  have c2 : ∀ W : World, (Op.stringOp .add ⟨x1.toArray⟩ ⟨(S2.be8 u).toArray⟩).run Tryd.prog W = .ok (.string ⟨x2.toArray⟩) W := fun W => by rw [hx2]; exact run_string_add_lists W x1 (S2.be8 u) (by omega) (by omega)
  have he : s ++ 0 :: S2.be8 u = x2 := by rw [hx2, hx1]; simp
  rw [he]
  have L2 := Lib.hid l2
  clear hx1 hx2 l1 l2 he hb8
  go_enter Tryd.func18, Tryd.ntmps18
  go_wp2_with fail
  refine (eight_any z u hu _).mono ?_
  rintro e w1 ⟨rfl, F1⟩
  go_wp2_with fail
  refine (rof_any k x2 (by omega) (by have := L2.out; omega) w1 (hR.fr F1 (fun h => h) (fun h => h))).mono ?_
  rintro e w2 ⟨rfl, F2⟩
  go_wp2_with fail
  go_ret
  exact ⟨rfl, F1.trans F2 (fun _ h => h.elim)⟩
end Go.Proofs.YtpgbghnjeonmjaaDoor


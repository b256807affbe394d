/-
  The law's own look at extents.
-/
import Derived.Test.YtgladedjgjhlaaaTf
namespace Go.Proofs.Ytgladedjgjhlaaa
open Go.RowKit
set_option linter.unusedVariables false
set_option linter.unusedSimpArgs false

set_option maxRecDepth 100000 in
set_option maxHeartbeats 1600000 in
theorem extents_any (w : World) : Calls Try.prog 44 #[] w fun e w' => e = .returned (.bool true) ∧ Fr (fun _ => False) w w' := by
  obtain ⟨Z, _, _, hmk⟩ := mk_blocks 30 (by omega)
  have hd := fun W : World => dnew_ok 30 (by omega) (by omega) Z hmk W
  have HD := Lib.hid hd
  clear hmk hd
  go_enter Try.func44, Try.ntmps44
  go_wp2_with fail
  refine (HD.out w).mono ?_
  rintro e w1 ⟨d, bn, bl, rfl, hF, F1⟩
  go_wp2_with fail
  have hsz : ∀ W : World, Ex w1 W → Calls Try.prog 21 #[.pointer (some ⟨d, 0, none⟩)] W fun e w' => e = .returned (.int .i64 ((30 : Nat) : Int)) ∧ Fr (fun _ => False) W w' := fun W hx =>
    size_ok d 30 (some ⟨bn, 0, none⟩) W (by rw [cell_of_block ((hx.block _ (lt_of_block hF.blk) (fun h => h)).trans hF.blk)]; rfl)
  refine (xnew_good (some ⟨d, 0, none⟩) 30 10 3 4 (by omega) (by omega) (by omega) (by omega) (by decide) ⟨by omega, by omega⟩ ⟨by omega, by omega⟩ ⟨by omega, by omega⟩ w1 (hsz w1 (Fr.refl _ _))).mono ?_
  rintro e w2 ⟨x, rfl, hX, _, F2⟩
  go_wp2_with fail
  refine (area_ok x _ 10 3 4 1 w2 hX (by omega) (by omega) ⟨by omega, by omega⟩ ⟨by omega, by omega⟩).mono ?_
  rintro e w3 ⟨rfl, F3⟩
  have hX3 := hX.fr F3
  go_wp2_with fail
  refine (of_any x _ 10 3 4 17 (by omega) (by omega) (by omega) (by omega) w3 hX3).mono ?_
  rintro e w4 ⟨rfl, F4⟩
  have hX4 := hX3.fr F4
  rw [show ofv (10 : Nat) (3 : Nat) (4 : Nat) 17 = 1 by decide]
  go_wp2_with fail
  refine (of_any x _ 10 3 4 9 (by omega) (by omega) (by omega) (by omega) w4 hX4).mono ?_
  rintro e w5 ⟨rfl, F5⟩
  rw [show ofv (10 : Nat) (3 : Nat) (4 : Nat) 9 = -1 by decide]
  go_wp2_with fail
  go_ret
  exact ⟨rfl, Ex.tr (Ex.tr (Ex.tr (Ex.tr F1 F2) F3) F4) F5⟩
end Go.Proofs.Ytgladedjgjhlaaa

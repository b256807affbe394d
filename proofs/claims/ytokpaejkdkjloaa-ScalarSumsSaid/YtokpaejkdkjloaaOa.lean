/-
  The contract of of of package custumallaw06.
-/
import Derived.Test.YtokpaejkdkjloaaO6
namespace Go.Proofs.Ytokpaejkdkjloaa
open Go.RowKit
set_option linter.unusedVariables false

theorem bl_cons (n X : Nat) : bl (n + 1) X = UInt8.ofNat (X % 256) :: bl n (X / 256) := by
  unfold bl
  rw [List.range_succ_eq_map, List.map_cons, List.map_map, Nat.pow_zero, Nat.div_one]
  congr 1
  refine List.map_congr_left (fun i _ => ?_)
  show UInt8.ofNat (X / 256 ^ (i + 1) % 256) = _
  rw [Nat.pow_succ, Nat.mul_comm, ← Nat.div_div_eq_div_mul]
theorem sv_bl : ∀ n X, X < 256 ^ n → sv (bl n X) = X := by
  intro n
  induction n with
  | zero => intro X h; simp at h; subst h; rfl
  | succ n ih =>
    intro X h
    rw [bl_cons, sv, ih (X / 256) (by rw [Nat.pow_succ] at h; omega), UInt8.toNat_ofNat']
    omega

set_option maxRecDepth 100000 in
set_option maxHeartbeats 1600000 in
theorem lof_any (X : Nat) (hX : X < 115792089237316195423570985008687907853269984665640564039457584007913129639936) (w : World) :
    Calls Try.prog 57 #[.agg (nc X)] w fun e w' => e = .returned (.agg (nd (X % LL))) ∧ Fr (fun _ => False) w w' := by
  have RA := fun (W : World) => raw6_any X W
  have OF := fun (W : World) => of6_any (bl 32 X) (by rw [bl_length]; omega) W
  rw [sv_bl 32 X (by rw [show (256 : Nat) ^ 32 = 115792089237316195423570985008687907853269984665640564039457584007913129639936 by decide]; exact hX)] at OF
  have s1 := nd_szs 0 (X % LL)
  rw [← nd_zero] at s1
  have s2 := nd_one' (X % LL)
  have s3 := Try.sizeN (X := X % LL)
  generalize bl 32 X = bb at *
  generalize nd (X % LL) = R at *
  obtain ⟨x0, x1, x2, x3, _, _, _, _, _, ex⟩ := nc_open X hX
  rw [ex] at RA ⊢
  clear ex hX
  go_enter Try.func57, Try.ntmps57
  go_wp2_with fail
  refine (RA _).mono ?_
  rintro e w1 ⟨rfl, F1⟩
  have C1 := F1.keepM (heap_alloc2_new w _ _)
  have G1 : Fr (fun _ => False) w w1 := (((Fr.refl _ w).alloc _).alloc _).trans F1 (fun _ h => h.elim)
  clear F1 RA
  go_wp2_with fail
  refine (OF _).mono ?_
  rintro e w2 ⟨rfl, F2⟩
  have C2 := F2.keepM C1
  have G2 : Fr (fun _ => False) w w2 := G1.trans F2 (fun _ h => h.elim)
  clear C1 G1 F2 OF
  go_wp2_with (with_reducible refine wpList_store_row rfl 78 (.tmp 2) (.tmp 5) rfl (w.heap.size + 1) R rfl rfl 78 _ C2 s3 s1 s2 ?_)
  refine bodyPost_ret (results_cell_row rfl _ _ (w.heap.size + 1) 78 R (0, 0) _ rfl (setRow_heap _ _ _ _ _ _ C2) Try.underlying78 rfl s3) rfl ?_
  exact ⟨rfl, G2.trans (Fr.setRow (S := fun k => k = w.heap.size + 1) (Fr.refl _ _) rfl _) (fun i hi => Or.inr (by omega))⟩
end Go.Proofs.Ytokpaejkdkjloaa


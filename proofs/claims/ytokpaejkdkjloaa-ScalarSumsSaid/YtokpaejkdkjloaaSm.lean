/-
  The contract of same of package custumallaw06.
-/
import Derived.Test.YtokpaejkdkjloaaO6
import Derived.Deep.RegionHeld3
namespace Go.Proofs.Ytokpaejkdkjloaa
open Go.RowKit
set_option linter.unusedVariables false

set_option maxRecDepth 100000 in
set_option maxHeartbeats 1600000 in
theorem same6_any (X : Nat) (hX : X < 115792089237316195423570985008687907853269984665640564039457584007913129639936) (w : World) :
    Calls Try.prog 60 #[.agg (nc X), .agg (nd X)] w fun e w' => e = .returned (.bool true) ∧ Fr (fun _ => False) w w' := by
  have RA := fun (W : World) => raw6_any X W
  have BY := fun (W : World) => bytes6_any X W
  generalize bl 32 X = bb at *
  obtain ⟨x0, x1, x2, x3, _, _, _, _, _, ex⟩ := nc_open (X) (hX)
  rw [ex] at RA ⊢
  clear ex
  obtain ⟨cs, hcs⟩ : ∃ cs : List Value, nd X = cs.toArray := ⟨(nd X).toList, by simp⟩
  have hlen : cs.length = 16 := by have := congrArg Array.size hcs; rw [show (nd X).size = 16 from iq_size _ _] at this; simpa using this.symm
  have hone : ∀ v ∈ cs, v.oneCell' = true := by
    have h1 := nd_one' X
    rw [hcs] at h1
    simpa using h1
  have hu := Try.underlying78
  have hi : (Try.prog.info? 78).map (·.size) = some cs.length := by rw [hlen]; kernel_rfl
  rw [hcs] at BY ⊢
  clear hcs hX
  go_enter Try.func60, Try.ntmps60
  go_wp2_with fail
  have A1 := heap_alloc2_old w (.cells #[.int .u64 (x0 : Int), .int .u64 (x1 : Int), .int .u64 (x2 : Int), .int .u64 (x3 : Int)] 77) (.cells cs.toArray 78)
  have B1 := heap_alloc2_new w (.cells #[.int .u64 (x0 : Int), .int .u64 (x1 : Int), .int .u64 (x2 : Int), .int .u64 (x3 : Int)] 77) (.cells cs.toArray 78)
  have E0 : Fr (fun _ => False) w ((w.alloc (.cells #[.int .u64 (x0 : Int), .int .u64 (x1 : Int), .int .u64 (x2 : Int), .int .u64 (x3 : Int)] 77)).alloc (.cells cs.toArray 78)) := ((Fr.refl _ w).alloc _).alloc _
  generalize (w.alloc (.cells #[.int .u64 (x0 : Int), .int .u64 (x1 : Int), .int .u64 (x2 : Int), .int .u64 (x3 : Int)] 77)).alloc (.cells cs.toArray 78) = W0 at *
  have HA := Lib.hid A1
  have HB := Lib.hid B1
  have HE := Lib.hid E0
  have hS : ∀ w' : World, Fr (fun _ => False) W0 w' → (Fr (fun _ => False) W0 w' ∧ w'.cell? ⟨w.heap.size, 0, none⟩ = some (.int .u64 (x0 : Int)) ∧ w'.cell? ⟨w.heap.size, 1, none⟩ = some (.int .u64 (x1 : Int)) ∧ w'.cell? ⟨w.heap.size, 2, none⟩ = some (.int .u64 (x2 : Int)) ∧ w'.cell? ⟨w.heap.size, 3, none⟩ = some (.int .u64 (x3 : Int)) ∧ w'.rangeAt (w.heap.size + 1) 0 cs) := fun w' F => by
    obtain ⟨i0, i1, i2, i3, i4, i5, i6, i7⟩ := blk4 (F.keepM HA.out)
    exact ⟨F, i0, i1, i2, i3, fun j v hv => by rw [Nat.zero_add, cell_of_block (F.keepM HB.out)]; simpa using hv⟩
  obtain ⟨_, i0, i1, i2, i3, j0⟩ := hS W0 (Fr.refl _ _)
  clear A1 B1 E0
  go_region_held3 (fun w' => Fr (fun _ => False) W0 w' ∧ w'.cell? ⟨w.heap.size, 0, none⟩ = some (.int .u64 (x0 : Int)) ∧ w'.cell? ⟨w.heap.size, 1, none⟩ = some (.int .u64 (x1 : Int)) ∧ w'.cell? ⟨w.heap.size, 2, none⟩ = some (.int .u64 (x2 : Int)) ∧ w'.cell? ⟨w.heap.size, 3, none⟩ = some (.int .u64 (x3 : Int)) ∧ w'.rangeAt (w.heap.size + 1) 0 cs)
    ((first | (exact hS _ (by assumption)) | (exact hS _ (Fr.refl _ W0).drew) | (exact hS _ (Fr.refl _ W0)) | (exact hS _ (‹Fr (fun _ => False) W0 _ ∧ _›).1) | (exact hS _ (‹Fr (fun _ => False) W0 _ ∧ _›).1.drew)))
    ((first
      | (go_at_call 102
         with_reducible refine (RA _).mono ?_
         rintro e w1 ⟨rfl, F1⟩
         have S1 : Fr (fun _ => False) W0 w1 := (‹Fr (fun _ => False) W0 _ ∧ _›).1.trans F1 (fun _ h => h.elim)
         clear F1)
      | (go_at_call 67
         with_reducible refine (BY _).mono ?_
         rintro e w2 ⟨rfl, F2⟩
         have S2 : Fr (fun _ => False) W0 w2 := (‹Fr (fun _ => False) W0 _ ∧ _›).1.trans F2 (fun _ h => h.elim)
         clear F2)))
  all_goals
    go_wp2
    go_ret
    exact ⟨rfl, HE.out.trans S2 (fun _ h => h.elim)⟩
end Go.Proofs.Ytokpaejkdkjloaa


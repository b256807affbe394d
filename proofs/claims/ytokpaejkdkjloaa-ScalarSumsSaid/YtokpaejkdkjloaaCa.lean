/-
  The contract of Canon of package scalar.
-/
import Derived.Test.YtokpaejkdkjloaaLg
import Derived.Test.YtokpaejkdkjloaaSb
import Derived.Test.YtokpaejkdkjloaaOa
import Derived.Deep.RegionHeld3
import Derived.Stop.BytesEq
namespace Go.Proofs.Ytokpaejkdkjloaa
open Go.RowKit
set_option linter.unusedVariables false

theorem sv_lt : ∀ l : List UInt8, sv l < 256 ^ l.length := by
  intro l
  induction l with
  | nil => simp [sv]
  | cons b l ih =>
    have := b.toNat_lt
    rw [sv, List.length_cons, Nat.pow_succ]
    omega
theorem bl_sv : ∀ l : List UInt8, bl l.length (sv l) = l := by
  intro l
  induction l with
  | nil => rfl
  | cons b l ih =>
    have hb := b.toNat_lt
    rw [List.length_cons, bl_cons, sv, show (b.toNat + 256 * sv l) % 256 = b.toNat by omega, show (b.toNat + 256 * sv l) / 256 = sv l by omega, ih]
    simp
theorem p256 : (256 : Nat) ^ 32 = 115792089237316195423570985008687907853269984665640564039457584007913129639936 := by decide
theorem canon_eq (l : List UInt8) (hl : l.length = 32) : (bl 32 (sv l % LL % LL) != l) = !decide (sv l < LL) := by
  have h1 := sv_lt l
  rw [hl, p256] at h1
  have h2 := bl_sv l
  rw [hl] at h2
  rw [Nat.mod_mod, Bool.eq_iff_iff]
  simp only [bne_iff_ne, ne_eq, Bool.not_eq_true', decide_eq_false_iff_not]
  constructor
  · intro h hc
    exact h (by rw [Nat.mod_eq_of_lt hc, h2])
  · intro h he
    rw [← h2] at he
    have h3 := congrArg sv he
    rw [sv_bl 32 _ (by rw [p256]; exact mod_LP _), sv_bl 32 _ (by rw [p256]; exact h1)] at h3
    exact h (by rw [← h3]; exact mod_LL _)
theorem lies_blk {W : World} {b : Nat} {l : List UInt8} {t : TypeId} {fr : Nat × Nat} (h : W.heap[b]? = some (.cells (bv l).toArray t fr)) : Lies W (some ⟨b, 0, none⟩) l := by
  refine Or.inr ⟨b, 0, rfl, fun j hj => ?_⟩
  rw [Nat.zero_add, cell_of_block h]
  simpa using bv_get' l j hj
theorem neq_bytes (x y : List UInt8) (hx : x.length = 32) (hy : y.length = 32) (w : World) : (binOp .neq 36 (.agg (bv x).toArray) (.agg (bv y).toArray)).run Try.prog w = .ok (.bool (x != y)) w := by
  have hb : ∀ z : List UInt8, bv z = z.map Extern.Stop.cell := fun z => rfl
  have hsz : ∀ w, (sizeOf 5).run Try.prog w = .ok 1 w := by
    intro w
    have h : (Try.prog.info? 5).map (·.size) = some 1 := by kernel_rfl
    obtain ⟨i0, hi, hz⟩ := Option.map_eq_some_iff.1 h
    simp [sizeOf, typeInfo, hi, hz]
  have h := run_eql_bytes w 36 5 32 Try.underlying36 Try.underlying5 hsz x y hx hy
  rw [← hb, ← hb, run_eql_struct] at h
  rw [run_neq_struct]
  revert h
  cases (Op.equalIn 10000 36 (.agg (bv x).toArray) (.agg (bv y).toArray)).run Try.prog w with
  | ok b w2 =>
    intro h
    simp only [Result.andThen_ok] at h ⊢
    injection h with h1 h2
    injection h1 with h1
    rw [h1, h2]
    rfl
  | halt a b => intro h; simp [Result.andThen] at h
theorem Try.guard32b : Try.prog.eqGuardType Try.prog.depth 36 = false := by kernel_rfl
set_option maxRecDepth 100000 in
set_option maxHeartbeats 3200000 in
theorem canon_any (l : List UInt8) (hl : l.length = 32) (R : Nat) (ok : Bool) (hok : ok = decide (sv l < LL)) (hRv : R = if sv l < LL then sv l else 0) (w : World) :
    Calls Try.prog 70 #[.agg (bv l).toArray] w fun e w' => e = .returned (.tuple #[.agg (nc R), .bool ok]) ∧ Fr (fun _ => False) w w' := by
  have B0 := heap_alloc2_old w (.cells (bv l).toArray 36) (.cells #[.int .u64 0, .int .u64 0, .int .u64 0, .int .u64 0] 77)
  have SO := sof_any (some ⟨w.heap.size, 0, none⟩) 32 32 l hl (by omega) (((w.alloc (.cells (bv l).toArray 36)).alloc (.cells #[.int .u64 0, .int .u64 0, .int .u64 0, .int .u64 0] 77))) (lies_blk B0)
  have BY := fun (W : World) => sbytes_any (sv l % LL) (mod_LP _) W
  have NQ := fun (W : World) => neq_bytes (bl 32 (sv l % LL % LL)) l (bl_length _ _) hl W
  rw [canon_eq l hl, ← hok] at NQ
  have hlen : (bv l).length = 32 := by rw [bv_length]; exact hl
  have hone := bv_one l
  have hu := Try.underlying36
  have hi : (Try.prog.info? 36).map (·.size) = some (bv l).length := by rw [hlen]; kernel_rfl
  have EG := Try.guard32b
  have hRm : sv l < LL → R = sv l % LL := fun h => by rw [hRv, if_pos h, Nat.mod_eq_of_lt h]
  have hRz : ¬ sv l < LL → R = 0 := fun h => by rw [hRv, if_neg h]
  generalize bl 32 (sv l % LL % LL) = bb at *
  obtain ⟨a0, a1, a2, a3, _, _, _, _, _, ea⟩ := nc_open (sv l % LL) (mod_LP _)
  rw [ea] at SO BY
  have EA := Lib.hid ea
  clear ea
  have HRM := Lib.hid hRm
  have HRZ := Lib.hid hRz
  have HOK := Lib.hid hok
  clear hRm hRz hRv hok
  have C0 := heap_alloc2_new w (.cells (bv l).toArray 36) (.cells #[.int .u64 0, .int .u64 0, .int .u64 0, .int .u64 0] 77)
  have F0 : Fr (fun _ => False) w ((w.alloc (.cells (bv l).toArray 36)).alloc (.cells #[.int .u64 0, .int .u64 0, .int .u64 0, .int .u64 0] 77)) := ((Fr.refl _ w).alloc _).alloc _
  go_enter Try.func70, Try.ntmps70
  go_wp2_with fail
  refine SO.mono ?_
  rintro e w1 ⟨rfl, F1⟩
  have B1 := F1.keepM B0
  have C1 := F1.keepM C0
  have G1 : Fr (fun _ => False) w w1 := F0.trans F1 (fun _ h => h.elim)
  clear F1 SO B0 C0 F0
  go_wp2_with fail
  have T2 := heap_alloc_new w1 (.cells #[.int .u64 (a0 : Int), .int .u64 (a1 : Int), .int .u64 (a2 : Int), .int .u64 (a3 : Int)] 77)
  have B2 := (Below.heap_alloc w1 (.cells #[.int .u64 (a0 : Int), .int .u64 (a1 : Int), .int .u64 (a2 : Int), .int .u64 (a3 : Int)] 77) _ (lt_of_block B1)).trans B1
  have C2 := (Below.heap_alloc w1 (.cells #[.int .u64 (a0 : Int), .int .u64 (a1 : Int), .int .u64 (a2 : Int), .int .u64 (a3 : Int)] 77) _ (lt_of_block C1)).trans C1
  have G2 := G1.alloc (.cells #[.int .u64 (a0 : Int), .int .u64 (a1 : Int), .int .u64 (a2 : Int), .int .u64 (a3 : Int)] 77)
  have z0 : ¬ (w.heap.size = w1.heap.size) := by have := lt_of_block B1; omega
  have z1 : ¬ (w.heap.size + 1 = w1.heap.size) := by have := lt_of_block C1; omega
  generalize w1.alloc (.cells #[.int .u64 (a0 : Int), .int .u64 (a1 : Int), .int .u64 (a2 : Int), .int .u64 (a3 : Int)] 77) = W0 at *
  generalize w1.heap.size = T at *
  have HW := Lib.hid (And.intro T2 (And.intro B2 (And.intro C2 G2)))
  have hS : ∀ w' : World, Fr (fun _ => False) W0 w' → (Fr (fun _ => False) W0 w' ∧ w'.cell? ⟨T, 0, none⟩ = some (.int .u64 (a0 : Int)) ∧ w'.cell? ⟨T, 1, none⟩ = some (.int .u64 (a1 : Int)) ∧ w'.cell? ⟨T, 2, none⟩ = some (.int .u64 (a2 : Int)) ∧ w'.cell? ⟨T, 3, none⟩ = some (.int .u64 (a3 : Int)) ∧ w'.rangeAt w.heap.size 0 (bv l)) := fun w' F => by
    obtain ⟨i0, i1, i2, i3, i4, i5, i6, i7⟩ := blk4 (F.keepM T2)
    exact ⟨F, i0, i1, i2, i3, fun j v hv => by rw [Nat.zero_add, cell_of_block (F.keepM B2)]; simpa using hv⟩
  have HS := Lib.hid hS
  obtain ⟨_, i0, i1, i2, i3, j0⟩ := hS W0 (Fr.refl _ _)
  clear B1 C1 G1 T2 B2 C2 G2
  cases ok with
  | true =>
    have HR := Lib.hid (show nc R = #[.int .u64 (a0 : Int), .int .u64 (a1 : Int), .int .u64 (a2 : Int), .int .u64 (a3 : Int)] by rw [HRM.out (of_decide_eq_true HOK.out.symm)]; exact EA.out)
    go_region_held3 (fun w' => Fr (fun _ => False) W0 w' ∧ w'.cell? ⟨T, 0, none⟩ = some (.int .u64 (a0 : Int)) ∧ w'.cell? ⟨T, 1, none⟩ = some (.int .u64 (a1 : Int)) ∧ w'.cell? ⟨T, 2, none⟩ = some (.int .u64 (a2 : Int)) ∧ w'.cell? ⟨T, 3, none⟩ = some (.int .u64 (a3 : Int)) ∧ w'.rangeAt w.heap.size 0 (bv l))
      ((first | (exact hS _ (by assumption)) | (exact hS _ (Fr.refl _ W0).drew) | (exact hS _ (Fr.refl _ W0)) | (exact hS _ (‹Fr (fun _ => False) W0 _ ∧ _›).1) | (exact hS _ (‹Fr (fun _ => False) W0 _ ∧ _›).1.drew)))
      ((go_at_call 58; (with_reducible refine (BY _).mono ?_); rintro e w2 ⟨rfl, F2⟩; have S2 : Fr (fun _ => False) W0 w2 := (‹Fr (fun _ => False) W0 _ ∧ _›).1.trans F2 (fun _ h => h.elim); clear F2))
    all_goals
      have C5 := HW.out.2.2.1
      have C6 := S2.keepM C5
      obtain ⟨m0, m1, m2, m3, m4, m5, m6, m7⟩ := blk4 C6
      have HC6 := Lib.hid C6
      have G6 : Fr (fun _ => False) w w2 := HW.out.2.2.2.trans S2 (fun _ h => h.elim)
      have HG6 := Lib.hid G6
      obtain ⟨_, j0, j1, j2, j3, _⟩ := HS.out w2 S2
      clear C5 C6 G6 S2
      go_wp2_with fail
      refine bodyPost_ret (results_cell_tmp rfl _ _ (w.heap.size + 1) 77 #[.int .u64 (a0 : Int), .int .u64 (a1 : Int), .int .u64 (a2 : Int), .int .u64 (a3 : Int)] (0, 0) _ rfl (set4 HC6.out _ _ _ _) Try.underlying77 rfl Try.size4l) rfl ?_
      exact ⟨by rw [HR.out]; rfl, (((HG6.out.setCell (Or.inr (by simp)) _).setCell (Or.inr (by simp)) _).setCell (Or.inr (by simp)) _).setCell (Or.inr (by simp)) _⟩
  | false =>
    have HR := Lib.hid (show nc R = #[.int .u64 0, .int .u64 0, .int .u64 0, .int .u64 0] by rw [HRZ.out (of_decide_eq_false HOK.out.symm)]; rfl)
    go_region_held3 (fun w' => Fr (fun _ => False) W0 w' ∧ w'.cell? ⟨T, 0, none⟩ = some (.int .u64 (a0 : Int)) ∧ w'.cell? ⟨T, 1, none⟩ = some (.int .u64 (a1 : Int)) ∧ w'.cell? ⟨T, 2, none⟩ = some (.int .u64 (a2 : Int)) ∧ w'.cell? ⟨T, 3, none⟩ = some (.int .u64 (a3 : Int)) ∧ w'.rangeAt w.heap.size 0 (bv l))
      ((first | (exact hS _ (by assumption)) | (exact hS _ (Fr.refl _ W0).drew) | (exact hS _ (Fr.refl _ W0)) | (exact hS _ (‹Fr (fun _ => False) W0 _ ∧ _›).1) | (exact hS _ (‹Fr (fun _ => False) W0 _ ∧ _›).1.drew)))
      ((go_at_call 58; (with_reducible refine (BY _).mono ?_); rintro e w2 ⟨rfl, F2⟩; have S2 : Fr (fun _ => False) W0 w2 := (‹Fr (fun _ => False) W0 _ ∧ _›).1.trans F2 (fun _ h => h.elim); clear F2))
    all_goals
      have C5 := HW.out.2.2.1
      have C6 := S2.keepM C5
      obtain ⟨m0, m1, m2, m3, m4, m5, m6, m7⟩ := blk4 C6
      have HC6 := Lib.hid C6
      have G6 : Fr (fun _ => False) w w2 := HW.out.2.2.2.trans S2 (fun _ h => h.elim)
      have HG6 := Lib.hid G6
      obtain ⟨_, j0, j1, j2, j3, _⟩ := HS.out w2 S2
      clear C5 C6 G6 S2
      go_wp2_with fail
      refine bodyPost_ret (results_cell_tmp rfl _ _ (w.heap.size + 1) 77 #[.int .u64 0, .int .u64 0, .int .u64 0, .int .u64 0] (0, 0) _ rfl (set4 HC6.out _ _ _ _) Try.underlying77 rfl Try.size4l) rfl ?_
      exact ⟨by rw [HR.out]; rfl, (((HG6.out.setCell (Or.inr (by simp)) _).setCell (Or.inr (by simp)) _).setCell (Or.inr (by simp)) _).setCell (Or.inr (by simp)) _⟩
end Go.Proofs.Ytokpaejkdkjloaa


/-
  The contracts of firstTimes and Times of package edwards.
-/
import Derived.Test.YtahnlnflcgehaaaJe
import Derived.Test.YtahnlnflcgehaaaHd
namespace Go.Proofs.Ytahnlnflcgehaaa
open Go.RowKit Pri
set_option linter.unusedVariables false
set_option linter.unusedSimpArgs false

theorem nib_byte (X m : Nat) : X / 256 ^ (m / 2) % 256 / 2 ^ (m % 2 * 4) % 16 = X / 16 ^ m % 16 := by
  have e : (16 : Nat) ^ m = 256 ^ (m / 2) * 16 ^ (m % 2) := by
    rw [show (256 : Nat) = 16 ^ 2 from rfl, ← Nat.pow_mul, ← Nat.pow_add, show 2 * (m / 2) + m % 2 = m by omega]
  rw [e, ← Nat.div_div_eq_div_mul]
  generalize X / 256 ^ (m / 2) = z
  rcases Nat.mod_two_eq_zero_or_one m with h | h <;> rw [h]
  · show z % 256 / 1 % 16 = z / 1 % 16; omega
  · show z % 256 / 16 % 16 = z / 16 % 16; omega
theorem nib_u8 (z : Nat) (hz : z < 256) : bits .and .u8 (z : Int) 15 = ((z % 16 : Nat) : Int) := by
  have h1 : (BitVec.ofInt 8 (z : Int)).toNat = z := by
    rw [BitVec.ofInt_natCast, BitVec.toNat_ofNat]; exact Nat.mod_eq_of_lt (by omega)
  have h2 : (BitVec.ofInt 8 (15 : Int)).toNat = 2 ^ 4 - 1 := rfl
  show IntKind.u8.wrap ((BitVec.ofInt 8 (z : Int) &&& BitVec.ofInt 8 (15 : Int)).toNat : Int) = _
  rw [BitVec.toNat_and, h1, h2, Nat.and_two_pow_sub_one_eq_mod, IntKind.wrap_u8]
  omega
set_option maxRecDepth 100000 in
set_option maxHeartbeats 3200000 in
theorem first_op (A G0 : Array Value) (w : World)
    (WI : Ans Try.prog 99 #[.agg #[.int .u64 0, .int .u64 0, .int .u64 0, .int .u64 0, .int .u64 0, .int .u64 0, .int .u64 0, .int .u64 0]] (.agg G0))
    (G : Nat → Array Value) (sG : ∀ j, Sz 16 (G j)) (g0 : G 0 = G0) (AD : ∀ j, j < 15 → Ans Try.prog 102 #[.agg (G j), .agg A] (.agg (G (j + 1))))
    (sA : Sz 16 A) :
    Calls Try.prog 98 #[.agg A] w fun e w' => e = .returned (.agg (rowsOf 16 16 G)) ∧ Fr (fun _ => False) w w' := by
  subst g0
  have hb := built_table (sG 0)
  have sF : ∀ i, Sz 256 (rowsOf 16 16 (firstR G i)) := fun i => sz_rows 16 16 _ (by decide) (fun j => by unfold firstR; split; exact sG j; exact sz_zero)
  have sZ0 := sF 0
  have hAD := Lib.hid AD
  have hsG := Lib.hid sG
  clear AD
  have K := (((Kn.start w).new (w.heap.size) 16 A 121 rfl sA.1).new (w.heap.size + 1) 256 #[.int .u64 0, .int .u64 0, .int .u64 0, .int .u64 0, .int .u64 0, .int .u64 0, .int .u64 0, .int .u64 0, .int .u64 0, .int .u64 0, .int .u64 0, .int .u64 0, .int .u64 0, .int .u64 0, .int .u64 0, .int .u64 0, .int .u64 0, .int .u64 0, .int .u64 0, .int .u64 0, .int .u64 0, .int .u64 0, .int .u64 0, .int .u64 0, .int .u64 0, .int .u64 0, .int .u64 0, .int .u64 0, .int .u64 0, .int .u64 0, .int .u64 0, .int .u64 0, .int .u64 0, .int .u64 0, .int .u64 0, .int .u64 0, .int .u64 0, .int .u64 0, .int .u64 0, .int .u64 0, .int .u64 0, .int .u64 0, .int .u64 0, .int .u64 0, .int .u64 0, .int .u64 0, .int .u64 0, .int .u64 0, .int .u64 0, .int .u64 0, .int .u64 0, .int .u64 0, .int .u64 0, .int .u64 0, .int .u64 0, .int .u64 0, .int .u64 0, .int .u64 0, .int .u64 0, .int .u64 0, .int .u64 0, .int .u64 0, .int .u64 0, .int .u64 0, .int .u64 0, .int .u64 0, .int .u64 0, .int .u64 0, .int .u64 0, .int .u64 0, .int .u64 0, .int .u64 0, .int .u64 0, .int .u64 0, .int .u64 0, .int .u64 0, .int .u64 0, .int .u64 0, .int .u64 0, .int .u64 0, .int .u64 0, .int .u64 0, .int .u64 0, .int .u64 0, .int .u64 0, .int .u64 0, .int .u64 0, .int .u64 0, .int .u64 0, .int .u64 0, .int .u64 0, .int .u64 0, .int .u64 0, .int .u64 0, .int .u64 0, .int .u64 0, .int .u64 0, .int .u64 0, .int .u64 0, .int .u64 0, .int .u64 0, .int .u64 0, .int .u64 0, .int .u64 0, .int .u64 0, .int .u64 0, .int .u64 0, .int .u64 0, .int .u64 0, .int .u64 0, .int .u64 0, .int .u64 0, .int .u64 0, .int .u64 0, .int .u64 0, .int .u64 0, .int .u64 0, .int .u64 0, .int .u64 0, .int .u64 0, .int .u64 0, .int .u64 0, .int .u64 0, .int .u64 0, .int .u64 0, .int .u64 0, .int .u64 0, .int .u64 0, .int .u64 0, .int .u64 0, .int .u64 0, .int .u64 0, .int .u64 0, .int .u64 0, .int .u64 0, .int .u64 0, .int .u64 0, .int .u64 0, .int .u64 0, .int .u64 0, .int .u64 0, .int .u64 0, .int .u64 0, .int .u64 0, .int .u64 0, .int .u64 0, .int .u64 0, .int .u64 0, .int .u64 0, .int .u64 0, .int .u64 0, .int .u64 0, .int .u64 0, .int .u64 0, .int .u64 0, .int .u64 0, .int .u64 0, .int .u64 0, .int .u64 0, .int .u64 0, .int .u64 0, .int .u64 0, .int .u64 0, .int .u64 0, .int .u64 0, .int .u64 0, .int .u64 0, .int .u64 0, .int .u64 0, .int .u64 0, .int .u64 0, .int .u64 0, .int .u64 0, .int .u64 0, .int .u64 0, .int .u64 0, .int .u64 0, .int .u64 0, .int .u64 0, .int .u64 0, .int .u64 0, .int .u64 0, .int .u64 0, .int .u64 0, .int .u64 0, .int .u64 0, .int .u64 0, .int .u64 0, .int .u64 0, .int .u64 0, .int .u64 0, .int .u64 0, .int .u64 0, .int .u64 0, .int .u64 0, .int .u64 0, .int .u64 0, .int .u64 0, .int .u64 0, .int .u64 0, .int .u64 0, .int .u64 0, .int .u64 0, .int .u64 0, .int .u64 0, .int .u64 0, .int .u64 0, .int .u64 0, .int .u64 0, .int .u64 0, .int .u64 0, .int .u64 0, .int .u64 0, .int .u64 0, .int .u64 0, .int .u64 0, .int .u64 0, .int .u64 0, .int .u64 0, .int .u64 0, .int .u64 0, .int .u64 0, .int .u64 0, .int .u64 0, .int .u64 0, .int .u64 0, .int .u64 0, .int .u64 0, .int .u64 0, .int .u64 0, .int .u64 0, .int .u64 0, .int .u64 0, .int .u64 0, .int .u64 0, .int .u64 0, .int .u64 0, .int .u64 0, .int .u64 0, .int .u64 0, .int .u64 0, .int .u64 0, .int .u64 0, .int .u64 0, .int .u64 0, .int .u64 0, .int .u64 0, .int .u64 0, .int .u64 0, .int .u64 0, .int .u64 0, .int .u64 0, .int .u64 0, .int .u64 0, .int .u64 0, .int .u64 0] 122 (by simp) rfl)
  go_enter Try.func98, Try.ntmps98
  go_wp2_with (first
      | (focus (first | (with_reducible refine' wpList_build0 rfl 72 rfl _ hb _) | (with_reducible refine' wpList_build1 rfl 122 _ _ _ rfl _ hb rfl _)))
      | (focus ((first | ((with_reducible refine' wpList_store_kn K rfl 122 (.tmp 3) _ rfl 0 _ _ _ _ _ rfl rfl Try.szTb _ _ _); rotate_left 2; (focus exact rfl))); (focus assumption); intro wz Kz; clear K; have K := Kz; clear Kz; simp only [List.set_cons_zero, List.set_cons_succ] at K; try (simp only [Act.put, List.setIfInBounds_toArray, List.set_cons_zero, List.set_cons_succ])))
      | ((with_reducible refine wpList_new_kn K 122 _ _ _ _ #[.int .u64 0, .int .u64 0, .int .u64 0, .int .u64 0, .int .u64 0, .int .u64 0, .int .u64 0, .int .u64 0, .int .u64 0, .int .u64 0, .int .u64 0, .int .u64 0, .int .u64 0, .int .u64 0, .int .u64 0, .int .u64 0, .int .u64 0, .int .u64 0, .int .u64 0, .int .u64 0, .int .u64 0, .int .u64 0, .int .u64 0, .int .u64 0, .int .u64 0, .int .u64 0, .int .u64 0, .int .u64 0, .int .u64 0, .int .u64 0, .int .u64 0, .int .u64 0, .int .u64 0, .int .u64 0, .int .u64 0, .int .u64 0, .int .u64 0, .int .u64 0, .int .u64 0, .int .u64 0, .int .u64 0, .int .u64 0, .int .u64 0, .int .u64 0, .int .u64 0, .int .u64 0, .int .u64 0, .int .u64 0, .int .u64 0, .int .u64 0, .int .u64 0, .int .u64 0, .int .u64 0, .int .u64 0, .int .u64 0, .int .u64 0, .int .u64 0, .int .u64 0, .int .u64 0, .int .u64 0, .int .u64 0, .int .u64 0, .int .u64 0, .int .u64 0, .int .u64 0, .int .u64 0, .int .u64 0, .int .u64 0, .int .u64 0, .int .u64 0, .int .u64 0, .int .u64 0, .int .u64 0, .int .u64 0, .int .u64 0, .int .u64 0, .int .u64 0, .int .u64 0, .int .u64 0, .int .u64 0, .int .u64 0, .int .u64 0, .int .u64 0, .int .u64 0, .int .u64 0, .int .u64 0, .int .u64 0, .int .u64 0, .int .u64 0, .int .u64 0, .int .u64 0, .int .u64 0, .int .u64 0, .int .u64 0, .int .u64 0, .int .u64 0, .int .u64 0, .int .u64 0, .int .u64 0, .int .u64 0, .int .u64 0, .int .u64 0, .int .u64 0, .int .u64 0, .int .u64 0, .int .u64 0, .int .u64 0, .int .u64 0, .int .u64 0, .int .u64 0, .int .u64 0, .int .u64 0, .int .u64 0, .int .u64 0, .int .u64 0, .int .u64 0, .int .u64 0, .int .u64 0, .int .u64 0, .int .u64 0, .int .u64 0, .int .u64 0, .int .u64 0, .int .u64 0, .int .u64 0, .int .u64 0, .int .u64 0, .int .u64 0, .int .u64 0, .int .u64 0, .int .u64 0, .int .u64 0, .int .u64 0, .int .u64 0, .int .u64 0, .int .u64 0, .int .u64 0, .int .u64 0, .int .u64 0, .int .u64 0, .int .u64 0, .int .u64 0, .int .u64 0, .int .u64 0, .int .u64 0, .int .u64 0, .int .u64 0, .int .u64 0, .int .u64 0, .int .u64 0, .int .u64 0, .int .u64 0, .int .u64 0, .int .u64 0, .int .u64 0, .int .u64 0, .int .u64 0, .int .u64 0, .int .u64 0, .int .u64 0, .int .u64 0, .int .u64 0, .int .u64 0, .int .u64 0, .int .u64 0, .int .u64 0, .int .u64 0, .int .u64 0, .int .u64 0, .int .u64 0, .int .u64 0, .int .u64 0, .int .u64 0, .int .u64 0, .int .u64 0, .int .u64 0, .int .u64 0, .int .u64 0, .int .u64 0, .int .u64 0, .int .u64 0, .int .u64 0, .int .u64 0, .int .u64 0, .int .u64 0, .int .u64 0, .int .u64 0, .int .u64 0, .int .u64 0, .int .u64 0, .int .u64 0, .int .u64 0, .int .u64 0, .int .u64 0, .int .u64 0, .int .u64 0, .int .u64 0, .int .u64 0, .int .u64 0, .int .u64 0, .int .u64 0, .int .u64 0, .int .u64 0, .int .u64 0, .int .u64 0, .int .u64 0, .int .u64 0, .int .u64 0, .int .u64 0, .int .u64 0, .int .u64 0, .int .u64 0, .int .u64 0, .int .u64 0, .int .u64 0, .int .u64 0, .int .u64 0, .int .u64 0, .int .u64 0, .int .u64 0, .int .u64 0, .int .u64 0, .int .u64 0, .int .u64 0, .int .u64 0, .int .u64 0, .int .u64 0, .int .u64 0, .int .u64 0, .int .u64 0, .int .u64 0, .int .u64 0, .int .u64 0, .int .u64 0, .int .u64 0, .int .u64 0, .int .u64 0, .int .u64 0, .int .u64 0, .int .u64 0, .int .u64 0, .int .u64 0, .int .u64 0, .int .u64 0, .int .u64 0, .int .u64 0, .int .u64 0, .int .u64 0, .int .u64 0, .int .u64 0, .int .u64 0, .int .u64 0, .int .u64 0, .int .u64 0, .int .u64 0, .int .u64 0] 256 rfl Try.alTb rfl ?_); intro gz wz Kz; clear K; have K := Kz; clear Kz; try (simp only [Act.put, List.setIfInBounds_toArray, List.set_cons_zero, List.set_cons_succ]))
      | (go_at_call 99; (with_reducible refine Calls.kn K (WI _) ?_); intro wz Kz; clear K; have K := Kz; clear Kz))
  go_loopw [4] (fun i wr => ∃ k : Nat, 1 ≤ k ∧ k ≤ 16 ∧ i = .int .i64 k ∧ Kn w [⟨gz, 256, rowsOf 16 16 (firstR G (k - 1)), 122⟩, ⟨w.heap.size + 1, 256, #[.int .u64 0, .int .u64 0, .int .u64 0, .int .u64 0, .int .u64 0, .int .u64 0, .int .u64 0, .int .u64 0, .int .u64 0, .int .u64 0, .int .u64 0, .int .u64 0, .int .u64 0, .int .u64 0, .int .u64 0, .int .u64 0, .int .u64 0, .int .u64 0, .int .u64 0, .int .u64 0, .int .u64 0, .int .u64 0, .int .u64 0, .int .u64 0, .int .u64 0, .int .u64 0, .int .u64 0, .int .u64 0, .int .u64 0, .int .u64 0, .int .u64 0, .int .u64 0, .int .u64 0, .int .u64 0, .int .u64 0, .int .u64 0, .int .u64 0, .int .u64 0, .int .u64 0, .int .u64 0, .int .u64 0, .int .u64 0, .int .u64 0, .int .u64 0, .int .u64 0, .int .u64 0, .int .u64 0, .int .u64 0, .int .u64 0, .int .u64 0, .int .u64 0, .int .u64 0, .int .u64 0, .int .u64 0, .int .u64 0, .int .u64 0, .int .u64 0, .int .u64 0, .int .u64 0, .int .u64 0, .int .u64 0, .int .u64 0, .int .u64 0, .int .u64 0, .int .u64 0, .int .u64 0, .int .u64 0, .int .u64 0, .int .u64 0, .int .u64 0, .int .u64 0, .int .u64 0, .int .u64 0, .int .u64 0, .int .u64 0, .int .u64 0, .int .u64 0, .int .u64 0, .int .u64 0, .int .u64 0, .int .u64 0, .int .u64 0, .int .u64 0, .int .u64 0, .int .u64 0, .int .u64 0, .int .u64 0, .int .u64 0, .int .u64 0, .int .u64 0, .int .u64 0, .int .u64 0, .int .u64 0, .int .u64 0, .int .u64 0, .int .u64 0, .int .u64 0, .int .u64 0, .int .u64 0, .int .u64 0, .int .u64 0, .int .u64 0, .int .u64 0, .int .u64 0, .int .u64 0, .int .u64 0, .int .u64 0, .int .u64 0, .int .u64 0, .int .u64 0, .int .u64 0, .int .u64 0, .int .u64 0, .int .u64 0, .int .u64 0, .int .u64 0, .int .u64 0, .int .u64 0, .int .u64 0, .int .u64 0, .int .u64 0, .int .u64 0, .int .u64 0, .int .u64 0, .int .u64 0, .int .u64 0, .int .u64 0, .int .u64 0, .int .u64 0, .int .u64 0, .int .u64 0, .int .u64 0, .int .u64 0, .int .u64 0, .int .u64 0, .int .u64 0, .int .u64 0, .int .u64 0, .int .u64 0, .int .u64 0, .int .u64 0, .int .u64 0, .int .u64 0, .int .u64 0, .int .u64 0, .int .u64 0, .int .u64 0, .int .u64 0, .int .u64 0, .int .u64 0, .int .u64 0, .int .u64 0, .int .u64 0, .int .u64 0, .int .u64 0, .int .u64 0, .int .u64 0, .int .u64 0, .int .u64 0, .int .u64 0, .int .u64 0, .int .u64 0, .int .u64 0, .int .u64 0, .int .u64 0, .int .u64 0, .int .u64 0, .int .u64 0, .int .u64 0, .int .u64 0, .int .u64 0, .int .u64 0, .int .u64 0, .int .u64 0, .int .u64 0, .int .u64 0, .int .u64 0, .int .u64 0, .int .u64 0, .int .u64 0, .int .u64 0, .int .u64 0, .int .u64 0, .int .u64 0, .int .u64 0, .int .u64 0, .int .u64 0, .int .u64 0, .int .u64 0, .int .u64 0, .int .u64 0, .int .u64 0, .int .u64 0, .int .u64 0, .int .u64 0, .int .u64 0, .int .u64 0, .int .u64 0, .int .u64 0, .int .u64 0, .int .u64 0, .int .u64 0, .int .u64 0, .int .u64 0, .int .u64 0, .int .u64 0, .int .u64 0, .int .u64 0, .int .u64 0, .int .u64 0, .int .u64 0, .int .u64 0, .int .u64 0, .int .u64 0, .int .u64 0, .int .u64 0, .int .u64 0, .int .u64 0, .int .u64 0, .int .u64 0, .int .u64 0, .int .u64 0, .int .u64 0, .int .u64 0, .int .u64 0, .int .u64 0, .int .u64 0, .int .u64 0, .int .u64 0, .int .u64 0, .int .u64 0, .int .u64 0, .int .u64 0, .int .u64 0, .int .u64 0, .int .u64 0, .int .u64 0, .int .u64 0, .int .u64 0, .int .u64 0, .int .u64 0, .int .u64 0, .int .u64 0, .int .u64 0, .int .u64 0, .int .u64 0, .int .u64 0, .int .u64 0, .int .u64 0, .int .u64 0, .int .u64 0, .int .u64 0, .int .u64 0, .int .u64 0, .int .u64 0, .int .u64 0], 122⟩, ⟨w.heap.size, 16, A, 121⟩] wr) (fun i _ => 16 - (intOf i).toNat)
  case atStart => exact ⟨1, by omega, by omega, by simp, K⟩
  case round =>
    clear K
    obtain ⟨k, hk1, hk, rfl, K⟩ := hrel
    by_cases h16 : k < 16
    · as_aux_lemma =>
      obtain ⟨m, rfl⟩ : ∃ m, k = m + 1 := ⟨k - 1, by omega⟩
      rw [show m + 1 - 1 = m by omega] at K
      have q0 : (0 : Int) ≤ (m : Int) := by omega
      have q1 : (m : Int) < 15 := by omega
      have AD := hAD.out m (by omega)
      have em : ((m + 1 : Nat) : Int) - 1 = (m : Int) := by omega
      have e1 : ((m + 1 : Nat) : Int) = (m : Int) + 1 := by omega
      have pm := part_rows 16 16 (firstR G m) m (by omega) (by decide) (fun j => by unfold firstR; split; exact hsG.out j; exact sz_zero)
      have e0 : firstR G m m = G m := if_pos (Nat.le_refl m)
      rw [e0] at pm
      have sm := hsG.out m
      have sm1 := hsG.out (m + 1)
      have hset := set_rows 16 16 (firstR G m) (m + 1) (G (m + 1)) (by omega) (by decide) (fun j => by unfold firstR; split; exact hsG.out j; exact sz_zero) sm1
      have hnext : rowsOf 16 16 (fun j => if j = m + 1 then G (m + 1) else firstR G m j) = rowsOf 16 16 (firstR G (m + 1)) := rows_same 16 16 (fun j hj => by
        unfold firstR
        by_cases c : j = m + 1
        · subst c; rw [if_pos rfl, if_pos (Nat.le_refl _)]
        · rw [if_neg c]
          by_cases c2 : j ≤ m
          · rw [if_pos c2, if_pos (by omega)]
          · rw [if_neg c2, if_neg (by omega)])
      rw [hnext] at hset
      have HS := Lib.hid hset
      have sF1 : (rowsOf 16 16 (firstR G (m + 1))).size = 256 := (sF (m + 1)).1
      clear hset hnext e0
      have pm : Part (rowsOf 16 16 (firstR G m)) (m * 16) (G m) := by rw [Nat.mul_comm]; exact pm
      have HS' : Hid (((rowsOf 16 16 (firstR G m)).toList.take ((m + 1) * 16) ++ (G (m + 1)).toList ++ (rowsOf 16 16 (firstR G m)).toList.drop ((m + 1) * 16 + (G (m + 1)).toList.length)).toArray = rowsOf 16 16 (firstR G (m + 1))) := Lib.hid (by rw [Nat.mul_comm (m + 1) 16]; exact HS.out)
      have hq : (m + 1) * 16 + 16 ≤ 256 := by omega
      generalize hF1 : rowsOf 16 16 (firstR G (m + 1)) = F1 at *
      have HF1 := Lib.hid hF1
      generalize rowsOf 16 16 (firstR G m) = F0 at *
      clear HS hsG hAD sF sZ0 hb hF1
      rw [e1] at *
      have c1 : (m : Int) + 1 < 16 := by omega
      go_wp2_with fail
      refine wp_region_kn_tail K 8 [] (by kernel_rfl) (by kernel_rfl) mk_nil sz_nil ?_
      apply Exists.intro
      refine ⟨?wk5, ?fin5⟩
      case wk5 =>
        intro γ
  
        simp only [List.take_succ_cons, List.take_zero]
        repeat (any_goals (first | (focus (go_big_quiet_want; (first | ((with_reducible refine' quiet_load_ptg K 121 (.tmp 15) rfl 0 _ _ (m * 16) 16 _ _ _ rfl _ Try.underlying121 rfl Try.szWd _ pm (Sz.n sm) _); rotate_left 2; (focus exact rfl)) | ((with_reducible refine' quiet_load_kng K 121 (.tmp 1) rfl 2 _ _ _ _ rfl _ Try.underlying121 rfl Try.szWd _ _); rotate_left 2; (focus exact rfl))); simp only [Act.put, List.setIfInBounds_toArray, List.set_cons_zero, List.set_cons_succ]; go_big_quiet_on)) | go_big_quiet_step ((first | (go_at_call 102; with_reducible exact Calls.keepg (AD _)))) | quiet_step ((first | (go_at_call 102; with_reducible exact Calls.keepg (AD _))))))
        exact wpQuiet_nil rfl
      case fin5 =>
        intro gs wz Kz
        clear K
        have K := Kz
        clear Kz
        try simp only [mkAll, asObj, List.map_cons, List.map_nil, putAll, List.drop_succ_cons, List.drop_zero, List.length_cons, List.length_nil, Nat.zero_add, Nat.add_zero] at K ⊢
        try simp only [Act.put, List.setIfInBounds_toArray, List.set_cons_zero, List.set_cons_succ]

        go_wp2_with (first
          | (focus ((with_reducible refine' wpList_store_rowkn K rfl 121 (.tmp 19) _ rfl 0 _ 256 ((m + 1) * 16) 16 _ _ _ _ rfl rfl Try.szWd _ sm1 hq HS'.out _); rotate_left 1; (focus exact rfl); intro wz Kz; clear K; have K := Kz; clear Kz; simp only [List.set_cons_zero, List.set_cons_succ] at K; try (simp only [Act.put, List.setIfInBounds_toArray, List.set_cons_zero, List.set_cons_succ]))))
        go_roundw
        case rel => exact ⟨m + 1 + 1, by omega, by omega, by go_num, by rw [show m + 1 + 1 - 1 = m + 1 by omega, HF1.out]; exact K⟩
        case measure => simp [intOf]; omega
    · as_aux_lemma =>
      obtain rfl : k = 16 := by omega
      rw [show 16 - 1 = 15 from rfl, rows_same 16 16 (F := firstR G 15) (G := G) (fun j hj => by unfold firstR; rw [if_pos (by omega)])] at K
      have sR : Sz 256 (rowsOf 16 16 G) := sz_rows 16 16 G (by decide) hsG.out
      generalize hF1 : rowsOf 16 16 G = F1 at *
      have HF1 := Lib.hid hF1
      clear hAD hsG sF sZ0 hb hF1
      rw [show ((16 : Nat) : Int) = 16 from rfl]
      go_wp2_with (first
          | (focus (first | ((with_reducible refine' wpList_load_kn K rfl 122 (.tmp 3) rfl 0 _ _ _ _ rfl _ Try.underlying122 rfl Try.szTb _ _); rotate_left 2; (focus exact rfl))))
          | (focus ((first | ((with_reducible refine' wpList_store_kn K rfl 122 (.tmp 2) _ rfl 1 _ _ _ _ _ rfl rfl Try.szTb _ _ _); rotate_left 2; (focus exact rfl))); (focus assumption); intro wz Kz; clear K; have K := Kz; clear Kz; simp only [List.set_cons_zero, List.set_cons_succ] at K; try (simp only [Act.put, List.setIfInBounds_toArray, List.set_cons_zero, List.set_cons_succ]))))
      refine bodyPost_ret (results_kn K rfl _ 1 _ _ _ _ rfl _ Try.underlying122 rfl Try.szTb rfl) rfl ?_
      exact ⟨by rw [HF1.out], K.fr⟩
set_option maxRecDepth 100000 in
set_option maxHeartbeats 3200000 in
theorem times_op (X : Nat) (A U R : Array Value) (w : World)
    (G S E T : Nat → Array Value) (sG : ∀ j, Sz 16 (G j)) (sS : ∀ j, Sz 16 (S j)) (s64 : S 64 = G 0) (EI : ∀ m, m < 64 → Ans Try.prog 100 #[.agg (S (m + 1))] (.agg (E m))) (TW : ∀ m, m < 64 → Ans Try.prog 101 #[.agg (E m)] (.agg (T m))) (AD : ∀ m, m < 64 → Ans Try.prog 102 #[.agg (T m), .agg (G (X / 16 ^ m % 16))] (.agg (S m)))
    (WI : Ans Try.prog 99 #[.agg A] (.agg U))
    (FT : Ans Try.prog 98 #[.agg U] (.agg (rowsOf 16 16 G)))
    (PP : Ans Try.prog 103 #[.agg (S 0)] (.agg R))
    (sA : Sz 8 A) (sR : Sz 8 R) :
    Calls Try.prog 60 #[.agg A, .agg (bv (bl 32 X)).toArray] w fun e w' => e = .returned (.agg R) ∧ Fr (fun _ => False) w w' := by
  have sBX := sz_bl X
  have hcell := Lib.hid (fun k (hk : k < 32) => bl_cell X k hk)
  have hnib := Lib.hid (fun m => nib_byte X m)
  generalize (bv (bl 32 X)).toArray = BX at *
  have sTB : Sz 256 (rowsOf 16 16 G) := sz_rows 16 16 G (by decide) sG
  have pT := fun i (hi : i < 16) => part_rows 16 16 G i hi (by decide) sG
  generalize rowsOf 16 16 G = TBL at *
  have p0 := pT 0 (by decide)
  rw [Nat.mul_zero] at p0
  have s0 := sG 0
  have hpT := Lib.hid pT
  have hEI := Lib.hid EI
  have hTW := Lib.hid TW
  have hAD := Lib.hid AD
  have hsG := Lib.hid sG
  have hsS := Lib.hid sS
  have h64 := Lib.hid s64
  clear pT EI TW AD sG sS s64
  have K := ((((Kn.start w).new (w.heap.size) 8 A 72 rfl sA.1).new (w.heap.size + 1) 32 BX 36 (by simp) sBX.1).new (w.heap.size + 1 + 1) 8 #[.int .u64 0, .int .u64 0, .int .u64 0, .int .u64 0, .int .u64 0, .int .u64 0, .int .u64 0, .int .u64 0] 72 (by simp) rfl)
  go_enter Try.func60, Try.ntmps60
  go_wp2_with (first
      | (focus ((with_reducible refine' wpList_load_pt K rfl 121 (.tmp 11) rfl 0 _ _ 0 16 _ _ _ rfl _ Try.underlying121 rfl Try.szWd _ p0 (Sz.n s0) _); rotate_left 2; (focus exact rfl)))
      | (focus (first | ((with_reducible refine' wpList_load_kn K rfl 72 (.tmp 2) rfl 2 _ _ _ _ rfl _ Try.underlying72 rfl Try.szPt _ _); rotate_left 2; (focus exact rfl))))
      | (focus ((first | ((with_reducible refine' wpList_store_kn K rfl 122 (.tmp 5) _ rfl 0 _ _ _ _ _ rfl rfl Try.szTb _ _ _); rotate_left 2; (focus exact rfl)) | ((with_reducible refine' wpList_store_kn K rfl 121 (.tmp 6) _ rfl 0 _ _ _ _ _ rfl rfl Try.szWd _ _ _); rotate_left 2; (focus exact rfl))); (focus assumption); intro wz Kz; clear K; have K := Kz; clear Kz; simp only [List.set_cons_zero, List.set_cons_succ] at K; try (simp only [Act.put, List.setIfInBounds_toArray, List.set_cons_zero, List.set_cons_succ])))
      | ((with_reducible refine wpList_new_kn K 122 _ _ _ _ #[.int .u64 0, .int .u64 0, .int .u64 0, .int .u64 0, .int .u64 0, .int .u64 0, .int .u64 0, .int .u64 0, .int .u64 0, .int .u64 0, .int .u64 0, .int .u64 0, .int .u64 0, .int .u64 0, .int .u64 0, .int .u64 0, .int .u64 0, .int .u64 0, .int .u64 0, .int .u64 0, .int .u64 0, .int .u64 0, .int .u64 0, .int .u64 0, .int .u64 0, .int .u64 0, .int .u64 0, .int .u64 0, .int .u64 0, .int .u64 0, .int .u64 0, .int .u64 0, .int .u64 0, .int .u64 0, .int .u64 0, .int .u64 0, .int .u64 0, .int .u64 0, .int .u64 0, .int .u64 0, .int .u64 0, .int .u64 0, .int .u64 0, .int .u64 0, .int .u64 0, .int .u64 0, .int .u64 0, .int .u64 0, .int .u64 0, .int .u64 0, .int .u64 0, .int .u64 0, .int .u64 0, .int .u64 0, .int .u64 0, .int .u64 0, .int .u64 0, .int .u64 0, .int .u64 0, .int .u64 0, .int .u64 0, .int .u64 0, .int .u64 0, .int .u64 0, .int .u64 0, .int .u64 0, .int .u64 0, .int .u64 0, .int .u64 0, .int .u64 0, .int .u64 0, .int .u64 0, .int .u64 0, .int .u64 0, .int .u64 0, .int .u64 0, .int .u64 0, .int .u64 0, .int .u64 0, .int .u64 0, .int .u64 0, .int .u64 0, .int .u64 0, .int .u64 0, .int .u64 0, .int .u64 0, .int .u64 0, .int .u64 0, .int .u64 0, .int .u64 0, .int .u64 0, .int .u64 0, .int .u64 0, .int .u64 0, .int .u64 0, .int .u64 0, .int .u64 0, .int .u64 0, .int .u64 0, .int .u64 0, .int .u64 0, .int .u64 0, .int .u64 0, .int .u64 0, .int .u64 0, .int .u64 0, .int .u64 0, .int .u64 0, .int .u64 0, .int .u64 0, .int .u64 0, .int .u64 0, .int .u64 0, .int .u64 0, .int .u64 0, .int .u64 0, .int .u64 0, .int .u64 0, .int .u64 0, .int .u64 0, .int .u64 0, .int .u64 0, .int .u64 0, .int .u64 0, .int .u64 0, .int .u64 0, .int .u64 0, .int .u64 0, .int .u64 0, .int .u64 0, .int .u64 0, .int .u64 0, .int .u64 0, .int .u64 0, .int .u64 0, .int .u64 0, .int .u64 0, .int .u64 0, .int .u64 0, .int .u64 0, .int .u64 0, .int .u64 0, .int .u64 0, .int .u64 0, .int .u64 0, .int .u64 0, .int .u64 0, .int .u64 0, .int .u64 0, .int .u64 0, .int .u64 0, .int .u64 0, .int .u64 0, .int .u64 0, .int .u64 0, .int .u64 0, .int .u64 0, .int .u64 0, .int .u64 0, .int .u64 0, .int .u64 0, .int .u64 0, .int .u64 0, .int .u64 0, .int .u64 0, .int .u64 0, .int .u64 0, .int .u64 0, .int .u64 0, .int .u64 0, .int .u64 0, .int .u64 0, .int .u64 0, .int .u64 0, .int .u64 0, .int .u64 0, .int .u64 0, .int .u64 0, .int .u64 0, .int .u64 0, .int .u64 0, .int .u64 0, .int .u64 0, .int .u64 0, .int .u64 0, .int .u64 0, .int .u64 0, .int .u64 0, .int .u64 0, .int .u64 0, .int .u64 0, .int .u64 0, .int .u64 0, .int .u64 0, .int .u64 0, .int .u64 0, .int .u64 0, .int .u64 0, .int .u64 0, .int .u64 0, .int .u64 0, .int .u64 0, .int .u64 0, .int .u64 0, .int .u64 0, .int .u64 0, .int .u64 0, .int .u64 0, .int .u64 0, .int .u64 0, .int .u64 0, .int .u64 0, .int .u64 0, .int .u64 0, .int .u64 0, .int .u64 0, .int .u64 0, .int .u64 0, .int .u64 0, .int .u64 0, .int .u64 0, .int .u64 0, .int .u64 0, .int .u64 0, .int .u64 0, .int .u64 0, .int .u64 0, .int .u64 0, .int .u64 0, .int .u64 0, .int .u64 0, .int .u64 0, .int .u64 0, .int .u64 0, .int .u64 0, .int .u64 0, .int .u64 0, .int .u64 0, .int .u64 0, .int .u64 0, .int .u64 0, .int .u64 0, .int .u64 0, .int .u64 0, .int .u64 0, .int .u64 0, .int .u64 0, .int .u64 0, .int .u64 0, .int .u64 0, .int .u64 0, .int .u64 0, .int .u64 0, .int .u64 0, .int .u64 0, .int .u64 0] 256 rfl Try.alTb rfl ?_); intro gz wz Kz; clear K; have K := Kz; clear Kz; try (simp only [Act.put, List.setIfInBounds_toArray, List.set_cons_zero, List.set_cons_succ]))
      | ((with_reducible refine wpList_new_kn K 121 _ _ _ _ #[.int .u64 0, .int .u64 0, .int .u64 0, .int .u64 0, .int .u64 0, .int .u64 0, .int .u64 0, .int .u64 0, .int .u64 0, .int .u64 0, .int .u64 0, .int .u64 0, .int .u64 0, .int .u64 0, .int .u64 0, .int .u64 0] 16 rfl Try.alWd rfl ?_); intro gz6 wz Kz; clear K; have K := Kz; clear Kz; try (simp only [Act.put, List.setIfInBounds_toArray, List.set_cons_zero, List.set_cons_succ]))
      | (go_at_call 99; (with_reducible refine Calls.kn K (WI _) ?_); intro wz Kz; clear K; have K := Kz; clear Kz)
      | (go_at_call 98; (with_reducible refine Calls.kn K (FT _) ?_); intro wz Kz; clear K; have K := Kz; clear Kz))
  rw [← h64.out] at K
  clear FT WI
  go_loopw [7] (fun i wr => ∃ k : Nat, k ≤ 64 ∧ i = .int .i64 ((k : Int) - 1) ∧ Kn w [⟨gz6, 16, S k, 121⟩, ⟨gz, 256, TBL, 122⟩, ⟨w.heap.size + 1 + 1, 8, #[.int .u64 0, .int .u64 0, .int .u64 0, .int .u64 0, .int .u64 0, .int .u64 0, .int .u64 0, .int .u64 0], 72⟩, ⟨w.heap.size + 1, 32, BX, 36⟩, ⟨w.heap.size, 8, A, 72⟩] wr) (fun i _ => (intOf i + 1).toNat)
  case atStart => exact ⟨64, by omega, by simp, K⟩
  case round =>
    clear K
    obtain ⟨k, hk, rfl, K⟩ := hrel
    by_cases h0 : 0 < k
    · as_aux_lemma =>
      obtain ⟨m, rfl⟩ : ∃ m, k = m + 1 := ⟨k - 1, by omega⟩
      have em : ((m + 1 : Nat) : Int) - 1 = (m : Int) := by omega
      rw [em]
      have hm : m < 64 := by omega
      have q0 : (0 : Int) ≤ (m : Int) := by omega
      have q1 : (m : Int) < 64 := by omega
      have EI := hEI.out m hm
      have TW := hTW.out m hm
      have AD := hAD.out m hm
      have sS1 := hsS.out m
      have hc := hcell.out (m / 2) (by omega)
      have hn := hnib.out m
      have hd : X / 16 ^ m % 16 < 16 := Nat.mod_lt _ (by decide)
      have pn := hpT.out _ hd
      have sn := hsG.out (X / 16 ^ m % 16)
      have hz : X / 256 ^ (m / 2) % 256 < 256 := Nat.mod_lt _ (by decide)
      have hq : ((m : Int)).tdiv 2 = ((m / 2 : Nat) : Int) := by rw [Int.tdiv_eq_ediv_of_nonneg (by omega)]; omega
      have hr : ((m : Int)).tmod 2 = ((m % 2 : Nat) : Int) := by rw [Int.tmod_eq_emod_of_nonneg (by omega)]; omega
      have hd32 : m / 2 < 32 := by omega
      have hr2 : m % 2 < 2 := Nat.mod_lt _ (by decide)
      generalize X / 256 ^ (m / 2) % 256 = z at *
      generalize X / 16 ^ m % 16 = t at *
      generalize m / 2 = d at *
      obtain ⟨u, hu⟩ : ∃ u, u = m % 2 * 4 := ⟨_, rfl⟩
      rw [← hu] at hn
      generalize m % 2 = r at hr hr2 hu
      have hmul : (r : Int) * 4 = (u : Int) := by omega
      have da : (0 : Int) ≤ (d : Int) := by omega
      have db : (d : Int) < 32 := by omega
      have ra : (0 : Int) ≤ (r : Int) := by omega
      have rb : (r : Int) < 2 := by omega
      have ua : (0 : Int) ≤ (u : Int) := by omega
      have ub : (u : Int) < 8 := by omega
      have hsh : (z : Int) / 2 ^ u = ((z / 2 ^ u : Nat) : Int) := by simp
      have hand := nib_u8 (z / 2 ^ u) (Nat.lt_of_le_of_lt (Nat.div_le_self _ _) hz)
      rw [hn] at hand
      generalize z / 2 ^ u = y at hsh hand
      have ta : (0 : Int) ≤ (t : Int) := by omega
      have tb : (t : Int) < 16 := by omega
      have pn : Part TBL (t * 16) (G t) := by rw [Nat.mul_comm]; exact pn
      generalize G t = Gt at *
      have hS := sS1
      clear hcell hnib hpT hEI hTW hAD hsG hsS hn hu hz hd h64 p0 s0
      go_wp2_with fail
      refine wp_region_kn_tail K 15 [] (by kernel_rfl) (by kernel_rfl) mk_nil sz_nil ?_
      apply Exists.intro
      refine ⟨?wk6, ?fin6⟩
      case wk6 =>
        intro γ
        have c0 := fun y : Wg γ => K.cellg y 3 rfl d hc
        simp only [List.take_succ_cons, List.take_zero]
        repeat (any_goals (first | (focus (go_big_quiet_want; (first | ((with_reducible refine' quiet_load_ptg K 121 (.tmp 29) rfl 1 _ _ (t * 16) 16 _ _ _ rfl _ Try.underlying121 rfl Try.szWd _ pn (Sz.n sn) _); rotate_left 2; (focus exact rfl)) | ((with_reducible refine' quiet_load_kng K 121 (.tmp 6) rfl 0 _ _ _ _ rfl _ Try.underlying121 rfl Try.szWd _ _); rotate_left 2; (focus exact rfl))); simp only [Act.put, List.setIfInBounds_toArray, List.set_cons_zero, List.set_cons_succ]; go_big_quiet_on)) | go_big_quiet_step ((first | (go_at_call 100; with_reducible exact Calls.keepg (EI _)) | (go_at_call 101; with_reducible exact Calls.keepg (TW _)) | (go_at_call 102; with_reducible exact Calls.keepg (AD _)))) | quiet_step ((first | (go_at_call 100; with_reducible exact Calls.keepg (EI _)) | (go_at_call 101; with_reducible exact Calls.keepg (TW _)) | (go_at_call 102; with_reducible exact Calls.keepg (AD _))))))
        exact wpQuiet_nil rfl
      case fin6 =>
        intro gs wz Kz
        clear K
        have K := Kz
        clear Kz
        try simp only [mkAll, asObj, List.map_cons, List.map_nil, putAll, List.drop_succ_cons, List.drop_zero, List.length_cons, List.length_nil, Nat.zero_add, Nat.add_zero] at K ⊢
        try simp only [Act.put, List.setIfInBounds_toArray, List.set_cons_zero, List.set_cons_succ]

        go_wp2_with (first
          | (focus ((first | ((with_reducible refine' wpList_store_kn K rfl 121 (.tmp 6) _ rfl 0 _ _ _ _ _ rfl rfl Try.szWd _ _ _); rotate_left 2; (focus exact rfl))); (focus assumption); intro wz Kz; clear K; have K := Kz; clear Kz; simp only [List.set_cons_zero, List.set_cons_succ] at K; try (simp only [Act.put, List.setIfInBounds_toArray, List.set_cons_zero, List.set_cons_succ]))))
        go_roundw
        case rel => exact ⟨m, by omega, rfl, K⟩
        case measure => simp [intOf]
    · as_aux_lemma =>
      obtain rfl : k = 0 := by omega
      clear hcell hnib hpT hEI hTW hAD hsG hsS h64 p0 s0
      rw [show ((0 : Nat) : Int) - 1 = -1 from rfl]
      go_wp2_with (first
          | (focus (first | ((with_reducible refine' wpList_load_kn K rfl 121 (.tmp 6) rfl 0 _ _ _ _ rfl _ Try.underlying121 rfl Try.szWd _ _); rotate_left 2; (focus exact rfl))))
          | (focus ((first | ((with_reducible refine' wpList_store_kn K rfl 72 (.tmp 4) _ rfl 2 _ _ _ _ _ rfl rfl Try.szPt _ _ _); rotate_left 2; (focus exact rfl))); (focus assumption); intro wz Kz; clear K; have K := Kz; clear Kz; simp only [List.set_cons_zero, List.set_cons_succ] at K; try (simp only [Act.put, List.setIfInBounds_toArray, List.set_cons_zero, List.set_cons_succ])))
          | (go_at_call 103; (with_reducible refine Calls.kn K (PP _) ?_); intro wz Kz; clear K; have K := Kz; clear Kz))
      refine bodyPost_ret (results_kn K rfl _ 2 _ _ _ _ rfl _ Try.underlying72 rfl Try.szPt rfl) rfl ?_
      exact ⟨rfl, K.fr⟩
end Go.Proofs.Ytahnlnflcgehaaa

/-
  The contract of Times of package custumalref07, over what its callees answer.
-/
import Derived.Test.YtahnlnflcgehaaaJk
import Derived.Test.YtahnlnflcgehaaaQe
namespace Go.Proofs.Ytahnlnflcgehaaa
open Go.RowKit Pri
set_option linter.unusedVariables false
set_option linter.unusedSimpArgs false

theorem tmod_two (z : Nat) : (z : Int).tmod 2 = ((z % 2 : Nat) : Int) := by rw [Int.tmod_eq_emod_of_nonneg (by omega)]; omega
theorem bit_byte (X n t : Nat) (ht : t < 8) : X / 256 ^ n % 256 / 2 ^ t % 2 = X / 2 ^ (8 * n + t) % 2 := by
  rw [Nat.pow_add, ← Nat.div_div_eq_div_mul, Nat.pow_mul, show (2 : Nat) ^ 8 = 256 from rfl]
  generalize X / 256 ^ n = z
  obtain ⟨k, hk⟩ : ∃ k, 8 = t + 1 + k := ⟨7 - t, by omega⟩
  rw [show (256 : Nat) = 2 ^ t * (2 * 2 ^ k) by rw [← Nat.mul_assoc, ← Nat.pow_succ, ← Nat.pow_add, ← hk], Nat.mod_mul_right_div_self, Nat.mod_mul_right_mod]
set_option maxRecDepth 100000 in
set_option maxHeartbeats 3200000 in
theorem rtimes_op (X : Nat) (A R : Array Value) (w : World)
    (S D : Nat → Array Value) (sS : ∀ m, Sz 48 (S m)) (sD : ∀ m, Sz 48 (D m)) (DB : ∀ m, m < 256 → Ans Try.prog 63 #[.agg (S (m + 1)), .agg (S (m + 1))] (.agg (D m))) (AD : ∀ m, m < 256 → X / 2 ^ m % 2 = 1 → Ans Try.prog 63 #[.agg (D m), .agg A] (.agg (S m))) (ND : ∀ m, m < 256 → X / 2 ^ m % 2 = 0 → S m = D m) (hR : R = S 0)
    (ZE : Ans Try.prog 104 #[] (.agg (S 256)))
    (sA : Sz 48 A) :
    Calls Try.prog 61 #[.agg A, .string ⟨(bl 32 X).toArray⟩] w fun e w' => e = .returned (.agg R) ∧ Fr (fun _ => False) w w' := by
  have HDB := Lib.hid DB
  have HAD := Lib.hid AD
  have HND := Lib.hid ND
  have HS := Lib.hid sS
  have HD := Lib.hid sD
  have HR := Lib.hid hR
  have s256 := sS 256
  have hB := fun j (hj : j < 32) => bl_at X j hj
  have zS : (⟨(bl 32 X).toArray⟩ : ByteArray).size = 32 := by show (bl 32 X).toArray.size = 32; simp [bl_length]
  generalize hSS : (⟨(bl 32 X).toArray⟩ : ByteArray) = TX at *
  have HB : Hid (∀ j, j < 32 → TX.data[j]? = some (UInt8.ofNat (X / 256 ^ j % 256))) := Lib.hid (fun j hj => by rw [← hSS]; exact hB j hj)
  clear DB AD ND sS sD hR hB hSS
  have K := (((Kn.start w).new (w.heap.size) 48 A 74 rfl sA.1).new (w.heap.size + 1) 48 #[.int .i64 0, .int .i64 0, .int .i64 0, .int .i64 0, .int .i64 0, .int .i64 0, .int .i64 0, .int .i64 0, .int .i64 0, .int .i64 0, .int .i64 0, .int .i64 0, .int .i64 0, .int .i64 0, .int .i64 0, .int .i64 0, .int .i64 0, .int .i64 0, .int .i64 0, .int .i64 0, .int .i64 0, .int .i64 0, .int .i64 0, .int .i64 0, .int .i64 0, .int .i64 0, .int .i64 0, .int .i64 0, .int .i64 0, .int .i64 0, .int .i64 0, .int .i64 0, .int .i64 0, .int .i64 0, .int .i64 0, .int .i64 0, .int .i64 0, .int .i64 0, .int .i64 0, .int .i64 0, .int .i64 0, .int .i64 0, .int .i64 0, .int .i64 0, .int .i64 0, .int .i64 0, .int .i64 0, .int .i64 0] 74 (by simp) rfl)
  go_enter Try.func61, Try.ntmps61
  go_wp2_with (first
      | (focus ((first | ((with_reducible refine' wpList_store_kn K rfl 74 (.tmp 5) _ rfl 0 _ _ _ _ _ rfl rfl Try.szRp _ _ _); rotate_left 2; (focus exact rfl))); (focus assumption); intro wz Kz; clear K; have K := Kz; clear Kz; simp only [List.set_cons_zero, List.set_cons_succ] at K; try (simp only [Act.put, List.setIfInBounds_toArray, List.set_cons_zero, List.set_cons_succ])))
      | ((with_reducible refine wpList_new_kn K 74 _ _ _ _ #[.int .i64 0, .int .i64 0, .int .i64 0, .int .i64 0, .int .i64 0, .int .i64 0, .int .i64 0, .int .i64 0, .int .i64 0, .int .i64 0, .int .i64 0, .int .i64 0, .int .i64 0, .int .i64 0, .int .i64 0, .int .i64 0, .int .i64 0, .int .i64 0, .int .i64 0, .int .i64 0, .int .i64 0, .int .i64 0, .int .i64 0, .int .i64 0, .int .i64 0, .int .i64 0, .int .i64 0, .int .i64 0, .int .i64 0, .int .i64 0, .int .i64 0, .int .i64 0, .int .i64 0, .int .i64 0, .int .i64 0, .int .i64 0, .int .i64 0, .int .i64 0, .int .i64 0, .int .i64 0, .int .i64 0, .int .i64 0, .int .i64 0, .int .i64 0, .int .i64 0, .int .i64 0, .int .i64 0, .int .i64 0] 48 rfl Try.alRp rfl ?_); intro gz wz Kz; clear K; have K := Kz; clear Kz; try (simp only [Act.put, List.setIfInBounds_toArray, List.set_cons_zero, List.set_cons_succ]))
      | (go_at_call 104; (with_reducible refine Calls.kn K (ZE _) ?_); intro wz Kz; clear K; have K := Kz; clear Kz))
  clear ZE s256
  go_loopw [6] (fun i wr => ∃ k : Nat, k ≤ 32 ∧ i = .int .i64 ((k : Int) - 1) ∧ Kn w [⟨gz, 48, S (8 * k), 74⟩, ⟨w.heap.size + 1, 48, #[.int .i64 0, .int .i64 0, .int .i64 0, .int .i64 0, .int .i64 0, .int .i64 0, .int .i64 0, .int .i64 0, .int .i64 0, .int .i64 0, .int .i64 0, .int .i64 0, .int .i64 0, .int .i64 0, .int .i64 0, .int .i64 0, .int .i64 0, .int .i64 0, .int .i64 0, .int .i64 0, .int .i64 0, .int .i64 0, .int .i64 0, .int .i64 0, .int .i64 0, .int .i64 0, .int .i64 0, .int .i64 0, .int .i64 0, .int .i64 0, .int .i64 0, .int .i64 0, .int .i64 0, .int .i64 0, .int .i64 0, .int .i64 0, .int .i64 0, .int .i64 0, .int .i64 0, .int .i64 0, .int .i64 0, .int .i64 0, .int .i64 0, .int .i64 0, .int .i64 0, .int .i64 0, .int .i64 0, .int .i64 0], 74⟩, ⟨w.heap.size, 48, A, 74⟩] wr) (fun i _ => (intOf i + 1).toNat)
  case atStart => exact ⟨32, by omega, by simp, K⟩
  case round =>
    clear K
    obtain ⟨k, hk, rfl, K⟩ := hrel
    by_cases h0 : k = 0
    · as_aux_lemma =>
      subst h0
      have sR0 := HS.out 0
      rw [Nat.mul_zero] at K
      have HR2 := Lib.hid HR.out
      generalize S 0 = S0 at *
      clear HR HDB HAD HND HS HD HB
      rw [show ((0 : Nat) : Int) - 1 = -1 from rfl]
      go_wp2_with (first
          | (focus (first | ((with_reducible refine' wpList_load_kn K rfl 74 (.tmp 5) rfl 0 _ _ _ _ rfl _ Try.underlying74 rfl Try.szRp _ _); rotate_left 2; (focus exact rfl))))
          | (focus ((first | ((with_reducible refine' wpList_store_kn K rfl 74 (.tmp 4) _ rfl 1 _ _ _ _ _ rfl rfl Try.szRp _ _ _); rotate_left 2; (focus exact rfl))); (focus assumption); intro wz Kz; clear K; have K := Kz; clear Kz; simp only [List.set_cons_zero, List.set_cons_succ] at K; try (simp only [Act.put, List.setIfInBounds_toArray, List.set_cons_zero, List.set_cons_succ]))))
      refine bodyPost_ret (results_kn K rfl _ 1 _ _ _ _ rfl _ Try.underlying74 rfl Try.szRp rfl) rfl ?_
      exact ⟨by rw [HR2.out], K.fr⟩
    · as_aux_lemma =>
      obtain ⟨n, rfl⟩ : ∃ n, k = n + 1 := ⟨k - 1, by omega⟩
      rw [show ((n + 1 : Nat) : Int) - 1 = (n : Int) by omega]
      have n0 : (0 : Int) ≤ (n : Int) := by omega
      have n1 : (n : Int) < 32 := by omega
      have hn : n < 32 := by omega
      have hidx := fun W => run_index_str (P := Try.prog) Try.underlying9 (HB.out n hn) W
      rw [tn] at hidx
      have hbit : ∀ t, t < 8 → X / 256 ^ n % 256 / 2 ^ t % 2 = X / 2 ^ (8 * n + t) % 2 := fun t ht => bit_byte X n t ht
      have hb8 : X / 256 ^ n % 256 < 256 := Nat.mod_lt _ (by decide)
      generalize X / 256 ^ n % 256 = b at *
      have Hbit := Lib.hid hbit
      rw [show 8 * (n + 1) = 8 * n + 8 by omega] at K
      clear hbit HB HR h0
      go_wp2_with fail
      go_loopw [7] (fun i wr => ∃ j : Nat, j ≤ 8 ∧ i = .int .i64 ((j : Int) - 1) ∧ Kn w [⟨gz, 48, S (8 * n + j), 74⟩, ⟨w.heap.size + 1, 48, #[.int .i64 0, .int .i64 0, .int .i64 0, .int .i64 0, .int .i64 0, .int .i64 0, .int .i64 0, .int .i64 0, .int .i64 0, .int .i64 0, .int .i64 0, .int .i64 0, .int .i64 0, .int .i64 0, .int .i64 0, .int .i64 0, .int .i64 0, .int .i64 0, .int .i64 0, .int .i64 0, .int .i64 0, .int .i64 0, .int .i64 0, .int .i64 0, .int .i64 0, .int .i64 0, .int .i64 0, .int .i64 0, .int .i64 0, .int .i64 0, .int .i64 0, .int .i64 0, .int .i64 0, .int .i64 0, .int .i64 0, .int .i64 0, .int .i64 0, .int .i64 0, .int .i64 0, .int .i64 0, .int .i64 0, .int .i64 0, .int .i64 0, .int .i64 0, .int .i64 0, .int .i64 0, .int .i64 0, .int .i64 0], 74⟩, ⟨w.heap.size, 48, A, 74⟩] wr) (fun i _ => (intOf i + 1).toNat)
      case atStart => exact ⟨8, by omega, by simp, K⟩
      case round =>
        clear K
        obtain ⟨j, hj, rfl, K⟩ := hrel
        by_cases h0 : j = 0
        · subst h0
          rw [Nat.add_zero] at K
          rw [show ((0 : Nat) : Int) - 1 = -1 from rfl]
          go_wp2_with fail
          go_roundw
          case rel => exact ⟨n, by omega, rfl, K⟩
          case measure => simp [intOf]
        · obtain ⟨t, rfl⟩ : ∃ t, j = t + 1 := ⟨j - 1, by omega⟩
          rw [show ((t + 1 : Nat) : Int) - 1 = (t : Int) by omega]
          have hm : 8 * n + t < 256 := by omega
          have DB := HDB.out _ hm
          rw [show 8 * n + t + 1 = 8 * n + (t + 1) by omega] at DB
          have sD1 := HD.out (8 * n + t)
          have sS1 := HS.out (8 * n + t)
          have hbt := Hbit.out t (by omega)
          have hsh : (b : Int) / 2 ^ t = ((b / 2 ^ t : Nat) : Int) := by simp
          have htm : ((b / 2 ^ t : Nat) : Int).tmod 2 = ((b / 2 ^ t % 2 : Nat) : Int) := tmod_two _
          have t0 : (0 : Int) ≤ (t : Int) := by omega
          have t1 : (t : Int) ≤ 8 := by omega
          rcases Nat.mod_two_eq_zero_or_one (b / 2 ^ t) with hz | hz
          · rw [hz] at htm
            have hS := HND.out _ hm (by rw [← hbt]; exact hz)
            have HSD := Lib.hid hS
            generalize b / 2 ^ t = zz at *
            clear hz hbt hS HDB HAD HND HS HD Hbit
            go_wp2_with (first
                | (focus (first | ((with_reducible refine' wpList_load_kn K rfl 74 (.tmp 5) rfl 0 _ _ _ _ rfl _ Try.underlying74 rfl Try.szRp _ _); rotate_left 2; (focus exact rfl))))
                | (focus ((first | ((with_reducible refine' wpList_store_kn K rfl 74 (.tmp 5) _ rfl 0 _ _ _ _ _ rfl rfl Try.szRp _ _ _); rotate_left 2; (focus exact rfl))); (focus assumption); intro wz Kz; clear K; have K := Kz; clear Kz; simp only [List.set_cons_zero, List.set_cons_succ] at K; try (simp only [Act.put, List.setIfInBounds_toArray, List.set_cons_zero, List.set_cons_succ])))
                | (go_at_call 63; (with_reducible refine Calls.kn K (DB _) ?_); intro wz Kz; clear K; have K := Kz; clear Kz))
            go_roundw
            case rel => exact ⟨t, by omega, rfl, by rw [HSD.out]; exact K⟩
            case measure => simp [intOf]
          · rw [hz] at htm
            have AD := HAD.out _ hm (by rw [← hbt]; exact hz)
            generalize b / 2 ^ t = zz at *
            clear hz hbt HDB HAD HND HS HD Hbit
            go_wp2_with (first
                | (focus (first | ((with_reducible refine' wpList_load_kn K rfl 74 (.tmp 5) rfl 0 _ _ _ _ rfl _ Try.underlying74 rfl Try.szRp _ _); rotate_left 2; (focus exact rfl)) | ((with_reducible refine' wpList_load_kn K rfl 74 (.tmp 2) rfl 2 _ _ _ _ rfl _ Try.underlying74 rfl Try.szRp _ _); rotate_left 2; (focus exact rfl))))
                | (focus ((first | ((with_reducible refine' wpList_store_kn K rfl 74 (.tmp 5) _ rfl 0 _ _ _ _ _ rfl rfl Try.szRp _ _ _); rotate_left 2; (focus exact rfl))); (focus assumption); intro wz Kz; clear K; have K := Kz; clear Kz; simp only [List.set_cons_zero, List.set_cons_succ] at K; try (simp only [Act.put, List.setIfInBounds_toArray, List.set_cons_zero, List.set_cons_succ])))
                | (go_at_call 63; (with_reducible refine Calls.kn K (DB _) ?_); intro wz Kz; clear K; have K := Kz; clear Kz)
                | (go_at_call 63; (with_reducible refine Calls.kn K (AD _) ?_); intro wz Kz; clear K; have K := Kz; clear Kz))
            go_roundw
            case rel => exact ⟨t, by omega, rfl, K⟩
            case measure => simp [intOf]
end Go.Proofs.Ytahnlnflcgehaaa

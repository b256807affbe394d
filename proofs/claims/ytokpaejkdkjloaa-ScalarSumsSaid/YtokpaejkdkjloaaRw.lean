/-
  The bytes of a number; the contracts of Raw and Bytes of package custumalref06.
-/
import Derived.Test.YtokpaejkdkjloaaLe
import Derived.Test.YtokpaejkdkjloaaOw
import Derived.Test.YtokpaejkdkjloaaMl
namespace Go.Proofs.Ytokpaejkdkjloaa
open Go.RowKit
set_option linter.unusedVariables false

/-- The first n bytes of a number, the lowest first. -/
def bl (n X : Nat) : List UInt8 := (List.range n).map fun i => UInt8.ofNat (X / 256 ^ i % 256)
theorem bl_length (n X : Nat) : (bl n X).length = n := by simp [bl]
theorem bl_succ (n X : Nat) : bl (n + 1) X = bl n X ++ [UInt8.ofNat (X / 256 ^ n % 256)] := by
  simp [bl, List.range_succ]
theorem byte_toNat (z : Nat) : ((UInt8.ofNat (z % 256)).toNat : Int) = (z : Int) % 256 := by
  rw [UInt8.toNat_ofNat']; omega
theorem byte_word (X i : Nat) : dig 18446744073709551616 X (i / 8) / 2 ^ (8 * (i % 8)) % 256 = X / 256 ^ i % 256 := by
  unfold dig
  obtain ⟨k, hk⟩ : ∃ k, 64 = 8 * (i % 8) + 8 + k := ⟨64 - 8 * (i % 8) - 8, by omega⟩
  have e2 : ∀ z : Nat, z % 18446744073709551616 / 2 ^ (8 * (i % 8)) % 256 = z / 2 ^ (8 * (i % 8)) % 256 := fun z => by
    rw [show (18446744073709551616 : Nat) = 2 ^ (8 * (i % 8)) * 256 * 2 ^ k by rw [show (256 : Nat) = 2 ^ 8 from rfl, ← Nat.pow_add, ← Nat.pow_add, ← hk], Nat.mul_assoc, Nat.mod_mul_right_div_self, Nat.mod_mul_right_mod]
  rw [e2, show (18446744073709551616 : Nat) ^ (i / 8) = 2 ^ (64 * (i / 8)) by rw [show (18446744073709551616 : Nat) = 2 ^ 64 from rfl, ← Nat.pow_mul], Nat.div_div_eq_div_mul, ← Nat.pow_add,
    show 64 * (i / 8) + 8 * (i % 8) = 8 * i by omega, Nat.pow_mul]
theorem byte_part0 (X i : Nat) : dig 65536 X i % 256 = X / 256 ^ (2 * i) % 256 := by
  unfold dig
  rw [show (65536 : Nat) ^ i = 256 ^ (2 * i) by rw [show (65536 : Nat) = 256 ^ 2 from rfl, ← Nat.pow_mul]]
  omega
theorem byte_part1 (X i : Nat) : dig 65536 X i / 256 % 256 = X / 256 ^ (2 * i + 1) % 256 := by
  unfold dig
  rw [show (65536 : Nat) ^ i = 256 ^ (2 * i) by rw [show (65536 : Nat) = 256 ^ 2 from rfl, ← Nat.pow_mul], Nat.pow_succ, ← Nat.div_div_eq_div_mul]
  omega

set_option maxRecDepth 100000 in
set_option maxHeartbeats 1600000 in
theorem raw6_any (X : Nat) (w : World) :
    Calls Try.prog 102 #[.agg (nc X)] w fun e w' => e = .returned (.string ⟨(bl 32 X).toArray⟩) ∧ Fr (fun _ => False) w w' := by
  rw [nc_uq X]
  go_enter Try.func102, Try.ntmps102
  go_wp2_with fail
  have A0 := heap_alloc2_old w (.cells (uq 4 (dig 18446744073709551616 X)) 23) (.cells #[] 5)
  have F0 := ((Fr.refl (fun _ => False) w).alloc (.cells (uq 4 (dig 18446744073709551616 X)) 23)).alloc (.cells #[] 5)
  have own0 : Own ((w.alloc (.cells (uq 4 (dig 18446744073709551616 X)) 23)).alloc (.cells #[] 5)) (w.heap.size + 1) (.slice (some ⟨w.heap.size + 1, 0, none⟩) 0 0) [] := Or.inr ⟨w.heap.size + 1, 0, #[], (0, 0), rfl, Nat.le_refl _, heap_alloc2_new w _ _, Or.inl rfl, Nat.le_refl _, Nat.zero_le _, rfl, rfl⟩
  go_loopw [3, 4] (fun v i wr => ∃ k : Nat, k ≤ 32 ∧ i = .int .i64 k ∧ Own wr (w.heap.size + 1) v (bl k X) ∧ wr.heap[w.heap.size]? = some (.cells (uq 4 (dig 18446744073709551616 X)) 23 (0, 0)) ∧ Fr (fun _ => False) w wr) (fun _ i _ => 32 - (intOf i).toNat)
  case atStart => exact ⟨0, by omega, by simp, own0, A0, F0⟩
  case round =>
    clear own0 A0 F0
    obtain ⟨k, hk, rfl, own, hA, hF⟩ := hrel
    obtain ⟨a2, c2, rfl⟩ := own.slice
    have hl := bl_length k X
    rw [hl] at own ⊢
    by_cases h32 : k < 32
    · have q0 : (0 : Int) ≤ (k : Int) := by omega
      have q1 : (k : Int) < 32 := by omega
      have hq4 : k / 8 < 4 := by omega
      have cA := cell_of_block hA (k / 8)
      rw [uq_get 4 _ _ hq4] at cA
      have hbw := byte_word X k
      have hsucc := bl_succ k X
      rw [← hbw] at hsucc
      have hz := dig_lt 18446744073709551616 X (k / 8) (by decide)
      have hq : ((k : Int)).tdiv 8 = ((k / 8 : Nat) : Int) := by rw [Int.tdiv_eq_ediv_of_nonneg (by omega)]; omega
      have hr : ((k : Int)).tmod 8 = ((k % 8 : Nat) : Int) := by rw [Int.tmod_eq_emod_of_nonneg (by omega)]; omega
      have hr64 : k % 8 < 8 := by omega
      clear hbw
      generalize dig 18446744073709551616 X (k / 8) = z at cA hz hsucc
      generalize k / 8 = q at hq hq4 cA
      generalize hrr : k % 8 = r at hr hr64 hsucc
      obtain ⟨s, hs⟩ : ∃ s, s = 8 * r := ⟨_, rfl⟩
      rw [← hs] at hsucc
      have hs1 : (8 : Int) * (r : Int) = (s : Int) := by omega
      have qa : (0 : Int) ≤ (q : Int) := by omega
      have qb : (q : Int) < 4 := by omega
      have ra : (0 : Int) ≤ (s : Int) := by omega
      have rb : (s : Int) ≤ 64 := by omega
      have hsh : (z : Int) / 2 ^ s = ((z / 2 ^ s : Nat) : Int) := by simp
      have hby := byte_toNat (z / 2 ^ s)
      generalize UInt8.ofNat (z / 2 ^ s % 256) = y at hsucc hby
      generalize z / 2 ^ s = zz at hsh hby
      have own1 := own.fr ((Fr.refl (fun _ => False) wr).alloc (.cells #[.int .u8 ((zz : Int) % 256)] 5)) (fun _ _ h => h)
      have hsrc := src_b1 y (heap_alloc_new wr (.cells #[.int .u8 ((zz : Int) % 256)] 5)) (by rw [hby])
      have F1 := hF.alloc (.cells #[.int .u8 ((zz : Int) % 256)] 5)
      have hz1 : w.heap.size + 1 ≤ (wr.alloc (.cells #[.int .u8 ((zz : Int) % 256)] 5)).heap.size := by have := lt_of_block hA; simp; omega
      have hb1 : (bl k X).length + [y].length ≤ 140737488355328 := by rw [hl]; simp; omega
      have hAlt := lt_of_block hA
      have A1 := (Below.heap_alloc wr (.cells #[.int .u8 ((zz : Int) % 256)] 5) _ hAlt).trans hA
      have own1lt := own1.lt
      have HS := Lib.hid hsucc
      generalize hx0 : bl k X = x0 at *
      clear hs hrr hby hsucc
      go_wp2_with (at_builtin; refine wpList_own _ rfl (.tmp 10) (.tmp 20) 40 rfl (w.heap.size + 1) (.slice a2 k c2) x0 [y] rfl own1 (.slice (some ⟨wr.heap.size, 0, none⟩) 1 1) rfl hsrc hb1 hz1 ?k)
      case k =>
      intro v3 w3 own3 hg3 hb3
      have F3 : Fr (fun _ => False) w w3 := F1.trans (Fr.ofGrown hg3) (fun i hi => Or.inr (by have := (own1lt i hi).1; omega))
      have A3 : w3.heap[w.heap.size]? = some (.cells (uq 4 (dig 18446744073709551616 X)) 23 (0, 0)) := ((Fr.ofGrown hg3).block _ (lt_of_block A1) (fun hi => by have := (own1lt _ hi).1; omega)).trans A1
      rw [← HS.out] at own3
      clear own own1 hsrc hg3 hb3 F1 hF hA A1
      go_wp2
      go_roundw
      case rel => exact ⟨k + 1, by omega, by go_num, own3, A3, F3⟩
      case measure => simp [intOf]; omega
    · obtain rfl : k = 32 := by omega
      obtain ⟨_, _, _, hl7⟩ := own.lies
      have hs7 := run_str hl7 c2 9 Try.underlying9
      have hs8 := hs7
      rw [hl] at hs7
      clear own hl7 hA hl h32 hk
      generalize hbb : bl 32 X = bb at *
      have HBB := Lib.hid hbb
      clear hbb
      rw [show ((32 : Nat) : Int) = 32 from rfl]
      go_wp2_with fail
      go_ret
      exact ⟨by rw [HBB.out]; rfl, hF⟩
set_option maxRecDepth 100000 in
set_option maxHeartbeats 1600000 in
theorem bytes6_any (X : Nat) (w : World) :
    Calls Try.prog 67 #[.agg (nd X)] w fun e w' => e = .returned (.string ⟨(bl 32 X).toArray⟩) ∧ Fr (fun _ => False) w w' := by
  unfold nd
  go_enter Try.func67, Try.ntmps67
  go_wp2_with fail
  have A0 := heap_alloc2_old w (.cells (iq 16 (dig 65536 X)) 78) (.cells #[] 5)
  have F0 := ((Fr.refl (fun _ => False) w).alloc (.cells (iq 16 (dig 65536 X)) 78)).alloc (.cells #[] 5)
  have own0 : Own ((w.alloc (.cells (iq 16 (dig 65536 X)) 78)).alloc (.cells #[] 5)) (w.heap.size + 1) (.slice (some ⟨w.heap.size + 1, 0, none⟩) 0 0) [] := Or.inr ⟨w.heap.size + 1, 0, #[], (0, 0), rfl, Nat.le_refl _, heap_alloc2_new w _ _, Or.inl rfl, Nat.le_refl _, Nat.zero_le _, rfl, rfl⟩
  go_loopw [3, 4] (fun v i wr => ∃ k : Nat, k ≤ 16 ∧ i = .int .i64 k ∧ Own wr (w.heap.size + 1) v (bl (2 * k) X) ∧ wr.heap[w.heap.size]? = some (.cells (iq 16 (dig 65536 X)) 78 (0, 0)) ∧ Fr (fun _ => False) w wr) (fun _ i _ => 16 - (intOf i).toNat)
  case atStart => exact ⟨0, by omega, by simp, own0, A0, F0⟩
  case round =>
    clear own0 A0 F0
    obtain ⟨k, hk, rfl, own, hA, hF⟩ := hrel
    obtain ⟨a2, c2, rfl⟩ := own.slice
    have hl := bl_length (2 * k) X
    rw [hl] at own ⊢
    by_cases h32 : k < 16
    · have q0 : (0 : Int) ≤ (k : Int) := by omega
      have q1 : (k : Int) < 16 := by omega
      have cA := cell_of_block hA k
      rw [iq_get 16 _ _ h32] at cA
      have hsucc : bl (2 * (k + 1)) X = bl (2 * k) X ++ [UInt8.ofNat (dig 65536 X k % 256), UInt8.ofNat (dig 65536 X k / 256 % 256)] := by
        rw [show 2 * (k + 1) = 2 * k + 1 + 1 by omega, bl_succ, bl_succ, byte_part0, byte_part1, List.append_assoc]; rfl
      have hz := dig_lt 65536 X k (by decide)
      generalize dig 65536 X k = z at cA hz hsucc
      have hsh : (z : Int) / 256 = ((z / 256 : Nat) : Int) := by omega
      have hby0 := byte_toNat z
      have hby := byte_toNat (z / 256)
      generalize UInt8.ofNat (z / 256 % 256) = y at hsucc hby
      generalize UInt8.ofNat (z % 256) = y0 at hsucc hby0
      generalize z / 256 = zz at hsh hby
      have own1 := own.fr (((Fr.refl (fun _ => False) wr).drew).alloc (.cells #[.int .u8 ((z : Int) % 256), .int .u8 ((zz : Int) % 256)] 5)) (fun _ _ h => h)
      have hsrc : Src Try.prog 1 40 (.slice (some ⟨wr.heap.size, 0, none⟩) 2 2) [y0, y].length (bv [y0, y]) (wr.drew.alloc (.cells #[.int .u8 ((z : Int) % 256), .int .u8 ((zz : Int) % 256)] 5)) := by
        have := src_block (heap_alloc_new wr.drew (.cells #[.int .u8 ((z : Int) % 256), .int .u8 ((zz : Int) % 256)] 5)) (by simp [Value.oneCell']) 2
        rw [← hby0, ← hby] at this
        rw [← hby0, ← hby]
        exact this
      have F1 := hF.drew.alloc (.cells #[.int .u8 ((z : Int) % 256), .int .u8 ((zz : Int) % 256)] 5)
      have hz1 : w.heap.size + 1 ≤ (wr.drew.alloc (.cells #[.int .u8 ((z : Int) % 256), .int .u8 ((zz : Int) % 256)] 5)).heap.size := by have := lt_of_block hA; simp; omega
      have hb1 : (bl (2 * k) X).length + [y0, y].length ≤ 140737488355328 := by rw [hl]; simp; omega
      have hAlt := lt_of_block hA
      have A1 := (Below.heap_alloc wr.drew (.cells #[.int .u8 ((z : Int) % 256), .int .u8 ((zz : Int) % 256)] 5) _ hAlt).trans hA
      have own1lt := own1.lt
      have HS := Lib.hid hsucc
      generalize hx0 : bl (2 * k) X = x0 at *
      clear hby hby0 hsucc
      have cA2 : ∀ o : Obj, (wr.drew.alloc o).cell? ⟨w.heap.size, k, none⟩ = some (.int .i64 (z : Int)) := fun o => (((Fr.refl (fun _ => False) wr).drew).alloc o).cellSome (p := ⟨w.heap.size, k, none⟩) (fun h => h) cA
      have hne2 : ¬ ((Value.slice a2 (2 * k) c2).ownBlock = some w.heap.size) := fun h => by have := (own1lt _ h).1; omega
      go_wp2_with fail
      go_region_held3 (fun w' => w'.cell? ⟨w.heap.size, k, none⟩ = some (.int .i64 (z : Int)))
        (first | go_keep | (exact cA2 _) | (exact (Fr.ofGrown hg3).cellSome (p := ⟨w.heap.size, k, none⟩) hne2 (cA2 _)))
        ((refine wp_own _ (.tmp 10) (.tmp 20) 40 rfl (w.heap.size + 1) (.slice a2 (2 * k) c2) x0 [y0, y] rfl own1 (.slice (some ⟨wr.heap.size, 0, none⟩) 2 2) rfl hsrc hb1 hz1 ?_; intro v3 w3 own3 hg3 hb3))
      have F3 : Fr (fun _ => False) w w3 := F1.trans (Fr.ofGrown hg3) (fun i hi => Or.inr (by have := (own1lt i hi).1; omega))
      have A3 : w3.heap[w.heap.size]? = some (.cells (iq 16 (dig 65536 X)) 78 (0, 0)) := ((Fr.ofGrown hg3).block _ (lt_of_block A1) (fun hi => by have := (own1lt _ hi).1; omega)).trans A1
      rw [← HS.out] at own3
      clear own own1 hsrc hg3 hb3 F1 hF hA A1
      go_wp2
      go_roundw
      case rel => exact ⟨k + 1, by omega, by go_num, own3, A3, F3⟩
      case measure => simp [intOf]; omega
    · obtain rfl : k = 16 := by omega
      obtain ⟨_, _, _, hl7⟩ := own.lies
      have hs7 := run_str hl7 c2 9 Try.underlying9
      have hs8 := hs7
      rw [hl] at hs7
      clear own hl7 hA hl h32 hk
      generalize hbb : bl (2 * 16) X = bb at *
      have HBB := Lib.hid hbb
      clear hbb
      rw [show ((16 : Nat) : Int) = 16 from rfl]
      go_wp2_with fail
      go_ret
      exact ⟨by rw [HBB.out]; rfl, hF⟩
end Go.Proofs.Ytokpaejkdkjloaa


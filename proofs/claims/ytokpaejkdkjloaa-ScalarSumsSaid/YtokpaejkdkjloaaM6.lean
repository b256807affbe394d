/-
  The contract of Mul of package custumalref06.
-/
import Derived.Test.YtokpaejkdkjloaaO6
namespace Go.Proofs.Ytokpaejkdkjloaa
open Go.RowKit
set_option linter.unusedVariables false

def iw (A V b j : Nat) : Nat := A * (2 ^ (8 - j) * V + b / 2 ^ j) % LL
theorem iw_lt (A V b j : Nat) : iw A V b j < LL := mod_LL _
theorem iw_8 (A V b : Nat) (h : b < 256) : iw A V b 8 = A * V % LL := by
  unfold iw; rw [show b / 2 ^ 8 = 0 by omega]; simp
theorem iw_0 (A V b : Nat) : iw A V b 0 = A * (b + 256 * V) % LL := by
  unfold iw; rw [show 2 ^ (8 - 0) * V + b / 2 ^ 0 = b + 256 * V by simp; omega]
theorem iw_dbl (A x : Nat) : (A * x % LL + A * x % LL) % LL = A * (2 * x) % LL := by
  rw [← Nat.add_mod, Nat.mul_left_comm, Nat.two_mul]
theorem iw_even (A V b t : Nat) (ht : t < 8) (h : b / 2 ^ t % 2 = 0) : (iw A V b (t + 1) + iw A V b (t + 1)) % LL = iw A V b t := by
  unfold iw; rw [iw_dbl, iv_step V b t ht, h]; rfl
theorem iw_odd (A V b t : Nat) (ht : t < 8) (h : b / 2 ^ t % 2 = 1) : ((iw A V b (t + 1) + iw A V b (t + 1)) % LL + A) % LL = iw A V b t := by
  unfold iw; rw [iw_dbl, iv_step V b t ht, h, Nat.mul_add A _ 1, Nat.mul_one, Nat.add_mod, Nat.mod_mod, ← Nat.add_mod]

set_option maxRecDepth 100000 in
set_option maxHeartbeats 3200000 in
theorem mul6_any (A Y : Nat) (hA : A < LL) (w : World) :
    Calls Try.prog 64 #[.agg (nd A), .agg (nd Y)] w fun e w' => e = .returned (.agg (nd (A * sv (bl 32 Y) % LL))) ∧ Fr (fun _ => False) w w' := by
  obtain ⟨l, hle⟩ : ∃ l, l = bl 32 Y := ⟨_, rfl⟩
  have hl : l.length = 32 := by rw [hle]; exact bl_length 32 Y
  have BY := fun (W : World) => bytes6_any Y W
  rw [← hle] at BY ⊢
  clear hle
  have hsz : (⟨l.toArray⟩ : ByteArray).size = l.length := by show l.toArray.size = _; simp
  have t3 := Try.sizeN (X := Y)
  have A0 : ((((w.alloc (.cells (nd A) 78)).alloc (.cells (nd Y) 78)).alloc (.cells #[.int .i64 0, .int .i64 0, .int .i64 0, .int .i64 0, .int .i64 0, .int .i64 0, .int .i64 0, .int .i64 0, .int .i64 0, .int .i64 0, .int .i64 0, .int .i64 0, .int .i64 0, .int .i64 0, .int .i64 0, .int .i64 0] 78)).alloc (.cells #[.int .i64 0, .int .i64 0, .int .i64 0, .int .i64 0, .int .i64 0, .int .i64 0, .int .i64 0, .int .i64 0, .int .i64 0, .int .i64 0, .int .i64 0, .int .i64 0, .int .i64 0, .int .i64 0, .int .i64 0, .int .i64 0] 78)).heap[w.heap.size]? = some (.cells (nd A) 78 (0, 0)) := by
    rw [Below.heap_alloc _ _ _ (by simp <;> omega), Below.heap_alloc _ _ _ (by simp <;> omega), Below.heap_alloc _ _ _ (by simp)]; exact heap_alloc_new w _
  have B0 : ((((w.alloc (.cells (nd A) 78)).alloc (.cells (nd Y) 78)).alloc (.cells #[.int .i64 0, .int .i64 0, .int .i64 0, .int .i64 0, .int .i64 0, .int .i64 0, .int .i64 0, .int .i64 0, .int .i64 0, .int .i64 0, .int .i64 0, .int .i64 0, .int .i64 0, .int .i64 0, .int .i64 0, .int .i64 0] 78)).alloc (.cells #[.int .i64 0, .int .i64 0, .int .i64 0, .int .i64 0, .int .i64 0, .int .i64 0, .int .i64 0, .int .i64 0, .int .i64 0, .int .i64 0, .int .i64 0, .int .i64 0, .int .i64 0, .int .i64 0, .int .i64 0, .int .i64 0] 78)).heap[w.heap.size + 1]? = some (.cells (nd Y) 78 (0, 0)) := by
    rw [Below.heap_alloc _ _ _ (by simp <;> omega), Below.heap_alloc _ _ _ (by simp <;> omega)]; exact heap_at _ _ _ _ (by simp)
  have C0 : ((((w.alloc (.cells (nd A) 78)).alloc (.cells (nd Y) 78)).alloc (.cells #[.int .i64 0, .int .i64 0, .int .i64 0, .int .i64 0, .int .i64 0, .int .i64 0, .int .i64 0, .int .i64 0, .int .i64 0, .int .i64 0, .int .i64 0, .int .i64 0, .int .i64 0, .int .i64 0, .int .i64 0, .int .i64 0] 78)).alloc (.cells #[.int .i64 0, .int .i64 0, .int .i64 0, .int .i64 0, .int .i64 0, .int .i64 0, .int .i64 0, .int .i64 0, .int .i64 0, .int .i64 0, .int .i64 0, .int .i64 0, .int .i64 0, .int .i64 0, .int .i64 0, .int .i64 0] 78)).heap[w.heap.size + 1 + 1]? = some (.cells (nd 0) 78 (0, 0)) := by
    rw [← nd_zero, Below.heap_alloc _ _ _ (by simp <;> omega)]; exact heap_at _ _ _ _ (by simp)
  have D0 : ((((w.alloc (.cells (nd A) 78)).alloc (.cells (nd Y) 78)).alloc (.cells #[.int .i64 0, .int .i64 0, .int .i64 0, .int .i64 0, .int .i64 0, .int .i64 0, .int .i64 0, .int .i64 0, .int .i64 0, .int .i64 0, .int .i64 0, .int .i64 0, .int .i64 0, .int .i64 0, .int .i64 0, .int .i64 0] 78)).alloc (.cells #[.int .i64 0, .int .i64 0, .int .i64 0, .int .i64 0, .int .i64 0, .int .i64 0, .int .i64 0, .int .i64 0, .int .i64 0, .int .i64 0, .int .i64 0, .int .i64 0, .int .i64 0, .int .i64 0, .int .i64 0, .int .i64 0] 78)).heap[w.heap.size + 1 + 1 + 1]? = some (.cells (nd 0) 78 (0, 0)) := by
    rw [← nd_zero]; exact heap_at _ _ _ _ (by simp)
  have F0 : Fr (fun _ => False) w ((((w.alloc (.cells (nd A) 78)).alloc (.cells (nd Y) 78)).alloc (.cells #[.int .i64 0, .int .i64 0, .int .i64 0, .int .i64 0, .int .i64 0, .int .i64 0, .int .i64 0, .int .i64 0, .int .i64 0, .int .i64 0, .int .i64 0, .int .i64 0, .int .i64 0, .int .i64 0, .int .i64 0, .int .i64 0] 78)).alloc (.cells #[.int .i64 0, .int .i64 0, .int .i64 0, .int .i64 0, .int .i64 0, .int .i64 0, .int .i64 0, .int .i64 0, .int .i64 0, .int .i64 0, .int .i64 0, .int .i64 0, .int .i64 0, .int .i64 0, .int .i64 0, .int .i64 0] 78)) := ((((Fr.refl _ w).alloc _).alloc _).alloc _).alloc _
  go_enter Try.func64, Try.ntmps64
  go_wp2_with (with_reducible refine wpList_load_row rfl 78 (.tmp 3) rfl (w.heap.size + 1) rfl 78 (nd Y) (0, 0) _ B0 Try.underlying78 rfl t3 ?_)
  refine (BY _).mono ?_
  rintro e w1 ⟨rfl, F1⟩
  have A1 := F1.keepM A0
  have C1 := F1.keepM C0
  have D1 := F1.keepM D0
  have G1 : Fr (fun _ => False) w w1 := F0.trans F1 (fun _ h => h.elim)
  clear A0 B0 C0 D0 F0 F1 BY t3
  have e0 : A * sv (l.drop 32) % LL = 0 := by rw [← hl, List.drop_length]; simp [sv]
  go_wp2_with fail
  go_loopw [7] (fun i wr => ∃ m : Nat, m ≤ 32 ∧ i = .int .i64 ((m : Int) - 1) ∧ wr.heap[w.heap.size + 1 + 1 + 1]? = some (.cells (nd (A * sv (l.drop m) % LL)) 78 (0, 0)) ∧ wr.heap[w.heap.size + 1 + 1]? = some (.cells (nd 0) 78 (0, 0)) ∧ wr.heap[w.heap.size]? = some (.cells (nd A) 78 (0, 0)) ∧ Fr (fun _ => False) w wr) (fun i _ => (intOf i + 1).toNat)
  case atStart => exact ⟨32, Nat.le_refl _, by simp, by rw [e0]; exact D1, C1, A1, G1⟩
  case round =>
    clear A1 C1 D1 G1 e0
    obtain ⟨m, hm, rfl, hB, hC, hA1, hF⟩ := hrel
    by_cases h0 : m = 0
    · subst h0
      rw [List.drop_zero] at hB
      rw [show ((0 : Nat) : Int) - 1 = -1 from rfl]
      have s1 := nd_szs 0 (A * sv l % LL)
      have s2 := nd_one' (A * sv l % LL)
      have s3 := Try.sizeN (X := A * sv l % LL)
      generalize hR : nd (A * sv l % LL) = R at *
      have HR := Lib.hid hR
      clear hR
      go_wp2_with (first
        | (with_reducible refine wpList_load_row rfl 78 (.tmp 5) rfl (w.heap.size + 1 + 1 + 1) rfl 78 R (0, 0) _ hB Try.underlying78 rfl s3 ?_)
        | (with_reducible refine wpList_store_row rfl 78 (.tmp 4) (.tmp 32) rfl (w.heap.size + 1 + 1) R rfl rfl 78 _ hC s3 s1 s2 ?_))
      refine bodyPost_ret (results_cell_row rfl _ _ (w.heap.size + 1 + 1) 78 R (0, 0) _ rfl (setRow_heap _ _ _ _ _ _ hC) Try.underlying78 rfl s3) rfl ?_
      exact ⟨by rw [HR.out], hF.trans (Fr.setRow (S := fun k => k = w.heap.size + 1 + 1) (Fr.refl _ _) rfl _) (fun i hi => Or.inr (by omega))⟩
    · obtain ⟨n, rfl⟩ : ∃ n, m = n + 1 := ⟨m - 1, by omega⟩
      rw [show ((n + 1 : Nat) : Int) - 1 = (n : Int) by omega]
      have hsv := sv_drop l n (by omega)
      have hbt := (l.getD n 0).toNat_lt
      have hix : ∀ h : n < (⟨l.toArray⟩ : ByteArray).size, ((⟨l.toArray⟩ : ByteArray)[n]'h).toNat = (l.getD n 0).toNat := fun h => by
        show (l.toArray[n]'(by simpa using (by omega : n < l.length))).toNat = _
        rw [List.getD_eq_getElem?_getD, List.getElem?_eq_getElem (by omega)]; simp
      generalize hV : sv (l.drop (n + 1)) = V at *
      generalize hbe : (l.getD n 0).toNat = b at *
      have HSV := Lib.hid hsv
      have HB8 := Lib.hid (iw_8 A V b (by omega))
      rw [← HB8.out] at hB
      clear hV hsv
      go_wp2_with fail
      go_loopw [8] (fun k wr => ∃ j : Nat, j ≤ 8 ∧ k = .int .i64 ((j : Int) - 1) ∧ wr.heap[w.heap.size + 1 + 1 + 1]? = some (.cells (nd (iw A V b j)) 78 (0, 0)) ∧ wr.heap[w.heap.size + 1 + 1]? = some (.cells (nd 0) 78 (0, 0)) ∧ wr.heap[w.heap.size]? = some (.cells (nd A) 78 (0, 0)) ∧ Fr (fun _ => False) w wr) (fun k _ => (intOf k + 1).toNat)
      case atStart => exact ⟨8, by omega, by simp, hB, hC, hA1, hF⟩
      case round =>
        clear hB hC hF hA1
        obtain ⟨j, hj, rfl, hB, hC, hA1, hF⟩ := hrel
        by_cases h0 : j = 0
        · subst h0
          have hB2 : wr.heap[w.heap.size + 1 + 1 + 1]? = some (.cells (nd (A * sv (l.drop n) % LL)) 78 (0, 0)) := by rw [HSV.out, ← iw_0]; exact hB
          rw [show ((0 : Nat) : Int) - 1 = -1 from rfl]
          have H2 := Lib.hid hB2
          clear hB hB2
          go_wp2_with fail
          go_roundw
          case rel => exact ⟨n, by omega, rfl, H2.out, hC, hA1, hF⟩
          case measure => simp [intOf]
        · obtain ⟨t, rfl⟩ : ∃ t, j = t + 1 := ⟨j - 1, by omega⟩
          rw [show ((t + 1 : Nat) : Int) - 1 = (t : Int) by omega]
          have AD := fun (W : World) => add6_any (iw A V b (t + 1)) (iw A V b (t + 1)) (iw_lt _ _ _ _) (iw_lt _ _ _ _) W
          obtain ⟨u, hu⟩ : ∃ u, u = (iw A V b (t + 1) + iw A V b (t + 1)) % LL := ⟨_, rfl⟩
          have he := iw_even A V b t (by omega)
          have ho := iw_odd A V b t (by omega)
          rw [← hu] at AD he ho
          have AO := fun (W : World) => add6_any u A (by rw [hu]; exact mod_LL _) hA W
          have s1 := nd_szs (iw A V b (t + 1)) u
          have s2 := nd_one' u
          have s3 := Try.sizeN (X := iw A V b (t + 1))
          have s4 := Try.sizeN (X := u)
          have HE := Lib.hid he
          have HO := Lib.hid ho
          clear he ho hu
          generalize iw A V b (t + 1) = v at *
          go_wp2_with (with_reducible refine wpList_load_row rfl 78 (.tmp 5) rfl (w.heap.size + 1 + 1 + 1) rfl 78 (nd v) (0, 0) _ hB Try.underlying78 rfl s3 ?_)
          refine (AD _).mono ?_
          rintro e w3 ⟨rfl, F3⟩
          have B3 := (F3.block _ (lt_of_block hB) (fun h => h)).trans hB
          have C3 := (F3.block _ (lt_of_block hC) (fun h => h)).trans hC
          have A3 := F3.keepM hA1
          have G3 : Fr (fun _ => False) w w3 := hF.trans F3 (fun _ h => h.elim)
          clear hB hC hF F3 AD hA1
          go_wp2_with (with_reducible refine wpList_store_rowR rfl 78 (.tmp 5) (.tmp 21) rfl (w.heap.size + 1 + 1 + 1) (nd u) rfl rfl 78 (nd v) B3 s4 s1 s2 ?k)
          case k =>
          intro w4 B4 hG4
          have C4 := (hG4.block _ (lt_of_block C3) (by omega)).trans C3
          have A4 := (hG4.block _ (lt_of_block A3) (by omega)).trans A3
          have G4 : Fr (fun _ => False) w w4 := G3.trans hG4 (fun i hi => Or.inr (by omega))
          clear B3 C3 G3 hG4 A3
          have e1 := AO
          have s8 := Try.sizeN (X := A)
          have hsh : (b : Int) / 2 ^ t = ((b / 2 ^ t : Nat) : Int) := by simp
          have htm : ((b / 2 ^ t : Nat) : Int).tmod 2 = ((b / 2 ^ t % 2 : Nat) : Int) := tmod2 _
          have tb : (t : Int) ≤ 8 := by omega
          have nb : (n : Int) < (l.length : Int) := by omega
          have n0 : (0 : Int) ≤ (n : Int) := by omega
          rcases Nat.mod_two_eq_zero_or_one (b / 2 ^ t) with hz | hz
          · rw [hz] at htm
            have HZ := Lib.hid (HE.out hz)
            generalize b / 2 ^ t = zz at hsh htm
            clear hz AO e1
            go_wp2_with fail
            go_roundw
            case rel => exact ⟨t, by omega, rfl, by rw [← HZ.out]; exact B4, C4, A4, G4⟩
            case measure => simp [intOf]
          · rw [hz] at htm
            have HZ := Lib.hid (HO.out hz)
            generalize b / 2 ^ t = zz at hsh htm
            clear hz AO
            go_wp2_with (first | (with_reducible refine wpList_load_row rfl 78 (.tmp 5) rfl (w.heap.size + 1 + 1 + 1) rfl 78 (nd u) (0, 0) _ B4 Try.underlying78 rfl s4 ?_) | (with_reducible refine wpList_load_row rfl 78 (.tmp 2) rfl w.heap.size rfl 78 (nd A) (0, 0) _ A4 Try.underlying78 rfl s8 ?_))
            refine (e1 _).mono ?_
            rintro e w5 ⟨rfl, F5⟩
            have B5 := (F5.block _ (lt_of_block B4) (fun h => h)).trans B4
            have C5 := (F5.block _ (lt_of_block C4) (fun h => h)).trans C4
            have A5 := F5.keepM A4
            have G5 : Fr (fun _ => False) w w5 := G4.trans F5 (fun _ h => h.elim)
            have s5 := nd_szs u ((u + A) % LL)
            have s6 := nd_one' ((u + A) % LL)
            have s7 := Try.sizeN (X := (u + A) % LL)
            clear B4 C4 G4 F5 e1 A4
            go_wp2_with (with_reducible refine wpList_store_rowR rfl 78 (.tmp 5) (.tmp 31) rfl (w.heap.size + 1 + 1 + 1) (nd ((u + A) % LL)) rfl rfl 78 (nd u) B5 s7 s5 s6 ?k)
            case k =>
            intro w6 B6 hG6
            have C6 := (hG6.block _ (lt_of_block C5) (by omega)).trans C5
            have A6 := (hG6.block _ (lt_of_block A5) (by omega)).trans A5
            have G6 : Fr (fun _ => False) w w6 := G5.trans hG6 (fun i hi => Or.inr (by omega))
            rw [HZ.out] at B6
            clear B5 C5 G5 hG6 s5 s6 s7 A5
            go_wp2_with fail
            go_roundw
            case rel => exact ⟨t, by omega, rfl, B6, C6, A6, G6⟩
            case measure => simp [intOf]
end Go.Proofs.Ytokpaejkdkjloaa


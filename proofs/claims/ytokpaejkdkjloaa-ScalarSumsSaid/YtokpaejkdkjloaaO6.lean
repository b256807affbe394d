/-
  The contract of Of of package custumalref06: bytes as a number, modulo the order.
-/
import Derived.Test.YtokpaejkdkjloaaA6
import Derived.Test.YtokpaejkdkjloaaRw
namespace Go.Proofs.Ytokpaejkdkjloaa
open Go.RowKit
set_option linter.unusedVariables false

/-- The number of bytes, the lowest first. -/
def sv : List UInt8 → Nat
  | [] => 0
  | b :: l => b.toNat + 256 * sv l
def iv (V b j : Nat) : Nat := (2 ^ (8 - j) * V + b / 2 ^ j) % LL
theorem tmod2 (z : Nat) : (z : Int).tmod 2 = ((z % 2 : Nat) : Int) := by rw [Int.tmod_eq_emod_of_nonneg (by omega)]; omega
theorem iv_lt (V b j : Nat) : iv V b j < LL := mod_LL _
theorem iv_8 (V b : Nat) (h : b < 256) : iv V b 8 = V % LL := by
  unfold iv; rw [show b / 2 ^ 8 = 0 by omega]; simp
theorem iv_0 (V b : Nat) : iv V b 0 = (b + 256 * V) % LL := by
  unfold iv; simp; congr 1; omega
theorem iv_step (V b t : Nat) (ht : t < 8) : 2 ^ (8 - t) * V + b / 2 ^ t = 2 * (2 ^ (8 - (t + 1)) * V + b / 2 ^ (t + 1)) + b / 2 ^ t % 2 := by
  rw [show 8 - t = (8 - (t + 1)) + 1 by omega, Nat.pow_succ, Nat.pow_succ, ← Nat.div_div_eq_div_mul, Nat.mul_add, Nat.mul_comm (2 ^ (8 - (t + 1))) 2, Nat.mul_assoc]
  omega
theorem iv_even (V b t : Nat) (ht : t < 8) (h : b / 2 ^ t % 2 = 0) : (iv V b (t + 1) + iv V b (t + 1)) % LL = iv V b t := by
  unfold iv; rw [← Nat.add_mod, iv_step V b t ht, h, Nat.two_mul]; rfl
theorem iv_odd (V b t : Nat) (ht : t < 8) (h : b / 2 ^ t % 2 = 1) : ((iv V b (t + 1) + iv V b (t + 1)) % LL + 1) % LL = iv V b t := by
  unfold iv; rw [← Nat.add_mod, iv_step V b t ht, h, Nat.two_mul, Nat.add_mod, Nat.mod_mod, ← Nat.add_mod]
theorem sv_drop (l : List UInt8) (m : Nat) (h : m < l.length) : sv (l.drop m) = (l.getD m 0).toNat + 256 * sv (l.drop (m + 1)) := by
  rw [List.drop_eq_getElem_cons h]
  simp [sv, List.getD_eq_getElem?_getD, h]
theorem nd_zero : (#[.int .i64 0, .int .i64 0, .int .i64 0, .int .i64 0, .int .i64 0, .int .i64 0, .int .i64 0, .int .i64 0, .int .i64 0, .int .i64 0, .int .i64 0, .int .i64 0, .int .i64 0, .int .i64 0, .int .i64 0, .int .i64 0] : Array Value) = nd 0 := by kernel_rfl
theorem nd_one : (#[.int .i64 1, .int .i64 0, .int .i64 0, .int .i64 0, .int .i64 0, .int .i64 0, .int .i64 0, .int .i64 0, .int .i64 0, .int .i64 0, .int .i64 0, .int .i64 0, .int .i64 0, .int .i64 0, .int .i64 0, .int .i64 0] : Array Value) = nd 1 := by kernel_rfl
theorem nd_one' (X : Nat) : (nd X).all (·.oneCell') = true := iq_one _ _
theorem nd_szs (X Y : Nat) : (nd X).size = (nd Y).size := iq_szs _ _
theorem Try.sizeN {X : Nat} : (Try.prog.info? 78).map (·.size) = some (nd X).size := Try.size16

set_option maxRecDepth 100000 in
set_option maxHeartbeats 3200000 in
theorem of6_any (l : List UInt8) (hl : l.length ≤ 1000000) (w : World) :
    Calls Try.prog 71 #[.string ⟨l.toArray⟩] w fun e w' => e = .returned (.agg (nd (sv l % LL))) ∧ Fr (fun _ => False) w w' := by
  have hsz : (⟨l.toArray⟩ : ByteArray).size = l.length := by show l.toArray.size = _; simp
  go_enter Try.func71, Try.ntmps71
  go_wp2_with fail
  have C0 := heap_alloc2_old w (.cells #[.int .i64 0, .int .i64 0, .int .i64 0, .int .i64 0, .int .i64 0, .int .i64 0, .int .i64 0, .int .i64 0, .int .i64 0, .int .i64 0, .int .i64 0, .int .i64 0, .int .i64 0, .int .i64 0, .int .i64 0, .int .i64 0] 78) (.cells #[.int .i64 0, .int .i64 0, .int .i64 0, .int .i64 0, .int .i64 0, .int .i64 0, .int .i64 0, .int .i64 0, .int .i64 0, .int .i64 0, .int .i64 0, .int .i64 0, .int .i64 0, .int .i64 0, .int .i64 0, .int .i64 0] 78)
  have B0 := heap_alloc2_new w (.cells #[.int .i64 0, .int .i64 0, .int .i64 0, .int .i64 0, .int .i64 0, .int .i64 0, .int .i64 0, .int .i64 0, .int .i64 0, .int .i64 0, .int .i64 0, .int .i64 0, .int .i64 0, .int .i64 0, .int .i64 0, .int .i64 0] 78) (.cells #[.int .i64 0, .int .i64 0, .int .i64 0, .int .i64 0, .int .i64 0, .int .i64 0, .int .i64 0, .int .i64 0, .int .i64 0, .int .i64 0, .int .i64 0, .int .i64 0, .int .i64 0, .int .i64 0, .int .i64 0, .int .i64 0] 78)
  have F0 := ((Fr.refl (fun _ => False) w).alloc (.cells #[.int .i64 0, .int .i64 0, .int .i64 0, .int .i64 0, .int .i64 0, .int .i64 0, .int .i64 0, .int .i64 0, .int .i64 0, .int .i64 0, .int .i64 0, .int .i64 0, .int .i64 0, .int .i64 0, .int .i64 0, .int .i64 0] 78)).alloc (.cells #[.int .i64 0, .int .i64 0, .int .i64 0, .int .i64 0, .int .i64 0, .int .i64 0, .int .i64 0, .int .i64 0, .int .i64 0, .int .i64 0, .int .i64 0, .int .i64 0, .int .i64 0, .int .i64 0, .int .i64 0, .int .i64 0] 78)
  rw [nd_zero] at C0 B0 F0 ⊢
  have e0 : sv (l.drop l.length) % LL = 0 := by rw [List.drop_length]; rfl
  go_loopw [4] (fun i wr => ∃ m : Nat, m ≤ l.length ∧ i = .int .i64 ((m : Int) - 1) ∧ wr.heap[w.heap.size + 1]? = some (.cells (nd (sv (l.drop m) % LL)) 78 (0, 0)) ∧ wr.heap[w.heap.size]? = some (.cells (nd 0) 78 (0, 0)) ∧ Fr (fun _ => False) w wr) (fun i _ => (intOf i + 1).toNat)
  case atStart => exact ⟨l.length, Nat.le_refl _, by simp, by rw [e0]; exact B0, C0, F0⟩
  case round =>
    clear B0 C0 F0 e0
    obtain ⟨m, hm, rfl, hB, hC, hF⟩ := hrel
    by_cases h0 : m = 0
    · subst h0
      rw [List.drop_zero] at hB
      rw [show ((0 : Nat) : Int) - 1 = -1 from rfl]
      have s1 := nd_szs 0 (sv l % LL)
      have s2 := nd_one' (sv l % LL)
      have s3 := Try.sizeN (X := sv l % LL)
      generalize hR : nd (sv l % LL) = R at *
      have HR := Lib.hid hR
      clear hR
      go_wp2_with (first
        | (with_reducible refine wpList_load_row rfl 78 (.tmp 3) rfl (w.heap.size + 1) rfl 78 R (0, 0) _ hB Try.underlying78 rfl s3 ?_)
        | (with_reducible refine wpList_store_row rfl 78 (.tmp 2) (.tmp 30) rfl w.heap.size R rfl rfl 78 _ hC s3 s1 s2 ?_))
      refine bodyPost_ret (results_cell_row rfl _ _ w.heap.size 78 R (0, 0) _ rfl (setRow_heap _ _ _ _ _ _ hC) Try.underlying78 rfl s3) rfl ?_
      exact ⟨by rw [HR.out], hF.trans (Fr.setRow (S := fun k => k = w.heap.size) (Fr.refl _ _) rfl _) (fun i hi => Or.inr (by omega))⟩
    · obtain ⟨n, rfl⟩ : ∃ n, m = n + 1 := ⟨m - 1, by omega⟩
      rw [show ((n + 1 : Nat) : Int) - 1 = (n : Int) by omega]
      have hsv := sv_drop l n (by omega)
      have hbt := (l.getD n 0).toNat_lt
      have hix : ∀ h : n < (⟨l.toArray⟩ : ByteArray).size, ((⟨l.toArray⟩ : ByteArray)[n]'h).toNat = (l.getD n 0).toNat := fun h => by
        show (l.toArray[n]'(by simpa using (by omega : n < l.length))).toNat = _
        rw [List.getD_eq_getElem?_getD, List.getElem?_eq_getElem (by omega)]; simp
      generalize hV : sv (l.drop (n + 1)) = V at *
      generalize hbe : (l.getD n 0).toNat = b at *
      have HSV := Lib.hid hsv
      have HB8 := Lib.hid (iv_8 V b (by omega))
      rw [← HB8.out] at hB
      clear hV hsv
      go_wp2_with fail
      go_loopw [5] (fun k wr => ∃ j : Nat, j ≤ 8 ∧ k = .int .i64 ((j : Int) - 1) ∧ wr.heap[w.heap.size + 1]? = some (.cells (nd (iv V b j)) 78 (0, 0)) ∧ wr.heap[w.heap.size]? = some (.cells (nd 0) 78 (0, 0)) ∧ Fr (fun _ => False) w wr) (fun k _ => (intOf k + 1).toNat)
      case atStart => exact ⟨8, by omega, by simp, hB, hC, hF⟩
      case round =>
        clear hB hC hF
        obtain ⟨j, hj, rfl, hB, hC, hF⟩ := hrel
        by_cases h0 : j = 0
        · subst h0
          have hB2 : wr.heap[w.heap.size + 1]? = some (.cells (nd (sv (l.drop n) % LL)) 78 (0, 0)) := by rw [HSV.out, ← iv_0]; exact hB
          rw [show ((0 : Nat) : Int) - 1 = -1 from rfl]
          have H2 := Lib.hid hB2
          clear hB hB2
          go_wp2_with fail
          go_roundw
          case rel => exact ⟨n, by omega, rfl, H2.out, hC, hF⟩
          case measure => simp [intOf]
        · obtain ⟨t, rfl⟩ : ∃ t, j = t + 1 := ⟨j - 1, by omega⟩
          rw [show ((t + 1 : Nat) : Int) - 1 = (t : Int) by omega]
          have AD := fun (W : World) => add6_any (iv V b (t + 1)) (iv V b (t + 1)) (iv_lt _ _ _) (iv_lt _ _ _) W
          obtain ⟨u, hu⟩ : ∃ u, u = (iv V b (t + 1) + iv V b (t + 1)) % LL := ⟨_, rfl⟩
          have he := iv_even V b t (by omega)
          have ho := iv_odd V b t (by omega)
          rw [← hu] at AD he ho
          have AO := fun (W : World) => add6_any u 1 (by rw [hu]; exact mod_LL _) (by decide) W
          have s1 := nd_szs (iv V b (t + 1)) u
          have s2 := nd_one' u
          have s3 := Try.sizeN (X := iv V b (t + 1))
          have s4 := Try.sizeN (X := u)
          have HE := Lib.hid he
          have HO := Lib.hid ho
          clear he ho hu
          generalize iv V b (t + 1) = v at *
          go_wp2_with (with_reducible refine wpList_load_row rfl 78 (.tmp 3) rfl (w.heap.size + 1) rfl 78 (nd v) (0, 0) _ hB Try.underlying78 rfl s3 ?_)
          refine (AD _).mono ?_
          rintro e w3 ⟨rfl, F3⟩
          have B3 := (F3.block _ (lt_of_block hB) (fun h => h)).trans hB
          have C3 := (F3.block _ (lt_of_block hC) (fun h => h)).trans hC
          have G3 : Fr (fun _ => False) w w3 := hF.trans F3 (fun _ h => h.elim)
          clear hB hC hF F3 AD
          go_wp2_with (with_reducible refine wpList_store_rowR rfl 78 (.tmp 3) (.tmp 19) rfl (w.heap.size + 1) (nd u) rfl rfl 78 (nd v) B3 s4 s1 s2 ?k)
          case k =>
          intro w4 B4 hG4
          have C4 := (hG4.block _ (lt_of_block C3) (by omega)).trans C3
          have G4 : Fr (fun _ => False) w w4 := G3.trans hG4 (fun i hi => Or.inr (by omega))
          clear B3 C3 G3 hG4
          have e1 := AO
          rw [← nd_one] at e1
          have hsh : (b : Int) / 2 ^ t = ((b / 2 ^ t : Nat) : Int) := by simp
          have htm : ((b / 2 ^ t : Nat) : Int).tmod 2 = ((b / 2 ^ t % 2 : Nat) : Int) := tmod2 _
          have tb : (t : Int) ≤ 8 := by omega
          have nb : (n : Int) < (l.length : Int) := by omega
          have n0 : (0 : Int) ≤ (n : Int) := by omega
          rcases Nat.mod_two_eq_zero_or_one (b / 2 ^ t) with hz | hz
          · rw [hz] at htm
            have HZ := Lib.hid (HE.out hz)
            generalize b / 2 ^ t = zz at hsh htm
            clear hz AO e1
            go_wp2_with fail
            go_roundw
            case rel => exact ⟨t, by omega, rfl, by rw [← HZ.out]; exact B4, C4, G4⟩
            case measure => simp [intOf]
          · rw [hz] at htm
            have HZ := Lib.hid (HO.out hz)
            generalize b / 2 ^ t = zz at hsh htm
            clear hz AO
            go_wp2_with (with_reducible refine wpList_load_row rfl 78 (.tmp 3) rfl (w.heap.size + 1) rfl 78 (nd u) (0, 0) _ B4 Try.underlying78 rfl s4 ?_)
            refine (e1 _).mono ?_
            rintro e w5 ⟨rfl, F5⟩
            have B5 := (F5.block _ (lt_of_block B4) (fun h => h)).trans B4
            have C5 := (F5.block _ (lt_of_block C4) (fun h => h)).trans C4
            have G5 : Fr (fun _ => False) w w5 := G4.trans F5 (fun _ h => h.elim)
            have s5 := nd_szs u ((u + 1) % LL)
            have s6 := nd_one' ((u + 1) % LL)
            have s7 := Try.sizeN (X := (u + 1) % LL)
            clear B4 C4 G4 F5 e1
            go_wp2_with (with_reducible refine wpList_store_rowR rfl 78 (.tmp 3) (.tmp 29) rfl (w.heap.size + 1) (nd ((u + 1) % LL)) rfl rfl 78 (nd u) B5 s7 s5 s6 ?k)
            case k =>
            intro w6 B6 hG6
            have C6 := (hG6.block _ (lt_of_block C5) (by omega)).trans C5
            have G6 : Fr (fun _ => False) w w6 := G5.trans hG6 (fun i hi => Or.inr (by omega))
            rw [HZ.out] at B6
            clear B5 C5 G5 hG6 s5 s6 s7
            go_wp2_with fail
            go_roundw
            case rel => exact ⟨t, by omega, rfl, B6, C6, G6⟩
            case measure => simp [intOf]
end Go.Proofs.Ytokpaejkdkjloaa


/-
  The contract of Mul of package scalar.
-/
import Derived.Test.YtnobobdgoccmcaaSl
namespace Go.Proofs.Ytnobobdgoccmcaa
open Go.RowKit
set_option linter.unusedVariables false

theorem keep_setM {w : World} {b : Nat} {o : Obj} {a : Addr} (h : w.heap[b]? = some o) (hne : ¬ (b = a.block)) (v : Value) : (w.setCell a v).heap[b]? = some o :=
  (Below.heap_setCell _ _ _ _ hne).trans h
theorem Fr.keepM {w w2 : World} (F : Fr (fun _ => False) w w2) {i : Nat} {o : Obj} (h : w.heap[i]? = some o) : w2.heap[i]? = some o :=
  (F.block i (lt_of_block h) (fun h => h)).trans h
theorem bit_dig (Y m : Nat) : dig 18446744073709551616 Y (m / 64) / 2 ^ (m % 64) % 2 = Y / 2 ^ m % 2 := by
  unfold dig
  have h64 : m % 64 < 64 := Nat.mod_lt _ (by decide)
  obtain ⟨k, hk⟩ : ∃ k, 64 = m % 64 + 1 + k := ⟨64 - (m % 64) - 1, by omega⟩
  have e1 : (18446744073709551616 : Nat) ^ (m / 64) = 2 ^ (64 * (m / 64)) := by rw [show (18446744073709551616 : Nat) = 2 ^ 64 from rfl, ← Nat.pow_mul]
  have e2 : ∀ z : Nat, z % 18446744073709551616 / 2 ^ (m % 64) % 2 = z / 2 ^ (m % 64) % 2 := fun z => by
    rw [show (18446744073709551616 : Nat) = 2 ^ (m % 64) * 2 * 2 ^ k by rw [← Nat.pow_succ, ← Nat.pow_add, ← hk], Nat.mul_assoc, Nat.mod_mul_right_div_self, Nat.mod_mul_right_mod]
  rw [e2, e1, Nat.div_div_eq_div_mul, ← Nat.pow_add, show 64 * (m / 64) + m % 64 = m by omega]
theorem bit_and (z : Nat) (hz : z < 18446744073709551616) : bits .and .u64 (z : Int) 1 = ((z % 2 : Nat) : Int) := by
  rw [show (1 : Int) = ((1 : Nat) : Int) from rfl, (bits_u64_N z 1 hz (by decide)).2.1, show (1 : Nat) = 2 ^ 1 - 1 from rfl, Nat.and_two_pow_sub_one_eq_mod]
theorem dbl (A Y m : Nat) : (A * (Y / 2 ^ (m + 1)) % LL + A * (Y / 2 ^ (m + 1)) % LL) % LL = A * (2 * (Y / 2 ^ (m + 1))) % LL := by
  rw [← Nat.add_mod]; congr 1; rw [Nat.mul_left_comm, Nat.two_mul]
theorem half (Y m : Nat) : Y / 2 ^ m = 2 * (Y / 2 ^ (m + 1)) + Y / 2 ^ m % 2 := by
  rw [Nat.pow_succ, ← Nat.div_div_eq_div_mul]; omega
/-- So many times, behind the bits from m on. -/
def tm (A Y m : Nat) : Nat := A * (Y / 2 ^ m) % LL
theorem tm_lt (A Y m : Nat) : tm A Y m < LL := mod_LL _
theorem tm_256 (A Y : Nat) (hY : Y < 115792089237316195423570985008687907853269984665640564039457584007913129639936) : tm A Y 256 = 0 := by
  unfold tm; rw [Nat.div_eq_of_lt (by simpa using hY)]; rfl
theorem tm_even (A Y m : Nat) (h : Y / 2 ^ m % 2 = 0) : (tm A Y (m + 1) + tm A Y (m + 1)) % LL = tm A Y m := by
  unfold tm; rw [dbl, half Y m, h]; rfl
theorem tm_odd (A Y m : Nat) (hA : A < LL) (h : Y / 2 ^ m % 2 = 1) : ((tm A Y (m + 1) + tm A Y (m + 1)) % LL + A) % LL = tm A Y m := by
  unfold tm; rw [dbl, half Y m, h, Nat.mul_add, Nat.mul_one, Nat.add_mod, Nat.mod_mod, ← Nat.add_mod]

set_option maxRecDepth 100000 in
set_option maxHeartbeats 3200000 in
theorem smul_any (X Y : Nat) (hX : X < 115792089237316195423570985008687907853269984665640564039457584007913129639936) (hY : Y < 115792089237316195423570985008687907853269984665640564039457584007913129639936) (w : World) :
    Calls Try.prog 63 #[.agg (nc X), .agg (nc Y)] w fun e w' => e = .returned (.agg (nc (tm (X % LL) Y 0))) ∧ Fr (fun _ => False) w w' := by
  have RX := fun (W : World) => srest_any X hX W
  have hA := mod_LL X
  generalize X % LL = A at hA RX ⊢
  obtain ⟨x0, x1, x2, x3, _, _, _, _, _, ex⟩ := nc_open (X) (hX)
  rw [ex] at RX ⊢
  clear ex
  obtain ⟨a0, a1, a2, a3, _, _, _, _, _, ea⟩ := nc_open (A) (Nat.lt_trans hA LL_lt)
  rw [ea] at RX
  have Ea := Lib.hid ea
  clear ea
  rw [nc_uq Y]
  go_enter Try.func63, Try.ntmps63
  go_wp2_with fail
  refine (RX _).mono ?_
  rintro e w1 ⟨rfl, F1⟩
  have A1 : w1.heap[w.heap.size]? = some (.cells #[.int .u64 (x0 : Int), .int .u64 (x1 : Int), .int .u64 (x2 : Int), .int .u64 (x3 : Int)] 77 (0, 0)) := F1.keepM (by rw [Below.heap_alloc _ _ _ (by simp; omega), Below.heap_alloc _ _ _ (by simp)]; exact heap_alloc_new w _)
  have B1 : w1.heap[w.heap.size + 1]? = some (.cells (uq 4 (dig 18446744073709551616 Y)) 77 (0, 0)) := F1.keepM (by rw [Below.heap_alloc _ _ _ (by simp)]; exact heap_at _ _ _ _ (by simp))
  have C1 : w1.heap[w.heap.size + 1 + 1]? = some (.cells #[.int .u64 0, .int .u64 0, .int .u64 0, .int .u64 0] 77 (0, 0)) := F1.keepM (heap_at _ _ _ _ (by simp))
  have G1 : Fr (fun _ => False) w w1 := (((((Fr.refl _ w).alloc _).alloc _).alloc _)).trans F1 (fun _ h => h.elim)
  obtain ⟨i0, i1, i2, i3, i4, i5, i6, i7⟩ := blk4 A1
  have HA1 := Lib.hid A1
  have HB1 := Lib.hid B1
  have HC1 := Lib.hid C1
  have HG1 := Lib.hid G1
  clear RX A1 B1 C1 G1 F1
  go_wp2_with fail
  have T2 := heap_alloc_new ((((w1.setCell ⟨w.heap.size, 0, none⟩ (.int .u64 (a0 : Int))).setCell ⟨w.heap.size, 1, none⟩ (.int .u64 (a1 : Int))).setCell ⟨w.heap.size, 2, none⟩ (.int .u64 (a2 : Int))).setCell ⟨w.heap.size, 3, none⟩ (.int .u64 (a3 : Int))) (.cells #[.int .u64 0, .int .u64 0, .int .u64 0, .int .u64 0] 77)
  have zT : ((((w1.setCell ⟨w.heap.size, 0, none⟩ (.int .u64 (a0 : Int))).setCell ⟨w.heap.size, 1, none⟩ (.int .u64 (a1 : Int))).setCell ⟨w.heap.size, 2, none⟩ (.int .u64 (a2 : Int))).setCell ⟨w.heap.size, 3, none⟩ (.int .u64 (a3 : Int))).heap.size = w1.heap.size := by simp
  rw [zT] at T2
  have A2 := (Below.heap_alloc _ (.cells #[.int .u64 0, .int .u64 0, .int .u64 0, .int .u64 0] 77) _ (lt_of_block (set4 HA1.out _ _ _ _))).trans (set4 HA1.out (.int .u64 (a0 : Int)) (.int .u64 (a1 : Int)) (.int .u64 (a2 : Int)) (.int .u64 (a3 : Int)))
  have lB := lt_of_block HB1.out
  have lC := lt_of_block HC1.out
  have B2 : (((((w1.setCell ⟨w.heap.size, 0, none⟩ (.int .u64 (a0 : Int))).setCell ⟨w.heap.size, 1, none⟩ (.int .u64 (a1 : Int))).setCell ⟨w.heap.size, 2, none⟩ (.int .u64 (a2 : Int))).setCell ⟨w.heap.size, 3, none⟩ (.int .u64 (a3 : Int))).alloc (.cells #[.int .u64 0, .int .u64 0, .int .u64 0, .int .u64 0] 77)).heap[w.heap.size + 1]? = some (.cells (uq 4 (dig 18446744073709551616 Y)) 77 (0, 0)) :=
    (Below.heap_alloc _ _ _ (by simpa using lB)).trans (keep_setM (keep_setM (keep_setM (keep_setM HB1.out (by simp) _) (by simp) _) (by simp) _) (by simp) _)
  have C2 : (((((w1.setCell ⟨w.heap.size, 0, none⟩ (.int .u64 (a0 : Int))).setCell ⟨w.heap.size, 1, none⟩ (.int .u64 (a1 : Int))).setCell ⟨w.heap.size, 2, none⟩ (.int .u64 (a2 : Int))).setCell ⟨w.heap.size, 3, none⟩ (.int .u64 (a3 : Int))).alloc (.cells #[.int .u64 0, .int .u64 0, .int .u64 0, .int .u64 0] 77)).heap[w.heap.size + 1 + 1]? = some (.cells #[.int .u64 0, .int .u64 0, .int .u64 0, .int .u64 0] 77 (0, 0)) :=
    (Below.heap_alloc _ _ _ (by simpa using lC)).trans (keep_setM (keep_setM (keep_setM (keep_setM HC1.out (by simp; omega) _) (by simp; omega) _) (by simp; omega) _) (by simp; omega) _)
  have G2 : Fr (fun _ => False) w (((((w1.setCell ⟨w.heap.size, 0, none⟩ (.int .u64 (a0 : Int))).setCell ⟨w.heap.size, 1, none⟩ (.int .u64 (a1 : Int))).setCell ⟨w.heap.size, 2, none⟩ (.int .u64 (a2 : Int))).setCell ⟨w.heap.size, 3, none⟩ (.int .u64 (a3 : Int))).alloc (.cells #[.int .u64 0, .int .u64 0, .int .u64 0, .int .u64 0] 77)) :=
    ((((HG1.out.setCell (Or.inr (by simp)) _).setCell (Or.inr (by simp)) _).setCell (Or.inr (by simp)) _).setCell (Or.inr (by simp)) _).alloc _
  generalize ((((w1.setCell ⟨w.heap.size, 0, none⟩ (.int .u64 (a0 : Int))).setCell ⟨w.heap.size, 1, none⟩ (.int .u64 (a1 : Int))).setCell ⟨w.heap.size, 2, none⟩ (.int .u64 (a2 : Int))).setCell ⟨w.heap.size, 3, none⟩ (.int .u64 (a3 : Int))).alloc (.cells #[.int .u64 0, .int .u64 0, .int .u64 0, .int .u64 0] 77) = W2 at *
  generalize w1.heap.size = T at *
  rw [show (#[.int .u64 0, .int .u64 0, .int .u64 0, .int .u64 0] : Array Value) = nc (tm A Y 256) by rw [tm_256 A Y hY]; rfl] at T2
  clear i0 i1 i2 i3 i4 i5 i6 i7 HA1 HB1 HC1 HG1 zT
  go_loopw [6] (fun i wr => ∃ n : Nat, n ≤ 256 ∧ i = .int .i64 ((n : Int) - 1) ∧ wr.heap[T]? = some (.cells (nc (tm A Y n)) 77 (0, 0)) ∧ wr.heap[w.heap.size]? = some (.cells #[.int .u64 (a0 : Int), .int .u64 (a1 : Int), .int .u64 (a2 : Int), .int .u64 (a3 : Int)] 77 (0, 0)) ∧ wr.heap[w.heap.size + 1]? = some (.cells (uq 4 (dig 18446744073709551616 Y)) 77 (0, 0)) ∧ wr.heap[w.heap.size + 1 + 1]? = some (.cells #[.int .u64 0, .int .u64 0, .int .u64 0, .int .u64 0] 77 (0, 0)) ∧ Fr (fun _ => False) w wr) (fun i _ => (intOf i + 1).toNat)
  case atStart => exact ⟨256, by omega, by simp, T2, A2, B2, C2, G2⟩
  case round =>
    clear T2 A2 B2 C2 G2
    obtain ⟨n, hn, rfl, hT, hAb, hB, hC, hF⟩ := hrel
    by_cases h0 : n = 0
    · subst h0
      obtain ⟨t0, t1, t2, t3, _, _, _, _, _, et⟩ := nc_open (tm A Y 0) (mod_LP _)
      rw [et] at hT
      have HE := Lib.hid et
      obtain ⟨i0, i1, i2, i3, i4, i5, i6, i7⟩ := blk4 hT
      obtain ⟨j0, j1, j2, j3, j4, j5, j6, j7⟩ := blk4 hC
      have HC := Lib.hid hC
      clear et hT hAb hB hC
      rw [show ((0 : Nat) : Int) - 1 = -1 from rfl]
      go_wp2_with fail
      refine bodyPost_ret (results_cell_row rfl _ _ (w.heap.size + 1 + 1) 77 #[.int .u64 (t0 : Int), .int .u64 (t1 : Int), .int .u64 (t2 : Int), .int .u64 (t3 : Int)] (0, 0) _ rfl (set4 HC.out _ _ _ _) Try.underlying77 rfl Try.size4l) rfl ?_
      exact ⟨by rw [HE.out], (((hF.setCell (Or.inr (by simp; omega)) _).setCell (Or.inr (by simp; omega)) _).setCell (Or.inr (by simp; omega)) _).setCell (Or.inr (by simp; omega)) _⟩
    · obtain ⟨m, rfl⟩ : ∃ m, n = m + 1 := ⟨n - 1, by omega⟩
      rw [show ((m + 1 : Nat) : Int) - 1 = (m : Int) by omega]
      have SU := fun (W : World) => ssum_any (tm A Y (m + 1)) (tm A Y (m + 1)) (tm_lt _ _ _) (tm_lt _ _ _) W
      obtain ⟨u, hu⟩ : ∃ u, u = (tm A Y (m + 1) + tm A Y (m + 1)) % LL := ⟨_, rfl⟩
      have hul : u < LL := by rw [hu]; exact mod_LL _
      have SV := fun (W : World) => ssum_any u A hul hA W
      have he := tm_even A Y m
      have ho := tm_odd A Y m hA
      rw [← hu] at SU he ho
      have hbit := bit_dig Y m
      have hz := dig_lt 18446744073709551616 Y (m / 64) (by decide)
      have hq4 : m / 64 < 4 := by omega
      have hr64 : m % 64 < 64 := by omega
      have cB := cell_of_block hB (m / 64)
      rw [uq_get 4 _ _ hq4] at cB
      have hq : ((m : Int)).tdiv 64 = ((m / 64 : Nat) : Int) := by rw [Int.tdiv_eq_ediv_of_nonneg (by omega)]; omega
      have hr : ((m : Int)).tmod 64 = ((m % 64 : Nat) : Int) := by rw [Int.tmod_eq_emod_of_nonneg (by omega)]; omega
      generalize dig 18446744073709551616 Y (m / 64) = z at cB hbit hz
      generalize m / 64 = q at hq hq4 cB
      generalize m % 64 = r at hr hr64 hbit
      have qa : (0 : Int) ≤ (q : Int) := by omega
      have qb : (q : Int) < 4 := by omega
      have ra : (0 : Int) ≤ (r : Int) := by omega
      have rb : (r : Int) ≤ 64 := by omega
      have ma : (0 : Int) ≤ (m : Int) := by omega
      have hsh : (z : Int) / 2 ^ r = ((z / 2 ^ r : Nat) : Int) := by simp
      have hba := bit_and (z / 2 ^ r) (Nat.lt_of_le_of_lt (Nat.div_le_self _ _) hz)
      rw [hbit] at hba
      generalize z / 2 ^ r = y at hsh hba hbit
      have HE := Lib.hid he
      have HO := Lib.hid ho
      clear hbit he ho hu hz
      obtain ⟨t0, t1, t2, t3, _, _, _, _, _, et⟩ := nc_open (tm A Y (m + 1)) (mod_LP _)
      rw [et] at SU hT
      have Et := Lib.hid et
      clear et
      obtain ⟨u0, u1, u2, u3, _, _, _, _, _, eu⟩ := nc_open (u) (Nat.lt_trans hul LL_lt)
      rw [eu] at SU SV
      have Eu := Lib.hid eu
      clear eu
      rw [Ea.out] at SV
      obtain ⟨v0, v1, v2, v3, _, _, _, _, _, ev⟩ := nc_open ((u + A) % LL) (mod_LP _)
      rw [ev] at SV
      have Ev := Lib.hid ev
      clear ev
      obtain ⟨i0, i1, i2, i3, i4, i5, i6, i7⟩ := blk4 hT
      have HB := Lib.hid hB
      have HC := Lib.hid hC
      have HT := Lib.hid hT
      have HA := Lib.hid hAb
      have HF := Lib.hid hF
      clear hB hC hT hAb hF
      go_wp2_with fail
      refine (SU _).mono ?_
      rintro e w3 ⟨rfl, F3⟩
      have T3 := F3.keepM HT.out
      have cB3 := (F3.cellSome (p := ⟨w.heap.size + 1, q, none⟩) (fun h => h) cB)
      obtain ⟨j0, j1, j2, j3, j4, j5, j6, j7⟩ := blk4 T3
      have A3 := F3.keepM HA.out
      obtain ⟨k0, k1, k2, k3, k4, k5, k6, k7⟩ := blk4 A3
      have HT3 := Lib.hid T3
      have HA3 := Lib.hid A3
      have F3' := Lib.hid F3
      clear i0 i1 i2 i3 i4 i5 i6 i7 cB T3 A3 F3 SU
      have z0 : ¬ (w.heap.size = T) := by omega
      have z1 : ¬ (w.heap.size + 1 = T) := by omega
      have z2 : ¬ (w.heap.size + 1 + 1 = T) := by omega
      have KK : ∀ (V : World) (b : Nat) (o : Obj) (x y z t : Value), V.heap[b]? = some o → ¬ (b = T) → ((((V.setCell ⟨T, 0, none⟩ x).setCell ⟨T, 1, none⟩ y).setCell ⟨T, 2, none⟩ z).setCell ⟨T, 3, none⟩ t).heap[b]? = some o :=
        fun V b o x y z t h hne => keep_setM (keep_setM (keep_setM (keep_setM h hne _) hne _) hne _) hne _
      have A4 := KK w3 _ _ (.int .u64 (u0 : Int)) (.int .u64 (u1 : Int)) (.int .u64 (u2 : Int)) (.int .u64 (u3 : Int)) HA3.out z0
      have B4 := KK w3 _ _ (.int .u64 (u0 : Int)) (.int .u64 (u1 : Int)) (.int .u64 (u2 : Int)) (.int .u64 (u3 : Int)) (F3'.out.keepM HB.out) z1
      have C4 := KK w3 _ _ (.int .u64 (u0 : Int)) (.int .u64 (u1 : Int)) (.int .u64 (u2 : Int)) (.int .u64 (u3 : Int)) (F3'.out.keepM HC.out) z2
      have G3 : Fr (fun _ => False) w w3 := HF.out.trans F3'.out (fun _ h => h.elim)
      have G4 : Fr (fun _ => False) w ((((w3.setCell ⟨T, 0, none⟩ (.int .u64 (u0 : Int))).setCell ⟨T, 1, none⟩ (.int .u64 (u1 : Int))).setCell ⟨T, 2, none⟩ (.int .u64 (u2 : Int))).setCell ⟨T, 3, none⟩ (.int .u64 (u3 : Int))) :=
        (((G3.setCell (Or.inr (by show _ ≤ T; omega)) _).setCell (Or.inr (by show _ ≤ T; omega)) _).setCell (Or.inr (by show _ ≤ T; omega)) _).setCell (Or.inr (by show _ ≤ T; omega)) _
      have T4 := set4 HT3.out (.int .u64 (u0 : Int)) (.int .u64 (u1 : Int)) (.int .u64 (u2 : Int)) (.int .u64 (u3 : Int))
      have HH := Lib.hid (And.intro T4 (And.intro A4 (And.intro B4 (And.intro C4 G4))))
      have HKK := Lib.hid KK
      clear T4 A4 B4 C4 G3 G4 z0 z1 z2 KK
      rcases Nat.mod_two_eq_zero_or_one (Y / 2 ^ m) with hb | hb
      · rw [hb] at hba
        have Hb := Lib.hid hb
        clear hb
        go_wp2_with fail
        obtain ⟨T4, A4, B4, C4, G4⟩ := HH.out
        rw [← Eu.out, HE.out Hb.out] at T4
        go_roundw
        case rel => exact ⟨m, by omega, rfl, T4, A4, B4, C4, G4⟩
        case measure => simp [intOf]
      · rw [hb] at hba
        have Hb := Lib.hid hb
        clear hb
        go_wp2_with fail
        obtain ⟨T4, A4, B4, C4, G4⟩ := HH.out
        refine (SV _).mono ?_
        rintro e w4 ⟨rfl, F4⟩
        have T5 := F4.keepM T4
        obtain ⟨n0, n1, n2, n3, n4, n5, n6, n7⟩ := blk4 T5
        have A5 := HKK.out w4 _ _ (.int .u64 (v0 : Int)) (.int .u64 (v1 : Int)) (.int .u64 (v2 : Int)) (.int .u64 (v3 : Int)) (F4.keepM A4) (by omega)
        have B5 := HKK.out w4 _ _ (.int .u64 (v0 : Int)) (.int .u64 (v1 : Int)) (.int .u64 (v2 : Int)) (.int .u64 (v3 : Int)) (F4.keepM B4) (by omega)
        have C5 := HKK.out w4 _ _ (.int .u64 (v0 : Int)) (.int .u64 (v1 : Int)) (.int .u64 (v2 : Int)) (.int .u64 (v3 : Int)) (F4.keepM C4) (by omega)
        have G5 : Fr (fun _ => False) w w4 := G4.trans F4 (fun _ h => h.elim)
        have G6 : Fr (fun _ => False) w ((((w4.setCell ⟨T, 0, none⟩ (.int .u64 (v0 : Int))).setCell ⟨T, 1, none⟩ (.int .u64 (v1 : Int))).setCell ⟨T, 2, none⟩ (.int .u64 (v2 : Int))).setCell ⟨T, 3, none⟩ (.int .u64 (v3 : Int))) :=
          (((G5.setCell (Or.inr (by show _ ≤ T; omega)) _).setCell (Or.inr (by show _ ≤ T; omega)) _).setCell (Or.inr (by show _ ≤ T; omega)) _).setCell (Or.inr (by show _ ≤ T; omega)) _
        have T6 := set4 T5 (.int .u64 (v0 : Int)) (.int .u64 (v1 : Int)) (.int .u64 (v2 : Int)) (.int .u64 (v3 : Int))
        rw [← Ev.out, HO.out Hb.out] at T6
        have HJ := Lib.hid (And.intro T6 (And.intro A5 (And.intro B5 (And.intro C5 G6))))
        clear HH T4 A4 B4 C4 G4 T5 A5 B5 C5 G5 G6 T6 F4 SV j0 j1 j2 j3 j4 j5 j6 j7 k0 k1 k2 k3 k4 k5 k6 k7
        go_wp2_with fail
        go_roundw
        case rel => exact ⟨m, by omega, rfl, HJ.out.1, HJ.out.2.1, HJ.out.2.2.1, HJ.out.2.2.2.1, HJ.out.2.2.2.2⟩
        case measure => simp [intOf]
end Go.Proofs.Ytnobobdgoccmcaa


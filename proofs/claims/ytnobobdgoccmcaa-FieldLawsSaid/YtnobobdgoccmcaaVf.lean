/-
  The contract of Mul of package custumalref05.
-/
import Derived.Test.YtnobobdgoccmcaaVc
import Derived.Test.YtnobobdgoccmcaaSc
namespace Go.Proofs.Ytnobobdgoccmcaa
open Go.RowKit Pri
set_option linter.unusedVariables false

theorem val_upd (B : Nat) (f : Nat → Nat) (m x : Nat) : ∀ n, m < n → val B (fun j => if j = m then f m + x else f j) n = val B f n + x * B ^ m
  | 0, h => by omega
  | n + 1, h => by
    show val B _ n + (if n = m then f m + x else f n) * B ^ n = val B f n + f n * B ^ n + x * B ^ m
    by_cases e : n = m
    · subst e
      rw [if_pos rfl, val_congr B n (f := fun j => if j = n then f n + x else f j) (g := f) (fun j hj => by rw [if_neg (by omega)]), Nat.add_mul]
      omega
    · rw [if_neg e, val_upd B f m x n (by omega)]
      omega
theorem val_shift (B : Nat) (f : Nat → Nat) (k : Nat) : ∀ n, val B f (k + n) = val B f k + B ^ k * val B (fun j => f (j + k)) n
  | 0 => rfl
  | n + 1 => by
    show val B f (k + n) + f (k + n) * B ^ (k + n) = val B f k + B ^ k * (val B (fun j => f (j + k)) n + f (n + k) * B ^ n)
    rw [val_shift B f k n, Nat.mul_add, Nat.pow_add, Nat.mul_left_comm (B ^ k), Nat.add_comm n k, Nat.add_assoc]
theorem val_38 (f : Nat → Nat) : ∀ n, val 65536 (fun j => 38 * f j) n = 38 * val 65536 f n
  | 0 => rfl
  | n + 1 => by
    show val 65536 _ n + 38 * f n * 65536 ^ n = 38 * (val 65536 f n + f n * 65536 ^ n)
    rw [val_38 f n, Nat.mul_add, Nat.mul_assoc]
theorem fold32 (C : Nat → Nat) (V : Nat) (h : val 65536 C 32 = V) : val 65536 (fun j => C j + 38 * C (j + 16)) 16 % p25519 = V % p25519 := by
  have h2 := val_shift 65536 C 16 16
  rw [show 16 + 16 = 32 from rfl, h, b16] at h2
  rw [val_sum, val_38 (fun j => C (j + 16)), h2]
  generalize val 65536 C 16 = a
  generalize val 65536 (fun j => C (j + 16)) 16 = b
  rw [p_val]
  omega
theorem mul_row (X Y i k : Nat) : (X % 65536 ^ i) * Y + dig 65536 X i * 65536 ^ i * (Y % 65536 ^ k) + dig 65536 X i * dig 65536 Y k * 65536 ^ (i + k) = (X % 65536 ^ i) * Y + dig 65536 X i * 65536 ^ i * (Y % 65536 ^ (k + 1)) := by
  rw [dig_mod 65536 Y k, Nat.mul_add, Nat.pow_add, Nat.add_assoc]
  congr 2
  ac_rfl
theorem mul_next (X Y i : Nat) (hY : Y < 65536 ^ 16) : (X % 65536 ^ i) * Y + dig 65536 X i * 65536 ^ i * (Y % 65536 ^ 16) = (X % 65536 ^ (i + 1)) * Y := by
  rw [Nat.mod_eq_of_lt hY, dig_mod 65536 X i, Nat.add_mul]
  congr 2
  ac_rfl
theorem prod_bd (x y : Nat) (hx : x < 65536) (hy : y < 65536) : x * y ≤ 4294836225 := by
  have : x * y ≤ 65535 * 65535 := Nat.mul_le_mul (by omega) (by omega)
  omega
theorem upd_bd (D : Nat → Nat) (b s pr : Nat) (h : ∀ j, j < 32 → D j ≤ b) (hp : pr ≤ 4294836225) (hs : s < 32) : ∀ j, j < 32 → (fun j => if j = s then D s + pr else D j) j ≤ b + 4294836225 := by
  intro j hj
  have h1 := h j hj
  have h2 := h s hs
  show (if j = s then D s + pr else D j) ≤ _
  split <;> omega
theorem Try.alloc32 : ∀ w, (Instr.alloc 108 true (.tuple #[])).run Try.prog w = .ok (.pointer (some ⟨w.heap.size, 0, none⟩)) (w.alloc (.cells #[.int .i64 0, .int .i64 0, .int .i64 0, .int .i64 0, .int .i64 0, .int .i64 0, .int .i64 0, .int .i64 0, .int .i64 0, .int .i64 0, .int .i64 0, .int .i64 0, .int .i64 0, .int .i64 0, .int .i64 0, .int .i64 0, .int .i64 0, .int .i64 0, .int .i64 0, .int .i64 0, .int .i64 0, .int .i64 0, .int .i64 0, .int .i64 0, .int .i64 0, .int .i64 0, .int .i64 0, .int .i64 0, .int .i64 0, .int .i64 0, .int .i64 0, .int .i64 0] 108)) := fun w => by kernel_rfl
set_option maxRecDepth 100000 in
set_option maxHeartbeats 6400000 in
theorem mul5_any (X Y : Nat) (hX : X < 115792089237316195423570985008687907853269984665640564039457584007913129639936) (hY : Y < 115792089237316195423570985008687907853269984665640564039457584007913129639936) (w : World) :
    Calls Try.prog 23 #[.agg (nd X), .agg (nd Y)] w fun e w' => e = .returned (.agg (nd (X * Y % p25519))) ∧ Fr (fun _ => False) w w' := by
  have A0 := (Below.heap_alloc (((w.alloc (.cells (nd X) 26)).alloc (.cells (nd Y) 26)).alloc (.cells #[.int .i64 0, .int .i64 0, .int .i64 0, .int .i64 0, .int .i64 0, .int .i64 0, .int .i64 0, .int .i64 0, .int .i64 0, .int .i64 0, .int .i64 0, .int .i64 0, .int .i64 0, .int .i64 0, .int .i64 0, .int .i64 0] 26)) (.cells #[.int .i64 0, .int .i64 0, .int .i64 0, .int .i64 0, .int .i64 0, .int .i64 0, .int .i64 0, .int .i64 0, .int .i64 0, .int .i64 0, .int .i64 0, .int .i64 0, .int .i64 0, .int .i64 0, .int .i64 0, .int .i64 0, .int .i64 0, .int .i64 0, .int .i64 0, .int .i64 0, .int .i64 0, .int .i64 0, .int .i64 0, .int .i64 0, .int .i64 0, .int .i64 0, .int .i64 0, .int .i64 0, .int .i64 0, .int .i64 0, .int .i64 0, .int .i64 0] 108) _ (by simp <;> omega)).trans ((Below.heap_alloc ((w.alloc (.cells (nd X) 26)).alloc (.cells (nd Y) 26)) (.cells #[.int .i64 0, .int .i64 0, .int .i64 0, .int .i64 0, .int .i64 0, .int .i64 0, .int .i64 0, .int .i64 0, .int .i64 0, .int .i64 0, .int .i64 0, .int .i64 0, .int .i64 0, .int .i64 0, .int .i64 0, .int .i64 0] 26) _ (by simp <;> omega)).trans (heap_alloc2_old w _ _))
  have B0 := (Below.heap_alloc (((w.alloc (.cells (nd X) 26)).alloc (.cells (nd Y) 26)).alloc (.cells #[.int .i64 0, .int .i64 0, .int .i64 0, .int .i64 0, .int .i64 0, .int .i64 0, .int .i64 0, .int .i64 0, .int .i64 0, .int .i64 0, .int .i64 0, .int .i64 0, .int .i64 0, .int .i64 0, .int .i64 0, .int .i64 0] 26)) (.cells #[.int .i64 0, .int .i64 0, .int .i64 0, .int .i64 0, .int .i64 0, .int .i64 0, .int .i64 0, .int .i64 0, .int .i64 0, .int .i64 0, .int .i64 0, .int .i64 0, .int .i64 0, .int .i64 0, .int .i64 0, .int .i64 0, .int .i64 0, .int .i64 0, .int .i64 0, .int .i64 0, .int .i64 0, .int .i64 0, .int .i64 0, .int .i64 0, .int .i64 0, .int .i64 0, .int .i64 0, .int .i64 0, .int .i64 0, .int .i64 0, .int .i64 0, .int .i64 0] 108) _ (by simp <;> omega)).trans ((Below.heap_alloc ((w.alloc (.cells (nd X) 26)).alloc (.cells (nd Y) 26)) (.cells #[.int .i64 0, .int .i64 0, .int .i64 0, .int .i64 0, .int .i64 0, .int .i64 0, .int .i64 0, .int .i64 0, .int .i64 0, .int .i64 0, .int .i64 0, .int .i64 0, .int .i64 0, .int .i64 0, .int .i64 0, .int .i64 0] 26) _ (by simp <;> omega)).trans (heap_alloc2_new w _ _))
  have R0 := (Below.heap_alloc (((w.alloc (.cells (nd X) 26)).alloc (.cells (nd Y) 26)).alloc (.cells #[.int .i64 0, .int .i64 0, .int .i64 0, .int .i64 0, .int .i64 0, .int .i64 0, .int .i64 0, .int .i64 0, .int .i64 0, .int .i64 0, .int .i64 0, .int .i64 0, .int .i64 0, .int .i64 0, .int .i64 0, .int .i64 0] 26)) (.cells #[.int .i64 0, .int .i64 0, .int .i64 0, .int .i64 0, .int .i64 0, .int .i64 0, .int .i64 0, .int .i64 0, .int .i64 0, .int .i64 0, .int .i64 0, .int .i64 0, .int .i64 0, .int .i64 0, .int .i64 0, .int .i64 0, .int .i64 0, .int .i64 0, .int .i64 0, .int .i64 0, .int .i64 0, .int .i64 0, .int .i64 0, .int .i64 0, .int .i64 0, .int .i64 0, .int .i64 0, .int .i64 0, .int .i64 0, .int .i64 0, .int .i64 0, .int .i64 0] 108) _ (by simp <;> omega)).trans (heap_at ((w.alloc (.cells (nd X) 26)).alloc (.cells (nd Y) 26)) #[.int .i64 0, .int .i64 0, .int .i64 0, .int .i64 0, .int .i64 0, .int .i64 0, .int .i64 0, .int .i64 0, .int .i64 0, .int .i64 0, .int .i64 0, .int .i64 0, .int .i64 0, .int .i64 0, .int .i64 0, .int .i64 0] 26 (w.heap.size + 1 + 1) (by simp))
  have C0 := heap_at (((w.alloc (.cells (nd X) 26)).alloc (.cells (nd Y) 26)).alloc (.cells #[.int .i64 0, .int .i64 0, .int .i64 0, .int .i64 0, .int .i64 0, .int .i64 0, .int .i64 0, .int .i64 0, .int .i64 0, .int .i64 0, .int .i64 0, .int .i64 0, .int .i64 0, .int .i64 0, .int .i64 0, .int .i64 0] 26)) #[.int .i64 0, .int .i64 0, .int .i64 0, .int .i64 0, .int .i64 0, .int .i64 0, .int .i64 0, .int .i64 0, .int .i64 0, .int .i64 0, .int .i64 0, .int .i64 0, .int .i64 0, .int .i64 0, .int .i64 0, .int .i64 0, .int .i64 0, .int .i64 0, .int .i64 0, .int .i64 0, .int .i64 0, .int .i64 0, .int .i64 0, .int .i64 0, .int .i64 0, .int .i64 0, .int .i64 0, .int .i64 0, .int .i64 0, .int .i64 0, .int .i64 0, .int .i64 0] 108 (w.heap.size + 1 + 1 + 1) (by simp)
  rw [show (#[.int .i64 0, .int .i64 0, .int .i64 0, .int .i64 0, .int .i64 0, .int .i64 0, .int .i64 0, .int .i64 0, .int .i64 0, .int .i64 0, .int .i64 0, .int .i64 0, .int .i64 0, .int .i64 0, .int .i64 0, .int .i64 0, .int .i64 0, .int .i64 0, .int .i64 0, .int .i64 0, .int .i64 0, .int .i64 0, .int .i64 0, .int .i64 0, .int .i64 0, .int .i64 0, .int .i64 0, .int .i64 0, .int .i64 0, .int .i64 0, .int .i64 0, .int .i64 0] : Array Value) = iq 32 (fun _ => 0) from by kernel_rfl] at A0 B0 R0 C0
  have F0 := (((((Fr.refl (fun _ => False) w).alloc (.cells (nd X) 26)).alloc (.cells (nd Y) 26)).alloc (.cells #[.int .i64 0, .int .i64 0, .int .i64 0, .int .i64 0, .int .i64 0, .int .i64 0, .int .i64 0, .int .i64 0, .int .i64 0, .int .i64 0, .int .i64 0, .int .i64 0, .int .i64 0, .int .i64 0, .int .i64 0, .int .i64 0] 26)).alloc (.cells (iq 32 (fun _ => 0)) 108))
  have hv0 : val 65536 (fun _ => 0) 32 = (X % 65536 ^ 0) * Y := by
    rw [Nat.pow_zero, Nat.mod_one, Nat.zero_mul]
    have : ∀ n, val 65536 (fun _ => 0) n = 0 := fun n => by
      induction n with
      | zero => rfl
      | succ n ih => show val 65536 _ n + 0 * _ = 0; rw [ih, Nat.zero_mul]
    exact this 32
  have hz32 : (#[.int .i64 0, .int .i64 0, .int .i64 0, .int .i64 0, .int .i64 0, .int .i64 0, .int .i64 0, .int .i64 0, .int .i64 0, .int .i64 0, .int .i64 0, .int .i64 0, .int .i64 0, .int .i64 0, .int .i64 0, .int .i64 0, .int .i64 0, .int .i64 0, .int .i64 0, .int .i64 0, .int .i64 0, .int .i64 0, .int .i64 0, .int .i64 0, .int .i64 0, .int .i64 0, .int .i64 0, .int .i64 0, .int .i64 0, .int .i64 0, .int .i64 0, .int .i64 0] : Array Value) = iq 32 (fun _ => 0) := by kernel_rfl
  have HZ := Lib.hid hz32
  have HXY := Lib.hid (And.intro hX hY)
  have HV := Lib.hid hv0
  clear hz32 hv0 hX hY
  go_enter Try.func23, Try.ntmps23
  go_wp2_with fail
  rw [HZ.out]
  go_loopw [6, 7] (fun i _ wr => ∃ (n : Nat) (C : Nat → Nat), n ≤ 16 ∧ i = .int .i64 n ∧ Hid ((∀ j, j < 32 → C j ≤ n * 16 * 4294836225) ∧ val 65536 C 32 = (X % 65536 ^ n) * Y) ∧ wr.heap[w.heap.size + 1 + 1 + 1]? = some (.cells (iq 32 C) 108 (0, 0)) ∧ wr.heap[w.heap.size]? = some (.cells (nd X) 26 (0, 0)) ∧ wr.heap[w.heap.size + 1]? = some (.cells (nd Y) 26 (0, 0)) ∧ wr.heap[w.heap.size + 1 + 1]? = some (.cells #[.int .i64 0, .int .i64 0, .int .i64 0, .int .i64 0, .int .i64 0, .int .i64 0, .int .i64 0, .int .i64 0, .int .i64 0, .int .i64 0, .int .i64 0, .int .i64 0, .int .i64 0, .int .i64 0, .int .i64 0, .int .i64 0] 26 (0, 0)) ∧ Fr (fun _ => False) w wr) (fun i _ _ => 16 - (intOf i).toNat)
  case atStart => exact ⟨0, fun _ => 0, by omega, by simp, Lib.hid ⟨fun j _ => by simp, HV.out⟩, C0, A0, B0, R0, F0⟩
  case round =>
    clear C0 A0 B0 R0 F0 HV HZ
    obtain ⟨n, C, hn, rfl, hC, hM, hA, hB, hR, hF⟩ := hrel
    by_cases h16 : n < 16
    · have C1 := Lib.hid (show (∀ j, j < 32 → C j ≤ (n * 16 + 0) * 4294836225) ∧ val 65536 C 32 = (X % 65536 ^ n) * Y + dig 65536 X n * 65536 ^ n * (Y % 65536 ^ 0) from ⟨hC.out.1, by rw [Nat.pow_zero, Nat.mod_one, Nat.mul_zero, Nat.add_zero]; exact hC.out.2⟩)
      have hlt : decide ((n : Int) < 16) = true := by simp; omega
      have n0 : (0 : Int) ≤ (n : Int) := by omega
      have n1 : (n : Int) < 16 := by omega
      clear hC
      go_wp2_with fail
      clear hlt
      obtain ⟨wo, rfl⟩ : ∃ wo : World, wo = wr := ⟨_, rfl⟩
      go_loopw [7] (fun k wi => ∃ (m : Nat) (D : Nat → Nat), m ≤ 16 ∧ k = .int .i64 m ∧ Hid ((∀ j, j < 32 → D j ≤ (n * 16 + m) * 4294836225) ∧ val 65536 D 32 = (X % 65536 ^ n) * Y + dig 65536 X n * 65536 ^ n * (Y % 65536 ^ m)) ∧ wi.heap[w.heap.size + 1 + 1 + 1]? = some (.cells (iq 32 D) 108 (0, 0)) ∧ wi.heap[w.heap.size]? = some (.cells (nd X) 26 (0, 0)) ∧ wi.heap[w.heap.size + 1]? = some (.cells (nd Y) 26 (0, 0)) ∧ wi.heap[w.heap.size + 1 + 1]? = some (.cells #[.int .i64 0, .int .i64 0, .int .i64 0, .int .i64 0, .int .i64 0, .int .i64 0, .int .i64 0, .int .i64 0, .int .i64 0, .int .i64 0, .int .i64 0, .int .i64 0, .int .i64 0, .int .i64 0, .int .i64 0, .int .i64 0] 26 (0, 0)) ∧ Fr (fun _ => False) w wi) (fun k _ => 16 - (intOf k).toNat)
      case atStart => exact ⟨0, C, by omega, by simp, C1, hM, hA, hB, hR, hF⟩
      case round =>
        clear C1 hM hA hB hR hF
        obtain ⟨m, D, hm, rfl, hD, hM, hA, hB, hR, hF⟩ := hrel
        by_cases m16 : m < 16
        · as_aux_lemma =>
          have m0 : (0 : Int) ≤ (m : Int) := by omega
          have m1 : (m : Int) < 16 := by omega
          obtain ⟨s, hs⟩ : ∃ s, s = n + m := ⟨_, rfl⟩
          have s32 : s < 32 := by omega
          have hx := dig_lt 65536 X n (by decide)
          have hy := dig_lt 65536 Y m (by decide)
          have hpr := prod_bd _ _ hx hy
          have hcb := hD.out.1 s s32
          have hnm : (n * 16 + m) * 4294836225 ≤ 256 * 4294836225 := Nat.mul_le_mul_right _ (by omega)
          have HD2 := Lib.hid (show (∀ j, j < 32 → (fun j => if j = s then D s + dig 65536 X n * dig 65536 Y m else D j) j ≤ (n * 16 + (m + 1)) * 4294836225) ∧ val 65536 (fun j => if j = s then D s + dig 65536 X n * dig 65536 Y m else D j) 32 = (X % 65536 ^ n) * Y + dig 65536 X n * 65536 ^ n * (Y % 65536 ^ (m + 1)) from by
            refine ⟨fun j hj => ?_, ?_⟩
            · rw [show (n * 16 + (m + 1)) * 4294836225 = (n * 16 + m) * 4294836225 + 4294836225 from Nat.succ_mul (n * 16 + m) 4294836225]
              exact upd_bd D _ s _ hD.out.1 hpr s32 j hj
            · rw [val_upd 65536 D s _ 32 s32, hD.out.2, hs, mul_row])
          have g0 : (iq 32 D)[s]? = some (.int .i64 (D s : Int)) := iq_get 32 D s s32
          have g1 : (nd X)[n]? = some (.int .i64 (dig 65536 X n : Int)) := iq_get 16 _ n h16
          have g2 : (nd Y)[m]? = some (.int .i64 (dig 65536 Y m : Int)) := iq_get 16 _ m m16
          have hset := iq_set 32 D s (D s + dig 65536 X n * dig 65536 Y m) s32
          have hsz : s < (iq 32 D).size := by rw [iq_size]; exact s32
          generalize dig 65536 X n = x at *
          generalize dig 65536 Y m = y at *
          generalize D s = c at *
          have e1 : (x : Int) * (y : Int) = ((x * y : Nat) : Int) := by rw [Int.natCast_mul]
          generalize x * y = pr at *
          have e2 : IntKind.i64.wrap (pr : Int) = (pr : Int) := IntWalk.i64_in _ (by omega)
          have e2' : IntKind.i64.wrap ((x : Int) * (y : Int)) = (pr : Int) := by rw [e1]; exact e2
          have e3 : IntKind.i64.wrap ((c : Int) + (pr : Int)) = (c : Int) + (pr : Int) := IntWalk.i64_in _ (by omega)
          have e4 : (n : Int) + (m : Int) = (s : Int) := by omega
          have e5 : IntKind.i64.wrap ((n : Int) + (m : Int)) = (s : Int) := by rw [e4]; exact IntWalk.i64_in _ (by omega)
          have e6 : IntKind.i64.wrap (s : Int) = (s : Int) := IntWalk.i64_in _ (by omega)
          have s0 : (0 : Int) ≤ (s : Int) := by omega
          have s1 : (s : Int) < 32 := by omega
          have HSET := Lib.hid hset
          have HM := Lib.hid hM
          have HA := Lib.hid hA
          have HB := Lib.hid hB
          have HR := Lib.hid hR
          have HF := Lib.hid hF
          clear hset hM hA hB hR hF hD hs hcb hnm hpr hx hy
          go_wp2_with fail
          refine wp_region_tail 17 [] (by kernel_rfl) (by kernel_rfl) mk_nil ?_
          apply Exists.intro
          refine ⟨?wk, ?fin⟩
          case wk =>
            intro γ
            have c0 := fun y : Wg γ => y.cell HM.out s g0
            have c1 := fun y : Wg γ => y.cell HA.out n g1
            have c2 := fun y : Wg γ => y.cell HB.out m g2
            simp only [List.take_succ_cons, List.take_zero]
            repeat (any_goals (first | go_big_quiet_step (fail) | quiet_step (fail)))
            exact wpQuiet_nil rfl
          case fin =>
            intro gs wx hE hg hne
            simp only [putAll, List.drop_succ_cons, List.drop_zero, List.length_nil, Nat.add_zero]
            have M1 := Lib.hid (hE.keep HM.out)
            have A1 := Lib.hid (hE.keep HA.out)
            have B1 := Lib.hid (hE.keep HB.out)
            have R1 := Lib.hid (hE.keep HR.out)
            have G1 := Lib.hid (HF.out.trans hE (fun _ h => h.elim))
            clear hg hne hE
            go_wp2_with (with_reducible refine wpList_store_int rfl 3 (.tmp 34) (.tmp 33) rfl (w.heap.size + 1 + 1 + 1) s rfl .i64 ((c : Int) + (pr : Int)) rfl Try.i3 108 _ M1.out hsz ?k0)
            case k0 =>
            intro wa M0 E0
            have M2 := Lib.hid (M0.trans (by rw [show (c : Int) + (pr : Int) = ((c + pr : Nat) : Int) by omega, HSET.out]))
            have A2 := Lib.hid ((E0.block _ (lt_of_block A1.out) (by omega)).trans A1.out)
            have B2 := Lib.hid ((E0.block _ (lt_of_block B1.out) (by omega)).trans B1.out)
            have R2 := Lib.hid ((E0.block _ (lt_of_block R1.out) (by omega)).trans R1.out)
            have G2 := Lib.hid (G1.out.trans E0 (fun i hi => Or.inr (by omega)))
            clear M0 E0 M1 A1 B1 R1 G1 hsz e1 e2 e2' e3 e4 e5 e6
            go_wp2_with fail
            go_roundw
            case rel => exact ⟨m + 1, _, by omega, by go_num, HD2, M2.out, A2.out, B2.out, R2.out, G2.out⟩
            case measure => simp [intOf]; omega
        · as_aux_lemma =>
          obtain rfl : m = 16 := by omega
          have HC2 := Lib.hid (show (∀ j, j < 32 → D j ≤ (n + 1) * 16 * 4294836225) ∧ val 65536 D 32 = (X % 65536 ^ (n + 1)) * Y from ⟨fun j hj => by rw [show (n + 1) * 16 = n * 16 + 16 from Nat.succ_mul n 16]; exact hD.out.1 j hj, by rw [hD.out.2, mul_next X Y n (by rw [b16]; exact HXY.out.2)]⟩)
          have HM := Lib.hid hM
          have HA := Lib.hid hA
          have HB := Lib.hid hB
          have HR := Lib.hid hR
          have HF := Lib.hid hF
          clear hM hA hB hR hF hD
          rw [show ((16 : Nat) : Int) = 16 from rfl]
          go_wp2_with fail
          go_roundw
          case rel => exact ⟨n + 1, D, by omega, by go_num, HC2, HM.out, HA.out, HB.out, HR.out, HF.out⟩
          case measure => simp [intOf]; omega
    · as_aux_lemma =>
      obtain rfl : n = 16 := by omega
      have hfold := fold32 C (X * Y) (by rw [hC.out.2, Nat.mod_eq_of_lt (by rw [b16]; exact HXY.out.1)])
      have hbd : ∀ j, j < 32 → C j ≤ 1099478073600 := fun j hj => hC.out.1 j hj
      have TI := fun W : World => tidy_any (fun j => C j + 38 * C (j + 16)) (fun j hj => by have h1 := hbd j (by omega); have h2 := hbd (j + 16) (by omega); show C j + 38 * C (j + 16) < _; omega) W
      rw [hfold] at TI
      generalize hRR : X * Y % p25519 = R at *
      have HRR := Lib.hid hRR
      clear hRR
      have HTI := Lib.hid TI
      have HBD := Lib.hid hbd
      have N0 := heap_alloc_new wr (.cells #[.int .i64 0, .int .i64 0, .int .i64 0, .int .i64 0, .int .i64 0, .int .i64 0, .int .i64 0, .int .i64 0, .int .i64 0, .int .i64 0, .int .i64 0, .int .i64 0, .int .i64 0, .int .i64 0, .int .i64 0, .int .i64 0] 26)
      rw [show (#[.int .i64 0, .int .i64 0, .int .i64 0, .int .i64 0, .int .i64 0, .int .i64 0, .int .i64 0, .int .i64 0, .int .i64 0, .int .i64 0, .int .i64 0, .int .i64 0, .int .i64 0, .int .i64 0, .int .i64 0, .int .i64 0] : Array Value) = iq 16 (fun j => if j < 0 then C j + 38 * C (j + 16) else 0) from rfl] at N0
      have M1 := (Below.heap_alloc wr (.cells (iq 16 (fun j => if j < 0 then C j + 38 * C (j + 16) else 0)) 26) _ (lt_of_block hM)).trans hM
      have R1 := (Below.heap_alloc wr (.cells (iq 16 (fun j => if j < 0 then C j + 38 * C (j + 16) else 0)) 26) _ (lt_of_block hR)).trans hR
      have F1 := hF.alloc (.cells (iq 16 (fun j => if j < 0 then C j + 38 * C (j + 16) else 0)) 26)
      have zl := lt_of_block hM
      have HN0 := Lib.hid N0
      have HM1 := Lib.hid M1
      have HR1 := Lib.hid R1
      have HF1 := Lib.hid F1
      clear hfold TI hbd hC hM hA hB hR hF N0 M1 R1 F1
      rw [show ((16 : Nat) : Int) = 16 from rfl]
      go_wp2_with fail
      rw [show (#[.int .i64 0, .int .i64 0, .int .i64 0, .int .i64 0, .int .i64 0, .int .i64 0, .int .i64 0, .int .i64 0, .int .i64 0, .int .i64 0, .int .i64 0, .int .i64 0, .int .i64 0, .int .i64 0, .int .i64 0, .int .i64 0] : Array Value) = iq 16 (fun j => if j < 0 then C j + 38 * C (j + 16) else 0) from rfl]
      have hfw : w.heap.size + 1 + 1 + 1 < wr.heap.size := zl
      generalize wr.heap.size = bn at *
      go_loopw [9] (fun i wi => ∃ k : Nat, k ≤ 16 ∧ i = .int .i64 k ∧ wi.heap[bn]? = some (.cells (iq 16 (fun j => if j < k then C j + 38 * C (j + 16) else 0)) 26 (0, 0)) ∧ wi.heap[w.heap.size + 1 + 1 + 1]? = some (.cells (iq 32 C) 108 (0, 0)) ∧ wi.heap[w.heap.size + 1 + 1]? = some (.cells #[.int .i64 0, .int .i64 0, .int .i64 0, .int .i64 0, .int .i64 0, .int .i64 0, .int .i64 0, .int .i64 0, .int .i64 0, .int .i64 0, .int .i64 0, .int .i64 0, .int .i64 0, .int .i64 0, .int .i64 0, .int .i64 0] 26 (0, 0)) ∧ Fr (fun _ => False) w wi) (fun i _ => 16 - (intOf i).toNat)
      case atStart => exact ⟨0, by omega, by simp, HN0.out, HM1.out, HR1.out, HF1.out⟩
      case round =>
        clear HN0 HM1 HR1 HF1
        obtain ⟨k, hk, rfl, hN, hM, hR, hF⟩ := hrel
        by_cases h16 : k < 16
        · have k0 : (0 : Int) ≤ (k : Int) := by omega
          have k1 : (k : Int) < 16 := by omega
          obtain ⟨s, hs⟩ : ∃ s, s = k + 16 := ⟨_, rfl⟩
          have s32 : s < 32 := by omega
          have hx := HBD.out k (by omega)
          have hy := HBD.out s s32
          have g0 : (iq 32 C)[k]? = some (.int .i64 (C k : Int)) := iq_get 32 C k (by omega)
          have g1 : (iq 32 C)[s]? = some (.int .i64 (C s : Int)) := iq_get 32 C s s32
          have hst := step_set 16 (fun j => C j + 38 * C (j + 16)) (fun _ => 0) k (C k + 38 * C s) h16 (by rw [hs])
          have hsz : k < (iq 16 (fun j => if j < k then C j + 38 * C (j + 16) else 0)).size := by rw [iq_size]; exact h16
          generalize C k = x at *
          generalize C s = y at *
          have e1 : IntKind.i64.wrap (38 * (y : Int)) = 38 * (y : Int) := IntWalk.i64_in _ (by omega)
          have e2 : IntKind.i64.wrap ((x : Int) + 38 * (y : Int)) = (x : Int) + 38 * (y : Int) := IntWalk.i64_in _ (by omega)
          have e4 : (k : Int) + 16 = (s : Int) := by omega
          have e5 : IntKind.i64.wrap ((k : Int) + 16) = (s : Int) := by rw [e4]; exact IntWalk.i64_in _ (by omega)
          have e6 : IntKind.i64.wrap (s : Int) = (s : Int) := IntWalk.i64_in _ (by omega)
          have s0 : (0 : Int) ≤ (s : Int) := by omega
          have s1 : (s : Int) < 32 := by omega
          have x9 : (x : Int) ≤ 1099478073600 := by omega
          have y9 : (y : Int) ≤ 1099478073600 := by omega
          have HST := Lib.hid hst
          have HN := Lib.hid hN
          have HM := Lib.hid hM
          have HR := Lib.hid hR
          have HF := Lib.hid hF
          clear hst hN hM hR hF hs hx hy
          go_wp2_with fail
          refine wp_region_tail 11 [] (by kernel_rfl) (by kernel_rfl) mk_nil ?_
          apply Exists.intro
          refine ⟨?wk, ?fin⟩
          case wk =>
            intro γ
            have c0 := fun y : Wg γ => y.cell HM.out k g0
            have c1 := fun y : Wg γ => y.cell HM.out s g1
            simp only [List.take_succ_cons, List.take_zero]
            repeat (any_goals (first | go_big_quiet_step (fail) | quiet_step (fail)))
            exact wpQuiet_nil rfl
          case fin =>
            intro gs wx hE hg hne
            simp only [putAll, List.drop_succ_cons, List.drop_zero, List.length_nil, Nat.add_zero]
            have N1 := Lib.hid (hE.keep HN.out)
            have M1 := Lib.hid (hE.keep HM.out)
            have R1 := Lib.hid (hE.keep HR.out)
            have G1 := Lib.hid (HF.out.trans hE (fun _ h => h.elim))
            clear hg hne hE
            go_wp2_with (with_reducible refine wpList_store_int rfl 3 (.tmp 49) (.tmp 48) rfl bn k rfl .i64 ((x : Int) + 38 * (y : Int)) rfl Try.i3 26 _ N1.out hsz ?k0)
            case k0 =>
            intro wa M0 E0
            have N2 := Lib.hid (M0.trans (by rw [show (x : Int) + 38 * (y : Int) = ((x + 38 * y : Nat) : Int) by omega, HST.out]))
            have M2 := Lib.hid ((E0.block _ (lt_of_block M1.out) (by omega)).trans M1.out)
            have R2 := Lib.hid ((E0.block _ (lt_of_block R1.out) (by omega)).trans R1.out)
            have G2 := Lib.hid (G1.out.trans E0 (fun i hi => Or.inr (by omega)))
            clear M0 E0 M1 N1 R1 G1 hsz e1 e2 e4 e5 e6
            go_wp2_with fail
            go_roundw
            case rel => exact ⟨k + 1, by omega, by go_num, N2.out, M2.out, R2.out, G2.out⟩
            case measure => simp [intOf]; omega
        · as_aux_lemma =>
          obtain rfl : k = 16 := by omega
          rw [show iq 16 (fun j => if j < 16 then C j + 38 * C (j + 16) else 0) = iq 16 (fun j => C j + 38 * C (j + 16)) from iq_congr (fun j hj => by rw [if_pos hj])] at hN
          have TI := HTI.out
          have s1 := Try.sizeV (f := fun j => C j + 38 * C (j + 16))
          have s2 : (Try.prog.info? 26).map (·.size) = some (nd R).size := Try.sizeV
          have o2 : (nd R).all (·.oneCell') = true := iq_one 16 _
          have z2 : (#[.int .i64 0, .int .i64 0, .int .i64 0, .int .i64 0, .int .i64 0, .int .i64 0, .int .i64 0, .int .i64 0, .int .i64 0, .int .i64 0, .int .i64 0, .int .i64 0, .int .i64 0, .int .i64 0, .int .i64 0, .int .i64 0] : Array Value).size = (nd R).size := by unfold nd; rw [iq_size]; rfl
          generalize iq 16 (fun j => C j + 38 * C (j + 16)) = S at *
          clear hM HTI HBD
          rw [show ((16 : Nat) : Int) = 16 from rfl]
          go_wp2_with (with_reducible refine wpList_load_row rfl 26 (.tmp 8) rfl bn rfl 26 S (0, 0) _ hN Try.underlying26 rfl s1 ?_)
          refine (TI _).mono ?_
          rintro e w1 ⟨rfl, F1⟩
          have R3 := F1.keep hR
          have G3 := hF.trans F1 (fun _ h => h.elim)
          clear hN hR hF F1
          go_wp2_with (with_reducible refine wpList_store_row rfl 26 (.tmp 4) (.tmp 51) rfl (w.heap.size + 1 + 1) (nd R) rfl rfl 26 #[.int .i64 0, .int .i64 0, .int .i64 0, .int .i64 0, .int .i64 0, .int .i64 0, .int .i64 0, .int .i64 0, .int .i64 0, .int .i64 0, .int .i64 0, .int .i64 0, .int .i64 0, .int .i64 0, .int .i64 0, .int .i64 0] R3 s2 z2 o2 ?_)
          refine bodyPost_ret (results_cell_row rfl _ _ (w.heap.size + 1 + 1) 26 (nd R) (0, 0) _ rfl (setRow_heap _ _ _ _ _ _ R3) Try.underlying26 rfl s2) rfl ?_
          exact ⟨by rw [HRR.out], G3.trans (Fr.setRow (S := fun k => k = w.heap.size + 1 + 1) (Fr.refl _ _) rfl _) (fun i hi => Or.inr (by omega))⟩
end Go.Proofs.Ytnobobdgoccmcaa


/-
  The contract of padding of package sha5.
-/
import Derived.Test.YtmoepalhoaekgaaDoorWr5
import Derived.Test.YtmoepalhoaekgaaDoorPad
namespace Go.Proofs.YtmoepalhoaekgaaDoor
open Go.RowKit
set_option linter.unusedVariables false

/-- Byte idx of a padding of which the last j bytes of the count of bits are laid. -/
def pf5 (c j idx : Nat) : UInt8 := if idx = 0 then 0x80 else if S5.padLen c ≤ idx + j ∧ idx < S5.padLen c then UInt8.ofNat (8 * c / 256 ^ (S5.padLen c - 1 - idx)) else 0

theorem zero144 : Tryd.zeroCells70.setIfInBounds 0 (.int .u8 128) = ub 144 (fun idx => if idx = 0 then 0x80 else 0) := by kernel_rfl
theorem pf_zero5 (c : Nat) : Tryd.zeroCells70.setIfInBounds 0 (.int .u8 128) = ub 144 (pf5 c 0) := by
  have e : ub 144 (pf5 c 0) = ub 144 (fun idx => if idx = 0 then 0x80 else 0) := ub_congr fun j hj => by
    unfold pf5
    split
    · rfl
    · rw [if_neg (by omega)]
  exact zero144.trans e.symm
theorem pf_succ5 (c j : Nat) (hj : j < 8) (v : Int) (hv : v = ((8 * c / 256 ^ j % 256 : Nat) : Int)) : (ub 144 (pf5 c j)).setIfInBounds (S5.padLen c - 1 - j) (.int .u8 v) = ub 144 (pf5 c (j + 1)) := by
  have hp : S5.padLen c = 128 - (c % 128 + 16) % 128 + 16 := rfl
  have h8 : (UInt8.ofNat (8 * c / 256 ^ j)).toNat = 8 * c / 256 ^ j % 256 := by rw [UInt8.toNat_ofNat']
  rw [hv, ← h8, ub_set _ _ _ _ (by omega)]
  refine ub_congr fun i hi => ?_
  unfold pf5
  by_cases h0 : i = 0
  · rw [if_pos h0, if_pos h0, if_neg (by omega)]
  · rw [if_neg h0, if_neg h0]
    by_cases h1 : i = S5.padLen c - 1 - j
    · rw [if_pos h1, if_pos (by omega), show S5.padLen c - 1 - i = j by omega]
    · rw [if_neg h1]
      by_cases h2 : S5.padLen c ≤ i + j ∧ i < S5.padLen c
      · rw [if_pos h2, if_pos (by omega)]
      · rw [if_neg h2, if_neg (by omega)]
theorem pf_end5 (c j : Nat) (hj : j ≤ 8) (h : 8 * c / 256 ^ j = 0) : ub 144 (pf5 c j) = ub 144 (pf5 c 8) := by
  have hp : S5.padLen c = 128 - (c % 128 + 16) % 128 + 16 := rfl
  refine ub_congr fun i hi => ?_
  unfold pf5
  by_cases h0 : i = 0
  · rw [if_pos h0, if_pos h0]
  · rw [if_neg h0, if_neg h0]
    by_cases h1 : S5.padLen c ≤ i + j ∧ i < S5.padLen c
    · rw [if_pos h1, if_pos (by omega)]
    · rw [if_neg h1]
      by_cases h2 : S5.padLen c ≤ i + 8 ∧ i < S5.padLen c
      · rw [if_pos h2]
        obtain ⟨d, hd⟩ : ∃ d, S5.padLen c - 1 - i = j + d := ⟨S5.padLen c - 1 - i - j, by omega⟩
        rw [hd, Nat.pow_add, ← Nat.div_div_eq_div_mul, h]
        simp
      · rw [if_neg h2]

theorem Tryd.size144 {f : Nat → UInt8} : (Tryd.prog.info? 70).map (·.size) = some (ub 144 f).size := by
  rw [ub_size]; kernel_rfl

set_option maxRecDepth 100000 in
set_option maxHeartbeats 1600000 in
theorem padding_any5 (c : Nat) (hc : c ≤ 1152921504606846976) (w : World) :
    Calls Tryd.prog 35 #[.int .i64 c] w fun e w' => e = .returned (.tuple #[.agg (ub 144 (pf5 c 8)), .int .i64 (S5.padLen c)]) ∧ Fr (fun _ => False) w w' := by
  have hp : S5.padLen c = 128 - (c % 128 + 16) % 128 + 16 := rfl
  have hp1 : 17 ≤ S5.padLen c := by omega
  have hp2 : S5.padLen c ≤ 144 := by omega
  have eP : (128 : Int) - ((c : Int) + 16) % 128 + 16 = (S5.padLen c : Int) := by omega
  have HP := Lib.hid eP
  clear eP hp
  have e4 : IntKind.u64.wrap (c : Int) = (c : Int) := by rw [IntKind.wrap_u64]; omega
  go_enter Tryd.func35, Tryd.ntmps35
  go_upto_region 3 with fail
  simp only [HP.out]
  rw [pf_zero5 c]
  generalize hPl : S5.padLen c = L at hp1 hp2
  have HL := Lib.hid hPl
  have hb0 : pf5 c 0 (L - 9) = 0 := by
    unfold pf5
    rw [if_neg (by omega), hPl, if_neg (by omega)]
  clear hPl
  have hB0 := heap_alloc_new w (.cells (ub 144 (pf5 c 0)) 70)
  have hF0 := (Fr.refl (fun _ => False) w).alloc (.cells (ub 144 (pf5 c 0)) 70)
  generalize World.alloc w _ = w1 at hB0 hF0 ⊢
  have c9 := cell_of_block hB0 (L - 9)
  rw [ub_get 144 _ _ (by omega), hb0] at c9
  have f9 := free_of_block hB0 (L - 9)
  have j0 : (0 : Int) ≤ (L : Int) - 9 := by omega
  have j1 : (L : Int) - 9 < 144 := by omega
  have j2 : ((L : Int) - 9).toNat = L - 9 := by omega
  have j3 : (c : Int) / 2305843009213693952 = 0 := by omega
  have hB1 : (w1.setCell ⟨w.heap.size, L - 9, none⟩ (.int .u8 0)).heap[w.heap.size]? = some (.cells (ub 144 (pf5 c 0)) 70 (0, 0)) := by
    rw [block_setCell hB0]
    congr 2
    have := ub_set 144 (pf5 c 0) (L - 9) 0 (by omega)
    rw [show ((0 : UInt8).toNat : Int) = 0 from rfl] at this
    rw [this]
    apply ub_congr
    intro j hj
    by_cases e : j = L - 9
    · rw [if_pos e, e, hb0]
    · rw [if_neg e]
  have hF1 : Fr (fun _ => False) w (w1.setCell ⟨w.heap.size, L - 9, none⟩ (.int .u8 0)) := hF0.setCell (Or.inr (Nat.le_refl _)) _
  have HB1 := Lib.hid hB1
  clear hB1 hB0 hb0
  go_wp2_with fail
  clear j0 j1 j2 j3 c9 f9
  go_loopw [4, 5] (fun vi vn wr => ∃ j : Nat, j ≤ 8 ∧ vi = .int .i64 ((L : Int) - 1 - j) ∧ vn = .int .u64 ((8 * c / 256 ^ j : Nat) : Int) ∧ wr.heap[w.heap.size]? = some (.cells (ub 144 (pf5 c j)) 70 (0, 0)) ∧ Fr (fun _ => False) w wr) (fun _ vn _ => (intOf vn).toNat)
  case atStart => exact ⟨0, by omega, by simp, by go_num, HB1.out, hF1⟩
  case round =>
    clear HB1 hF1
    obtain ⟨j, hj, rfl, rfl, hB, hF⟩ := hrel
    by_cases hn : 0 < 8 * c / 256 ^ j
    · have hj8 : j < 8 := by
        rcases Nat.lt_or_ge j 8 with h | h
        · exact h
        · obtain rfl : j = 8 := by omega
          have : 8 * c / 256 ^ 8 = 0 := Nat.div_eq_of_lt (by omega)
          omega
      have hsu := pf_succ5 c j hj8 (((8 * c / 256 ^ j : Nat) : Int) % 256) (by simp)
      rw [HL.out] at hsu
      have hne : 8 * c / 256 ^ (j + 1) = 8 * c / 256 ^ j / 256 := by rw [Nat.pow_succ, Nat.div_div_eq_div_mul]
      generalize hN : 8 * c / 256 ^ j = N at hn hsu hne
      have Hsu := Lib.hid hsu
      have Hne := Lib.hid hne
      clear hsu hne hN
      have hc0 := cell_of_block hB (L - 1 - j)
      have hf0 := free_of_block hB (L - 1 - j)
      rw [ub_get 144 _ _ (by omega)] at hc0
      have i0 : (0 : Int) ≤ (L : Int) - 1 - j := by omega
      have i1 : (L : Int) - 1 - j < 144 := by omega
      have i2 : ((L : Int) - 1 - j).toNat = L - 1 - j := by omega
      have t1 : decide ((0 : Int) < (N : Int)) = true := by simp; omega
      have hB2 : (wr.setCell ⟨w.heap.size, L - 1 - j, none⟩ (.int .u8 ((N : Int) % 256))).heap[w.heap.size]? = some (.cells (ub 144 (pf5 c (j + 1))) 70 (0, 0)) := by
        rw [block_setCell hB, Hsu.out]
      have HB2 := Lib.hid hB2
      clear hB2
      go_wp2
      go_roundw
      case rel => exact ⟨j + 1, by omega, by go_num, by rw [Hne.out]; go_num, HB2.out, hF.setCell (Or.inr (Nat.le_refl _)) _⟩
      case measure => simp [intOf]; omega
    · have hz : 8 * c / 256 ^ j = 0 := Nat.eq_zero_of_not_pos hn
      have he := pf_end5 c j hj hz
      rw [he] at hB
      rw [hz, show ((0 : Nat) : Int) = 0 from rfl]
      clear hz he hn
      go_wp2_with (first
        | (with_reducible refine wpList_load_row rfl 70 (.tmp 2) rfl w.heap.size rfl 70 (ub 144 (pf5 c 8)) (0, 0) _ hB Tryd.underlying70 rfl Tryd.size144 ?_)
        | (with_reducible refine wpList_store_row rfl 70 (.tmp 2) (.tmp 35) rfl w.heap.size (ub 144 (pf5 c 8)) rfl rfl 70 _ hB Tryd.size144 rfl (ub_one _ _) ?_))
      refine bodyPost_ret (results_cell_tmp rfl _ _ w.heap.size 70 (ub 144 (pf5 c 8)) (0, 0) _ rfl (setRow_heap _ _ _ _ _ _ hB) Tryd.underlying70 rfl Tryd.size144) rfl ?_
      exact ⟨by rw [HL.out]; rfl, hF.trans (Fr.setRow (S := fun k => k = w.heap.size) (Fr.refl _ _) rfl _) (fun i hi => Or.inr (by omega))⟩
end Go.Proofs.YtmoepalhoaekgaaDoor


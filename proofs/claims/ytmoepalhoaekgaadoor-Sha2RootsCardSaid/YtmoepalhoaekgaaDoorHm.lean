/-
  Marks by a key over bytes (plain functions); the contracts of filled and turned of package hmac.
-/
import Derived.Test.YtmoepalhoaekgaaDoorForks
namespace Go.Proofs.YtmoepalhoaekgaaDoor
open Go.RowKit
set_option linter.unusedVariables false

namespace HM
/-- The key, or the sum of one that is too long. -/
def fill (k : List UInt8) : List UInt8 := if 64 < k.length then S2.sum k else k
def blk (k : List UInt8) (j : Nat) : UInt8 := (fill k).getD j 0
def xor (f : Nat → UInt8) (b : UInt8) : List UInt8 := (List.range 64).map fun j => f j ^^^ b
def of (k m : List UInt8) : List UInt8 := S2.sum (xor (blk k) 0x5c ++ S2.sum (xor (blk k) 0x36 ++ m))
theorem fill_le (k : List UInt8) : (fill k).length ≤ 64 := by
  unfold fill
  split
  · rw [sum_length]; omega
  · omega
theorem xor_length (f : Nat → UInt8) (b : UInt8) : (xor f b).length = 64 := by simp [xor]
end HM

theorem sumc_ub (l : List UInt8) : sumc l = ub 32 (fun j => (S2.sum l).getD j 0) := rfl
theorem sumc_cells (l : List UInt8) : (sumc l).toList = bv (S2.sum l) := by rw [sumc_map]; rfl
/-- A block of 32 cells that holds a sum, as bytes. -/
theorem sum_lies {w : World} {b : Nat} {l : List UInt8} {t : TypeId} {fr : Nat × Nat} (h : w.heap[b]? = some (.cells (sumc l) t fr)) : Lies w (some ⟨b, 0, none⟩) (S2.sum l) := by
  refine Or.inr ⟨b, 0, rfl, fun j hj => ?_⟩
  rw [Nat.zero_add, cell_of_block h, ← Array.getElem?_toList, sumc_cells, bv_get' _ _ hj]
theorem ub_lies {w : World} {b n : Nat} {l : List UInt8} {f : Nat → UInt8} {t : TypeId} {fr : Nat × Nat} (h : w.heap[b]? = some (.cells (ub n f) t fr)) (hl : l.length ≤ n) (hf : ∀ j, j < l.length → f j = l.getD j 0) : Lies w (some ⟨b, 0, none⟩) l := by
  refine Or.inr ⟨b, 0, rfl, fun j hj => ?_⟩
  rw [Nat.zero_add, cell_of_block h, ub_get n f j (by omega), hf j hj]
  simp [List.getD, hj]

theorem zero64 : (#[.int .u8 0, .int .u8 0, .int .u8 0, .int .u8 0, .int .u8 0, .int .u8 0, .int .u8 0, .int .u8 0, .int .u8 0, .int .u8 0, .int .u8 0, .int .u8 0, .int .u8 0, .int .u8 0, .int .u8 0, .int .u8 0, .int .u8 0, .int .u8 0, .int .u8 0, .int .u8 0, .int .u8 0, .int .u8 0, .int .u8 0, .int .u8 0, .int .u8 0, .int .u8 0, .int .u8 0, .int .u8 0, .int .u8 0, .int .u8 0, .int .u8 0, .int .u8 0, .int .u8 0, .int .u8 0, .int .u8 0, .int .u8 0, .int .u8 0, .int .u8 0, .int .u8 0, .int .u8 0, .int .u8 0, .int .u8 0, .int .u8 0, .int .u8 0, .int .u8 0, .int .u8 0, .int .u8 0, .int .u8 0, .int .u8 0, .int .u8 0, .int .u8 0, .int .u8 0, .int .u8 0, .int .u8 0, .int .u8 0, .int .u8 0, .int .u8 0, .int .u8 0, .int .u8 0, .int .u8 0, .int .u8 0, .int .u8 0, .int .u8 0, .int .u8 0] : Array Value) = ub 64 (fun _ => 0) := by kernel_rfl
theorem Tryd.size64u {f : Nat → UInt8} : (Tryd.prog.info? 31).map (·.size) = some (ub 64 f).size := by
  rw [ub_size]; kernel_rfl
theorem ub_toList (n : Nat) (f : Nat → UInt8) : (ub n f).toList = bv ((List.range n).map f) := by simp [ub, bv, Function.comp_def]
theorem ub_splice (k : List UInt8) (hk : k.length ≤ 64) : (splice (ub 64 (fun _ => 0)).toList 0 (bv k)).toArray = ub 64 (fun j => k.getD j 0) := by
  refine ub_ext (by simp [splice, ub_toList]; omega) (fun j hj => ?_)
  simp only [splice, List.take_zero, List.nil_append, Nat.zero_add, bv_length, List.getElem?_toArray]
  by_cases h : j < k.length
  · rw [List.getElem?_append_left (by simpa using h), bv_get' k j h]
    simp [List.getD, h]
  · rw [List.getElem?_append_right (by simpa using Nat.le_of_not_lt h), List.getElem?_drop, bv_length, show k.length + (j - k.length) = j by omega, ub_toList, bv_get' _ _ (by simpa using hj)]
    simp [List.getD, h]

set_option maxRecDepth 100000 in
set_option maxHeartbeats 1600000 in
theorem filled_any (a : Option Addr) (k : List UInt8) (n c : Nat) (w : World) (h : Came w a n c k) (hn2 : n ≤ 1152921504606846976) (hE : Env w) :
    Calls Tryd.prog 44 #[.slice a n c] w fun e w' => e = .returned (.agg (ub 64 (HM.blk k))) ∧ Fr (fun _ => False) w w' := by
  have hn3 : n ≤ 9223372036854775807 := by omega
  have hlen := h.len
  have hle := h.le
  have hmx := h.mx
  go_enter Tryd.func44, Tryd.ntmps44
  go_upto_if 7 with fail
  have hb0 := heap_alloc2_old w (.cells (ub 64 (fun _ => 0)) 31) (.cells (ub 64 (fun _ => 0)) 31)
  have hb1 := heap_alloc2_new w (.cells (ub 64 (fun _ => 0)) 31) (.cells (ub 64 (fun _ => 0)) 31)
  have F0 : Fr (fun _ => False) w ((w.alloc (.cells (ub 64 (fun _ => 0)) 31)).alloc (.cells (ub 64 (fun _ => 0)) 31)) := ((Fr.refl _ w).alloc _).alloc _
  have hz0 : w.heap.size < ((w.alloc (.cells (ub 64 (fun _ => 0)) 31)).alloc (.cells (ub 64 (fun _ => 0)) 31)).heap.size := lt_of_block hb0
  have hz1 : w.heap.size + 1 < ((w.alloc (.cells (ub 64 (fun _ => 0)) 31)).alloc (.cells (ub 64 (fun _ => 0)) 31)).heap.size := lt_of_block hb1
  rw [← zero64] at hb0 hb1 F0 hz0 hz1
  have h2 : Came ((w.alloc (.cells _ 31)).alloc (.cells _ 31)) a n c k := h.grow F0 (fun _ _ h => h)
  generalize (w.alloc (.cells _ 31)).alloc (.cells _ 31) = w1 at *
  rw [zero64] at hb0 hb1
  have hE1 := hE.fr F0 (fun h => h)
  go_cut [0] (fun v wx => ∃ a2 c2, v = .slice a2 (HM.fill k).length c2 ∧ (HM.fill k).length ≤ c2 ∧ c2 ≤ maxLen ∧ Lies wx a2 (HM.fill k) ∧ Fr (fun _ => False) w1 wx)
  case first =>
    by_cases hlong : 64 < n
    · have ht : decide ((64 : Int) < (n : Int)) = true := by simp; omega
      go_wp2_with fail
      refine (psum_any _ [k] 1 1 rfl _ ?hp (by unfold maxLen; omega) (by simp [hlen]; omega) (hE1.fr ((Fr.refl (fun _ => False) w1).alloc _) (fun h => h))).mono ?_
      case hp =>
        refine Or.inr ⟨w1.heap.size, 0, rfl, fun j hj => ?_⟩
        match j, hj with
        | 0, _ => exact ⟨a, c, by rw [cell_of_block (heap_alloc_new w1 _)]; simp [hlen], h2.lies.grow ((Fr.refl (fun _ => False) w1).alloc _), by simp; omega, hmx⟩
      rintro e w2 ⟨rfl, F2⟩
      rw [show [k].flatten = k by simp]
      have hone : (sumc k).all (·.oneCell') = true := sumv_one _
      have hsz : (ub 32 (fun _ => 0)).size = (sumc k).size := (ub_size _ _).trans (sumv_size _).symm
      have hnew := heap_alloc_new w2 (.cells (ub 32 (fun _ => 0)) 23)
      rw [← zero32] at hnew hsz
      go_wp2_with (with_reducible refine wpList_store_rowA rfl 23 (.tmp 4) (.tmp 10) rfl w2.heap.size (sumc k) rfl rfl 23 _ hnew Tryd.sizeC hsz hone ?k)
      case k =>
      intro w3 h3 hG3
      go_wp2
      go_meet
      have e1 : HM.fill k = S2.sum k := if_pos (by omega)
      have el : (HM.fill k).length = 32 := by rw [e1, sum_length]
      exact ⟨_, 32, by rw [el], by omega, by unfold maxLen; omega, by rw [e1]; exact sum_lies h3, ((((Fr.refl (fun _ => False) w1).alloc _).trans F2 (fun _ h => h.elim)).alloc _).trans hG3 (fun i hi => Or.inr (by have := F2.size; simp at this; omega))⟩
    · have ht : decide ((64 : Int) < (n : Int)) = false := by simp; omega
      have e1 : HM.fill k = k := if_neg (by omega)
      go_wp2
      go_meet
      exact ⟨a, c, by rw [e1, hlen], by rw [e1]; omega, hmx, by rw [e1]; exact h2.lies, Fr.refl _ _⟩
  case rest =>
    obtain ⟨a2, c2, rfl, k1, k2, hl2, F2⟩ := hcut
    have hf := HM.fill_le k
    have b0 := (F2.block _ (lt_of_block hb0) (fun h => h)).trans hb0
    have b1 := (F2.block _ (lt_of_block hb1) (fun h => h)).trans hb1
    have F3 := F0.trans F2 (fun _ h => h.elim)
    have hz := lt_of_block b1
    have hmin : Nat.min (HM.fill k).length 64 = (HM.fill k).length := Nat.min_eq_left hf
    clear hb0 hb1 hE1 h2 F0 F2
    go_wp2_with (with_reducible refine wpList_copy_splice rfl (.tmp 12) (.tmp 13) 22 22 rfl 5 Tryd.underlying22 Tryd.sizeB (some ⟨w.heap.size + 1, 0, none⟩) a2 64 64 _ c2 rfl rfl (w.heap.size + 1) 0 (ub 64 (fun _ => 0)).toList 31 b1 (bv (HM.fill k)) ?hn ?hpos ?hfit (bv_one _) (w.heap.size + 1) wc (Below.refl _ _) (Nat.le_refl _) ?k)
    case hn => rw [bv_length, hmin]
    case hpos =>
      intro hp
      rcases hl2 with e | ⟨g, o, e, hc⟩
      · rw [e] at hp; simp at hp
      · refine ⟨⟨g, o, none⟩, e, fun j v hv => ?_⟩
        have hlt : j < (HM.fill k).length := by have := (List.getElem?_eq_some_iff.1 hv).1; simpa using this
        rw [addr_add, hc j hlt]
        rw [bv_get' _ j hlt] at hv
        exact hv
    case hfit => simp [ub_toList]; omega
    case k =>
    intro w3 h3 hB3
    have h4 := h3.out
    rw [ub_splice _ hf] at h4
    replace h4 : w3.heap[w.heap.size + 1]? = some (.cells (ub 64 (HM.blk k)) 31 (0, 0)) := h4
    clear h3
    have b3 := (hB3.block w.heap.size (by omega)).trans b0
    have F4 : Fr (fun _ => False) w w3 := ⟨hB3.os.trans F3.os, hB3.tape.trans F3.tape, hB3.output.trans F3.output, Nat.le_trans F3.size hB3.size, fun i hi hs => (hB3.block i (by omega)).trans (F3.block i hi hs)⟩
    have hone : (ub 64 (HM.blk k)).all (·.oneCell') = true := ub_one _ _
    have hsz : (ub 64 (fun _ => 0)).size = (ub 64 (HM.blk k)).size := (ub_size _ _).trans (ub_size _ _).symm
    go_wp2_with (first
      | (with_reducible refine wpList_load_row rfl 31 (.tmp 3) rfl (w.heap.size + 1) rfl 31 (ub 64 (HM.blk k)) (0, 0) _ h4 Tryd.underlying31 rfl Tryd.size64u ?_)
      | (with_reducible refine wpList_store_row rfl 31 (.tmp 2) (.tmp 15) rfl w.heap.size (ub 64 (HM.blk k)) rfl rfl 31 _ b3 Tryd.size64u hsz hone ?_))
    refine bodyPost_ret (results_cell_row rfl _ _ w.heap.size 31 (ub 64 (HM.blk k)) (0, 0) _ rfl (setRow_heap _ _ _ _ _ _ b3) Tryd.underlying31 rfl Tryd.size64u) rfl ?_
    exact ⟨rfl, F4.trans (Fr.setRow (S := fun k => k = w.heap.size) (Fr.refl _ _) rfl _) (fun i hi => Or.inr (by omega))⟩

theorem xor_step (f : Nat → UInt8) (b : UInt8) (k : Nat) (hk : k < 64) : (ub 64 (fun j => if j < k then f j ^^^ b else f j)).setIfInBounds k (.int .u8 (((f k ^^^ b).toNat : Nat) : Int)) = ub 64 (fun j => if j < k + 1 then f j ^^^ b else f j) := by
  rw [ub_set _ _ _ _ hk]
  refine ub_congr fun j hj => ?_
  by_cases h : j = k
  · subst h; rw [if_pos rfl, if_pos (by omega)]
  · rw [if_neg h]
    by_cases h2 : j < k
    · rw [if_pos h2, if_pos (by omega)]
    · rw [if_neg h2, if_neg (by omega)]
theorem xor_u8 (x y : UInt8) : bits .xor .u8 (x.toNat : Int) (y.toNat : Int) = (((x ^^^ y).toNat : Nat) : Int) := by
  have h1 := x.toNat_lt
  have h2 := y.toNat_lt
  have x3 : x.toNat ^^^ y.toNat < 2 ^ 8 := Nat.xor_lt_two_pow (by omega) (by omega)
  have e1 : (BitVec.ofInt 8 (x.toNat : Int)).toNat = x.toNat := by
    rw [BitVec.ofInt_natCast, BitVec.toNat_ofNat]; exact Nat.mod_eq_of_lt (by omega)
  have e2 : (BitVec.ofInt 8 (y.toNat : Int)).toNat = y.toNat := by
    rw [BitVec.ofInt_natCast, BitVec.toNat_ofNat]; exact Nat.mod_eq_of_lt (by omega)
  show IntKind.u8.wrap ((BitVec.ofInt 8 (x.toNat : Int) ^^^ BitVec.ofInt 8 (y.toNat : Int)).toNat : Int) = _
  rw [BitVec.toNat_xor, e1, e2, UInt8.toNat_xor, IntKind.wrap_u8]; omega

set_option maxRecDepth 100000 in
set_option maxHeartbeats 1600000 in
theorem hturned_any (f : Nat → UInt8) (b : UInt8) (v : Int) (hv : v = (b.toNat : Int)) (w : World) :
    Calls Tryd.prog 46 #[.agg (ub 64 f), .int .u8 v] w fun e w' => e = .returned (.slice (some ⟨w.heap.size, 0, none⟩) 64 64) ∧ w'.heap[w.heap.size]? = some (.cells (ub 64 (fun j => f j ^^^ b)) 31 (0, 0)) ∧ Fr (fun _ => False) w w' := by
  have hbb := b.toNat_lt
  subst hv
  go_enter Tryd.func46, Tryd.ntmps46
  go_wp2_with fail
  go_loopw [6] (fun i wr => ∃ k : Nat, k ≤ 64 ∧ i = .int .i64 k ∧ wr.heap[w.heap.size]? = some (.cells (ub 64 (fun j => if j < k then f j ^^^ b else f j)) 31 (0, 0)) ∧ Fr (fun _ => False) w wr) (fun i _ => 64 - (intOf i).toNat)
  case atStart =>
    refine ⟨0, by omega, by simp, ?_, (Fr.refl _ w).alloc _⟩
    rw [heap_alloc_new]
    congr 2
  case round =>
    obtain ⟨k, hk, rfl, hB, hF⟩ := hrel
    by_cases hlt : k < 64
    · have hc : wr.cell? ⟨w.heap.size, k, none⟩ = some (.int .u8 ((f k).toNat : Int)) := by
        rw [cell_of_block hB, ub_get _ _ _ hlt, if_neg (by omega)]
      have hfz := free_of_block hB k
      have hst := xor_step f b k hlt
      go_wp2
      go_roundw
      case rel => exact ⟨k + 1, by omega, by go_num, by rw [block_setCell hB, xor_u8, hst], hF.setCell (Or.inr (Nat.le_refl _)) _⟩
      case measure => simp [intOf]; omega
    · have e1 : k = 64 := by omega
      subst e1
      go_wp2
      go_ret
      refine ⟨rfl, ?_, hF⟩
      rw [hB]
      congr 2
end Go.Proofs.YtmoepalhoaekgaaDoor


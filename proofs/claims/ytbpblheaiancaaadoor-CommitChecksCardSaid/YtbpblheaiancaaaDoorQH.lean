/-
  Marks by a key over bytes (plain functions); the contracts of filled and turned of package hmac.
  The contract of joined of package sha5; the bytes of a padding.
  The contract of Of of package hmac.
  The contract of Same of package hmac; an append as a step of a region.
  The laws' own look at a known mark.
  The walk of the law Sha2Sizes: of noughts of each count the sum is told.
  The contracts of All and Few of package custumalref01.
  The contract of Few of package custumalref01.
  The contract of Few of package custumalref01: the walk.
  Plain laws of this verifier: slices of bytes' slices that came in as an argument.
-/
import Derived.Test.YtbpblheaiancaaaDoorQG
import Derived.Test.YtbpblheaiancaaaDoorQE
import Derived.Deep.RegionWith
import Derived.Laws.OwnMore
import Derived.Deep.RegionHeld3
import Derived.Deep.Matrix
namespace Go.Proofs.YtbpblheaiancaaaDoor
open Go.RowKit
set_option linter.unusedVariables false

namespace HM
/-- The key, or the sum of one that is too long. -/
def fill (k : List UInt8) : List UInt8 := if 64 < k.length then S2.sum k else k
def blk (k : List UInt8) (j : Nat) : UInt8 := (fill k).getD j 0
def xor (f : Nat → UInt8) (b : UInt8) : List UInt8 := (List.range 64).map fun j => f j ^^^ b
def of (k m : List UInt8) : List UInt8 := S2.sum (xor (blk k) 0x5c ++ S2.sum (xor (blk k) 0x36 ++ m))
theorem fill_le (k : List UInt8) : (fill k).length ≤ 64 := by
  unfold fill
  split
  · rw [sum_length]; omega
  · omega
theorem xor_length (f : Nat → UInt8) (b : UInt8) : (xor f b).length = 64 := by simp [xor]
end HM

theorem sumc_ub (l : List UInt8) : sumc l = ub 32 (fun j => (S2.sum l).getD j 0) := rfl
theorem sumc_cells (l : List UInt8) : (sumc l).toList = bv (S2.sum l) := by rw [sumc_map]; rfl
/-- A block of 32 cells that holds a sum, as bytes. -/
theorem sum_lies {w : World} {b : Nat} {l : List UInt8} {t : TypeId} {fr : Nat × Nat} (h : w.heap[b]? = some (.cells (sumc l) t fr)) : Lies w (some ⟨b, 0, none⟩) (S2.sum l) := by
  refine Or.inr ⟨b, 0, rfl, fun j hj => ?_⟩
  rw [Nat.zero_add, cell_of_block h, ← Array.getElem?_toList, sumc_cells, bv_get' _ _ hj]
theorem ub_lies {w : World} {b n : Nat} {l : List UInt8} {f : Nat → UInt8} {t : TypeId} {fr : Nat × Nat} (h : w.heap[b]? = some (.cells (ub n f) t fr)) (hl : l.length ≤ n) (hf : ∀ j, j < l.length → f j = l.getD j 0) : Lies w (some ⟨b, 0, none⟩) l := by
  refine Or.inr ⟨b, 0, rfl, fun j hj => ?_⟩
  rw [Nat.zero_add, cell_of_block h, ub_get n f j (by omega), hf j hj]
  simp [List.getD, hj]

theorem zero64 : (#[.int .u8 0, .int .u8 0, .int .u8 0, .int .u8 0, .int .u8 0, .int .u8 0, .int .u8 0, .int .u8 0, .int .u8 0, .int .u8 0, .int .u8 0, .int .u8 0, .int .u8 0, .int .u8 0, .int .u8 0, .int .u8 0, .int .u8 0, .int .u8 0, .int .u8 0, .int .u8 0, .int .u8 0, .int .u8 0, .int .u8 0, .int .u8 0, .int .u8 0, .int .u8 0, .int .u8 0, .int .u8 0, .int .u8 0, .int .u8 0, .int .u8 0, .int .u8 0, .int .u8 0, .int .u8 0, .int .u8 0, .int .u8 0, .int .u8 0, .int .u8 0, .int .u8 0, .int .u8 0, .int .u8 0, .int .u8 0, .int .u8 0, .int .u8 0, .int .u8 0, .int .u8 0, .int .u8 0, .int .u8 0, .int .u8 0, .int .u8 0, .int .u8 0, .int .u8 0, .int .u8 0, .int .u8 0, .int .u8 0, .int .u8 0, .int .u8 0, .int .u8 0, .int .u8 0, .int .u8 0, .int .u8 0, .int .u8 0, .int .u8 0, .int .u8 0] : Array Value) = ub 64 (fun _ => 0) := by kernel_rfl
theorem Tryd.size64u {f : Nat → UInt8} : (Tryd.prog.info? 74).map (·.size) = some (ub 64 f).size := by
  rw [ub_size]; kernel_rfl
theorem ub_toList (n : Nat) (f : Nat → UInt8) : (ub n f).toList = bv ((List.range n).map f) := by simp [ub, bv, Function.comp_def]
theorem ub_splice (k : List UInt8) (hk : k.length ≤ 64) : (splice (ub 64 (fun _ => 0)).toList 0 (bv k)).toArray = ub 64 (fun j => k.getD j 0) := by
  refine ub_ext (by simp [splice, ub_toList]; omega) (fun j hj => ?_)
  simp only [splice, List.take_zero, List.nil_append, Nat.zero_add, bv_length, List.getElem?_toArray]
  by_cases h : j < k.length
  · rw [List.getElem?_append_left (by simpa using h), bv_get' k j h]
    simp [List.getD, h]
  · rw [List.getElem?_append_right (by simpa using Nat.le_of_not_lt h), List.getElem?_drop, bv_length, show k.length + (j - k.length) = j by omega, ub_toList, bv_get' _ _ (by simpa using hj)]
    simp [List.getD, h]

set_option maxRecDepth 100000 in
set_option maxHeartbeats 1600000 in
theorem filled_any (a : Option Addr) (k : List UInt8) (n c : Nat) (w : World) (h : Came w a n c k) (hn2 : n ≤ 1152921504606846976) (hE : Env w) :
    Calls Tryd.prog 65 #[.slice a n c] w fun e w' => e = .returned (.agg (ub 64 (HM.blk k))) ∧ Fr (fun _ => False) w w' := by
  have hn3 : n ≤ 9223372036854775807 := by omega
  have hlen := h.len
  have hle := h.le
  have hmx := h.mx
  go_enter Tryd.func65, Tryd.ntmps65
  go_upto_if 7 with fail
  have hb0 := heap_alloc2_old w (.cells (ub 64 (fun _ => 0)) 74) (.cells (ub 64 (fun _ => 0)) 74)
  have hb1 := heap_alloc2_new w (.cells (ub 64 (fun _ => 0)) 74) (.cells (ub 64 (fun _ => 0)) 74)
  have F0 : Fr (fun _ => False) w ((w.alloc (.cells (ub 64 (fun _ => 0)) 74)).alloc (.cells (ub 64 (fun _ => 0)) 74)) := ((Fr.refl _ w).alloc _).alloc _
  have hz0 : w.heap.size < ((w.alloc (.cells (ub 64 (fun _ => 0)) 74)).alloc (.cells (ub 64 (fun _ => 0)) 74)).heap.size := lt_of_block hb0
  have hz1 : w.heap.size + 1 < ((w.alloc (.cells (ub 64 (fun _ => 0)) 74)).alloc (.cells (ub 64 (fun _ => 0)) 74)).heap.size := lt_of_block hb1
  rw [← zero64] at hb0 hb1 F0 hz0 hz1
  have h2 : Came ((w.alloc (.cells _ 74)).alloc (.cells _ 74)) a n c k := h.grow F0 (fun _ _ h => h)
  generalize (w.alloc (.cells _ 74)).alloc (.cells _ 74) = w1 at *
  rw [zero64] at hb0 hb1
  have hE1 := hE.fr F0 (fun h => h)
  go_cut [0] (fun v wx => ∃ a2 c2, v = .slice a2 (HM.fill k).length c2 ∧ (HM.fill k).length ≤ c2 ∧ c2 ≤ maxLen ∧ Lies wx a2 (HM.fill k) ∧ Fr (fun _ => False) w1 wx)
  case first =>
    by_cases hlong : 64 < n
    · have ht : decide ((64 : Int) < (n : Int)) = true := by simp; omega
      go_wp2_with fail
      refine (psum_any _ [k] 1 1 rfl _ ?hp (by unfold maxLen; omega) (by simp [hlen]; omega) (hE1.fr ((Fr.refl (fun _ => False) w1).alloc _) (fun h => h))).mono ?_
      case hp =>
        refine Or.inr ⟨w1.heap.size, 0, rfl, fun j hj => ?_⟩
        match j, hj with
        | 0, _ => exact ⟨a, c, by rw [cell_of_block (heap_alloc_new w1 _)]; simp [hlen], h2.lies.grow ((Fr.refl (fun _ => False) w1).alloc _), by simp; omega, hmx⟩
      rintro e w2 ⟨rfl, F2⟩
      rw [show [k].flatten = k by simp]
      have hone : (sumc k).all (·.oneCell') = true := sumv_one _
      have hsz : (ub 32 (fun _ => 0)).size = (sumc k).size := (ub_size _ _).trans (sumv_size _).symm
      have hnew := heap_alloc_new w2 (.cells (ub 32 (fun _ => 0)) 22)
      rw [← zero32] at hnew hsz
      go_wp2_with (with_reducible refine wpList_store_rowA rfl 22 (.tmp 4) (.tmp 10) rfl w2.heap.size (sumc k) rfl rfl 22 _ hnew Tryd.sizeC hsz hone ?k)
      case k =>
      intro w3 h3 hG3
      go_wp2
      go_meet
      have e1 : HM.fill k = S2.sum k := if_pos (by omega)
      have el : (HM.fill k).length = 32 := by rw [e1, sum_length]
      exact ⟨_, 32, by rw [el], by omega, by unfold maxLen; omega, by rw [e1]; exact sum_lies h3, ((((Fr.refl (fun _ => False) w1).alloc _).trans F2 (fun _ h => h.elim)).alloc _).trans hG3 (fun i hi => Or.inr (by have := F2.size; simp at this; omega))⟩
    · have ht : decide ((64 : Int) < (n : Int)) = false := by simp; omega
      have e1 : HM.fill k = k := if_neg (by omega)
      go_wp2
      go_meet
      exact ⟨a, c, by rw [e1, hlen], by rw [e1]; omega, hmx, by rw [e1]; exact h2.lies, Fr.refl _ _⟩
  case rest =>
    obtain ⟨a2, c2, rfl, k1, k2, hl2, F2⟩ := hcut
    have hf := HM.fill_le k
    have b0 := (F2.block _ (lt_of_block hb0) (fun h => h)).trans hb0
    have b1 := (F2.block _ (lt_of_block hb1) (fun h => h)).trans hb1
    have F3 := F0.trans F2 (fun _ h => h.elim)
    have hz := lt_of_block b1
    have hmin : Nat.min (HM.fill k).length 64 = (HM.fill k).length := Nat.min_eq_left hf
    clear hb0 hb1 hE1 h2 F0 F2
    go_wp2_with (with_reducible refine wpList_copy_splice rfl (.tmp 12) (.tmp 13) 23 23 rfl 5 Tryd.underlying23 Tryd.sizeB (some ⟨w.heap.size + 1, 0, none⟩) a2 64 64 _ c2 rfl rfl (w.heap.size + 1) 0 (ub 64 (fun _ => 0)).toList 74 b1 (bv (HM.fill k)) ?hn ?hpos ?hfit (bv_one _) (w.heap.size + 1) wc (Below.refl _ _) (Nat.le_refl _) ?k)
    case hn => rw [bv_length, hmin]
    case hpos =>
      intro hp
      rcases hl2 with e | ⟨g, o, e, hc⟩
      · rw [e] at hp; simp at hp
      · refine ⟨⟨g, o, none⟩, e, fun j v hv => ?_⟩
        have hlt : j < (HM.fill k).length := by have := (List.getElem?_eq_some_iff.1 hv).1; simpa using this
        rw [addr_add, hc j hlt]
        rw [bv_get' _ j hlt] at hv
        exact hv
    case hfit => simp [ub_toList]; omega
    case k =>
    intro w3 h3 hB3
    have h4 := h3.out
    rw [ub_splice _ hf] at h4
    replace h4 : w3.heap[w.heap.size + 1]? = some (.cells (ub 64 (HM.blk k)) 74 (0, 0)) := h4
    clear h3
    have b3 := (hB3.block w.heap.size (by omega)).trans b0
    have F4 : Fr (fun _ => False) w w3 := ⟨hB3.os.trans F3.os, hB3.tape.trans F3.tape, hB3.output.trans F3.output, Nat.le_trans F3.size hB3.size, fun i hi hs => (hB3.block i (by omega)).trans (F3.block i hi hs)⟩
    have hone : (ub 64 (HM.blk k)).all (·.oneCell') = true := ub_one _ _
    have hsz : (ub 64 (fun _ => 0)).size = (ub 64 (HM.blk k)).size := (ub_size _ _).trans (ub_size _ _).symm
    go_wp2_with (first
      | (with_reducible refine wpList_load_row rfl 74 (.tmp 3) rfl (w.heap.size + 1) rfl 74 (ub 64 (HM.blk k)) (0, 0) _ h4 Tryd.underlying74 rfl Tryd.size64u ?_)
      | (with_reducible refine wpList_store_row rfl 74 (.tmp 2) (.tmp 15) rfl w.heap.size (ub 64 (HM.blk k)) rfl rfl 74 _ b3 Tryd.size64u hsz hone ?_))
    refine bodyPost_ret (results_cell_row rfl _ _ w.heap.size 74 (ub 64 (HM.blk k)) (0, 0) _ rfl (setRow_heap _ _ _ _ _ _ b3) Tryd.underlying74 rfl Tryd.size64u) rfl ?_
    exact ⟨rfl, F4.trans (Fr.setRow (S := fun k => k = w.heap.size) (Fr.refl _ _) rfl _) (fun i hi => Or.inr (by omega))⟩

theorem xor_step (f : Nat → UInt8) (b : UInt8) (k : Nat) (hk : k < 64) : (ub 64 (fun j => if j < k then f j ^^^ b else f j)).setIfInBounds k (.int .u8 (((f k ^^^ b).toNat : Nat) : Int)) = ub 64 (fun j => if j < k + 1 then f j ^^^ b else f j) := by
  rw [ub_set _ _ _ _ hk]
  refine ub_congr fun j hj => ?_
  by_cases h : j = k
  · subst h; rw [if_pos rfl, if_pos (by omega)]
  · rw [if_neg h]
    by_cases h2 : j < k
    · rw [if_pos h2, if_pos (by omega)]
    · rw [if_neg h2, if_neg (by omega)]
theorem xor_u8 (x y : UInt8) : bits .xor .u8 (x.toNat : Int) (y.toNat : Int) = (((x ^^^ y).toNat : Nat) : Int) := by
  have h1 := x.toNat_lt
  have h2 := y.toNat_lt
  have x3 : x.toNat ^^^ y.toNat < 2 ^ 8 := Nat.xor_lt_two_pow (by omega) (by omega)
  have e1 : (BitVec.ofInt 8 (x.toNat : Int)).toNat = x.toNat := by
    rw [BitVec.ofInt_natCast, BitVec.toNat_ofNat]; exact Nat.mod_eq_of_lt (by omega)
  have e2 : (BitVec.ofInt 8 (y.toNat : Int)).toNat = y.toNat := by
    rw [BitVec.ofInt_natCast, BitVec.toNat_ofNat]; exact Nat.mod_eq_of_lt (by omega)
  show IntKind.u8.wrap ((BitVec.ofInt 8 (x.toNat : Int) ^^^ BitVec.ofInt 8 (y.toNat : Int)).toNat : Int) = _
  rw [BitVec.toNat_xor, e1, e2, UInt8.toNat_xor, IntKind.wrap_u8]; omega

set_option maxRecDepth 100000 in
set_option maxHeartbeats 1600000 in
theorem hturned_any (f : Nat → UInt8) (b : UInt8) (v : Int) (hv : v = (b.toNat : Int)) (w : World) :
    Calls Tryd.prog 67 #[.agg (ub 64 f), .int .u8 v] w fun e w' => e = .returned (.slice (some ⟨w.heap.size, 0, none⟩) 64 64) ∧ w'.heap[w.heap.size]? = some (.cells (ub 64 (fun j => f j ^^^ b)) 74 (0, 0)) ∧ Fr (fun _ => False) w w' := by
  have hbb := b.toNat_lt
  subst hv
  go_enter Tryd.func67, Tryd.ntmps67
  go_wp2_with fail
  go_loopw [6] (fun i wr => ∃ k : Nat, k ≤ 64 ∧ i = .int .i64 k ∧ wr.heap[w.heap.size]? = some (.cells (ub 64 (fun j => if j < k then f j ^^^ b else f j)) 74 (0, 0)) ∧ Fr (fun _ => False) w wr) (fun i _ => 64 - (intOf i).toNat)
  case atStart =>
    refine ⟨0, by omega, by simp, ?_, (Fr.refl _ w).alloc _⟩
    rw [heap_alloc_new]
    congr 2
  case round =>
    obtain ⟨k, hk, rfl, hB, hF⟩ := hrel
    by_cases hlt : k < 64
    · have hc : wr.cell? ⟨w.heap.size, k, none⟩ = some (.int .u8 ((f k).toNat : Int)) := by
        rw [cell_of_block hB, ub_get _ _ _ hlt, if_neg (by omega)]
      have hfz := free_of_block hB k
      have hst := xor_step f b k hlt
      go_wp2
      go_roundw
      case rel => exact ⟨k + 1, by omega, by go_num, by rw [block_setCell hB, xor_u8, hst], hF.setCell (Or.inr (Nat.le_refl _)) _⟩
      case measure => simp [intOf]; omega
    · have e1 : k = 64 := by omega
      subst e1
      go_wp2
      go_ret
      refine ⟨rfl, ?_, hF⟩
      rw [hB]
      congr 2
end Go.Proofs.YtbpblheaiancaaaDoor
namespace Go.Proofs.YtbpblheaiancaaaDoor
open Go.RowKit
set_option linter.unusedVariables false

theorem pf_pad5 (c : Nat) : (List.range (S5.padLen c)).map (pf5 c 8) = S5.pad c := by
  have hp : S5.padLen c = 128 - (c % 128 + 16) % 128 + 16 := rfl
  have hl : (S5.pad c).length = S5.padLen c := by simp [S5.pad, S5.be8]; omega
  apply List.ext_getElem?
  intro i
  by_cases h1 : i < S5.padLen c
  · rw [List.getElem?_map, List.getElem?_range h1, Option.map_some]
    unfold pf5 S5.pad
    by_cases h0 : i = 0
    · subst h0; simp
    · rw [if_neg h0]
      obtain ⟨d, rfl⟩ : ∃ d, i = d + 1 := ⟨i - 1, by omega⟩
      rw [List.getElem?_cons_succ]
      by_cases h3 : S5.padLen c ≤ d + 1 + 8
      · rw [if_pos ⟨h3, h1⟩, List.getElem?_append_right (by simp; omega)]
        simp only [List.length_replicate, S5.be8]
        rw [List.getElem?_map, List.getElem?_range (by omega), Option.map_some]
        congr 2
        rw [show 56 - 8 * (d - (S5.padLen c - 9)) = 8 * (S5.padLen c - 1 - (d + 1)) by omega, Nat.pow_mul]
      · rw [if_neg (by omega), List.getElem?_append_left (by simp; omega), List.getElem?_replicate, if_pos (by omega)]
  · rw [List.getElem?_eq_none (by simp; omega), List.getElem?_eq_none (by omega)]


/-- Word j of a state. -/
def sw5 (s : S5.St) (j : Nat) : Nat := s.list.getD j 0
theorem stv_uv5 (s : S5.St) : stv5 s = uv5 8 (sw5 s) := rfl
theorem out_get5 (s : S5.St) (k : Nat) (hk : k < 8) (j : Nat) (hj : j < 8) : (S5.out s).getD (8 * k + j) 0 = (S5.be8 (sw5 s k)).getD j 0 := by
  rcases s with ⟨a, b, c, d, e, f, g, h⟩
  match k, hk, j, hj with
  | 0, _, 0, _ | 0, _, 1, _ | 0, _, 2, _ | 0, _, 3, _ | 0, _, 4, _ | 0, _, 5, _ | 0, _, 6, _ | 0, _, 7, _ | 1, _, 0, _ | 1, _, 1, _ | 1, _, 2, _ | 1, _, 3, _ | 1, _, 4, _ | 1, _, 5, _ | 1, _, 6, _ | 1, _, 7, _ | 2, _, 0, _ | 2, _, 1, _ | 2, _, 2, _ | 2, _, 3, _ | 2, _, 4, _ | 2, _, 5, _ | 2, _, 6, _ | 2, _, 7, _ | 3, _, 0, _ | 3, _, 1, _ | 3, _, 2, _ | 3, _, 3, _ | 3, _, 4, _ | 3, _, 5, _ | 3, _, 6, _ | 3, _, 7, _ | 4, _, 0, _ | 4, _, 1, _ | 4, _, 2, _ | 4, _, 3, _ | 4, _, 4, _ | 4, _, 5, _ | 4, _, 6, _ | 4, _, 7, _ | 5, _, 0, _ | 5, _, 1, _ | 5, _, 2, _ | 5, _, 3, _ | 5, _, 4, _ | 5, _, 5, _ | 5, _, 6, _ | 5, _, 7, _ | 6, _, 0, _ | 6, _, 1, _ | 6, _, 2, _ | 6, _, 3, _ | 6, _, 4, _ | 6, _, 5, _ | 6, _, 6, _ | 6, _, 7, _ | 7, _, 0, _ | 7, _, 1, _ | 7, _, 2, _ | 7, _, 3, _ | 7, _, 4, _ | 7, _, 5, _ | 7, _, 6, _ | 7, _, 7, _ => rfl
theorem be8_get (n j : Nat) (hj : j < 8) : (S5.be8 n).getD j 0 = UInt8.ofNat (n / 2 ^ (56 - 8 * j)) := by
  simp [S5.be8, List.getD, hj]
/-- The words as bytes, of which the first k are laid. -/
def jf5 (s : S5.St) (k idx : Nat) : UInt8 := if idx < k then (S5.out s).getD idx 0 else 0
def sumv5 (s : S5.St) : Array Value := ub 64 (fun j => (S5.out s).getD j 0)
theorem sumv_size5 (s : S5.St) : (sumv5 s).size = 64 := ub_size _ _
theorem sumv_one5 (s : S5.St) : (sumv5 s).all (·.oneCell') = true := ub_one _ _
theorem Tryd.sizeS5 {s : S5.St} : (Tryd.prog.info? 74).map (·.size) = some (sumv5 s).size := Tryd.size64u
theorem jf_step5 (s : S5.St) (i : Nat) (hi : i < 64) : (ub 64 (jf5 s i)).setIfInBounds i (.int .u8 (((S5.out s).getD i 0).toNat : Int)) = ub 64 (jf5 s (i + 1)) := by
  rw [ub_set _ _ _ _ hi]
  apply ub_congr
  intro j hj
  unfold jf5
  by_cases e : j = i
  · subst e; rw [if_pos rfl, if_pos (by omega)]
  · rw [if_neg e]
    by_cases e2 : j < i
    · rw [if_pos e2, if_pos (by omega)]
    · rw [if_neg e2, if_neg (by omega)]
set_option maxRecDepth 100000 in
set_option maxHeartbeats 800000 in
theorem joined_any5 (s : S5.St) (hs : s.ok) (w : World) :
    Calls Tryd.prog 64 #[.agg (stv5 s)] w fun e w' => e = .returned (.agg (sumv5 s)) ∧ Fr (fun _ => False) w w' := by
  have z1 := heap_three w (.cells (stv5 s) 98) (.cells (ub 64 (fun _ => 0)) 74) (.cells (ub 64 (fun _ => 0)) 74)
  have z2 := heap_three1 w (.cells (stv5 s) 98) (.cells (ub 64 (fun _ => 0)) 74) (.cells (ub 64 (fun _ => 0)) 74)
  have z3 := heap_three2 w (.cells (stv5 s) 98) (.cells (ub 64 (fun _ => 0)) 74) (.cells (ub 64 (fun _ => 0)) 74)
  have FZ := (((Fr.refl (fun _ => False) w).alloc (.cells (stv5 s) 98)).alloc (.cells (ub 64 (fun _ => 0)) 74)).alloc (.cells (ub 64 (fun _ => 0)) 74)
  rw [← zero64] at z1 z2 z3 FZ
  have j0 : ub 64 (jf5 s 0) = ub 64 (fun _ => 0) := ub_congr (fun j hj => by unfold jf5; rw [if_neg (by omega)])
  rw [← zero64] at j0
  have J0 := Lib.hid j0
  clear j0
  go_enter Tryd.func64, Tryd.ntmps64
  go_wp2_with fail
  go_loopw [5] (fun i wr => ∃ k : Nat, k ≤ 64 ∧ i = .int .i64 k ∧ wr.heap[w.heap.size]? = some (.cells (stv5 s) 98 (0, 0)) ∧ (∃ rs, wr.heap[w.heap.size + 1]? = some (.cells rs 74 (0, 0)) ∧ rs.size = 64) ∧ wr.heap[w.heap.size + 1 + 1]? = some (.cells (ub 64 (jf5 s k)) 74 (0, 0)) ∧ Fr (fun _ => False) w wr) (fun i _ => 64 - (intOf i).toNat)
  case atStart => exact ⟨0, by omega, by simp, z1, ⟨_, z2, rfl⟩, by rw [J0.out]; exact z3, FZ⟩
  case round =>
    clear z1 z2 z3 FZ J0
    obtain ⟨k, hk, rfl, h1, ⟨rs, h2, hrs⟩, h3, hF⟩ := hrel
    by_cases hlt : k < 64
    · have cw := cell_of_block h1 (k / 8)
      rw [stv_uv5, uv_get5 8 _ _ (by omega)] at cw
      have c3 := cell_of_block h3 k
      rw [ub_get 64 _ _ hlt] at c3
      have f3 := free_of_block h3 k
      have hog := out_get5 s (k / 8) (by omega) (k % 8) (by omega)
      rw [show 8 * (k / 8) + k % 8 = k by omega, be8_get _ _ (by omega)] at hog
      have hst := jf_step5 s k hlt
      rw [hog] at hst
      generalize sw5 s (k / 8) = n at cw hst hog
      have hv : (n : Int) / 2 ^ (56 - k % 8 * 8) % 256 = (((UInt8.ofNat (n / 2 ^ (56 - 8 * (k % 8)))).toNat : Nat) : Int) := by
        rw [UInt8.toNat_ofNat', show k % 8 * 8 = 8 * (k % 8) by omega]; simp
      rw [← hv] at hst
      have q0 : (0 : Int) ≤ (k : Int) := by omega
      have q1 : (k : Int) < 64 := by omega
      have q2 : (0 : Int) ≤ 56 - (k : Int) % 8 * 8 := by omega
      have HS := Lib.hid hst
      clear hst hog hv
      have FB : Fr (fun i => i = w.heap.size + 1 + 1) wr (wr.setCell ⟨w.heap.size + 1 + 1, k, none⟩ (.int .u8 ((n : Int) / 2 ^ (56 - k % 8 * 8) % 256))) := (Fr.refl (fun i => i = w.heap.size + 1 + 1) wr).setCell (Or.inl rfl) _
      have B1 := Lib.hid ((FB.block _ (lt_of_block h1) (by omega)).trans h1)
      have B2 := Lib.hid ((FB.block _ (lt_of_block h2) (by omega)).trans h2)
      have B3 := Lib.hid ((block_setCell h3 k (.int .u8 ((n : Int) / 2 ^ (56 - k % 8 * 8) % 256))).trans (by rw [HS.out]))
      have F3 := hF.trans FB (fun i hi => Or.inr (by omega))
      clear FB h1 h2 h3 hF
      go_wp2_with fail
      exact ⟨⟨k + 1, by omega, rfl, B1.out, ⟨rs, B2.out, hrs⟩, B3.out, F3⟩, by simp [intOf]; omega⟩
    · obtain rfl : k = 64 := by omega
      have e : ub 64 (jf5 s 64) = sumv5 s := ub_congr (fun j hj => by unfold jf5; rw [if_pos hj])
      rw [e] at h3
      have hrs2 : rs.size = (sumv5 s).size := hrs.trans (sumv_size5 s).symm
      have HR := Lib.hid hrs2
      clear e hrs hrs2
      go_wp2_with (first
        | (with_reducible refine wpList_load_row rfl 74 (.tmp 3) rfl (w.heap.size + 1 + 1) rfl 74 (sumv5 s) (0, 0) _ h3 Tryd.underlying74 rfl Tryd.sizeS5 ?_)
        | (with_reducible refine wpList_store_row rfl 74 (.tmp 2) (.tmp 21) rfl (w.heap.size + 1) (sumv5 s) rfl rfl 74 rs h2 Tryd.sizeS5 HR.out (sumv_one5 s) ?_))
      refine bodyPost_ret (results_cell_row rfl _ _ (w.heap.size + 1) 74 (sumv5 s) (0, 0) _ rfl (setRow_heap _ _ _ _ _ _ h2) Tryd.underlying74 rfl Tryd.sizeS5) rfl ?_
      exact ⟨rfl, hF.trans (Fr.setRow (S := fun k => k = w.heap.size + 1) (Fr.refl _ _) rfl _) (fun i hi => Or.inr (by omega))⟩
end Go.Proofs.YtbpblheaiancaaaDoor
namespace Go.Proofs.YtbpblheaiancaaaDoor
open Go.RowKit
set_option linter.unusedVariables false

set_option maxRecDepth 100000 in
theorem xor_lies {w : World} {b : Nat} {f : Nat → UInt8} {x : UInt8} {t : TypeId} {fr : Nat × Nat} (h : w.heap[b]? = some (.cells (ub 64 (fun j => f j ^^^ x)) t fr)) : Lies w (some ⟨b, 0, none⟩) (HM.xor f x) :=
  ub_lies h (by rw [HM.xor_length]; omega) (fun j hj => by rw [HM.xor_length] at hj; simp [HM.xor, List.getD, hj])
def HM.inn (k m : List UInt8) : List UInt8 := HM.xor (HM.blk k) 0x36 ++ m
def HM.out (k m : List UInt8) : List UInt8 := HM.xor (HM.blk k) 0x5c ++ S2.sum (HM.inn k m)
set_option maxRecDepth 100000 in
theorem HM.of_eq (k m : List UInt8) : HM.of k m = S2.sum (HM.out k m) := rfl

theorem run_load64 {w : World} {b : Nat} {f : Nat → UInt8} {t : TypeId} {fr : Nat × Nat} (h : w.heap[b]? = some (.cells (ub 64 f) t fr)) : (loadCells ⟨b, 0, none⟩ 64).run Tryd.prog w = .ok (ub 64 f) w := by
  have := run_loadCells_list (P := Tryd.prog) w ⟨b, 0, none⟩ (ub 64 f).toList (fun j v hv => by
    rw [addr_add, Nat.zero_add, cell_of_block h, ← Array.getElem?_toList]
    exact hv)
  simpa [ub_size] using this
set_option maxRecDepth 100000 in
theorem run_store32 {w : World} {b : Nat} {cs : Array Value} {l : List UInt8} {t : TypeId} (h : w.heap[b]? = some (.cells cs t (0, 0))) (hs : cs.size = 32) : (storeCells ⟨b, 0, none⟩ (sumc l).toList).run Tryd.prog w = .ok () (w.setRow b (sumc l)) := by
  have h1 := sumv_size (S2.hw (l ++ S2.pad l.length))
  have hone : (sumc l).all (·.oneCell') = true := sumv_one _
  have := run_storeCells_at Tryd.prog b 0 t (sumc l).toList 0 cs w h (by simp [hs]; exact Nat.le_of_eq h1) (fun v hv => (Array.all_eq_true_iff_forall_mem.1 hone) v (by simpa using hv))
  simp only [Nat.add_zero, List.take_zero, List.nil_append, Nat.zero_add] at this
  rw [this]
  have e : cs.toList.drop (sumc l).toList.length = [] := List.drop_eq_nil_of_le (by rw [Array.length_toList, Array.length_toList, hs]; exact Nat.le_of_eq h1.symm)
  rw [e]
  simp
set_option maxRecDepth 100000 in
theorem of_last {w9 : World} {b10 b9 : Nat} {k : List UInt8} {L : List UInt8} {t1 t2 : TypeId} {f1 f2 : Nat × Nat} (h10 : w9.heap[b10]? = some (.cells (ub 64 (fun j => HM.blk k j ^^^ 0x5c)) t1 f1)) (h9 : w9.heap[b9]? = some (.cells (sumc (HM.inn k L)) t2 f2)) (hE : Env w9) :
    Calls Tryd.prog 36 #[.slice (some ⟨w9.heap.size, 0, none⟩) 2 2] (w9.alloc (.cells #[.slice (some ⟨b10, 0, none⟩) 64 64, .slice (some ⟨b9, 0, none⟩) 32 32] 23)) fun e w' => e = .returned (.agg (sumc (HM.out k L))) ∧ Fr (fun _ => False) w9 w' := by
  have F0 := (Fr.refl (fun _ => False) w9).alloc (.cells #[.slice (some ⟨b10, 0, none⟩) 64 64, .slice (some ⟨b9, 0, none⟩) 32 32] 23)
  have c1 : Came w9 (some ⟨b10, 0, none⟩) 64 64 (HM.xor (HM.blk k) 0x5c) := ⟨HM.xor_length _ _, Nat.le_refl _, by unfold maxLen; omega, xor_lies h10, fun h => by cases h⟩
  have c2 : Came w9 (some ⟨b9, 0, none⟩) 32 32 (S2.sum (HM.inn k L)) := ⟨sum_length _, Nat.le_refl _, by unfold maxLen; omega, sum_lies h9, fun h => by cases h⟩
  refine (psum_any _ [HM.xor (HM.blk k) 0x5c, S2.sum (HM.inn k L)] 2 2 rfl _ (parts2 (heap_alloc_new w9 _) (c1.grow F0 (fun _ _ h => h)) (c2.grow F0 (fun _ _ h => h))) (by unfold maxLen; omega) (by simp [HM.xor_length, sum_length]) (hE.fr F0 (fun h => h))).mono ?_
  rintro e w1 ⟨rfl, F1⟩
  refine ⟨?_, F0.trans F1 (fun _ h => h.elim)⟩
  rw [show [HM.xor (HM.blk k) 0x5c, S2.sum (HM.inn k L)].flatten = HM.out k L by simp [HM.out]]
set_option maxRecDepth 100000 in
set_option maxHeartbeats 1600000 in
theorem hof_any (a a2 : Option Addr) (k : List UInt8) (n c : Nat) (L : List (List UInt8)) (m c2 : Nat) (w : World) (h : Came w a n c k) (hn2 : n ≤ 1152921504606846976) (hp : Parts w a2 L) (hm : L.length = m) (hm2 : m ≤ maxLen)
    (hl : L.flatten.length ≤ 1000000000000000000) (hE : Env w) :
    Calls Tryd.prog 42 #[.slice a n c, .slice a2 m c2] w fun e w' => e = .returned (.agg (sumc (HM.out k L.flatten))) ∧ Fr (fun _ => False) w w' := by
  have hm3 : m ≤ 9223372036854775807 := by unfold maxLen at hm2; omega
  go_enter Tryd.func42, Tryd.ntmps42
  go_wp2_with fail
  have hb0 := heap_alloc_new w (.cells (ub 32 (fun _ => 0)) 22)
  have F0 : Fr (fun _ => False) w (w.alloc (.cells (ub 32 (fun _ => 0)) 22)) := (Fr.refl _ w).alloc _
  rw [← zero32] at hb0 F0
  have h0 := h.grow F0 (fun _ _ h => h)
  have hE0 := hE.fr F0 (fun h => h)
  generalize (w.alloc (.cells _ 22)) = w0 at *
  rw [zero32] at hb0
  refine (filled_any a k n c w0 h0 hn2 hE0).mono ?_
  rintro e w1 ⟨rfl, F1⟩
  have b1 := (F1.block _ (lt_of_block hb0) (fun h => h)).trans hb0
  have F01 := F0.trans F1 (fun _ h => h.elim)
  clear h0 hE0 hb0 F0 F1
  have hone : (ub 64 (HM.blk k)).all (·.oneCell') = true := ub_one _ _
  have hsz : (ub 64 (fun _ => 0)).size = (ub 64 (HM.blk k)).size := (ub_size _ _).trans (ub_size _ _).symm
  have hnew := heap_alloc_new w1 (.cells (ub 64 (fun _ => 0)) 74)
  rw [← zero64] at hnew hsz
  go_wp2_with (with_reducible refine wpList_store_rowA rfl 74 (.tmp 5) (.tmp 11) rfl w1.heap.size (ub 64 (HM.blk k)) rfl rfl 74 _ hnew Tryd.size64u hsz hone ?k1)
  case k1 =>
  intro w2 b5 hG2
  have F12 : Fr (fun _ => False) w1 w2 := ((Fr.refl (fun _ => False) w1).alloc _).trans hG2 (fun i hi => Or.inr (by omega))
  have F02 := F01.trans F12 (fun _ h => h.elim)
  have b2 := (F12.block _ (lt_of_block b1) (fun h => h)).trans b1
  have z1 := lt_of_block b1
  have z5 := lt_of_block b5
  generalize hB5 : w1.heap.size = B5 at *
  clear hnew hG2 hsz
  go_wp2_with fail
  refine (new_any _).mono ?_
  rintro e w3 ⟨rfl, H3, F3⟩
  have b53 := (F3.block _ (lt_of_block b5) (fun h => h)).trans b5
  have b33 := (F3.block _ (lt_of_block b2) (fun h => h)).trans b2
  have F03 := F02.trans F3 (fun _ h => h.elim)
  generalize hBH : w2.heap.size = BH at *
  have z3 := H3.lt
  go_wp2_with (with_reducible refine wpList_load_row rfl 74 (.tmp 5) rfl B5 rfl 74 (ub 64 (HM.blk k)) (0, 0) _ b53 Tryd.underlying74 rfl Tryd.size64u ?_)
  refine (hturned_any (HM.blk k) 0x36 54 rfl w3).mono ?_
  rintro e w4 ⟨rfl, b4, F4⟩
  have H4 := H3.fr F4 (fun h => h)
  have F04 := F03.trans F4 (fun _ h => h.elim)
  have hE4 := hE.fr F04 (fun h => h)
  have hl4 := xor_lies b4
  have z4 := F4.size
  go_wp2_with fail
  refine (write_any' BH [] (HM.xor (HM.blk k) 54) _ 64 64 (HM.xor_length _ _) w4 H4 hl4 (Nat.le_refl _) (by unfold maxLen; omega) (Or.inr ?hnb) (by simp) hE4.tab hE4.lt (by have := hE.lt; omega)).mono ?_
  case hnb =>
    rintro ⟨ad, e, hb⟩
    cases e
    simp at hb
    omega
  rintro e w5 ⟨rfl, H5, G5⟩
  rw [List.nil_append] at H5
  have F05 : Fr (fun _ => False) w w5 := F04.trans G5 (fun i hi => Or.inr (by omega))
  have b55 := (G5.block B5 (by omega) (by omega)).trans ((F4.block _ (lt_of_block b53) (fun h => h)).trans b53)
  have b35 := (G5.block w.heap.size (by omega) (by omega)).trans ((F4.block _ (lt_of_block b33) (fun h => h)).trans b33)
  clear b1 b2 b5 b53 b33 b4 hl4 H3 H4 hE4 F01 F12 F02 F03 F04
  go_wp2_with fail
  go_loopw [19] (fun i wr => ∃ q : Nat, q ≤ m ∧ i = .int .i64 q ∧ HIs wr BH (HM.xor (HM.blk k) 54 ++ (L.take q).flatten) ∧ wr.heap[B5]? = some (.cells (ub 64 (HM.blk k)) 74 (0, 0)) ∧ wr.heap[w.heap.size]? = some (.cells (ub 32 (fun _ => 0)) 22 (0, 0)) ∧ Fr (fun _ => False) w wr) (fun i _ => m - (intOf i).toNat)
  case atStart => exact ⟨0, by omega, by simp, by simpa using H5, b55, b35, F05⟩
  case round =>
    clear H5 b55 b35 F05 F4 F3 G5
    obtain ⟨q, hq, rfl, hI, hb5, hb3, hF⟩ := hrel
    have hE1 := hE.fr hF (fun h => h)
    have hxl := HM.xor_length (HM.blk k) 54
    have z6 := hI.lt
    by_cases hlt : q < m
    · have hkL : q < L.length := by omega
      obtain ⟨p, hp1⟩ : ∃ p, p = L[q]'hkL := ⟨_, rfl⟩
      have e2 : L.take (q + 1) = L.take q ++ [p] := by rw [hp1, List.take_succ_eq_append_getElem hkL]
      have hsub : ((L.take q).flatten).length + p.length ≤ 1000000000000000000 := by
        have e3 : L.flatten = (L.take (q + 1)).flatten ++ (L.drop (q + 1)).flatten := by rw [← List.flatten_append, List.take_append_drop]
        have e4 : (L.take (q + 1)).flatten = (L.take q).flatten ++ p := by rw [e2, List.flatten_append]; simp
        rw [e3, e4, List.length_append, List.length_append] at hl
        omega
      obtain ⟨g, o, ha, hc⟩ := hp.resolve_left (fun e => by rw [e] at hm; simp at hm; omega)
      obtain ⟨aj, cj, h1, h2, h3, h4⟩ := hc q hkL
      rw [← hp1] at h1 h2 h3
      clear hp1
      subst ha
      have h1' := hF.cellSome (p := ⟨g, o + q, none⟩) (fun h => h) h1
      have hnb : p = [] ∨ ¬ inBlk aj BH := by
        by_cases e : p = []
        · exact Or.inl e
        · exact Or.inr fun hb => by have := h2.lt e _ hb; omega
      have hz := hE.lt
      go_wp2_with fail
      refine (write_any BH _ p aj cj _ hI (h2.grow hF) h3 h4 hnb (by rw [List.length_append, hxl]; omega) hE1.tab hE1.lt (by omega)).mono ?_
      rintro e w6 ⟨rfl, hI2, hG2⟩
      have hF2 : Fr (fun _ => False) w w6 := hF.trans hG2 (fun i hi => Or.inr (by omega))
      have hI3 : HIs w6 BH (HM.xor (HM.blk k) 54 ++ (L.take (q + 1)).flatten) := by
        rw [e2, List.flatten_append]
        simpa using hI2
      have hb52 := (hG2.block B5 (lt_of_block hb5) (by omega)).trans hb5
      have hb32 := (hG2.block w.heap.size (lt_of_block hb3) (by omega)).trans hb3
      clear hI hF hI2 hG2 h1 h1' hE1 e2 hb5 hb3
      go_wp2
      go_roundw
      case rel => exact ⟨q + 1, by omega, by go_num, hI3, hb52, hb32, hF2⟩
      case measure => simp [intOf]; omega
    · have e1 : L.take q = L := List.take_of_length_le (by omega)
      rw [e1] at hI
      clear e1
      have ht : decide ((q : Int) < (m : Int)) = false := by simp; omega
      go_wp2_with fail
      refine (hsum_any BH _ _ hI (by rw [List.length_append, hxl]; omega) hE1).mono ?_
      rintro e w7 ⟨rfl, F7⟩
      replace hb5 := (F7.block _ (lt_of_block hb5) (fun h => h)).trans hb5
      replace hb3 := (F7.block _ (lt_of_block hb3) (fun h => h)).trans hb3
      replace hF := hF.trans F7 (fun _ h => h.elim)
      have hin : HM.xor (HM.blk k) 54 ++ L.flatten = HM.inn k L.flatten := rfl
      rw [hin]
      have hone : (sumc (HM.inn k L.flatten)).all (·.oneCell') = true := sumv_one _
      have hsz : (ub 32 (fun _ => 0)).size = (sumc (HM.inn k L.flatten)).size := (ub_size _ _).trans (sumv_size _).symm
      have hnew := heap_alloc_new w7 (.cells (ub 32 (fun _ => 0)) 22)
      have z7 := F7.size
      rw [← zero32] at hnew hsz
      clear F7 hI hE1
      go_wp2_with (with_reducible refine wpList_store_rowA rfl 22 (.tmp 9) (.tmp 28) rfl w7.heap.size (sumc (HM.inn k L.flatten)) rfl rfl 22 _ hnew Tryd.sizeC hsz hone ?k1)
      case k1 =>
      intro w8 b9 hG8
      have F78 : Fr (fun _ => False) w7 w8 := ((Fr.refl (fun _ => False) w7).alloc _).trans hG8 (fun i hi => Or.inr (by omega))
      have b59 := (F78.block _ (lt_of_block hb5) (fun h => h)).trans hb5
      have b39 := (F78.block _ (lt_of_block hb3) (fun h => h)).trans hb3
      have F8 := hF.trans F78 (fun _ h => h.elim)
      clear hb5 hb3 hF F78 hG8 hnew hsz hone
      go_wp2_with fail
      generalize hB9 : w7.heap.size = B9 at *
      have b58 : w8.drew.heap[B5]? = some (.cells (ub 64 (HM.blk k)) 74 (0, 0)) := b59
      have hE8 := hE.fr F8.drew (fun h => h)
      have z8 : w.heap.size < w8.drew.heap.size := lt_of_block (w := w8.drew) b39
      have z9 : B9 < w8.drew.heap.size := lt_of_block (w := w8.drew) b9
      refine wp_region_any (by kernel_rfl) ?_
      change wpAny _ _ _ _ _ _ _ (World.drew w8)
      refine wpAny_take (i := 2) (v := .slice (some ⟨B9, 0, none⟩) 32 32) rfl (by kernel_rfl) (by kernel_rfl) (by kernel_rfl) (fun _ _ _ h => h) (Or.inl ⟨by rfl, ?_⟩) ?_
      · intro w
        go_simp
      refine wpAny_ready (rs := [0]) (by kernel_rfl) (by simp) ?_
      refine AllReady.cons rfl (fun K hK => ?_) AllReady.nil
      refine wp_load_row 74 (.tmp 5) rfl B5 rfl 74 (ub 64 (HM.blk k)) (0, 0) _ b58 Tryd.underlying74 rfl Tryd.size64u ?_
      refine hK _ _ ?_; clear hK K
      refine wpAny_ready (rs := [1]) (by kernel_rfl) (by simp) ?_
      refine AllReady.cons rfl (fun K hK => ?_) AllReady.nil
      go_simp
      refine (hturned_any (HM.blk k) 0x5c 92 rfl _).mono ?_
      rintro e w9 ⟨rfl, b10, F9⟩
      have b99 := (F9.block _ z9 (fun h => h)).trans b9
      have hE9 := hE8.fr F9 (fun h => h)
      have b40 := (F9.block _ z8 (fun h => h)).trans b39
      go_simp
      refine hK _ _ ?_; clear hK K
      refine wpAny_ready (rs := [3]) (by kernel_rfl) (by simp) ?_
      refine AllReady.cons rfl (fun K hK => ?_) AllReady.nil
      go_simp
      refine hK _ _ ?_; clear hK K
      refine wpAny_ready (rs := [4]) (by kernel_rfl) (by simp) ?_
      refine AllReady.cons rfl (fun K hK => ?_) AllReady.nil
      go_simp
      refine (of_last b10 b99 hE9).mono ?_
      rintro e w10 ⟨rfl, F10⟩
      have b41 := (F10.block _ (lt_of_block b40) (fun h => h)).trans b40
      have hsz : (ub 32 (fun _ => 0)).size = (sumc (HM.out k L.flatten)).size := (ub_size _ _).trans (sumv_size _).symm
      have hone : (sumc (HM.out k L.flatten)).all (·.oneCell') = true := sumv_one _
      go_simp
      refine hK _ _ ?_; clear hK K
      refine wpAny_ready (rs := [5]) (by kernel_rfl) (by simp) ?_
      refine AllReady.cons rfl (fun K hK => ?_) AllReady.nil
      refine wp_store_row 22 (.tmp 4) (.tmp 33) rfl w.heap.size (sumc (HM.out k L.flatten)) rfl rfl 22 _ b41 Tryd.sizeC hsz hone ?_
      refine hK _ _ ?_; clear hK K
      refine wpAny_done (by kernel_rfl) ?_ _
      go_wp2
      refine bodyPost_ret (results_cell_row rfl _ _ w.heap.size 22 (sumc (HM.out k L.flatten)) (0, 0) _ rfl (setRow_heap _ _ _ _ _ _ b41) Tryd.underlying22 rfl Tryd.sizeC) rfl ?_
      exact ⟨rfl, ((F8.drew.trans F9 (fun _ h => h.elim)).trans F10 (fun _ h => h.elim)).trans (Fr.setRow (S := fun k => k = w.heap.size) (Fr.refl _ _) rfl _) (fun i hi => Or.inr (by omega))⟩
end Go.Proofs.YtbpblheaiancaaaDoor
namespace Go.Proofs.YtbpblheaiancaaaDoor
open Go.RowKit
set_option linter.unusedVariables false

set_option maxRecDepth 100000 in
theorem wp_app {P : Program} {o : Oper} {a : Act} {w : World} {K : Act → World → Prop} {Q : Exit → Act → World → Prop} (s x : Operand) (t tx : TypeId)
    (ho : o.op = .call { callee := .builtin .append, args := #[s, x], argTypes := #[t, tx] })
    (base : Nat) (e : TypeId) (i : TypeInfo) (z : Value) (size bytes : Nat) (ht : P.underlying t = some (.slice e)) (hi : P.info? e = some i) (hz : i.zero = some z)
    (hsize : i.size = size) (hby : i.bytes = bytes) (hzs : z.cells.size = size) (hsz : 0 < size)
    (v : Value) (n : Nat) (xs : List Value) (hs : a.eval s = v) (hown : w.ownsRow base e size v n xs)
    (xv : Value) (hx : a.eval x = xv) (m : Nat) (news : List Value) (hsrc : Src P size tx xv m news w)
    (h63 : n + m ≤ maxLen) (hbytes : (n + m) * bytes ≤ 140737488355328) (hbase : base ≤ w.heap.size)
    (h : ∀ v2 w2, w2.ownsRow base e size v2 (n + m) (xs ++ news) → w.grownBy w2 v.ownBlock → (v2.ownBlock = v.ownBlock ∨ v2.ownBlock = some w.heap.size) → K (a.put o.dst v2) w2) : o.wp P a w K Q := by
  obtain ⟨v2, w2, hr, h2, h3, h4⟩ := run_app (P := P) w base t tx o.type e i z size bytes ht hi hz hsize hby hzs hsz v n xs hown xv m news hsrc h63 hbytes hbase
  unfold Oper.wp execOp
  simp only [ho, resolve, invoke, builtin, Sem.run_bind, Sem.run_pure, Result.andThen_ok, List.map_toArray, List.map_cons, List.map_nil, hs, hx, hr]
  exact h v2 w2 h2 h3 h4

set_option maxRecDepth 100000 in
theorem bits_u8 (x y : UInt8) : bits .xor .u8 (x.toNat : Int) (y.toNat : Int) = (((x ^^^ y).toNat : Nat) : Int) ∧ bits .or .u8 (x.toNat : Int) (y.toNat : Int) = (((x ||| y).toNat : Nat) : Int) := by
  refine ⟨xor_u8 x y, ?_⟩
  have h1 := x.toNat_lt
  have h2 := y.toNat_lt
  have x3 : x.toNat ||| y.toNat < 2 ^ 8 := Nat.or_lt_two_pow (by omega) (by omega)
  have e1 : (BitVec.ofInt 8 (x.toNat : Int)).toNat = x.toNat := by
    rw [BitVec.ofInt_natCast, BitVec.toNat_ofNat]; exact Nat.mod_eq_of_lt (by omega)
  have e2 : (BitVec.ofInt 8 (y.toNat : Int)).toNat = y.toNat := by
    rw [BitVec.ofInt_natCast, BitVec.toNat_ofNat]; exact Nat.mod_eq_of_lt (by omega)
  show IntKind.u8.wrap ((BitVec.ofInt 8 (x.toNat : Int) ||| BitVec.ofInt 8 (y.toNat : Int)).toNat : Int) = _
  rw [BitVec.toNat_or, e1, e2, UInt8.toNat_or, IntKind.wrap_u8]; omega
set_option maxRecDepth 100000 in
theorem or_zero (u x y : UInt8) : u ||| (x ^^^ y) = 0 ↔ u = 0 ∧ x = y := by
  constructor
  · intro h
    constructor
    · have := congrArg UInt8.toBitVec h
      apply UInt8.eq_of_toBitVec_eq
      simp at this ⊢
      bv_omega
    · have := congrArg UInt8.toBitVec h
      apply UInt8.eq_of_toBitVec_eq
      simp at this ⊢
      bv_omega
  · rintro ⟨rfl, rfl⟩
    simp
set_option maxRecDepth 100000 in
theorem took (x y : List UInt8) (k : Nat) (hx : k < x.length) (hy : k < y.length) : (x.take (k + 1) = y.take (k + 1)) ↔ x.take k = y.take k ∧ x[k] = y[k] := by
  rw [List.take_succ_eq_append_getElem hx, List.take_succ_eq_append_getElem hy]
  constructor
  · intro h
    have := List.append_inj h (by simp; omega)
    exact ⟨this.1, by simpa using this.2⟩
  · rintro ⟨h1, h2⟩
    rw [h1, h2]

set_option maxRecDepth 100000 in
set_option maxHeartbeats 1600000 in
theorem same_any (a a2 : Option Addr) (x y : List UInt8) (n n2 c c2 : Nat) (w : World) (h : Came w a n c x) (h2 : Came w a2 n2 c2 y) :
    Calls Tryd.prog 44 #[.slice a n c, .slice a2 n2 c2] w fun e w' => e = .returned (.bool (decide (x = y))) ∧ Fr (fun _ => False) w w' := by
  have hn3 : n ≤ 9223372036854775807 := by have := h.le; have := h.mx; unfold maxLen at this; omega
  have hl1 := h.len
  have hl2 := h2.len
  go_enter Tryd.func44, Tryd.ntmps44
  go_upto_if 11 with fail
  by_cases hne : n = n2
  · subst hne
    go_wp2_with fail
    go_loopw [5, 14] (fun v i wr => ∃ (k : Nat) (u : UInt8), k ≤ n ∧ i = .int .i64 k ∧ v = .int .u8 (u.toNat : Int) ∧ (u = 0 ↔ x.take k = y.take k) ∧ Fr (fun _ => False) w wr) (fun _ i _ => n - (intOf i).toNat)
    case atStart => exact ⟨0, 0, by omega, by simp, rfl, by simp, Fr.refl _ w⟩
    case round =>
      obtain ⟨k, u, hk, rfl, rfl, hu, hF⟩ := hrel
      by_cases hlt : k < n
      · have hx : k < x.length := by omega
        have hy : k < y.length := by omega
        have cx := h.lies.grow hF
        have cy := h2.lies.grow hF
        obtain ⟨g, o, rfl, hc⟩ := cx.resolve_left (fun e => by rw [e] at hx; simp at hx)
        obtain ⟨g2, o2, rfl, hc2⟩ := cy.resolve_left (fun e => by rw [e] at hy; simp at hy)
        have k1 := hc k hx
        have k2 := hc2 k hy
        have ht := took x y k hx hy
        generalize x[k] = xk at k1 ht
        generalize y[k] = yk at k2 ht
        clear hc hc2 cx cy
        go_wp2_with fail
        go_quiet (fail)
        go_wp2
        go_roundw
        case rel =>
          refine ⟨k + 1, u ||| (xk ^^^ yk), by omega, by go_num, ?_, ?_, hF.drewN _⟩
          · first | (rw [(bits_u8 xk yk).1, (bits_u8 u _).2]) | (simp only [← UInt8.toNat_xor, (bits_u8 u (xk ^^^ yk)).2])
          · rw [or_zero, hu, ht]
        case measure => simp [intOf]; omega
      · have e1 : x.take k = x := List.take_of_length_le (by omega)
        have e2 : y.take k = y := List.take_of_length_le (by omega)
        rw [e1, e2] at hu
        have ht : decide ((k : Int) < (n : Int)) = false := by simp; omega
        have hz : ((u.toNat : Int) == 0) = decide (x = y) := by
          rw [Bool.eq_iff_iff]
          simp only [beq_iff_eq, decide_eq_true_eq, ← hu]
          constructor
          · intro h
            exact UInt8.toNat_inj.1 (by simpa using h)
          · rintro rfl; rfl
        go_wp2
        go_ret
        exact ⟨rfl, hF⟩
  · have ht : ((n : Int) != (n2 : Int)) = true := by simp; omega
    have e : decide (x = y) = false := decide_eq_false (fun e => hne (by rw [← hl1, ← hl2, e]))
    go_wp2
    go_ret
    exact ⟨by rw [e]; rfl, Fr.refl _ _⟩
end Go.Proofs.YtbpblheaiancaaaDoor
namespace Go.Proofs.YtbpblheaiancaaaDoor
open Go.RowKit
set_option linter.unusedVariables false

/-- The bytes of the known example. -/
def jefe : List UInt8 := [74, 101, 102, 101]
def what : List UInt8 := [119, 104, 97, 116, 32, 100, 111, 32, 121, 97, 32, 119, 97, 110, 116, 32]
def noth : List UInt8 := [102, 111, 114, 32, 110, 111, 116, 104, 105, 110, 103, 63]
set_option maxRecDepth 100000 in
theorem mark_jefe : ((S2.sum (HM.out jefe (what ++ noth))).getD 0 0, (S2.sum (HM.out jefe (what ++ noth))).getD 1 0, (S2.sum (HM.out jefe (what ++ noth))).getD 31 0) = (0x5B, 0xDC, 0x43) := by kernel_rfl

theorem const_came {w : World} {b n : Nat} {l : List UInt8} {t : TypeId} {fr : Nat × Nat} (h : w.heap[b]? = some (.cells (bv l).toArray t fr)) (hn : l.length = n) (hm : n ≤ maxLen) : Came w (some ⟨b, 0, none⟩) n n l := by
  subst hn
  refine ⟨rfl, Nat.le_refl _, hm, Or.inr ⟨b, 0, rfl, fun j hj => ?_⟩, fun h => by cases h⟩
  rw [Nat.zero_add, cell_of_block h, List.getElem?_toArray, bv_get' _ _ hj]

set_option maxRecDepth 100000 in
theorem eJ : (#[.int .u8 74, .int .u8 101, .int .u8 102, .int .u8 101] : Array Value) = (bv jefe).toArray := by kernel_rfl
theorem eW : (#[.int .u8 119, .int .u8 104, .int .u8 97, .int .u8 116, .int .u8 32, .int .u8 100, .int .u8 111, .int .u8 32, .int .u8 121, .int .u8 97, .int .u8 32, .int .u8 119, .int .u8 97, .int .u8 110, .int .u8 116, .int .u8 32] : Array Value) = (bv what).toArray := by kernel_rfl
theorem eN : (#[.int .u8 102, .int .u8 111, .int .u8 114, .int .u8 32, .int .u8 110, .int .u8 111, .int .u8 116, .int .u8 104, .int .u8 105, .int .u8 110, .int .u8 103, .int .u8 63] : Array Value) = (bv noth).toArray := by kernel_rfl
set_option maxRecDepth 100000 in
theorem marks_call (w : World) (hE : Env w) : Calls Tryd.prog 42 #[.slice (some ⟨w.heap.size, 0, none⟩) 4 4, .slice (some ⟨w.heap.size + 1 + 1 + 1, 0, none⟩) 2 2]
    ((((w.alloc (.cells (bv jefe).toArray 5 (4, 5))).alloc (.cells (bv what).toArray 5 (16, 17))).alloc (.cells (bv noth).toArray 5 (12, 13))).alloc (.cells #[.slice (some ⟨w.heap.size + 1, 0, none⟩) 16 16, .slice (some ⟨w.heap.size + 1 + 1, 0, none⟩) 12 12] 23))
    fun e w' => e = .returned (.agg (sumc (HM.out jefe (what ++ noth)))) ∧ Fr (fun _ => False) w w' := by
  have hF : Fr (fun _ => False) w _ := ((((Fr.refl (fun _ => False) w).alloc (.cells (bv jefe).toArray 5 (4, 5))).alloc (.cells (bv what).toArray 5 (16, 17))).alloc (.cells (bv noth).toArray 5 (12, 13))).alloc (.cells #[.slice (some ⟨w.heap.size + 1, 0, none⟩) 16 16, .slice (some ⟨w.heap.size + 1 + 1, 0, none⟩) 12 12] 23)
  have b0 := heap_three w (.cells (bv jefe).toArray 5 (4, 5)) (.cells (bv what).toArray 5 (16, 17)) (.cells (bv noth).toArray 5 (12, 13))
  have b1 := heap_three1 w (.cells (bv jefe).toArray 5 (4, 5)) (.cells (bv what).toArray 5 (16, 17)) (.cells (bv noth).toArray 5 (12, 13))
  have b2 := heap_three2 w (.cells (bv jefe).toArray 5 (4, 5)) (.cells (bv what).toArray 5 (16, 17)) (.cells (bv noth).toArray 5 (12, 13))
  have hs : (((w.alloc (.cells (bv jefe).toArray 5 (4, 5))).alloc (.cells (bv what).toArray 5 (16, 17))).alloc (.cells (bv noth).toArray 5 (12, 13))).heap.size = w.heap.size + 1 + 1 + 1 := by simp
  generalize ((w.alloc (.cells (bv jefe).toArray 5 (4, 5))).alloc (.cells (bv what).toArray 5 (16, 17))).alloc (.cells (bv noth).toArray 5 (12, 13)) = w3 at *
  rw [← hs]
  have F3 := (Fr.refl (fun _ => False) w3).alloc (.cells #[.slice (some ⟨w.heap.size + 1, 0, none⟩) 16 16, .slice (some ⟨w.heap.size + 1 + 1, 0, none⟩) 12 12] 23)
  have c0 := (const_came b0 (show jefe.length = 4 by rfl) (by unfold maxLen; omega)).grow F3 (fun _ _ h => h)
  have c1 := (const_came b1 (show what.length = 16 by rfl) (by unfold maxLen; omega)).grow F3 (fun _ _ h => h)
  have c2 := (const_came b2 (show noth.length = 12 by rfl) (by unfold maxLen; omega)).grow F3 (fun _ _ h => h)
  refine (hof_any _ _ jefe 4 4 [what, noth] 2 2 _ c0 (by omega) (parts2 (heap_alloc_new w3 _) c1 c2) rfl (by unfold maxLen; omega) (by decide) (hE.fr hF (fun h => h))).mono ?_
  rintro e w1 ⟨rfl, F1⟩
  exact ⟨by rw [show [what, noth].flatten = what ++ noth by simp], hF.trans F1 (fun _ h => h.elim)⟩

end Go.Proofs.YtbpblheaiancaaaDoor
namespace Go.Proofs.YtbpblheaiancaaaDoor
open Go.RowKit
set_option linter.unusedVariables false

theorem Came.str2 {w : World} {a : Option Addr} {n c : Nat} {l : List UInt8} (h : Came w a n c l) : (convert 23 9 (.slice a n c)).run Tryd.prog w = .ok (.string ⟨l.toArray⟩) w := by
  have := run_str h.lies c 9 Tryd.underlying9
  rw [h.len] at this
  exact this
def noughts2 (n : Nat) : List UInt8 := List.replicate n 0
theorem made_noughts2 (n : Nat) : (madeCells #[Value.int .u8 0] n).toList = bv (noughts2 n) := by
  apply List.ext_getElem
  · simp [madeCells, noughts2, bv]
  · intro i h1 h2
    simp [madeCells, noughts2, bv, Nat.mod_one]
theorem parts1 {w : World} {b : Nat} {a : Option Addr} {n c : Nat} {x : List UInt8} {t : TypeId} {fr : Nat × Nat} (h : w.heap[b]? = some (.cells #[.slice a n c] t fr)) (hx : Came w a n c x) : Parts w (some ⟨b, 0, none⟩) [x] := by
  refine Or.inr ⟨b, 0, rfl, fun j hj => ?_⟩
  match j, hj with
  | 0, _ => exact ⟨a, c, by rw [cell_of_block h]; simp [hx.len], hx.lies, by have := hx.le; have := hx.len; simp; omega, hx.mx⟩
theorem came_own2 {w : World} {B n : Nat} {a : Option Addr} {c : Nat} {l : List UInt8} (h : w.ownsRow B 5 1 (.slice a n c) n (bv l)) : Came w a n c l := by
  obtain ⟨h1, h2, h3, h4⟩ := lies_own h
  refine ⟨h1.symm, h2, h3, h4, fun e => ?_⟩
  rcases h.2 with ⟨e2, h0⟩ | ⟨g, cap, cur, e2, _⟩
  · subst e; injection e2 with _ e3 e4; exact ⟨e3, e4⟩
  · subst e; cases e2
end Go.Proofs.YtbpblheaiancaaaDoor
namespace Go.Proofs.YtbpblheaiancaaaDoor
open Go.RowKit
set_option linter.unusedVariables false

end Go.Proofs.YtbpblheaiancaaaDoor
namespace Go.Proofs.YtbpblheaiancaaaDoor
open Go.RowKit
set_option linter.unusedVariables false

set_option maxRecDepth 100000 in
theorem wp_appF {P : Program} {o : Oper} {a : Act} {w : World} {K : Act → World → Prop} {Q : Exit → Act → World → Prop} (s x : Operand) (t tx : TypeId)
    (ho : o.op = .call { callee := .builtin .append, args := #[s, x], argTypes := #[t, tx] })
    (base : Nat) (e : TypeId) (i : TypeInfo) (z : Value) (size bytes : Nat) (ht : P.underlying t = some (.slice e)) (hi : P.info? e = some i) (hz : i.zero = some z)
    (hsize : i.size = size) (hby : i.bytes = bytes) (hzs : z.cells.size = size) (hsz : 0 < size)
    (v : Value) (n : Nat) (xs : List Value) (hs : a.eval s = v) (hown : w.ownsRow base e size v n xs)
    (xv : Value) (hx : a.eval x = xv) (m : Nat) (news : List Value) (hsrc : Src P size tx xv m news w)
    (h63 : n + m ≤ maxLen) (hbytes : (n + m) * bytes ≤ 140737488355328) (hbase : base ≤ w.heap.size)
    (h : ∀ v2 w2, w2.ownsRow base e size v2 (n + m) (xs ++ news) → w.grownBy w2 v.ownBlock → (v2.ownBlock = v.ownBlock ∨ v2.ownBlock = some w.heap.size) → K (a.put o.dst v2) w2) : o.wp P a w K Q := by
  obtain ⟨v2, w2, hr, h2, h3, h4⟩ := run_app (P := P) w base t tx o.type e i z size bytes ht hi hz hsize hby hzs hsz v n xs hown xv m news hsrc h63 hbytes hbase
  unfold Oper.wp execOp
  simp only [ho, resolve, invoke, builtin, Sem.run_bind, Sem.run_pure, Result.andThen_ok, List.map_toArray, List.map_cons, List.map_nil, hs, hx, hr]
  exact h v2 w2 h2 h3 h4
set_option maxRecDepth 100000 in
theorem Tryd.infoS : (Tryd.prog.info? 23).map (fun i => (i.zero, i.size, i.bytes)) = some (some (.slice none 0 0), 1, 24) := by kernel_rfl

/-- The slices of a list of parts. -/
def sls (A : Nat → Option Addr) (C : Nat → Nat) (L : List (List UInt8)) (k : Nat) : List Value := (List.range k).map fun j => Value.slice (A j) (L.getD j []).length (C j)
def ob (a : Option Addr) : Option Nat := a.map (·.block)
set_option maxRecDepth 100000 in
theorem ob_own (a : Option Addr) (n c : Nat) : (Value.slice a n c).ownBlock = ob a := by cases a <;> rfl
/-- k parts, each in a row of its own, in a row of slices of its own. -/
structure FewR (w : World) (B : Nat) (v : Value) (A : Nat → Option Addr) (C : Nat → Nat) (L : List (List UInt8)) (k : Nat) : Prop where
  row : w.ownsRow B 23 1 v k (sls A C L k)
  part : ∀ j, j < k → Own w B (.slice (A j) (L.getD j []).length (C j)) (L.getD j [])
  off : ∀ j, j < k → ∀ b, ob (A j) = some b → v.ownBlock ≠ some b
  apart : ∀ i j, i < j → j < k → ∀ b, ob (A i) = some b → ob (A j) ≠ some b
set_option maxRecDepth 100000 in
theorem ownsRow_lt {w : World} {B e size : Nat} {v : Value} {n : Nat} {xs : List Value} (h : w.ownsRow B e size v n xs) : ∀ b, v.ownBlock = some b → B ≤ b ∧ b < w.heap.size := by
  intro b hb
  rcases h.2 with ⟨rfl, _⟩ | ⟨g, cap, cur, rfl, h1, h2, _⟩
  · cases hb
  · cases hb; exact ⟨h1, lt_of_block h2⟩
set_option maxRecDepth 100000 in
theorem ownsRow_slice {w : World} {B e size : Nat} {v : Value} {n : Nat} {xs : List Value} (h : w.ownsRow B e size v n xs) : ∃ a c, v = .slice a n c := by
  rcases h.2 with ⟨e, h0⟩ | ⟨g, cap, cur, e, _⟩
  · exact ⟨none, 0, by rw [e, h0]⟩
  · exact ⟨_, _, e⟩
set_option maxRecDepth 100000 in
theorem FewR.zero (w : World) (B : Nat) (A : Nat → Option Addr) (C : Nat → Nat) (L : List (List UInt8)) : FewR w B (.slice none 0 0) A C L 0 :=
  ⟨World.ownsRow_nil _ _ _ _, fun j h => by omega, fun j h => by omega, fun i j _ h => by omega⟩
set_option maxRecDepth 100000 in
/-- One part more. -/
theorem FewR.step {w w1 w2 : World} {B k : Nat} {v v2 : Value} {A : Nat → Option Addr} {C : Nat → Nat} {L : List (List UInt8)} {a : Option Addr} {c : Nat} (h : FewR w B v A C L k)
    (hz : w.heap.size ≤ w1.heap.size) (hB : B ≤ w.heap.size)
    (hF : Fr (fun b => v.ownBlock = some b) w w2) (hO : Own w2 B (.slice a (L.getD k []).length c) (L.getD k [])) (ha : ∀ b, ob a = some b → w.heap.size ≤ b ∧ b < w1.heap.size)
    (hrow : w2.ownsRow B 23 1 v2 (k + 1) (sls A C L k ++ [.slice a (L.getD k []).length c])) (hv : v2.ownBlock = v.ownBlock ∨ ∃ b, v2.ownBlock = some b ∧ w1.heap.size ≤ b) :
    FewR w2 B v2 (fun j => if j = k then a else A j) (fun j => if j = k then c else C j) L (k + 1) := by
  have hlt : ∀ j, j < k → ∀ b, ob (A j) = some b → b < w.heap.size := fun j hj b hb => ((h.part j hj).lt b (by rw [ob_own]; exact hb)).2
  refine ⟨?_, ?_, ?_, ?_⟩
  · have e : sls (fun j => if j = k then a else A j) (fun j => if j = k then c else C j) L (k + 1) = sls A C L k ++ [.slice a (L.getD k []).length c] := by
      unfold sls
      rw [List.range_succ, List.map_append]
      congr 1
      · apply List.map_congr_left
        intro j hj
        have : j ≠ k := by have := List.mem_range.1 hj; omega
        simp only [if_neg this]
      · simp
    rw [e]; exact hrow
  · intro j hj
    by_cases e : j = k
    · subst e; simp only [if_pos]; exact hO
    · simp only [if_neg e]
      exact (h.part j (by omega)).fr hF (fun b hb => fun hv => h.off j (by omega) b (by rw [ob_own] at hb; exact hb) hv)
  · intro j hj b hb
    by_cases e : j = k
    · subst e
      simp only [if_pos] at hb
      have := ha b hb
      rcases hv with hv | ⟨b2, hv, h2⟩
      · rw [hv]; intro e; have := (ownsRow_lt h.row b e).2; omega
      · rw [hv]; intro e; have := Option.some.inj e; omega
    · simp only [if_neg e] at hb
      have hl := hlt j (by omega) b hb
      rcases hv with hv | ⟨b2, hv, h2⟩
      · rw [hv]; exact h.off j (by omega) b hb
      · rw [hv]; intro e; have := Option.some.inj e; omega
  · intro i j hij hj b hb
    by_cases e : j = k
    · subst e
      simp only [if_pos, if_neg (show i ≠ j by omega)] at hb ⊢
      have hl := hlt i hij b hb
      intro e2
      have := ha b e2
      omega
    · simp only [if_neg e, if_neg (show i ≠ k by omega)] at hb ⊢
      exact h.apart i j hij (by omega) b hb
set_option maxRecDepth 100000 in
theorem FewR.parts {w : World} {B k : Nat} {a : Option Addr} {c : Nat} {A : Nat → Option Addr} {C : Nat → Nat} {L : List (List UInt8)} (h : FewR w B (.slice a k c) A C L k) (hL : L.length = k) : Parts w a L := by
  rcases h.row.2 with ⟨_, h0⟩ | ⟨g, cap, cur, e, _, hg, hc, hm, _, ht⟩
  · exact Or.inl (List.eq_nil_of_length_eq_zero (by omega))
  · injection e with e1 e2 e3
    subst e1
    refine Or.inr ⟨g, 0, rfl, fun j hj => ?_⟩
    obtain ⟨_, h2, h3, h4⟩ := (h.part j (by omega)).lies
    have e : L.getD j [] = L[j] := by rw [List.getD_eq_getElem?_getD, List.getElem?_eq_getElem hj]; rfl
    refine ⟨A j, C j, ?_, by rw [← e]; exact h4, by rw [← e]; exact h2, h3⟩
    rw [Nat.zero_add, cell_of_block hg, ← Array.getElem?_toList]
    have : (cur.toList.take (k * 1))[j]? = (sls A C L k)[j]? := by rw [ht]
    rw [List.getElem?_take, if_pos (by omega)] at this
    rw [this]
    unfold sls
    rw [List.getElem?_map, List.getElem?_range (by omega), Option.map_some, e]
end Go.Proofs.YtbpblheaiancaaaDoor
namespace Go.Proofs.YtbpblheaiancaaaDoor
open Go.RowKit
set_option linter.unusedVariables false

/-- No more than some parts, of no more than some bytes each. -/
def fewL (L : List (List UInt8)) (m z : Nat) : List (List UInt8) := (L.take m).map fun l => l.take z
set_option maxRecDepth 100000 in
theorem fewL_get (L : List (List UInt8)) (m z k : Nat) (hk : k < m) (hL : k < L.length) : (fewL L m z).getD k [] = (L[k]).take z := by
  unfold fewL
  rw [List.getD_eq_getElem?_getD, List.getElem?_map, List.getElem?_take, if_pos hk, List.getElem?_eq_getElem hL]; rfl
set_option maxRecDepth 100000 in
theorem fewL_len (L : List (List UInt8)) (m z : Nat) : (fewL L m z).length = min m L.length := by unfold fewL; simp
theorem src_sl {w : World} {k : Nat} {a : Option Addr} {n c : Nat} {t : TypeId} {fr : Nat × Nat} (h : w.heap[k]? = some (.cells #[.slice a n c] t fr)) : Src Tryd.prog 1 35 (.slice (some ⟨k, 0, none⟩) 1 1) 1 [.slice a n c] w := by
  refine Src.ofSlice w Tryd.underlying35 _ _ _ _ (by simp) ?_ (by simp [Value.oneCell'])
  intro j u hj
  rw [addr_add, Nat.zero_add, cell_of_block h]
  match j, hj with
  | 0, hj => exact hj
end Go.Proofs.YtbpblheaiancaaaDoor
namespace Go.Proofs.YtbpblheaiancaaaDoor
open Go.ChangeShapes Go.WideShapes Go.ChangeAt Go.RowKit
set_option linter.unusedVariables false

set_option maxRecDepth 100000 in
theorem parts_of {H : Type} {enc : TypeId × Value → H} {W : World} {base : Nat} {v1 : Value} {d1 : DataW H} {p1 : List MemPlace} (hval : Value.okWide Tryd.prog W .any base 35 v1) (h1 : DataW.Trod enc Tryd.prog W 0 (fun _ => true) true 35 v1 d1 p1) :
    ∃ a n c L, v1 = .slice a n c ∧ L.length = n ∧ n ≤ maxLen ∧ Parts W a L := by
  obtain ⟨a1, len, cap, rfl⟩ := okWide_slice Tryd.underlying35 hval
  obtain ⟨fuel, hf⟩ := h1
  rcases Go.Deep.open_int_rows Tryd.underlying35 Tryd.underlying23 Tryd.underlying5 (by kernel_rfl) (by kernel_rfl) hf with ⟨hcs, hx⟩ | ⟨a, len', cap', A, N, C, Z, hcs, _, hl, hm, hx, hcell⟩
  · simp [Value.cells] at hcs
    obtain ⟨rfl, rfl, rfl⟩ := hcs
    exact ⟨none, 0, 0, [], rfl, rfl, Nat.zero_le _, Or.inl rfl⟩
  · simp [Value.cells] at hcs
    obtain ⟨rfl, rfl, rfl⟩ := hcs
    refine ⟨some a, len, cap, (List.range len).map fun r => ((Z r).take (N r)).map fun n => UInt8.ofNat n.toNat, rfl, by simp, by omega, ?_⟩
    by_cases h0 : len = 0
    · exact Or.inl (by subst h0; rfl)
    · refine Or.inr ?_
      obtain ⟨ab, ao, spot⟩ := a
      have hspot : spot = none := by simpa [Addr.add] using World.cell?_spot (hcell 0 (by omega)).1
      subst hspot
      refine ⟨ab, ao, rfl, fun j hj => ?_⟩
      have hj2 : j < len := by simpa using hj
      obtain ⟨c1, c2, c3, c4, c5, c6, c7⟩ := hcell j (by omega)
      rw [addr_add] at c1
      have hlen : (((Z j).take (N j)).map fun n => UInt8.ofNat n.toNat).length = N j := by simp; omega
      simp only [List.getElem_map, List.getElem_range]
      refine ⟨A j, C j, by rw [hlen]; exact c1, ?_, by rw [hlen]; exact c2, c3⟩
      by_cases hN : N j = 0
      · exact Or.inl (List.eq_nil_of_length_eq_zero (by rw [hlen, hN]))
      · refine Or.inr ?_
        cases hA : A j with
        | none => have := c6 hA; omega
        | some a' =>
          obtain ⟨_, c8⟩ := c7 a' hA
          obtain ⟨bb, bo, bs⟩ := a'
          have hs2 : bs = none := by simpa [Addr.add] using World.cell?_spot (c8 0 (by omega))
          subst hs2
          refine ⟨bb, bo, rfl, fun i hi => ?_⟩
          rw [hlen] at hi
          have hc := c8 i (by omega)
          rw [addr_add] at hc
          have hmem : (Z j).getD i 0 ∈ Z j := by rw [List.getD_eq_getElem?_getD, List.getElem?_eq_getElem (by omega), Option.getD_some]; exact List.getElem_mem _
          have hb := bounds_u8 (c5 _ hmem)
          have he : (Z j).getD i 0 = (Z j)[i]'(by omega) := by rw [List.getD_eq_getElem?_getD, List.getElem?_eq_getElem (by omega), Option.getD_some]
          rw [hc]
          simp only [List.getElem_map, List.getElem_take]
          rw [he] at hb ⊢
          generalize (Z j)[i]'(by omega) = z at hb ⊢
          congr 2
          have : (UInt8.ofNat z.toNat).toNat = z.toNat % 256 := rfl
          omega
theorem Parts.grow {w w2 : World} {a : Option Addr} {L : List (List UInt8)} (h : Parts w a L) (hF : Fr (fun _ => False) w w2) : Parts w2 a L := by
  rcases h with h | ⟨g, o, e, hc⟩
  · exact Or.inl h
  · refine Or.inr ⟨g, o, e, fun j hj => ?_⟩
    obtain ⟨aj, cj, h1, h2, h3, h4⟩ := hc j hj
    exact ⟨aj, cj, hF.cellSome (p := ⟨g, o + j, none⟩) (fun h => h) h1, h2.grow hF, h3, h4⟩
theorem flat_le (z : Nat) : ∀ L : List (List UInt8), (∀ l ∈ L, l.length ≤ z) → L.flatten.length ≤ L.length * z
  | [], _ => by simp
  | l :: L, h => by
    have h1 := flat_le z L (fun x hx => h x (List.mem_cons_of_mem _ hx))
    have h2 := h l (List.mem_cons_self ..)
    rw [List.flatten_cons, List.length_append, List.length_cons, Nat.add_mul]
    omega
theorem fewL_flat (L : List (List UInt8)) (m z : Nat) : (fewL L m z).flatten.length ≤ m * z := by
  have h := flat_le z (fewL L m z) (fun l hl => by
    unfold fewL at hl
    obtain ⟨x, _, rfl⟩ := List.mem_map.1 hl
    rw [List.length_take]; omega)
  rw [fewL_len] at h
  exact Nat.le_trans h (Nat.mul_le_mul_right _ (by omega))

end Go.Proofs.YtbpblheaiancaaaDoor

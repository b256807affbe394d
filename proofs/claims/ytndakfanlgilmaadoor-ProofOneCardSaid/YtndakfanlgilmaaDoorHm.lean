/-
  Marks by a key over bytes (plain functions); the contracts of filled and turned of package hmac.
-/
import Derived.Test.YtndakfanlgilmaaDoorForks
namespace Go.Proofs.YtndakfanlgilmaaDoor
open Go.RowKit
set_option linter.unusedVariables false

namespace HM
/-- The key, or the sum of one that is too long. -/
def fill (k : List UInt8) : List UInt8 := if 64 < k.length then S2.sum k else k
def blk (k : List UInt8) (j : Nat) : UInt8 := (fill k).getD j 0
def xor (f : Nat → UInt8) (b : UInt8) : List UInt8 := (List.range 64).map fun j => f j ^^^ b
def of (k m : List UInt8) : List UInt8 := S2.sum (xor (blk k) 0x5c ++ S2.sum (xor (blk k) 0x36 ++ m))
set_option maxRecDepth 100000 in
theorem fill_le (k : List UInt8) : (fill k).length ≤ 64 := by
  unfold fill
  split
  · rw [sum_length]; omega
  · omega
set_option maxRecDepth 100000 in
theorem xor_length (f : Nat → UInt8) (b : UInt8) : (xor f b).length = 64 := by simp [xor]
end HM

set_option maxRecDepth 100000 in
theorem sumc_ub (l : List UInt8) : sumc l = ub 32 (fun j => (S2.sum l).getD j 0) := rfl
set_option maxRecDepth 100000 in
theorem sumc_cells (l : List UInt8) : (sumc l).toList = bv (S2.sum l) := by rw [sumc_map]; rfl
set_option maxRecDepth 100000 in
/-- A block of 32 cells that holds a sum, as bytes. -/
theorem sum_lies {w : World} {b : Nat} {l : List UInt8} {t : TypeId} {fr : Nat × Nat} (h : w.heap[b]? = some (.cells (sumc l) t fr)) : Lies w (some ⟨b, 0, none⟩) (S2.sum l) := by
  refine Or.inr ⟨b, 0, rfl, fun j hj => ?_⟩
  rw [Nat.zero_add, cell_of_block h, ← Array.getElem?_toList, sumc_cells, bv_get' _ _ hj]
set_option maxRecDepth 100000 in
theorem ub_lies {w : World} {b n : Nat} {l : List UInt8} {f : Nat → UInt8} {t : TypeId} {fr : Nat × Nat} (h : w.heap[b]? = some (.cells (ub n f) t fr)) (hl : l.length ≤ n) (hf : ∀ j, j < l.length → f j = l.getD j 0) : Lies w (some ⟨b, 0, none⟩) l := by
  refine Or.inr ⟨b, 0, rfl, fun j hj => ?_⟩
  rw [Nat.zero_add, cell_of_block h, ub_get n f j (by omega), hf j hj]
  simp [List.getD, hj]

set_option maxRecDepth 100000 in
theorem zero64 : (#[.int .u8 0, .int .u8 0, .int .u8 0, .int .u8 0, .int .u8 0, .int .u8 0, .int .u8 0, .int .u8 0, .int .u8 0, .int .u8 0, .int .u8 0, .int .u8 0, .int .u8 0, .int .u8 0, .int .u8 0, .int .u8 0, .int .u8 0, .int .u8 0, .int .u8 0, .int .u8 0, .int .u8 0, .int .u8 0, .int .u8 0, .int .u8 0, .int .u8 0, .int .u8 0, .int .u8 0, .int .u8 0, .int .u8 0, .int .u8 0, .int .u8 0, .int .u8 0, .int .u8 0, .int .u8 0, .int .u8 0, .int .u8 0, .int .u8 0, .int .u8 0, .int .u8 0, .int .u8 0, .int .u8 0, .int .u8 0, .int .u8 0, .int .u8 0, .int .u8 0, .int .u8 0, .int .u8 0, .int .u8 0, .int .u8 0, .int .u8 0, .int .u8 0, .int .u8 0, .int .u8 0, .int .u8 0, .int .u8 0, .int .u8 0, .int .u8 0, .int .u8 0, .int .u8 0, .int .u8 0, .int .u8 0, .int .u8 0, .int .u8 0, .int .u8 0] : Array Value) = ub 64 (fun _ => 0) := by kernel_rfl
set_option maxRecDepth 100000 in
theorem Tryd.size64u {f : Nat → UInt8} : (Tryd.prog.info? 73).map (·.size) = some (ub 64 f).size := by
  rw [ub_size]; kernel_rfl
set_option maxRecDepth 100000 in
theorem ub_toList (n : Nat) (f : Nat → UInt8) : (ub n f).toList = bv ((List.range n).map f) := by simp [ub, bv, Function.comp_def]
set_option maxRecDepth 100000 in
theorem ub_splice (k : List UInt8) (hk : k.length ≤ 64) : (splice (ub 64 (fun _ => 0)).toList 0 (bv k)).toArray = ub 64 (fun j => k.getD j 0) := by
  refine ub_ext (by simp [splice, ub_toList]; omega) (fun j hj => ?_)
  simp only [splice, List.take_zero, List.nil_append, Nat.zero_add, bv_length, List.getElem?_toArray]
  by_cases h : j < k.length
  · rw [List.getElem?_append_left (by simpa using h), bv_get' k j h]
    simp [List.getD, h]
  · rw [List.getElem?_append_right (by simpa using Nat.le_of_not_lt h), List.getElem?_drop, bv_length, show k.length + (j - k.length) = j by omega, ub_toList, bv_get' _ _ (by simpa using hj)]
    simp [List.getD, h]

set_option maxRecDepth 100000 in
theorem xor_step (f : Nat → UInt8) (b : UInt8) (k : Nat) (hk : k < 64) : (ub 64 (fun j => if j < k then f j ^^^ b else f j)).setIfInBounds k (.int .u8 (((f k ^^^ b).toNat : Nat) : Int)) = ub 64 (fun j => if j < k + 1 then f j ^^^ b else f j) := by
  rw [ub_set _ _ _ _ hk]
  refine ub_congr fun j hj => ?_
  by_cases h : j = k
  · subst h; rw [if_pos rfl, if_pos (by omega)]
  · rw [if_neg h]
    by_cases h2 : j < k
    · rw [if_pos h2, if_pos (by omega)]
    · rw [if_neg h2, if_neg (by omega)]
set_option maxRecDepth 100000 in
theorem xor_u8 (x y : UInt8) : bits .xor .u8 (x.toNat : Int) (y.toNat : Int) = (((x ^^^ y).toNat : Nat) : Int) := by
  have h1 := x.toNat_lt
  have h2 := y.toNat_lt
  have x3 : x.toNat ^^^ y.toNat < 2 ^ 8 := Nat.xor_lt_two_pow (by omega) (by omega)
  have e1 : (BitVec.ofInt 8 (x.toNat : Int)).toNat = x.toNat := by
    rw [BitVec.ofInt_natCast, BitVec.toNat_ofNat]; exact Nat.mod_eq_of_lt (by omega)
  have e2 : (BitVec.ofInt 8 (y.toNat : Int)).toNat = y.toNat := by
    rw [BitVec.ofInt_natCast, BitVec.toNat_ofNat]; exact Nat.mod_eq_of_lt (by omega)
  show IntKind.u8.wrap ((BitVec.ofInt 8 (x.toNat : Int) ^^^ BitVec.ofInt 8 (y.toNat : Int)).toNat : Int) = _
  rw [BitVec.toNat_xor, e1, e2, UInt8.toNat_xor, IntKind.wrap_u8]; omega

end Go.Proofs.YtndakfanlgilmaaDoor


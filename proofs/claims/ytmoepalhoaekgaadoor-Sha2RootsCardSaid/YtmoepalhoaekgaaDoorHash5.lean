/-
  The block of a run of package sha5, and what is done to it.
-/
import Derived.Test.YtmoepalhoaekgaaDoorMix5
import Derived.Test.YtmoepalhoaekgaaDoorHash
namespace Go.Proofs.YtmoepalhoaekgaaDoor
open Go.RowKit
set_option linter.unusedVariables false

/-- The cells of a run of package sha5: eight words, 128 bytes, a count. -/
def hcells5 (wl : List Value) (tl : List UInt8) (n : Nat) : List Value := wl ++ (bv tl ++ [.int .i64 (n : Int)])
structure HB5 (w : World) (bh : Nat) (wl : List Value) (tl : List UInt8) (n : Nat) : Prop where
  blk : w.heap[bh]? = some (.cells (hcells5 wl tl n).toArray 69 (0, 0))
  w8 : wl.length = 8
  t64 : tl.length = 128
  one : ∀ v ∈ wl, v.oneCell' = true
theorem HB5.cell {w : World} {bh n : Nat} {wl : List Value} {tl : List UInt8} (h : HB5 w bh wl tl n) (o : Nat) : w.cell? ⟨bh, o, none⟩ = (hcells5 wl tl n)[o]? := by
  rw [cell_of_block h.blk]; simp
theorem HB5.count {w : World} {bh n : Nat} {wl : List Value} {tl : List UInt8} (h : HB5 w bh wl tl n) : w.cell? ⟨bh, 136, none⟩ = some (.int .i64 (n : Int)) := by
  rw [h.cell]
  unfold hcells5
  rw [List.getElem?_append_right (by rw [h.w8]; omega), List.getElem?_append_right (by simp [h.w8, h.t64])]
  simp [h.w8, h.t64]
theorem HB5.tail {w : World} {bh n : Nat} {wl : List Value} {tl : List UInt8} (h : HB5 w bh wl tl n) : Blk5 w bh 8 tl := by
  intro j hj
  rw [h.cell]
  unfold hcells5
  rw [List.getElem?_append_right (by rw [h.w8]; omega), List.getElem?_append_left (by simp [h.w8, h.t64]; omega), h.w8, show 8 + j - 8 = j by omega, bv_get' tl j (by rw [h.t64]; omega)]
  simp [List.getD, h.t64, hj]
theorem HB5.words {w : World} {bh n : Nat} {wl : List Value} {tl : List UInt8} (h : HB5 w bh wl tl n) : w.rangeAt bh 0 wl := by
  intro j v hv
  rw [h.cell]
  unfold hcells5
  rw [Nat.zero_add, List.getElem?_append_left (List.getElem?_eq_some_iff.1 hv).1]
  exact hv
theorem HB5.length {w : World} {bh n : Nat} {wl : List Value} {tl : List UInt8} (h : HB5 w bh wl tl n) : (hcells5 wl tl n).length = 137 := by
  simp [hcells5, h.w8, h.t64]
theorem HB5.fr {w w2 : World} {bh n : Nat} {wl : List Value} {tl : List UInt8} {S : Nat → Prop} (h : HB5 w bh wl tl n) (hF : Fr S w w2) (hs : ¬ S bh) : HB5 w2 bh wl tl n :=
  ⟨(hF.block bh (lt_of_block h.blk) hs).trans h.blk, h.w8, h.t64, h.one⟩
theorem HB5.there {w : World} {bh n : Nat} {wl : List Value} {tl : List UInt8} (h : HB5 w bh wl tl n) : w.there bh 0 8 := by
  intro j hj
  refine ⟨?_, free_of_block h.blk _⟩
  rw [h.cell]
  have := h.length
  simp only [Nat.zero_add]
  rw [List.getElem?_eq_getElem (by omega)]; rfl
/-- The words are set. -/
theorem HB5.setWords {w : World} {bh n : Nat} {wl : List Value} {tl : List UInt8} (h : HB5 w bh wl tl n) (s : S5.St) : HB5 (w.setCells bh 0 (stv5 s).toList) bh (stv5 s).toList tl n := by
  refine ⟨?_, rfl, h.t64, fun v hv => (Array.all_eq_true_iff_forall_mem.1 (stv_one5 s)) v (by simpa using hv)⟩
  rw [setCells_block (stv5 s).toList 0 (hcells5 wl tl n) w h.blk (by rw [h.length]; show 0 + 8 ≤ 137; omega)]
  congr 3
  rw [List.take_zero, List.nil_append, show 0 + (stv5 s).toList.length = wl.length by rw [h.w8]; rfl]
  simp [hcells5]
/-- The count is set. -/
theorem HB5.setCount {w : World} {bh n : Nat} {wl : List Value} {tl : List UInt8} (h : HB5 w bh wl tl n) (n2 : Nat) (v : Int) (hv : v = (n2 : Int)) : HB5 (w.setCell ⟨bh, 136, none⟩ (.int .i64 v)) bh wl tl n2 := by
  subst hv
  refine ⟨?_, h.w8, h.t64, h.one⟩
  rw [block_setCell h.blk]
  congr 2
  rw [List.setIfInBounds_toArray]
  congr 1
  unfold hcells5
  rw [List.set_append_right _ _ (by rw [h.w8]; omega), List.set_append_right _ _ (by simp [h.w8, h.t64])]
  simp [h.w8, h.t64]
/-- Bytes are copied into the tail. -/
theorem HB5.setTail {w : World} {bh n : Nat} {wl : List Value} {tl : List UInt8} (h : HB5 w bh wl tl n) (r : Nat) (x : List UInt8) (hr : r + x.length ≤ 128) :
    HB5 (w.setRow bh ((hcells5 wl tl n).toArray.toList.take (8 + r) ++ (bv x ++ (hcells5 wl tl n).toArray.toList.drop (8 + r + (bv x).length))).toArray) bh wl (tl.take r ++ (x ++ tl.drop (r + x.length))) n := by
  refine ⟨?_, h.w8, by simp [h.t64]; omega, h.one⟩
  rw [setRow_heap _ _ _ _ _ _ h.blk]
  congr 3
  unfold hcells5
  have e1 : (wl ++ (bv tl ++ [Value.int .i64 (n : Int)])).take (8 + r) = wl ++ bv (tl.take r) := by
    rw [← h.w8, List.take_length_add_append, List.take_append_of_le_length (by simp [h.t64]; omega)]
    simp [bv, List.map_take]
  have e2 : (wl ++ (bv tl ++ [Value.int .i64 (n : Int)])).drop (8 + r + (bv x).length) = bv (tl.drop (r + x.length)) ++ [Value.int .i64 (n : Int)] := by
    rw [show 8 + r + (bv x).length = wl.length + (r + x.length) by rw [h.w8, bv_length]; omega, List.drop_length_add_append, List.drop_append_of_le_length (by simp [h.t64]; omega)]
    simp [bv, List.map_drop]
  rw [List.toList_toArray, e1, e2, bv_append, bv_append]
  simp

/-- The Hash has taken l. -/
structure HInv5 (w : World) (bh : Nat) (l : List UInt8) (tl : List UInt8) : Prop where
  hb : HB5 w bh (stv5 (S5.hw l)).toList tl l.length
  tail : tl.take (l.length % 128) = l.drop (128 * (l.length / 128))
end Go.Proofs.YtmoepalhoaekgaaDoor


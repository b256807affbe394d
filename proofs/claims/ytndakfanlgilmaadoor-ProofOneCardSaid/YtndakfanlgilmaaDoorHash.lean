/-
  The block of a Hash of package sha2, and what its methods do to it.
-/
import Derived.Test.YtndakfanlgilmaaDoorMix
import Derived.Test.YtndakfanlgilmaaDoorBy
import Derived.Laws.CopyOwn
import Derived.Deep.MidRow
namespace Go.Proofs.YtndakfanlgilmaaDoor
open Go.RowKit
set_option linter.unusedVariables false

set_option maxRecDepth 100000 in
theorem setCells_block {b : Nat} {t : TypeId} : ∀ (vs : List Value) (o : Nat) (cur : List Value) (w : World), w.heap[b]? = some (.cells cur.toArray t (0, 0)) → o + vs.length ≤ cur.length →
    (w.setCells b o vs).heap[b]? = some (.cells (cur.take o ++ (vs ++ cur.drop (o + vs.length))).toArray t (0, 0)) := by
  intro vs
  induction vs with
  | nil => intro o cur w h _; simpa [World.setCells] using h
  | cons v r ih =>
    intro o cur w h hl
    simp only [List.length_cons] at hl
    have h1 := block_setCell h o v
    rw [show cur.toArray.setIfInBounds o v = (cur.set o v).toArray by simp] at h1
    have h2 := ih (o + 1) (cur.set o v) _ h1 (by simp; omega)
    rw [World.setCells, h2]
    congr 3
    have := list_seg_step cur o v r (by omega)
    simpa [List.append_assoc] using this
set_option maxRecDepth 100000 in
theorem Fr.setCells {S : Nat → Prop} {a : World} {b : Nat} (hS : S b) : ∀ (vs : List Value) (o : Nat) {w : World}, Fr S a w → Fr S a (w.setCells b o vs)
  | [], _, _, h => h
  | v :: r, o, w, h => Fr.setCells hS r (o + 1) (h.setCell (Or.inl hS) v)

/-- The cells of a Hash: eight words, 64 bytes, a count. -/
def hcells (wl : List Value) (tl : List UInt8) (n : Nat) : List Value := wl ++ (bv tl ++ [.int .i64 (n : Int)])
structure HB (w : World) (bh : Nat) (wl : List Value) (tl : List UInt8) (n : Nat) : Prop where
  blk : w.heap[bh]? = some (.cells (hcells wl tl n).toArray 75 (0, 0))
  w8 : wl.length = 8
  t64 : tl.length = 64
  one : ∀ v ∈ wl, v.oneCell' = true
set_option maxRecDepth 100000 in
theorem HB.cell {w : World} {bh n : Nat} {wl : List Value} {tl : List UInt8} (h : HB w bh wl tl n) (o : Nat) : w.cell? ⟨bh, o, none⟩ = (hcells wl tl n)[o]? := by
  rw [cell_of_block h.blk]; simp
set_option maxRecDepth 100000 in
theorem HB.count {w : World} {bh n : Nat} {wl : List Value} {tl : List UInt8} (h : HB w bh wl tl n) : w.cell? ⟨bh, 72, none⟩ = some (.int .i64 (n : Int)) := by
  rw [h.cell]
  unfold hcells
  rw [List.getElem?_append_right (by rw [h.w8]; omega), List.getElem?_append_right (by simp [h.w8, h.t64])]
  simp [h.w8, h.t64]
set_option maxRecDepth 100000 in
theorem HB.tail {w : World} {bh n : Nat} {wl : List Value} {tl : List UInt8} (h : HB w bh wl tl n) : Blk w bh 8 tl := by
  intro j hj
  rw [h.cell]
  unfold hcells
  rw [List.getElem?_append_right (by rw [h.w8]; omega), List.getElem?_append_left (by simp [h.w8, h.t64]; omega), h.w8, show 8 + j - 8 = j by omega, bv_get' tl j (by rw [h.t64]; omega)]
  simp [List.getD, h.t64, hj]
set_option maxRecDepth 100000 in
theorem HB.words {w : World} {bh n : Nat} {wl : List Value} {tl : List UInt8} (h : HB w bh wl tl n) : w.rangeAt bh 0 wl := by
  intro j v hv
  rw [h.cell]
  unfold hcells
  rw [Nat.zero_add, List.getElem?_append_left (List.getElem?_eq_some_iff.1 hv).1]
  exact hv
set_option maxRecDepth 100000 in
theorem HB.length {w : World} {bh n : Nat} {wl : List Value} {tl : List UInt8} (h : HB w bh wl tl n) : (hcells wl tl n).length = 73 := by
  simp [hcells, h.w8, h.t64]
set_option maxRecDepth 100000 in
theorem HB.fr {w w2 : World} {bh n : Nat} {wl : List Value} {tl : List UInt8} {S : Nat → Prop} (h : HB w bh wl tl n) (hF : Fr S w w2) (hs : ¬ S bh) : HB w2 bh wl tl n :=
  ⟨(hF.block bh (lt_of_block h.blk) hs).trans h.blk, h.w8, h.t64, h.one⟩
set_option maxRecDepth 100000 in
theorem HB.there {w : World} {bh n : Nat} {wl : List Value} {tl : List UInt8} (h : HB w bh wl tl n) : w.there bh 0 8 := by
  intro j hj
  refine ⟨?_, free_of_block h.blk _⟩
  rw [h.cell]
  have := h.length
  simp only [Nat.zero_add]
  rw [List.getElem?_eq_getElem (by omega)]; rfl
set_option maxRecDepth 100000 in
/-- The words are set. -/
theorem HB.setWords {w : World} {bh n : Nat} {wl : List Value} {tl : List UInt8} (h : HB w bh wl tl n) (s : S2.St) : HB (w.setCells bh 0 (stv s).toList) bh (stv s).toList tl n := by
  refine ⟨?_, rfl, h.t64, fun v hv => (Array.all_eq_true_iff_forall_mem.1 (stv_one s)) v (by simpa using hv)⟩
  rw [setCells_block (stv s).toList 0 (hcells wl tl n) w h.blk (by rw [h.length]; show 0 + 8 ≤ 73; omega)]
  congr 3
  rw [List.take_zero, List.nil_append, show 0 + (stv s).toList.length = wl.length by rw [h.w8]; rfl]
  simp [hcells]
set_option maxRecDepth 100000 in
/-- The count is set. -/
theorem HB.setCount {w : World} {bh n : Nat} {wl : List Value} {tl : List UInt8} (h : HB w bh wl tl n) (n2 : Nat) (v : Int) (hv : v = (n2 : Int)) : HB (w.setCell ⟨bh, 72, none⟩ (.int .i64 v)) bh wl tl n2 := by
  subst hv
  refine ⟨?_, h.w8, h.t64, h.one⟩
  rw [block_setCell h.blk]
  congr 2
  rw [List.setIfInBounds_toArray]
  congr 1
  unfold hcells
  rw [List.set_append_right _ _ (by rw [h.w8]; omega), List.set_append_right _ _ (by simp [h.w8, h.t64])]
  simp [h.w8, h.t64]
set_option maxRecDepth 100000 in
/-- Bytes are copied into the tail. -/
theorem HB.setTail {w : World} {bh n : Nat} {wl : List Value} {tl : List UInt8} (h : HB w bh wl tl n) (r : Nat) (x : List UInt8) (hr : r + x.length ≤ 64) :
    HB (w.setRow bh ((hcells wl tl n).toArray.toList.take (8 + r) ++ (bv x ++ (hcells wl tl n).toArray.toList.drop (8 + r + (bv x).length))).toArray) bh wl (tl.take r ++ (x ++ tl.drop (r + x.length))) n := by
  refine ⟨?_, h.w8, by simp [h.t64]; omega, h.one⟩
  rw [setRow_heap _ _ _ _ _ _ h.blk]
  congr 3
  unfold hcells
  have e1 : (wl ++ (bv tl ++ [Value.int .i64 (n : Int)])).take (8 + r) = wl ++ bv (tl.take r) := by
    rw [← h.w8, List.take_length_add_append, List.take_append_of_le_length (by simp [h.t64]; omega)]
    simp [bv, List.map_take]
  have e2 : (wl ++ (bv tl ++ [Value.int .i64 (n : Int)])).drop (8 + r + (bv x).length) = bv (tl.drop (r + x.length)) ++ [Value.int .i64 (n : Int)] := by
    rw [show 8 + r + (bv x).length = wl.length + (r + x.length) by rw [h.w8, bv_length]; omega, List.drop_length_add_append, List.drop_append_of_le_length (by simp [h.t64]; omega)]
    simp [bv, List.map_drop]
  rw [List.toList_toArray, e1, e2, bv_append, bv_append]
  simp

/-- The Hash has taken l. -/
structure HInv (w : World) (bh : Nat) (l : List UInt8) (tl : List UInt8) : Prop where
  hb : HB w bh (stv (S2.hw l)).toList tl l.length
  tail : tl.take (l.length % 64) = l.drop (64 * (l.length / 64))
end Go.Proofs.YtndakfanlgilmaaDoor


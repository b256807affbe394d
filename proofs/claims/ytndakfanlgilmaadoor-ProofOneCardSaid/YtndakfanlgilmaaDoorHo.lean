/-
  The contract of Of of package hmac.
-/
import Derived.Test.YtndakfanlgilmaaDoorHm
import Derived.Deep.RegionWith
namespace Go.Proofs.YtndakfanlgilmaaDoor
open Go.RowKit
set_option linter.unusedVariables false

set_option maxRecDepth 100000 in
theorem xor_lies {w : World} {b : Nat} {f : Nat → UInt8} {x : UInt8} {t : TypeId} {fr : Nat × Nat} (h : w.heap[b]? = some (.cells (ub 64 (fun j => f j ^^^ x)) t fr)) : Lies w (some ⟨b, 0, none⟩) (HM.xor f x) :=
  ub_lies h (by rw [HM.xor_length]; omega) (fun j hj => by rw [HM.xor_length] at hj; simp [HM.xor, List.getD, hj])
def HM.inn (k m : List UInt8) : List UInt8 := HM.xor (HM.blk k) 0x36 ++ m
def HM.out (k m : List UInt8) : List UInt8 := HM.xor (HM.blk k) 0x5c ++ S2.sum (HM.inn k m)
set_option maxRecDepth 100000 in
theorem HM.of_eq (k m : List UInt8) : HM.of k m = S2.sum (HM.out k m) := rfl

set_option maxRecDepth 100000 in
theorem run_load64 {w : World} {b : Nat} {f : Nat → UInt8} {t : TypeId} {fr : Nat × Nat} (h : w.heap[b]? = some (.cells (ub 64 f) t fr)) : (loadCells ⟨b, 0, none⟩ 64).run Tryd.prog w = .ok (ub 64 f) w := by
  have := run_loadCells_list (P := Tryd.prog) w ⟨b, 0, none⟩ (ub 64 f).toList (fun j v hv => by
    rw [addr_add, Nat.zero_add, cell_of_block h, ← Array.getElem?_toList]
    exact hv)
  simpa [ub_size] using this
set_option maxRecDepth 100000 in
theorem run_store32 {w : World} {b : Nat} {cs : Array Value} {l : List UInt8} {t : TypeId} (h : w.heap[b]? = some (.cells cs t (0, 0))) (hs : cs.size = 32) : (storeCells ⟨b, 0, none⟩ (sumc l).toList).run Tryd.prog w = .ok () (w.setRow b (sumc l)) := by
  have h1 := sumv_size (S2.hw (l ++ S2.pad l.length))
  have hone : (sumc l).all (·.oneCell') = true := sumv_one _
  have := run_storeCells_at Tryd.prog b 0 t (sumc l).toList 0 cs w h (by simp [hs]; exact Nat.le_of_eq h1) (fun v hv => (Array.all_eq_true_iff_forall_mem.1 hone) v (by simpa using hv))
  simp only [Nat.add_zero, List.take_zero, List.nil_append, Nat.zero_add] at this
  rw [this]
  have e : cs.toList.drop (sumc l).toList.length = [] := List.drop_eq_nil_of_le (by rw [Array.length_toList, Array.length_toList, hs]; exact Nat.le_of_eq h1.symm)
  rw [e]
  simp
set_option maxRecDepth 100000 in
theorem of_last {w9 : World} {b10 b9 : Nat} {k : List UInt8} {L : List UInt8} {t1 t2 : TypeId} {f1 f2 : Nat × Nat} (h10 : w9.heap[b10]? = some (.cells (ub 64 (fun j => HM.blk k j ^^^ 0x5c)) t1 f1)) (h9 : w9.heap[b9]? = some (.cells (sumc (HM.inn k L)) t2 f2)) (hE : Env w9) :
    Calls Tryd.prog 18 #[.slice (some ⟨w9.heap.size, 0, none⟩) 2 2] (w9.alloc (.cells #[.slice (some ⟨b10, 0, none⟩) 64 64, .slice (some ⟨b9, 0, none⟩) 32 32] 39)) fun e w' => e = .returned (.agg (sumc (HM.out k L))) ∧ Fr (fun _ => False) w9 w' := by
  have F0 := (Fr.refl (fun _ => False) w9).alloc (.cells #[.slice (some ⟨b10, 0, none⟩) 64 64, .slice (some ⟨b9, 0, none⟩) 32 32] 39)
  have c1 : Came w9 (some ⟨b10, 0, none⟩) 64 64 (HM.xor (HM.blk k) 0x5c) := ⟨HM.xor_length _ _, Nat.le_refl _, by unfold maxLen; omega, xor_lies h10, fun h => by cases h⟩
  have c2 : Came w9 (some ⟨b9, 0, none⟩) 32 32 (S2.sum (HM.inn k L)) := ⟨sum_length _, Nat.le_refl _, by unfold maxLen; omega, sum_lies h9, fun h => by cases h⟩
  refine (psum_any _ [HM.xor (HM.blk k) 0x5c, S2.sum (HM.inn k L)] 2 2 rfl _ (parts2 (heap_alloc_new w9 _) (c1.grow F0 (fun _ _ h => h)) (c2.grow F0 (fun _ _ h => h))) (by unfold maxLen; omega) (by simp [HM.xor_length, sum_length]) (hE.fr F0 (fun h => h))).mono ?_
  rintro e w1 ⟨rfl, F1⟩
  refine ⟨?_, F0.trans F1 (fun _ h => h.elim)⟩
  rw [show [HM.xor (HM.blk k) 0x5c, S2.sum (HM.inn k L)].flatten = HM.out k L by simp [HM.out]]
end Go.Proofs.YtndakfanlgilmaaDoor



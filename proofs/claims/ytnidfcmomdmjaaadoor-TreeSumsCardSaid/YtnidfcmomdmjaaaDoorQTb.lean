/-
  The sums of a tree, of both sides: of none, of a leaf, of a node.
  A tree of one leaf: the library's functions at one element.
  A tree of one leaf: sorted, cloned; its count and root; the sum of none.
  A tree of one leaf: made; the sum of none.
-/
import Derived.Test.YtnidfcmomdmjaaaDoorQTa
import Derived.Lib.SliceRun
namespace Go.Proofs.YtnidfcmomdmjaaaDoor
open Go.RowKit
set_option linter.unusedVariables false
set_option linter.unusedSimpArgs false
def Tn.none : List UInt8 := S2.sum [2]
def Tn.leaf (k v : List UInt8) : List UInt8 := S2.sum (0 :: (k ++ v))
def Tn.node (b1 b2 : UInt8) (l r : List UInt8) : List UInt8 := S2.sum (1 :: b1 :: b2 :: (l ++ r))
set_option maxRecDepth 100000 in
theorem Tn.none_len : Tn.none.length = 32 := sum_length _
set_option maxRecDepth 100000 in
theorem Tn.leaf_len (k v : List UInt8) : (Tn.leaf k v).length = 32 := sum_length _
set_option maxRecDepth 100000 in
theorem Tn.node_len (b1 b2 : UInt8) (l r : List UInt8) : (Tn.node b1 b2 l r).length = 32 := sum_length _
/-- A leaf's 64 cells. -/
def leafRow (k v : List UInt8) : Array Value := (bv (k ++ v)).toArray
set_option maxRecDepth 100000 in
theorem leaf_size {k v : List UInt8} (hk : k.length = 32) (hv : v.length = 32) : (leafRow k v).size = 64 := by simp [leafRow, hk, hv]
set_option maxRecDepth 100000 in
theorem leaf_came {w : World} {g : Nat} {k v : List UInt8} {t : TypeId} {fr : Nat × Nat} (h : w.heap[g]? = some (.cells (leafRow k v) t fr)) (hk : k.length = 32) (hv : v.length = 32) : Came w (some ⟨g, 0, none⟩) 32 32 k ∧ Came w (some ⟨g, 32, none⟩) 32 32 v := by
  have hc : ∀ j x, (k ++ v)[j]? = some x → w.cell? ⟨g, j, none⟩ = some (.int .u8 (x.toNat : Int)) := fun j x hx => by
    rw [cell_of_block h, leafRow, List.getElem?_toArray, bv_get, hx]; rfl
  refine ⟨⟨hk, Nat.le_refl _, by unfold maxLen; omega, .inr ⟨g, 0, rfl, fun j hj => ?_⟩, fun e => by cases e⟩, ⟨hv, Nat.le_refl _, by unfold maxLen; omega, .inr ⟨g, 32, rfl, fun j hj => ?_⟩, fun e => by cases e⟩⟩
  · rw [Nat.zero_add]; exact hc j _ (by rw [List.getElem?_append_left hj, List.getElem?_eq_getElem hj])
  · exact hc (32 + j) _ (by rw [List.getElem?_append_right (by omega), hk, Nat.add_sub_cancel_left, List.getElem?_eq_getElem hj])
set_option maxRecDepth 100000 in
theorem mkB3 (a b c : Int) (w : World) : (Instr.buildSlice 33 3 #[(0, .int .u8 a), (1, .int .u8 b), (2, .int .u8 c)]).run Tryd.prog w = .ok (.slice (some ⟨w.heap.size, 0, none⟩) 3 3) (w.alloc (.cells #[.int .u8 a, .int .u8 b, .int .u8 c] 5)) := by kernel_rfl
set_option maxRecDepth 100000 in
theorem mkB2' (a b : Int) (w : World) : (Instr.buildSlice 33 2 #[(0, .int .u8 a), (1, .int .u8 b)]).run Tryd.prog w = .ok (.slice (some ⟨w.heap.size, 0, none⟩) 2 2) (w.alloc (.cells #[.int .u8 a, .int .u8 b] 5)) := by kernel_rfl
set_option maxRecDepth 100000 in
set_option maxHeartbeats 6400000 in
theorem tnode_any (y : Int) (b1 b2 : UInt8) (hb1 : y / 256 % 256 = (b1.toNat : Int)) (hb2 : y % 256 = (b2.toNat : Int)) (a b : List UInt8) (ha : a.length = 32) (hb : b.length = 32) (w : World) (hE : Env w) :
    Calls Tryd.prog 6 #[.int .i64 y, .agg (krow a), .agg (krow b)] w fun e w' => e = .returned (.agg (krow (Tn.node b1 b2 a b))) ∧ Fr (fun _ => False) w w' := by
  have s1 := sz32' ha
  have s2 := sz32' hb
  have B0 := heap_three w (.cells (krow a) 22) (.cells (krow b) 22) (.cells (ub 32 (fun _ => 0)) 22)
  have B1 := heap_three1 w (.cells (krow a) 22) (.cells (krow b) 22) (.cells (ub 32 (fun _ => 0)) 22)
  have B2 := heap_three2 w (.cells (krow a) 22) (.cells (krow b) 22) (.cells (ub 32 (fun _ => 0)) 22)
  have F0 := (((Fr.refl (fun _ => False) w).alloc (.cells (krow a) 22)).alloc (.cells (krow b) 22)).alloc (.cells (ub 32 (fun _ => 0)) 22)
  have HL := Lib.hid (And.intro ha hb)
  have CA := came_row B0 (by omega)
  have CB := came_row B1 (by omega)
  rw [ha] at CA
  rw [hb] at CB
  have HA := Lib.hid CA
  have HB := Lib.hid CB
  have HZ := Lib.hid B2
  have HE := Lib.hid (hE.ext F0)
  have HF := Lib.hid F0
  clear CA CB B0 B1 B2 F0 hE ha hb
  go_enter Tryd.func6, Tryd.ntmps6
  go_wp2_with fail
  rw [zero32]
  generalize (((w.alloc (.cells (krow a) 22)).alloc (.cells (krow b) 22)).alloc (.cells (ub 32 (fun _ => 0)) 22)) = w3 at *
  refine Ks.wp_region_mono (fun b => b = w.heap.size + 2) (sg 0 5 ++ (sg 6 2 ++ ((5, true) :: ((8, true) :: ((9, true) :: ((10, true) :: ([]))))))) (by kernel_rfl) (by kernel_rfl) ?_
  refine Ks.Wk.seg 0 5 (by kernel_rfl) (by kernel_rfl) ?_
  apply Exists.intro
  refine ⟨?wk0, ?fin0⟩
  case wk0 =>
    intro γ
    simp only [List.drop_succ_cons, List.drop_zero, List.take_succ_cons, List.take_zero]
    repeat (any_goals (first | go_big_quiet_step (fail) | quiet_step (fail)))
    exact wpQuiet_nil rfl
  case fin0 =>
  (try simp only [Act.put, List.setIfInBounds_toArray, List.set_cons_zero, List.set_cons_succ])
  refine Ks.Wk.seg 6 2 (by kernel_rfl) (by kernel_rfl) ?_
  apply Exists.intro
  refine ⟨?wk1, ?fin1⟩
  case wk1 =>
    intro γ
    simp only [List.drop_succ_cons, List.drop_zero, List.take_succ_cons, List.take_zero]
    repeat (any_goals (first | go_big_quiet_step (fail) | quiet_step (fail)))
    exact wpQuiet_nil rfl
  case fin1 =>
  (try simp only [Act.put, List.setIfInBounds_toArray, List.set_cons_zero, List.set_cons_succ])
  simp only [hb1, hb2]
  refine Ks.Wk.one rfl (fun w4 Xw4 => ?_)
  refine wpList_buildSlice rfl 33 3 _ rfl #[(0, .int .u8 1), (1, .int .u8 (b1.toNat : Int)), (2, .int .u8 (b2.toNat : Int))] (by first | kernel_rfl | rfl | simp [Act.eval]) (mkB3 1 (b1.toNat : Int) (b2.toNat : Int) w4) ⟨rfl, Ks.Es.of ((Fr.refl _ w4).alloc _), ?_⟩
  (try simp only [List.getElem_toArray, List.getElem_cons_succ, List.getElem_cons_zero, Act.put, List.setIfInBounds_toArray, List.set_cons_zero, List.set_cons_succ])
  have B1 := heap_alloc_new w4 (.cells #[.int .u8 1, .int .u8 (b1.toNat : Int), .int .u8 (b2.toNat : Int)] 5)
  have X4 : Fr (fun _ => False) w3 (w4.alloc (.cells #[.int .u8 1, .int .u8 (b1.toNat : Int), .int .u8 (b2.toNat : Int)] 5)) := Xw4.alloc _
  refine Ks.Wk.one rfl (fun w5 Xw5 => ?_)
  refine wpList_buildSlice rfl 45 3 _ rfl #[(0, .slice (some ⟨w4.heap.size, 0, none⟩) 3 3), (1, .slice (some ⟨w.heap.size, 0, none⟩) 32 32), (2, .slice (some ⟨w.heap.size + 1, 0, none⟩) 32 32)] (by first | kernel_rfl | rfl | simp [Act.eval]) (mkP3 _ _ _ _ _ _ _ _ _ w5) ⟨rfl, Ks.Es.of ((Fr.refl _ w5).alloc _), ?_⟩
  (try simp only [List.getElem_toArray, List.getElem_cons_succ, List.getElem_cons_zero, Act.put, List.setIfInBounds_toArray, List.set_cons_zero, List.set_cons_succ])
  have F5 := (Fr.refl (fun _ => False) w5).alloc (.cells #[.slice (some ⟨w4.heap.size, 0, none⟩) 3 3, .slice (some ⟨w.heap.size, 0, none⟩) 32 32, .slice (some ⟨w.heap.size + 1, 0, none⟩) 32 32] 33)
  have B2 := heap_alloc_new w5 (.cells #[.slice (some ⟨w4.heap.size, 0, none⟩) 3 3, .slice (some ⟨w.heap.size, 0, none⟩) 32 32, .slice (some ⟨w.heap.size + 1, 0, none⟩) 32 32] 33)
  have X5 : Fr (fun _ => False) w3 (w5.alloc (.cells #[.slice (some ⟨w4.heap.size, 0, none⟩) 3 3, .slice (some ⟨w.heap.size, 0, none⟩) 32 32, .slice (some ⟨w.heap.size + 1, 0, none⟩) 32 32] 33)) := (X4.trans Xw5 (fun _ h => h.elim)).trans F5 (fun _ h => h.elim)
  have C1 : Came (w5.alloc (.cells #[.slice (some ⟨w4.heap.size, 0, none⟩) 3 3, .slice (some ⟨w.heap.size, 0, none⟩) 32 32, .slice (some ⟨w.heap.size + 1, 0, none⟩) 32 32] 33)) (some ⟨w4.heap.size, 0, none⟩) 3 3 [1, b1, b2] := ((came_cells (l := [1, b1, b2]) B1 rfl (by simp)).ext Xw5).ext F5
  have C2 := HA.out.ext X5
  have C3 := HB.out.ext X5
  have P3 := parts3 B2 C1 C2 C3
  have E5 := HE.out.ext X5
  generalize (w5.alloc (.cells #[.slice (some ⟨w4.heap.size, 0, none⟩) 3 3, .slice (some ⟨w.heap.size, 0, none⟩) 32 32, .slice (some ⟨w.heap.size + 1, 0, none⟩) 32 32] 33)) = v5 at *
  refine Ks.Wk.call rfl (by kernel_rfl) 11 #[.slice (some ⟨w5.heap.size, 0, none⟩) 3 3] (fun W => by first | kernel_rfl | rfl) (fun vv W => vv = .agg (krow (Tn.node b1 b2 a b))) (fun W hx => (psum_any _ [[1, b1, b2], a, b] 3 3 rfl W (P3.grow hx) (by unfold maxLen; omega) (by have := HL.out.1; have := HL.out.2; simp; omega) (E5.ext hx)).mono (fun e W' he => ⟨_, he.1, he.2, by rw [krow_sum]; simp [Tn.node]⟩)) ?_
  rintro vv w6 X6 rfl
  (try simp only [List.getElem_toArray, List.getElem_cons_succ, List.getElem_cons_zero, Act.put, List.setIfInBounds_toArray, List.set_cons_zero, List.set_cons_succ])
  refine Ks.Wk.one rfl (fun w7 Xw7 => ?_)
  have HZ7 := (Xw7.block _ (lt_of_block ((X6.block _ (lt_of_block ((X5.block _ (lt_of_block HZ.out) (fun h => h)).trans HZ.out)) (fun h => h)).trans ((X5.block _ (lt_of_block HZ.out) (fun h => h)).trans HZ.out))) (fun h => h)).trans ((X6.block _ (lt_of_block ((X5.block _ (lt_of_block HZ.out) (fun h => h)).trans HZ.out)) (fun h => h)).trans ((X5.block _ (lt_of_block HZ.out) (fun h => h)).trans HZ.out))
  refine wpList_store_rowA rfl 22 (.tmp 6) (.tmp 16) rfl (w.heap.size + 2) (krow (Tn.node b1 b2 a b)) rfl rfl 22 _ HZ7 (sz32' (Tn.node_len _ _ _ _)) (by rw [ub_size, krow_size, Tn.node_len _ _ _ _]) (krow_one _) (fun w8 B8 F8 => ⟨rfl, F8, ?_⟩)
  (try simp only [List.getElem_toArray, List.getElem_cons_succ, List.getElem_cons_zero, Act.put, List.setIfInBounds_toArray, List.set_cons_zero, List.set_cons_succ])
  intro w9 X9
  have X39 : Fr (fun b => b = w.heap.size + 2) w3 w9 := (((X5.trans X6 (fun _ h => h.elim)).trans Xw7 (fun _ h => h.elim)).mono (T := fun b => b = w.heap.size + 2) (fun _ _ h => h.elim)).trans (F8.trans X9 (fun _ h => h.elim)) (fun _ h => .inl h)
  have B9 := Lib.hid ((X9.block _ (lt_of_block B8) (fun h => h)).trans B8)
  have HX := Lib.hid (HF.out.trans X39 (fun k h => .inr (by rw [h]; omega)))
  clear X39 B8 F8 X9 HZ7 Xw7 X6 X5 E5 P3 C1 C2 C3 B2 F5 X4 B1 Xw4 Xw5
  go_wp2_with fail
  refine bodyPost_ret (results_cell_row rfl _ _ (w.heap.size + 2) 22 (krow (Tn.node b1 b2 a b)) (0, 0) _ rfl B9.out Tryd.underlying22 rfl (sz32' (Tn.node_len _ _ _ _))) rfl ?_
  exact ⟨rfl, HX.out⟩
set_option maxRecDepth 100000 in
set_option maxHeartbeats 6400000 in
theorem tleaf_any (k v : List UInt8) (hk : k.length = 32) (hv : v.length = 32) (w : World) (hE : Env w) :
    Calls Tryd.prog 5 #[.agg (leafRow k v)] w fun e w' => e = .returned (.agg (krow (Tn.leaf k v))) ∧ Fr (fun _ => False) w w' := by
  have s1 : (Tryd.prog.info? 30).map (·.size) = some (leafRow k v).size := by rw [leaf_size hk hv]; kernel_rfl
  have B0 := heap_alloc2_old w (.cells (leafRow k v) 30) (.cells (ub 32 (fun _ => 0)) 22)
  have B2 := heap_alloc2_new w (.cells (leafRow k v) 30) (.cells (ub 32 (fun _ => 0)) 22)
  have F0 := ((Fr.refl (fun _ => False) w).alloc (.cells (leafRow k v) 30)).alloc (.cells (ub 32 (fun _ => 0)) 22)
  have HL := Lib.hid (And.intro hk hv)
  have HA := Lib.hid (leaf_came B0 hk hv).1
  have HB := Lib.hid (leaf_came B0 hk hv).2
  have HZ := Lib.hid B2
  have HE := Lib.hid (hE.ext F0)
  have HF := Lib.hid F0
  clear B0 B2 F0 hE hk hv
  go_enter Tryd.func5, Tryd.ntmps5
  go_wp2_with fail
  rw [zero32]
  generalize ((w.alloc (.cells (leafRow k v) 30)).alloc (.cells (ub 32 (fun _ => 0)) 22)) = w3 at *
  refine Ks.wp_region_mono (fun b => b = w.heap.size + 1) (sg 1 4 ++ ((0, true) :: ((5, true) :: ((6, true) :: ((7, true) :: ([])))))) (by kernel_rfl) (by kernel_rfl) ?_
  refine Ks.Wk.seg 1 4 (by kernel_rfl) (by kernel_rfl) ?_
  apply Exists.intro
  refine ⟨?wk0, ?fin0⟩
  case wk0 =>
    intro γ
    simp only [List.drop_succ_cons, List.drop_zero, List.take_succ_cons, List.take_zero]
    repeat (any_goals (first | go_big_quiet_step (fail) | quiet_step (fail)))
    exact wpQuiet_nil rfl
  case fin0 =>
  (try simp only [Act.put, List.setIfInBounds_toArray, List.set_cons_zero, List.set_cons_succ])
  refine Ks.Wk.one rfl (fun w4 Xw4 => ?_)
  refine wpList_buildSlice rfl 33 1 _ rfl #[(0, .int .u8 0)] (by first | kernel_rfl | rfl | simp [Act.eval]) (mkB 0 w4) ⟨rfl, Ks.Es.of ((Fr.refl _ w4).alloc _), ?_⟩
  (try simp only [List.getElem_toArray, List.getElem_cons_succ, List.getElem_cons_zero, Act.put, List.setIfInBounds_toArray, List.set_cons_zero, List.set_cons_succ])
  have B1 := heap_alloc_new w4 (.cells #[.int .u8 0] 5)
  have X4 : Fr (fun _ => False) w3 (w4.alloc (.cells #[.int .u8 0] 5)) := Xw4.alloc _
  refine Ks.Wk.one rfl (fun w5 Xw5 => ?_)
  refine wpList_buildSlice rfl 45 3 _ rfl #[(0, .slice (some ⟨w4.heap.size, 0, none⟩) 1 1), (1, .slice (some ⟨w.heap.size, 0, none⟩) 32 32), (2, .slice (some ⟨w.heap.size, 32, none⟩) 32 32)] (by first | kernel_rfl | rfl | simp [Act.eval]) (mkP3 _ _ _ _ _ _ _ _ _ w5) ⟨rfl, Ks.Es.of ((Fr.refl _ w5).alloc _), ?_⟩
  (try simp only [List.getElem_toArray, List.getElem_cons_succ, List.getElem_cons_zero, Act.put, List.setIfInBounds_toArray, List.set_cons_zero, List.set_cons_succ])
  have F5 := (Fr.refl (fun _ => False) w5).alloc (.cells #[.slice (some ⟨w4.heap.size, 0, none⟩) 1 1, .slice (some ⟨w.heap.size, 0, none⟩) 32 32, .slice (some ⟨w.heap.size, 32, none⟩) 32 32] 33)
  have B2 := heap_alloc_new w5 (.cells #[.slice (some ⟨w4.heap.size, 0, none⟩) 1 1, .slice (some ⟨w.heap.size, 0, none⟩) 32 32, .slice (some ⟨w.heap.size, 32, none⟩) 32 32] 33)
  have X5 : Fr (fun _ => False) w3 (w5.alloc (.cells #[.slice (some ⟨w4.heap.size, 0, none⟩) 1 1, .slice (some ⟨w.heap.size, 0, none⟩) 32 32, .slice (some ⟨w.heap.size, 32, none⟩) 32 32] 33)) := (X4.trans Xw5 (fun _ h => h.elim)).trans F5 (fun _ h => h.elim)
  have C1 : Came (w5.alloc (.cells #[.slice (some ⟨w4.heap.size, 0, none⟩) 1 1, .slice (some ⟨w.heap.size, 0, none⟩) 32 32, .slice (some ⟨w.heap.size, 32, none⟩) 32 32] 33)) (some ⟨w4.heap.size, 0, none⟩) 1 1 [0] := ((came_cells (l := [0]) B1 rfl (by simp)).ext Xw5).ext F5
  have C2 := HA.out.ext X5
  have C3 := HB.out.ext X5
  have P3 := parts3 B2 C1 C2 C3
  have E5 := HE.out.ext X5
  generalize (w5.alloc (.cells #[.slice (some ⟨w4.heap.size, 0, none⟩) 1 1, .slice (some ⟨w.heap.size, 0, none⟩) 32 32, .slice (some ⟨w.heap.size, 32, none⟩) 32 32] 33)) = v5 at *
  refine Ks.Wk.call rfl (by kernel_rfl) 11 #[.slice (some ⟨w5.heap.size, 0, none⟩) 3 3] (fun W => by first | kernel_rfl | rfl) (fun vv W => vv = .agg (krow (Tn.leaf k v))) (fun W hx => (psum_any _ [[0], k, v] 3 3 rfl W (P3.grow hx) (by unfold maxLen; omega) (by have := HL.out.1; have := HL.out.2; simp; omega) (E5.ext hx)).mono (fun e W' he => ⟨_, he.1, he.2, by rw [krow_sum]; simp [Tn.leaf]⟩)) ?_
  rintro vv w6 X6 rfl
  (try simp only [List.getElem_toArray, List.getElem_cons_succ, List.getElem_cons_zero, Act.put, List.setIfInBounds_toArray, List.set_cons_zero, List.set_cons_succ])
  refine Ks.Wk.one rfl (fun w7 Xw7 => ?_)
  have HZ7 := (Xw7.block _ (lt_of_block ((X6.block _ (lt_of_block ((X5.block _ (lt_of_block HZ.out) (fun h => h)).trans HZ.out)) (fun h => h)).trans ((X5.block _ (lt_of_block HZ.out) (fun h => h)).trans HZ.out))) (fun h => h)).trans ((X6.block _ (lt_of_block ((X5.block _ (lt_of_block HZ.out) (fun h => h)).trans HZ.out)) (fun h => h)).trans ((X5.block _ (lt_of_block HZ.out) (fun h => h)).trans HZ.out))
  refine wpList_store_rowA rfl 22 (.tmp 2) (.tmp 9) rfl (w.heap.size + 1) (krow (Tn.leaf k v)) rfl rfl 22 _ HZ7 (sz32' (Tn.leaf_len _ _)) (by rw [ub_size, krow_size, Tn.leaf_len _ _]) (krow_one _) (fun w8 B8 F8 => ⟨rfl, F8, ?_⟩)
  (try simp only [List.getElem_toArray, List.getElem_cons_succ, List.getElem_cons_zero, Act.put, List.setIfInBounds_toArray, List.set_cons_zero, List.set_cons_succ])
  intro w9 X9
  have X39 : Fr (fun b => b = w.heap.size + 1) w3 w9 := (((X5.trans X6 (fun _ h => h.elim)).trans Xw7 (fun _ h => h.elim)).mono (T := fun b => b = w.heap.size + 1) (fun _ _ h => h.elim)).trans (F8.trans X9 (fun _ h => h.elim)) (fun _ h => .inl h)
  have B9 := Lib.hid ((X9.block _ (lt_of_block B8) (fun h => h)).trans B8)
  have HX := Lib.hid (HF.out.trans X39 (fun k h => .inr (by rw [h]; omega)))
  clear X39 B8 F8 X9 HZ7 Xw7 X6 X5 E5 P3 C1 C2 C3 B2 F5 X4 B1 Xw4 Xw5
  go_wp2_with fail
  refine bodyPost_ret (results_cell_row rfl _ _ (w.heap.size + 1) 22 (krow (Tn.leaf k v)) (0, 0) _ rfl B9.out Tryd.underlying22 rfl (sz32' (Tn.leaf_len _ _))) rfl ?_
  exact ⟨rfl, HX.out⟩
set_option maxRecDepth 100000 in
set_option maxHeartbeats 6400000 in
theorem dnone_any (w : World) (hE : REnv w) : Calls Tryd.prog 8 #[] w fun e w' => e = .returned (.string ⟨Tn.none.toArray⟩) ∧ Fr (fun _ => False) w w' := by
  have HS := Lib.hid (show Calls Tryd.prog 13 #[.string ⟨#[2]⟩] w fun e w' => e = .returned (.string ⟨Tn.none.toArray⟩) ∧ Fr (fun _ => False) w w' from rsum_str [2] (by decide) w hE)
  clear hE
  go_enter Tryd.func8, Tryd.ntmps8
  go_wp2_with fail
  refine HS.out.mono ?_
  rintro e w2 ⟨rfl, F2⟩
  have HF := Lib.hid F2
  clear F2
  go_wp2_with fail
  go_ret
  exact ⟨rfl, HF.out⟩
set_option maxRecDepth 100000 in
set_option maxHeartbeats 6400000 in
theorem dleaf_any (k v : List UInt8) (hk : k.length = 32) (hv : v.length = 32) (w : World) (hE : REnv w) : Calls Tryd.prog 9 #[.agg (leafRow k v)] w fun e w' => e = .returned (.string ⟨(Tn.leaf k v).toArray⟩) ∧ Fr (fun _ => False) w w' := by
  have s1 : (Tryd.prog.info? 24).map (·.size) = some (leafRow k v).size := by rw [leaf_size hk hv]; kernel_rfl
  have B0 := heap_alloc_new w (.cells (leafRow k v) 24)
  have F0 := (Fr.refl (fun _ => False) w).alloc (.cells (leafRow k v) 24)
  have HA := Lib.hid (leaf_came B0 hk hv).1
  have HB := Lib.hid (leaf_came B0 hk hv).2
  have HF := Lib.hid F0
  have HS := Lib.hid (show ∀ (V : World) (F : Fr (fun _ => False) w V), Calls Tryd.prog 13 #[.string ⟨(0 :: (k ++ v)).toArray⟩] V fun e w' => e = .returned (.string ⟨(Tn.leaf k v).toArray⟩) ∧ Fr (fun _ => False) V w' from fun V F => rsum_str (0 :: (k ++ v)) (by simp; omega) V (hE.ext F))
  have c1 := fun W => str_add [0] k (by simp) (by omega) W
  have c2 := fun W => str_add (0 :: k) v (by simp; omega) (by omega) W
  have e1 : str ([0] ++ k) = .string ⟨(0 :: k).toArray⟩ := rfl
  have e2 : str (0 :: k ++ v) = .string ⟨(0 :: (k ++ v)).toArray⟩ := rfl
  rw [e1] at c1
  rw [e2] at c2
  clear e1 e2
  clear B0 F0 hE hk hv
  go_enter Tryd.func9, Tryd.ntmps9
  go_wp2_with fail
  generalize (w.alloc (.cells (leafRow k v) 24)) = w3 at *
  have ck : ∀ u : Wd w3, (convert 33 9 (.slice (some ⟨w.heap.size, 0, none⟩) 32 32)).run Tryd.prog u.w = .ok (.string ⟨k.toArray⟩) u.w := fun u => (HA.out.ext u.h).str2
  have cv : ∀ u : Wd w3, (convert 33 9 (.slice (some ⟨w.heap.size, 32, none⟩) 32 32)).run Tryd.prog u.w = .ok (.string ⟨v.toArray⟩) u.w := fun u => (HB.out.ext u.h).str2
  refine wp_region_keep (by kernel_rfl) (by kernel_rfl) ?_
  repeat (any_goals (first | go_big_quiet_step ((go_at_call 13; exact Calls.keep (HS.out _ (HF.out.trans (Wd.h _) (fun _ h => h.elim))))) | quiet_step ((go_at_call 13; exact Calls.keep (HS.out _ (HF.out.trans (Wd.h _) (fun _ h => h.elim)))))))
  refine wpQuiet_nil ?_
  intro _ hwz
  obtain ⟨u, rfl⟩ := hwz
  have HX := Lib.hid (HF.out.trans u.h (fun _ h => h.elim))
  go_wp2_with fail
  go_ret
  exact ⟨rfl, HX.out⟩
set_option maxRecDepth 100000 in
set_option maxHeartbeats 6400000 in
theorem dnode_any (y : Int) (b1 b2 : UInt8) (hb1 : y / 256 % 256 = (b1.toNat : Int)) (hb2 : y % 256 = (b2.toNat : Int)) (l r : List UInt8) (hl : l.length = 32) (hr : r.length = 32) (w : World) (hE : REnv w) : Calls Tryd.prog 10 #[.int .i64 y, .string ⟨l.toArray⟩, .string ⟨r.toArray⟩] w fun e w' => e = .returned (.string ⟨(Tn.node b1 b2 l r).toArray⟩) ∧ Fr (fun _ => False) w w' := by
  have B0 := heap_alloc_new w (.cells #[.int .u8 (b1.toNat : Int), .int .u8 (b2.toNat : Int)] 5)
  have F0 := (Fr.refl (fun _ => False) w).alloc (.cells #[.int .u8 (b1.toNat : Int), .int .u8 (b2.toNat : Int)] 5)
  have cv : (convert 33 9 (.slice (some ⟨w.heap.size, 0, none⟩) 2 2)).run Tryd.prog (w.alloc (.cells #[.int .u8 (b1.toNat : Int), .int .u8 (b2.toNat : Int)] 5)) = .ok (.string ⟨[b1, b2].toArray⟩) (w.alloc (.cells #[.int .u8 (b1.toNat : Int), .int .u8 (b2.toNat : Int)] 5)) := (came_cells (l := [b1, b2]) B0 rfl (by simp)).str2
  have HF := Lib.hid F0
  have HS := Lib.hid (show ∀ (V : World) (F : Fr (fun _ => False) w V), Calls Tryd.prog 13 #[.string ⟨(1 :: b1 :: b2 :: (l ++ r)).toArray⟩] V fun e w' => e = .returned (.string ⟨(Tn.node b1 b2 l r).toArray⟩) ∧ Fr (fun _ => False) V w' from fun V F => rsum_str (1 :: b1 :: b2 :: (l ++ r)) (by simp; omega) V (hE.ext F))
  have c1 := fun W => str_add [1] [b1, b2] (by simp) (by simp) W
  have c2 := fun W => str_add [1, b1, b2] l (by simp) (by omega) W
  have c3 := fun W => str_add (1 :: b1 :: b2 :: l) r (by simp; omega) (by omega) W
  have e1 : str ([1] ++ [b1, b2]) = .string ⟨[1, b1, b2].toArray⟩ := rfl
  have e2 : str ([1, b1, b2] ++ l) = .string ⟨(1 :: b1 :: b2 :: l).toArray⟩ := rfl
  have e3 : str (1 :: b1 :: b2 :: l ++ r) = .string ⟨(1 :: b1 :: b2 :: (l ++ r)).toArray⟩ := rfl
  rw [e1] at c1
  rw [e2] at c2
  rw [e3] at c3
  clear e1 e2 e3 B0 F0 hE hl hr
  go_enter Tryd.func10, Tryd.ntmps10
  go_wp2_with fail
  refine (HS.out _ HF.out).mono ?_
  rintro e w1 ⟨rfl, F1⟩
  have HX := Lib.hid (HF.out.trans F1 (fun _ h => h.elim))
  clear F1
  go_wp2_with fail
  go_ret
  exact ⟨rfl, HX.out⟩
end Go.Proofs.YtnidfcmomdmjaaaDoor
namespace Go.Proofs.YtnidfcmomdmjaaaDoor
open Go.RowKit
set_option linter.unusedVariables false
set_option linter.unusedSimpArgs false
set_option maxRecDepth 100000 in
set_option maxHeartbeats 6400000 in
theorem ins_one (a : Option Addr) (c : Nat) (f : Value) (w : World) : Calls Tryd.prog 39 #[.slice a 1 c, .int .i64 0, .int .i64 1, f] w fun e w' => e = .returned (.tuple #[]) ∧ w = w' := by
  go_enter Tryd.func39, Tryd.ntmps39
  go_wp2_with fail
  refine wp_loop_up 0 (fun i t w' => t = _ ∧ w = w') _ w ⟨rfl, rfl⟩ ?_
  rintro i t w' hi ⟨rfl, rfl⟩ KK hKK
  go_wp2_with fail
  go_returns
  exact ⟨rfl, rfl⟩
set_option maxRecDepth 100000 in
set_option maxHeartbeats 6400000 in
theorem comp_one (a : Option Addr) (c : Nat) (f : Value) (w : World) : Calls Tryd.prog 23 #[.slice a 1 c, f] w fun e w' => e = .returned (.slice a 1 c) ∧ w = w' := by
  go_enter Tryd.func23, Tryd.ntmps23
  go_wp2_with fail
  go_ret
  exact ⟨rfl, rfl⟩
set_option maxRecDepth 100000 in
set_option maxHeartbeats 6400000 in
theorem rev_one (a : Option Addr) (c : Nat) (w : World) : Calls Tryd.prog 19 #[.slice a 1 c] w fun e w' => e = .returned (.tuple #[]) ∧ w = w' := by
  go_enter Tryd.func19, Tryd.ntmps19
  go_wp2_with fail
  refine wp_loop_up 0 (fun i t w' => t = _ ∧ w = w') _ w ⟨rfl, rfl⟩ ?_
  rintro i t w' hi ⟨rfl, rfl⟩ KK hKK
  go_wp2_with fail
  go_returns
  exact ⟨rfl, rfl⟩
end Go.Proofs.YtnidfcmomdmjaaaDoor
namespace Go.Proofs.YtnidfcmomdmjaaaDoor
open Go.RowKit
set_option linter.unusedVariables false
set_option linter.unusedSimpArgs false
set_option maxRecDepth 100000 in
set_option maxHeartbeats 6400000 in
theorem stab_one (a : Option Addr) (c : Nat) (f : Value) (w : World) : Calls Tryd.prog 30 #[.slice a 1 c, .int .i64 1, f] w fun e w' => e = .returned (.tuple #[]) ∧ w = w' := by
  go_enter Tryd.func30, Tryd.ntmps30
  go_wp2_with fail
  refine wp_loop_up 0 (fun i t w' => t = _ ∧ w = w') _ w ⟨rfl, rfl⟩ ?_
  rintro i t w' hi ⟨rfl, rfl⟩ KK hKK
  go_wp2_with fail
  refine (ins_one a c f w).mono ?_
  rintro e w2 ⟨rfl, rfl⟩
  go_wp2_with fail
  refine wp_loop_up 0 (fun i t w' => t = _ ∧ w = w') _ w ⟨rfl, rfl⟩ ?_
  rintro i t w' hi ⟨rfl, rfl⟩ KK hKK
  go_wp2_with fail
  go_returns
  exact ⟨rfl, rfl⟩
set_option maxRecDepth 100000 in
set_option maxHeartbeats 6400000 in
theorem sort_one (a : Option Addr) (c : Nat) (f : Value) (w : World) : Calls Tryd.prog 20 #[.slice a 1 c, f] w fun e w' => e = .returned (.tuple #[]) ∧ w = w' := by
  go_enter Tryd.func20, Tryd.ntmps20
  go_wp2_with fail
  refine (stab_one a c f w).mono ?_
  rintro e w2 ⟨rfl, rfl⟩
  go_wp2_with fail
  go_returns
  exact ⟨rfl, rfl⟩
set_option maxRecDepth 100000 in
theorem lInfo : ∃ ti z, Tryd.prog.info? 30 = some ti ∧ ti.zero = some z ∧ ti.size = 64 ∧ ti.bytes = 64 ∧ z.cells.size = 64 := ⟨_, .agg (ub 64 (fun _ => 0)), rfl, by kernel_rfl, by kernel_rfl, by kernel_rfl, by kernel_rfl⟩
set_option maxRecDepth 100000 in
set_option maxHeartbeats 6400000 in
theorem clone_one (g : Nat) (k v : List UInt8) (hk : k.length = 32) (hv : v.length = 32) (w : World) (hg : w.heap[g]? = some (.cells (leafRow k v) 30 (0, 0))) : Calls Tryd.prog 18 #[.slice (some ⟨g, 0, none⟩) 1 1] w fun e w' => (∃ u, e = .returned u ∧ w'.ownsRow w.heap.size 30 64 u 1 (bv (k ++ v))) ∧ Fr (fun _ => False) w w' := by
  obtain ⟨ti, zz, hI⟩ := lInfo
  have HI := Lib.hid hI
  have hown : (w.alloc (.cells #[] 30)).ownsRow w.heap.size 30 64 (.slice (some ⟨w.heap.size, 0, none⟩) 0 0) 0 [] := ⟨rfl, .inr ⟨w.heap.size, 0, #[], rfl, Nat.le_refl _, heap_alloc_new w _, Nat.le_refl _, Nat.zero_le _, rfl, rfl⟩⟩
  have hsrc : Src Tryd.prog 64 42 (.slice (some ⟨g, 0, none⟩) 1 1) 1 (bv (k ++ v)) (w.alloc (.cells #[] 30)) :=
    Src.ofSlice _ Tryd.underlying42 ⟨g, 0, none⟩ 1 1 _ (by rw [bv_length, List.length_append, hk, hv]) (fun j u hj => by
      rw [Addr.add_mid, Nat.zero_add, cell_of_block ((((Fr.refl (fun _ => False) w).alloc (.cells #[] 30)).block _ (lt_of_block hg) (fun h => h)).trans hg), leafRow, List.getElem?_toArray]; exact hj) (bv_one _)
  have HO := Lib.hid (And.intro hown hsrc)
  have hnil := Lib.run_eql_slice_nil (P := Tryd.prog) w 42 30 (some ⟨g, 0, none⟩) 1 1 0 0 Tryd.underlying42
  clear hown hsrc hg hI hk hv
  go_enter Tryd.func18, Tryd.ntmps18
  go_wp2_with (at_builtin; refine wpList_app _ rfl (.tmp 5) (.tmp 6) 42 42 rfl w.heap.size 30 ti zz 64 64 Tryd.underlying42 HI.out.1 HI.out.2.1 HI.out.2.2.1 HI.out.2.2.2.1 HI.out.2.2.2.2 (by decide) (.slice (some ⟨w.heap.size, 0, none⟩) 0 0) 0 [] rfl HO.out.1 _ rfl 1 (bv (k ++ v)) HO.out.2 (by unfold maxLen; omega) (by omega) (by simp) ?_; intro v5 w2 O5 G5 G5x; simp only [Act.put, List.setIfInBounds_toArray, List.set_cons_zero, List.set_cons_succ]; refine Hid.out ?_)
  have F2 : Fr (fun _ => False) w w2 := ((Fr.refl (fun _ => False) w).alloc (.cells #[] 30)).trans (Fr.ofGrown G5) (fun i hi => .inr (by simp [Value.ownBlock] at hi; omega))
  rw [List.nil_append, Nat.zero_add] at O5
  have H5 := Lib.hid (And.intro O5 F2)
  clear O5 G5 G5x F2
  refine Lib.hid ?_
  go_wp2_with fail
  go_ret
  exact ⟨⟨_, rfl, H5.out.1⟩, H5.out.2⟩
set_option maxRecDepth 100000 in
set_option maxHeartbeats 6400000 in
theorem tlen_some (g : Nat) (n : Int) (w : World) (h : w.cell? ⟨g, 0, none⟩ = some (.int .i64 n)) : Calls Tryd.prog 15 #[.pointer (some ⟨g, 0, none⟩)] w fun e w' => e = .returned (.int .i64 n) ∧ w = w' := by
  go_enter Tryd.func15, Tryd.ntmps15
  go_wp2_with fail
  go_ret
  exact ⟨rfl, rfl⟩
set_option maxRecDepth 100000 in
theorem wpList_load_kv {ops : Array Oper} {rest : List Oper} {o : Oper} {a : Act} {w : World} {Q : Exit → Act → World → Prop} (hgd : o.guard = none) (x : Operand) (ho : o.op = .load 22 x) (g q : Nat) (hx : a.eval x = .pointer (some ⟨g, q, none⟩)) (r : List UInt8) (hr : r.length = 32) (hc : ∀ (i : Nat) (u : Value), (krow r)[i]? = some u → w.cell? ⟨g, q + i, none⟩ = some u)
    (h : wpList Tryd.prog ops Q rest (a.put o.dst (.agg (krow r))) w) : wpList Tryd.prog ops Q (o :: rest) a w := by
  refine wpList_load_mid hgd 22 x ho g q hx (krow r).toList _ (fun j u hj => hc j u (by simpa using hj)) Tryd.underlying22 rfl (by rw [sz32, Array.length_toList, krow_size, hr]) ?_
  rw [Array.toArray_toList]; exact h
set_option maxRecDepth 100000 in
theorem wpList_load_leaf {ops : Array Oper} {rest : List Oper} {o : Oper} {a : Act} {w : World} {Q : Exit → Act → World → Prop} (hgd : o.guard = none) (x : Operand) (ho : o.op = .load 30 x) (g q : Nat) (hx : a.eval x = .pointer (some ⟨g, q, none⟩)) (k v : List UInt8) (hk : k.length = 32) (hv : v.length = 32) (hc : ∀ (i : Nat) (u : Value), (leafRow k v)[i]? = some u → w.cell? ⟨g, q + i, none⟩ = some u)
    (h : wpList Tryd.prog ops Q rest (a.put o.dst (.agg (leafRow k v))) w) : wpList Tryd.prog ops Q (o :: rest) a w := by
  have hs : (Tryd.prog.info? 30).map (·.size) = some 64 := by kernel_rfl
  refine wpList_load_mid hgd 30 x ho g q hx (leafRow k v).toList _ (fun j u hj => hc j u (by simpa using hj)) Tryd.underlying30 rfl (by rw [hs, Array.length_toList, leaf_size hk hv]) ?_
  rw [Array.toArray_toList]; exact h
set_option maxRecDepth 100000 in
set_option maxHeartbeats 6400000 in
theorem troot_some (g : Nat) (n : Int) (hn : n ≠ 0) (s : List UInt8) (hs : s.length = 32) (w : World) (h : w.cell? ⟨g, 0, none⟩ = some (.int .i64 n)) (hc : ∀ (i : Nat) (u : Value), (krow s)[i]? = some u → w.cell? ⟨g, 1 + i, none⟩ = some u) : Calls Tryd.prog 14 #[.pointer (some ⟨g, 0, none⟩)] w fun e w' => e = .returned (.agg (krow s)) ∧ Fr (fun _ => False) w w' := by
  have B0 := heap_alloc_new w (.cells (ub 32 (fun _ => 0)) 22)
  have F0 := (Fr.refl (fun _ => False) w).alloc (.cells (ub 32 (fun _ => 0)) 22)
  have HB := Lib.hid B0
  have HF := Lib.hid F0
  have HL := Lib.hid (tlen_some g n _ (F0.cellSome (p := ⟨g, 0, none⟩) (fun h => h) h))
  have hc1 : ∀ (i : Nat) (u : Value), (krow s)[i]? = some u → (w.alloc (.cells (ub 32 (fun _ => 0)) 22)).cell? ⟨g, 1 + i, none⟩ = some u := fun i u hu => F0.cellSome (p := ⟨g, 1 + i, none⟩) (fun h => h) (hc i u hu)
  have HS := Lib.hid hs
  have b0 : (n == 0) = false := beq_eq_false_iff_ne.2 hn
  clear B0 F0 h hc hs
  go_enter Tryd.func14, Tryd.ntmps14
  go_wp2_with (focus (rw [zero32]))
  generalize (w.alloc (.cells (ub 32 (fun _ => 0)) 22)) = w1 at *
  refine HL.out.mono ?_
  rintro e w2 ⟨rfl, rfl⟩
  clear HL
  go_wp2_with (first | (focus ((refine wpList_load_kv rfl (.tmp 9) rfl g 1 rfl s HS.out hc1 ?_); simp only [Act.put, List.setIfInBounds_toArray, List.set_cons_zero, List.set_cons_succ])) | (focus (refine wpList_store_rowA rfl 22 (.tmp 2) (.tmp 10) rfl w.heap.size (krow s) rfl rfl 22 _ HB.out (sz32' HS.out) (by rw [ub_size, krow_size, HS.out]) (krow_one _) ?_; intro w2 B2 F2; simp only [Act.put, List.setIfInBounds_toArray, List.set_cons_zero, List.set_cons_succ]; refine Hid.out ?_)))
  have HX := Lib.hid (HF.out.trans F2 (fun i hi => .inr (by rw [hi]; exact Nat.le_refl _)))
  have HB2 := Lib.hid B2
  clear F2 B2
  refine Lib.hid ?_
  go_wp2_with fail
  refine bodyPost_ret (results_cell_row rfl _ _ w.heap.size 22 (krow s) (0, 0) _ rfl HB2.out Tryd.underlying22 rfl (sz32' HS.out)) rfl ?_
  exact ⟨rfl, HX.out⟩
end Go.Proofs.YtnidfcmomdmjaaaDoor
namespace Go.Proofs.YtnidfcmomdmjaaaDoor
open Go.RowKit
set_option linter.unusedVariables false
set_option linter.unusedSimpArgs false
set_option maxRecDepth 100000 in
theorem parts_one {w : World} {b : Nat} {a : Option Addr} {n c : Nat} {x : List UInt8} {t : TypeId} {fr : Nat × Nat} (h : w.heap[b]? = some (.cells #[.slice a n c] t fr)) (hx : Came w a n c x) : Parts w (some ⟨b, 0, none⟩) [x] := by
  refine Or.inr ⟨b, 0, rfl, fun j hj => ?_⟩
  match j, hj with
  | 0, _ => exact ⟨a, c, by rw [cell_of_block h]; simp [hx.len], hx.lies, by have := hx.le; have := hx.len; simp; omega, hx.mx⟩
set_option maxRecDepth 100000 in
set_option maxHeartbeats 6400000 in
theorem tnone_any (w : World) (hE : Env w) : Calls Tryd.prog 4 #[] w fun e w' => e = .returned (.agg (krow Tn.none)) ∧ Fr (fun _ => False) w w' := by
  go_enter Tryd.func4, Tryd.ntmps4
  go_wp2_with fail
  rw [zero32]
  have B0 := heap_three w (.cells (ub 32 (fun _ => 0)) 22) (.cells #[.int .u8 2] 5) (.cells #[.slice (some ⟨w.heap.size + 1, 0, none⟩) 1 1] 33)
  have B1 := heap_three1 w (.cells (ub 32 (fun _ => 0)) 22) (.cells #[.int .u8 2] 5) (.cells #[.slice (some ⟨w.heap.size + 1, 0, none⟩) 1 1] 33)
  have B2 := heap_three2 w (.cells (ub 32 (fun _ => 0)) 22) (.cells #[.int .u8 2] 5) (.cells #[.slice (some ⟨w.heap.size + 1, 0, none⟩) 1 1] 33)
  have F0 := (((Fr.refl (fun _ => False) w).alloc (.cells (ub 32 (fun _ => 0)) 22)).alloc (.cells #[.int .u8 2] 5)).alloc (.cells #[.slice (some ⟨w.heap.size + 1, 0, none⟩) 1 1] 33)
  generalize (((w.alloc (.cells (ub 32 (fun _ => 0)) 22)).alloc (.cells #[.int .u8 2] 5)).alloc (.cells #[.slice (some ⟨w.heap.size + 1, 0, none⟩) 1 1] 33)) = w3 at *
  refine (psum_any _ [[2]] 1 1 rfl _ (parts_one B2 (came_cells (l := [2]) B1 rfl (by decide))) (by unfold maxLen; omega) (by simp) (hE.fr F0 (fun h => h))).mono ?_
  rintro e w4 ⟨rfl, F4⟩
  have hsum : sumc ([[2]] : List (List UInt8)).flatten = krow Tn.none := by rw [krow_sum]; rfl
  rw [hsum]
  have HB4 := Lib.hid ((F4.block _ (lt_of_block B0) (fun h => h)).trans B0)
  have HF4 := Lib.hid (F0.trans F4 (fun _ h => h.elim))
  clear B0 B1 B2 F0 F4 hE hsum
  go_wp2_with (focus (refine wpList_store_rowA rfl 22 (.tmp 0) (.tmp 3) rfl w.heap.size (krow Tn.none) rfl rfl 22 _ HB4.out (sz32' Tn.none_len) (by rw [ub_size, krow_size, Tn.none_len]) (krow_one _) ?_; intro w5 B5 F5; simp only [Act.put, List.setIfInBounds_toArray, List.set_cons_zero, List.set_cons_succ]; refine Hid.out ?_))
  have HB5 := Lib.hid B5
  have HX := Lib.hid (HF4.out.trans F5 (fun i hi => .inr (by rw [hi]; exact Nat.le_refl _)))
  clear B5 F5
  refine Lib.hid ?_
  go_wp2_with fail
  refine bodyPost_ret (results_cell_row rfl _ _ w.heap.size 22 (krow Tn.none) (0, 0) _ rfl HB5.out Tryd.underlying22 rfl (sz32' Tn.none_len)) rfl ?_
  exact ⟨rfl, HX.out⟩
set_option maxRecDepth 100000 in
set_option maxHeartbeats 6400000 in
theorem tree_built0 (f : Nat → UInt8) (h : Nat → UInt8) : ∃ C, Tryd.prog.built 64 [(0, .int .i64 1), (1, .agg (ub 32 f)), (2, .agg (ub 64 h))] = some C ∧ C[0]? = some (.int .i64 1) ∧ (List.range 32).map (fun j => C[1 + j]?) = (List.range 32).map (fun j => (ub 32 f)[j]?) :=
  ⟨(Tryd.prog.built 64 [(0, .int .i64 1), (1, .agg (ub 32 f)), (2, .agg (ub 64 h))]).getD #[], by kernel_rfl, by kernel_rfl, by kernel_rfl⟩
set_option maxRecDepth 100000 in
set_option maxHeartbeats 6400000 in
theorem tree_built (s k v : List UInt8) (hs : s.length = 32) (hk : k.length = 32) (hv : v.length = 32) : ∃ C, Tryd.prog.built 64 [(0, .int .i64 1), (1, .agg (krow s)), (2, .agg (leafRow k v))] = some C ∧ C[0]? = some (.int .i64 1) ∧ ∀ (i : Nat) (u : Value), (krow s)[i]? = some u → C[1 + i]? = some u := by
  obtain ⟨f, hf⟩ := bv_range s hs
  have hl : leafRow k v = ub 64 (fun j => (k ++ v).getD j 0) := by
    apply Array.ext_getElem?
    intro j
    by_cases hj : j < 64
    · rw [ub_get 64 _ j hj, leafRow, List.getElem?_toArray, bv_get' (k ++ v) j (by rw [List.length_append]; omega), List.getD_eq_getElem?_getD, List.getElem?_eq_getElem (by rw [List.length_append]; omega)]; rfl
    · rw [Array.getElem?_eq_none (by rw [leaf_size hk hv]; omega), Array.getElem?_eq_none (by rw [ub_size]; omega)]
  rw [hl, hf]
  obtain ⟨C, h1, h2, h3⟩ := tree_built0 f (fun j => (k ++ v).getD j 0)
  refine ⟨C, h1, h2, fun i u hu => ?_⟩
  have hi : i < 32 := by
    have := (Array.getElem?_eq_some_iff.1 hu).1
    rwa [ub_size] at this
  have h4 := congrArg (fun l => l[i]?) h3
  simp only [List.getElem?_map, List.getElem?_range hi, Option.map_some, Option.some.injEq] at h4
  rw [h4]; exact hu
/-- A tree of one leaf, in memory. -/
structure To (w : World) (g : Nat) (s : List UInt8) : Prop where
  c0 : w.cell? ⟨g, 0, none⟩ = some (.int .i64 1)
  cs : ∀ (i : Nat) (u : Value), (krow s)[i]? = some u → w.cell? ⟨g, 1 + i, none⟩ = some u
set_option maxRecDepth 100000 in
theorem To.ext {w w' : World} {g : Nat} {s : List UInt8} (h : To w g s) (F : Fr (fun _ => False) w w') : To w' g s := ⟨F.cellSome (p := ⟨g, 0, none⟩) (fun h => h) h.c0, fun i u hu => F.cellSome (p := ⟨g, 1 + i, none⟩) (fun h => h) (h.cs i u hu)⟩
set_option maxRecDepth 100000 in
set_option maxHeartbeats 6400000 in
theorem one_any (k v : List UInt8) (hk : k.length = 32) (hv : v.length = 32) (w : World) (hE : Env w) : Calls Tryd.prog 32 #[.agg (leafRow k v)] w fun e w' => (∃ g, e = .returned (.pointer (some ⟨g, 0, none⟩)) ∧ To w' g (Tn.leaf k v)) ∧ Fr (fun _ => False) w w' := by
  have s1 : (Tryd.prog.info? 30).map (·.size) = some (leafRow k v).size := by rw [leaf_size hk hv]; kernel_rfl
  obtain ⟨C, hC, hC0, hCs⟩ := tree_built (Tn.leaf k v) k v (Tn.leaf_len _ _) hk hv
  have B0 := heap_alloc_new w (.cells (leafRow k v) 30)
  have F0 := (Fr.refl (fun _ => False) w).alloc (.cells (leafRow k v) 30)
  have HF := Lib.hid F0
  have HB := Lib.hid B0
  have HC := Lib.hid (And.intro hC (And.intro hC0 hCs))
  have HL := Lib.hid (fun (V : World) (F : Fr (fun _ => False) w V) => tleaf_any k v hk hv V (hE.ext F))
  generalize Tn.leaf k v = sl at *
  generalize leafRow k v = LR at *
  clear B0 F0 hE hk hv hC hC0 hCs
  go_enter Tryd.func32, Tryd.ntmps32
  go_wp2_with fail
  generalize (w.alloc (.cells LR 30)) = w1 at *
  refine Ks.wp_region_mono (fun _ => False) (sg 0 1 ++ (sg 2 1 ++ ((1, true) :: (sg 3 1 ++ ((4, true) :: ((5, true) :: ([]))))))) (by kernel_rfl) (by kernel_rfl) ?_
  refine Ks.Wk.seg 0 1 (by kernel_rfl) (by kernel_rfl) ?_
  apply Exists.intro
  refine ⟨?wk0, ?fin0⟩
  case wk0 =>
    intro γ
    simp only [List.drop_succ_cons, List.drop_zero, List.take_succ_cons, List.take_zero]
    repeat (any_goals (first | (focus (go_big_quiet_want; (refine Ks.quiet_load_rows 30 (.tmp 1) rfl w.heap.size rfl 30 LR (0, 0) _ HB.out (fun h => h) Tryd.underlying30 rfl s1 ?_); simp only [Act.put, List.setIfInBounds_toArray, List.set_cons_zero, List.set_cons_succ]; go_big_quiet_on)) | go_big_quiet_step (fail) | quiet_step (fail)))
    exact wpQuiet_nil rfl
  case fin0 =>
  (try simp only [Act.put, List.setIfInBounds_toArray, List.set_cons_zero, List.set_cons_succ])
  refine Ks.Wk.seg 2 1 (by kernel_rfl) (by kernel_rfl) ?_
  apply Exists.intro
  refine ⟨?wk1, ?fin1⟩
  case wk1 =>
    intro γ
    simp only [List.drop_succ_cons, List.drop_zero, List.take_succ_cons, List.take_zero]
    repeat (any_goals (first | (focus (go_big_quiet_want; (refine Ks.quiet_load_rows 30 (.tmp 1) rfl w.heap.size rfl 30 LR (0, 0) _ HB.out (fun h => h) Tryd.underlying30 rfl s1 ?_); simp only [Act.put, List.setIfInBounds_toArray, List.set_cons_zero, List.set_cons_succ]; go_big_quiet_on)) | go_big_quiet_step (fail) | quiet_step (fail)))
    exact wpQuiet_nil rfl
  case fin1 =>
  (try simp only [Act.put, List.setIfInBounds_toArray, List.set_cons_zero, List.set_cons_succ])
  refine Ks.Wk.call rfl (by kernel_rfl) 5 #[.agg LR] (fun W => by first | kernel_rfl | rfl) (fun vv V => vv = .agg (krow sl)) (fun V hx => (HL.out V (HF.out.trans hx (fun _ h => h.elim))).mono (fun e w' he => ⟨_, he.1, he.2, rfl⟩)) ?_
  rintro vv w2 X2 rfl
  (try simp only [List.getElem_toArray, List.getElem_cons_succ, List.getElem_cons_zero, Act.put, List.setIfInBounds_toArray, List.set_cons_zero, List.set_cons_succ])
  refine Ks.Wk.seg 3 1 (by kernel_rfl) (by kernel_rfl) ?_
  apply Exists.intro
  refine ⟨?wk3, ?fin3⟩
  case wk3 =>
    intro γ
    simp only [List.drop_succ_cons, List.drop_zero, List.take_succ_cons, List.take_zero]
    repeat (any_goals (first | (focus (go_big_quiet_want; (refine quiet_build3 64 0 1 2 (.const (.int .i64 1)) (.tmp 4) (.tmp 5) (.int .i64 1) (.agg (krow sl)) (.agg LR) rfl C HC.out.1 rfl rfl rfl ?_); simp only [Act.put, List.setIfInBounds_toArray, List.set_cons_zero, List.set_cons_succ]; go_big_quiet_on)) | go_big_quiet_step (fail) | quiet_step (fail)))
    exact wpQuiet_nil rfl
  case fin3 =>
  (try simp only [Act.put, List.setIfInBounds_toArray, List.set_cons_zero, List.set_cons_succ])
  refine Ks.Wk.one rfl (fun w3 Xw3 => ?_)
  go_wp2_with fail
  refine ⟨Ks.Es.of ((Fr.refl _ w3).alloc _), ?_⟩
  (try simp only [List.getElem_toArray, List.getElem_cons_succ, List.getElem_cons_zero, Act.put, List.setIfInBounds_toArray, List.set_cons_zero, List.set_cons_succ])
  have B4 := heap_alloc_new w3 (.cells C 64)
  have X4 := (X2.trans Xw3 (fun _ h => h.elim)).alloc (.cells C 64)
  refine Ks.Wk.one rfl (fun w5 Xw5 => ?_)
  go_wp2_with fail
  refine ⟨Ks.Es.of (Fr.refl _ _), ?_⟩
  (try simp only [List.getElem_toArray, List.getElem_cons_succ, List.getElem_cons_zero, Act.put, List.setIfInBounds_toArray, List.set_cons_zero, List.set_cons_succ])
  intro w6 X6
  have X46 := Xw5.trans X6 (fun _ h => h.elim)
  have B6 := (X46.block _ (lt_of_block B4) (fun h => h)).trans B4
  have HT := Lib.hid (show To w6 w3.heap.size sl from ⟨(cell_of_block B6 _).trans HC.out.2.1, fun i u hu => (cell_of_block B6 _).trans (HC.out.2.2 i u hu)⟩)
  have HX := Lib.hid (HF.out.trans (X4.trans X46 (fun _ h => h.elim)) (fun _ h => h.elim))
  clear X46 B6 X4 B4 X6 Xw5 Xw3 X2
  go_wp2_with fail
  go_ret
  exact ⟨⟨_, rfl, HT.out⟩, HX.out⟩
end Go.Proofs.YtnidfcmomdmjaaaDoor

/-
  The contract of joined of package sha2; the bytes of a padding.
-/
import Derived.Test.YtndakfanlgilmaaDoorPad
namespace Go.Proofs.YtndakfanlgilmaaDoor
open Go.RowKit
set_option linter.unusedVariables false

set_option maxRecDepth 100000 in
theorem pf_pad (c : Nat) : (List.range (S2.padLen c)).map (pf c 8) = S2.pad c := by
  have hp : S2.padLen c = 64 - (c % 64 + 8) % 64 + 8 := rfl
  have hl : (S2.pad c).length = S2.padLen c := by simp [S2.pad, S2.be8]; omega
  apply List.ext_getElem?
  intro i
  by_cases h1 : i < S2.padLen c
  · rw [List.getElem?_map, List.getElem?_range h1, Option.map_some]
    unfold pf S2.pad
    by_cases h0 : i = 0
    · subst h0; simp
    · rw [if_neg h0]
      obtain ⟨d, rfl⟩ : ∃ d, i = d + 1 := ⟨i - 1, by omega⟩
      rw [List.getElem?_cons_succ]
      by_cases h3 : S2.padLen c ≤ d + 1 + 8
      · rw [if_pos ⟨h3, h1⟩, List.getElem?_append_right (by simp; omega)]
        simp only [List.length_replicate, S2.be8]
        rw [List.getElem?_map, List.getElem?_range (by omega), Option.map_some]
        congr 2
        rw [show 56 - 8 * (d - (S2.padLen c - 9)) = 8 * (S2.padLen c - 1 - (d + 1)) by omega, Nat.pow_mul]
      · rw [if_neg (by omega), List.getElem?_append_left (by simp; omega), List.getElem?_replicate, if_pos (by omega)]
  · rw [List.getElem?_eq_none (by simp; omega), List.getElem?_eq_none (by omega)]

set_option maxRecDepth 100000 in
theorem heap_three (w : World) (A B C : Obj) : (((w.alloc A).alloc B).alloc C).heap[w.heap.size]? = some A := by
  rw [Below.heap_alloc _ _ _ (by simp; omega), Below.heap_alloc _ _ _ (by simp), heap_alloc_new]
set_option maxRecDepth 100000 in
theorem heap_three1 (w : World) (A B C : Obj) : (((w.alloc A).alloc B).alloc C).heap[w.heap.size + 1]? = some B := by
  rw [Below.heap_alloc _ _ _ (by simp)]
  exact heap_alloc2_new w A B
set_option maxRecDepth 100000 in
theorem heap_three2 (w : World) (A B C : Obj) : (((w.alloc A).alloc B).alloc C).heap[w.heap.size + 1 + 1]? = some C := by
  have h := heap_alloc_new ((w.alloc A).alloc B) C
  rw [show ((w.alloc A).alloc B).heap.size = w.heap.size + 2 by simp] at h
  exact h
set_option maxRecDepth 100000 in
theorem Tryd.size8' {f : Nat → Nat} : (Tryd.prog.info? 72).map (·.size) = some (uv 8 f).size := by
  rw [uv_size]; kernel_rfl
/-- Word j of a state. -/
def sw (s : S2.St) (j : Nat) : Nat := s.list.getD j 0
set_option maxRecDepth 100000 in
theorem stv_uv (s : S2.St) : stv s = uv 8 (sw s) := rfl
set_option maxRecDepth 100000 in
theorem run_index8 (f : Nat → Nat) (k : Nat) (hk : k < 8) (w : World) : (Instr.index 72 (.agg (uv 8 f)) (.int .i64 (k : Int))).run Tryd.prog w = .ok (.int .u32 (f k : Int)) w := by
  have h1 := uv_get 8 f k hk
  obtain ⟨i0, hi, hz⟩ := Option.map_eq_some_iff.1 (show (Tryd.prog.info? 71).map (·.size) = some 1 by kernel_rfl)
  simp [Instr.index, asIntOf, run_underlying Tryd.underlying72, hk, part, sizeOf, typeInfo, hi, hz, h1]

/-- Byte idx of the words' bytes, of which the first k words are laid. -/
def jf (s : S2.St) (k idx : Nat) : UInt8 := if idx < 4 * k then (S2.out s).getD idx 0 else 0
set_option maxRecDepth 100000 in
theorem out_get (s : S2.St) (k : Nat) (hk : k < 8) (j : Nat) (hj : j < 4) : (S2.out s).getD (4 * k + j) 0 = (S2.be4 (s.list.getD k 0)).getD j 0 := by
  rcases s with ⟨a, b, c, d, e, f, g, h⟩
  match k, hk, j, hj with
  | 0, _, 0, _ | 0, _, 1, _ | 0, _, 2, _ | 0, _, 3, _ | 1, _, 0, _ | 1, _, 1, _ | 1, _, 2, _ | 1, _, 3, _ | 2, _, 0, _ | 2, _, 1, _ | 2, _, 2, _ | 2, _, 3, _ | 3, _, 0, _ | 3, _, 1, _ | 3, _, 2, _ | 3, _, 3, _
  | 4, _, 0, _ | 4, _, 1, _ | 4, _, 2, _ | 4, _, 3, _ | 5, _, 0, _ | 5, _, 1, _ | 5, _, 2, _ | 5, _, 3, _ | 6, _, 0, _ | 6, _, 1, _ | 6, _, 2, _ | 6, _, 3, _ | 7, _, 0, _ | 7, _, 1, _ | 7, _, 2, _ | 7, _, 3, _ => rfl
set_option maxRecDepth 100000 in
theorem jf_step (s : S2.St) (k n : Nat) (hk : k < 8) (hn : s.list.getD k 0 = n) (v0 v1 v2 v3 : Int) (h0 : v0 = ((n / 16777216 % 256 : Nat) : Int)) (h1 : v1 = ((n / 65536 % 256 : Nat) : Int)) (h2 : v2 = ((n / 256 % 256 : Nat) : Int)) (h3 : v3 = ((n % 256 : Nat) : Int)) :
    ((((ub 32 (jf s k)).setIfInBounds (4 * k) (.int .u8 v0)).setIfInBounds (4 * k + 1) (.int .u8 v1)).setIfInBounds (4 * k + 2) (.int .u8 v2)).setIfInBounds (4 * k + 3) (.int .u8 v3) = ub 32 (jf s (k + 1)) := by
  have e : ∀ m : Nat, ((m % 256 : Nat) : Int) = ((UInt8.ofNat m).toNat : Int) := fun m => by rw [UInt8.toNat_ofNat']
  rw [h0, h1, h2, h3, e, e, e, e, ub_set _ _ _ _ (by omega), ub_set _ _ _ _ (by omega), ub_set _ _ _ _ (by omega), ub_set _ _ _ _ (by omega)]
  refine ub_congr fun i hi => ?_
  have g0 := out_get s k hk 0 (by omega)
  have g1 := out_get s k hk 1 (by omega)
  have g2 := out_get s k hk 2 (by omega)
  have g3 := out_get s k hk 3 (by omega)
  rw [hn] at g0 g1 g2 g3
  unfold jf
  by_cases i3 : i = 4 * k + 3
  · subst i3; rw [if_pos rfl, if_pos (by omega), g3]; rfl
  · rw [if_neg i3]
    by_cases i2 : i = 4 * k + 2
    · subst i2; rw [if_pos rfl, if_pos (by omega), g2]; rfl
    · rw [if_neg i2]
      by_cases i1 : i = 4 * k + 1
      · subst i1; rw [if_pos rfl, if_pos (by omega), g1]; rfl
      · rw [if_neg i1]
        by_cases i0 : i = 4 * k
        · subst i0; rw [if_pos rfl, if_pos (by omega)]; rw [Nat.add_zero] at g0; rw [g0]; rfl
        · rw [if_neg i0]
          by_cases h : i < 4 * k
          · rw [if_pos h, if_pos (by omega)]
          · rw [if_neg h, if_neg (by omega)]
set_option maxRecDepth 100000 in
theorem Tryd.size32 {f : Nat → UInt8} : (Tryd.prog.info? 22).map (·.size) = some (ub 32 f).size := by
  rw [ub_size]; kernel_rfl
/-- A sum as 32 cells. -/
def sumv (s : S2.St) : Array Value := ub 32 (fun j => (S2.out s).getD j 0)
set_option maxRecDepth 100000 in
theorem zero32 : (#[.int .u8 0, .int .u8 0, .int .u8 0, .int .u8 0, .int .u8 0, .int .u8 0, .int .u8 0, .int .u8 0, .int .u8 0, .int .u8 0, .int .u8 0, .int .u8 0, .int .u8 0, .int .u8 0, .int .u8 0, .int .u8 0, .int .u8 0, .int .u8 0, .int .u8 0, .int .u8 0, .int .u8 0, .int .u8 0, .int .u8 0, .int .u8 0, .int .u8 0, .int .u8 0, .int .u8 0, .int .u8 0, .int .u8 0, .int .u8 0, .int .u8 0, .int .u8 0] : Array Value) = ub 32 (fun _ => 0) := by kernel_rfl

set_option maxRecDepth 100000 in
theorem sumv_size (s : S2.St) : (sumv s).size = 32 := ub_size _ _
set_option maxRecDepth 100000 in
theorem sumv_one (s : S2.St) : (sumv s).all (·.oneCell') = true := ub_one _ _
set_option maxRecDepth 100000 in
theorem Tryd.sizeS {s : S2.St} : (Tryd.prog.info? 22).map (·.size) = some (sumv s).size := by
  rw [sumv_size]; kernel_rfl
set_option maxRecDepth 100000 in
theorem join_end {w wr : World} {cs cs2 : Array Value} (hB : wr.heap[w.heap.size + 1 + 1]? = some (.cells cs 22 (0, 0))) (hR : ∃ rs, wr.heap[w.heap.size + 1]? = some (.cells rs 22 (0, 0)) ∧ rs.size = 32) (hF : Fr (fun _ => False) w wr)
    (a b c d : Nat) (v0 v1 v2 v3 : Int) (h : (((cs.setIfInBounds a (.int .u8 v0)).setIfInBounds b (.int .u8 v1)).setIfInBounds c (.int .u8 v2)).setIfInBounds d (.int .u8 v3) = cs2) :
    ((((wr.setCell ⟨w.heap.size + 1 + 1, a, none⟩ (.int .u8 v0)).setCell ⟨w.heap.size + 1 + 1, b, none⟩ (.int .u8 v1)).setCell ⟨w.heap.size + 1 + 1, c, none⟩ (.int .u8 v2)).setCell ⟨w.heap.size + 1 + 1, d, none⟩ (.int .u8 v3)).heap[w.heap.size + 1 + 1]? = some (.cells cs2 22 (0, 0)) ∧
    (∃ rs, ((((wr.setCell ⟨w.heap.size + 1 + 1, a, none⟩ (.int .u8 v0)).setCell ⟨w.heap.size + 1 + 1, b, none⟩ (.int .u8 v1)).setCell ⟨w.heap.size + 1 + 1, c, none⟩ (.int .u8 v2)).setCell ⟨w.heap.size + 1 + 1, d, none⟩ (.int .u8 v3)).heap[w.heap.size + 1]? = some (.cells rs 22 (0, 0)) ∧ rs.size = 32) ∧
    Fr (fun _ => False) w ((((wr.setCell ⟨w.heap.size + 1 + 1, a, none⟩ (.int .u8 v0)).setCell ⟨w.heap.size + 1 + 1, b, none⟩ (.int .u8 v1)).setCell ⟨w.heap.size + 1 + 1, c, none⟩ (.int .u8 v2)).setCell ⟨w.heap.size + 1 + 1, d, none⟩ (.int .u8 v3)) := by
  have hT : Fr (fun k => k = w.heap.size + 1 + 1) wr ((((wr.setCell ⟨w.heap.size + 1 + 1, a, none⟩ (.int .u8 v0)).setCell ⟨w.heap.size + 1 + 1, b, none⟩ (.int .u8 v1)).setCell ⟨w.heap.size + 1 + 1, c, none⟩ (.int .u8 v2)).setCell ⟨w.heap.size + 1 + 1, d, none⟩ (.int .u8 v3)) :=
    ((((Fr.refl (fun k => k = w.heap.size + 1 + 1) wr).setCell (Or.inl rfl) _).setCell (Or.inl rfl) _).setCell (Or.inl rfl) _).setCell (Or.inl rfl) _
  obtain ⟨rs, h1, h2⟩ := hR
  refine ⟨?_, ⟨rs, (hT.block _ (lt_of_block h1) (by omega)).trans h1, h2⟩, hF.trans hT (fun i hi => Or.inr (by omega))⟩
  rw [block_setCell (block_setCell (block_setCell (block_setCell hB a _) b _) c _) d _, h]

set_option maxRecDepth 100000 in
set_option maxHeartbeats 1600000 in
theorem joined_any (s : S2.St) (ok : s.ok) (w : World) :
    Calls Tryd.prog 39 #[.agg (stv s)] w fun e w' => e = .returned (.agg (sumv s)) ∧ Fr (fun _ => False) w w' := by
  rw [stv_uv]
  go_enter Tryd.func39, Tryd.ntmps39
  go_wp2_with (with_reducible refine wpList_load_row rfl 72 (.tmp 1) rfl w.heap.size rfl 72 (uv 8 (sw s)) (0, 0) _ (heap_three w _ _ _) Tryd.underlying72 rfl Tryd.size8' ?_)
  have hE : Fr (fun _ => False) w _ := (((Fr.refl (fun _ => False) w).alloc (.cells (uv 8 (sw s)) 72)).alloc (.cells (ub 32 (fun _ => 0)) 22)).alloc (.cells (ub 32 (fun _ => 0)) 22)
  have h0 : ub 32 (fun _ => 0) = ub 32 (jf s 0) := ub_congr fun j hj => by unfold jf; rw [if_neg (by omega)]
  have hr1 := heap_three1 w (.cells (uv 8 (sw s)) 72) (.cells (ub 32 (fun _ => 0)) 22) (.cells (ub 32 (fun _ => 0)) 22)
  have hr2 := heap_three2 w (.cells (uv 8 (sw s)) 72) (.cells (ub 32 (fun _ => 0)) 22) (.cells (ub 32 (fun _ => 0)) 22)
  rw [← zero32] at hE hr1 hr2 h0
  rw [h0] at hr2
  rw [← h0] at hr2
  have H0 := Lib.hid h0
  clear h0
  go_loopw [7] (fun vi wr => ∃ k : Nat, k ≤ 8 ∧ vi = .int .i64 k ∧ wr.heap[w.heap.size + 1 + 1]? = some (.cells (ub 32 (jf s k)) 22 (0, 0)) ∧ (∃ rs, wr.heap[w.heap.size + 1]? = some (.cells rs 22 (0, 0)) ∧ rs.size = 32) ∧ Fr (fun _ => False) w wr) (fun vi _ => 8 - (intOf vi).toNat)
  case atStart => exact ⟨0, by omega, by simp, by rw [← H0.out]; exact hr2, ⟨_, hr1, rfl⟩, hE⟩
  case round =>
    clear hr1 hr2 hE
    obtain ⟨k, hk, rfl, hB, ⟨rs, hR, hRs⟩, hF⟩ := hrel
    by_cases hk8 : k < 8
    · have hidx := run_index8 (sw s) k hk8
      have hn : sw s k < 4294967296 := by
        obtain ⟨h1, h2, h3, h4, h5, h6, h7, h8⟩ := ok
        match k, hk8 with
        | 0, _ => exact h1
        | 1, _ => exact h2
        | 2, _ => exact h3
        | 3, _ => exact h4
        | 4, _ => exact h5
        | 5, _ => exact h6
        | 6, _ => exact h7
        | 7, _ => exact h8
      generalize hnn : sw s k = n at hidx hn
      have hj := jf_step s k n hk8 hnn ((n : Int) / 16777216) ((n : Int) / 65536 % 256) ((n : Int) / 256 % 256) ((n : Int) % 256) (by omega) (by simp) (by simp) (by simp)
      have HJ := Lib.hid hj
      clear hj hnn
      have c0 := cell_of_block hB (4 * k)
      have c1 := cell_of_block hB (4 * k + 1)
      have c2 := cell_of_block hB (4 * k + 2)
      have c3 := cell_of_block hB (4 * k + 3)
      rw [ub_get 32 _ _ (by omega)] at c0 c1 c2 c3
      have hf := fun o => free_of_block hB o
      have i0 : (0 : Int) ≤ (k : Int) := by omega
      have i1 : (k : Int) < 8 := by omega
      have hE := join_end (w := w) hB ⟨rs, hR, hRs⟩ hF (4 * k) (4 * k + 1) (4 * k + 2) (4 * k + 3) _ _ _ _ HJ.out
      have HE := Lib.hid hE
      clear hE
      go_wp2
      go_roundw
      case rel => exact ⟨k + 1, by omega, by go_num, HE.out.1, HE.out.2.1, HE.out.2.2⟩
      case measure => simp [intOf]; omega
    · obtain rfl : k = 8 := by omega
      have e8 : ub 32 (jf s 8) = sumv s := ub_congr fun j hj => by unfold jf; rw [if_pos (by omega)]
      rw [e8] at hB
      rw [show ((8 : Nat) : Int) = 8 from rfl]
      clear e8
      go_wp2_with (first
        | (with_reducible refine wpList_load_row rfl 22 (.tmp 3) rfl (w.heap.size + 1 + 1) rfl 22 (sumv s) (0, 0) _ hB Tryd.underlying22 rfl Tryd.sizeS ?_)
        | (with_reducible refine wpList_store_row rfl 22 (.tmp 2) (.tmp 38) rfl (w.heap.size + 1) (sumv s) rfl rfl 22 _ hR Tryd.sizeS (hRs.trans (sumv_size s).symm) (sumv_one s) ?_))
      refine bodyPost_ret (results_cell_row rfl _ _ (w.heap.size + 1) 22 (sumv s) (0, 0) _ rfl (setRow_heap _ _ _ _ _ _ hR) Tryd.underlying22 rfl Tryd.sizeS) rfl ?_
      exact ⟨rfl, hF.trans (Fr.setRow (S := fun k => k = w.heap.size + 1) (Fr.refl _ _) rfl _) (fun i hi => Or.inr (by omega))⟩
end Go.Proofs.YtndakfanlgilmaaDoor


/-
  The contract of joined of package sha5; the bytes of a padding.
-/
import Derived.Test.YtmoepalhoaekgaaDoorPad5
import Derived.Test.YtmoepalhoaekgaaDoorHm
namespace Go.Proofs.YtmoepalhoaekgaaDoor
open Go.RowKit
set_option linter.unusedVariables false

theorem pf_pad5 (c : Nat) : (List.range (S5.padLen c)).map (pf5 c 8) = S5.pad c := by
  have hp : S5.padLen c = 128 - (c % 128 + 16) % 128 + 16 := rfl
  have hl : (S5.pad c).length = S5.padLen c := by simp [S5.pad, S5.be8]; omega
  apply List.ext_getElem?
  intro i
  by_cases h1 : i < S5.padLen c
  · rw [List.getElem?_map, List.getElem?_range h1, Option.map_some]
    unfold pf5 S5.pad
    by_cases h0 : i = 0
    · subst h0; simp
    · rw [if_neg h0]
      obtain ⟨d, rfl⟩ : ∃ d, i = d + 1 := ⟨i - 1, by omega⟩
      rw [List.getElem?_cons_succ]
      by_cases h3 : S5.padLen c ≤ d + 1 + 8
      · rw [if_pos ⟨h3, h1⟩, List.getElem?_append_right (by simp; omega)]
        simp only [List.length_replicate, S5.be8]
        rw [List.getElem?_map, List.getElem?_range (by omega), Option.map_some]
        congr 2
        rw [show 56 - 8 * (d - (S5.padLen c - 9)) = 8 * (S5.padLen c - 1 - (d + 1)) by omega, Nat.pow_mul]
      · rw [if_neg (by omega), List.getElem?_append_left (by simp; omega), List.getElem?_replicate, if_pos (by omega)]
  · rw [List.getElem?_eq_none (by simp; omega), List.getElem?_eq_none (by omega)]


/-- Word j of a state. -/
def sw5 (s : S5.St) (j : Nat) : Nat := s.list.getD j 0
theorem stv_uv5 (s : S5.St) : stv5 s = uv5 8 (sw5 s) := rfl
theorem out_get5 (s : S5.St) (k : Nat) (hk : k < 8) (j : Nat) (hj : j < 8) : (S5.out s).getD (8 * k + j) 0 = (S5.be8 (sw5 s k)).getD j 0 := by
  rcases s with ⟨a, b, c, d, e, f, g, h⟩
  match k, hk, j, hj with
  | 0, _, 0, _ | 0, _, 1, _ | 0, _, 2, _ | 0, _, 3, _ | 0, _, 4, _ | 0, _, 5, _ | 0, _, 6, _ | 0, _, 7, _ | 1, _, 0, _ | 1, _, 1, _ | 1, _, 2, _ | 1, _, 3, _ | 1, _, 4, _ | 1, _, 5, _ | 1, _, 6, _ | 1, _, 7, _ | 2, _, 0, _ | 2, _, 1, _ | 2, _, 2, _ | 2, _, 3, _ | 2, _, 4, _ | 2, _, 5, _ | 2, _, 6, _ | 2, _, 7, _ | 3, _, 0, _ | 3, _, 1, _ | 3, _, 2, _ | 3, _, 3, _ | 3, _, 4, _ | 3, _, 5, _ | 3, _, 6, _ | 3, _, 7, _ | 4, _, 0, _ | 4, _, 1, _ | 4, _, 2, _ | 4, _, 3, _ | 4, _, 4, _ | 4, _, 5, _ | 4, _, 6, _ | 4, _, 7, _ | 5, _, 0, _ | 5, _, 1, _ | 5, _, 2, _ | 5, _, 3, _ | 5, _, 4, _ | 5, _, 5, _ | 5, _, 6, _ | 5, _, 7, _ | 6, _, 0, _ | 6, _, 1, _ | 6, _, 2, _ | 6, _, 3, _ | 6, _, 4, _ | 6, _, 5, _ | 6, _, 6, _ | 6, _, 7, _ | 7, _, 0, _ | 7, _, 1, _ | 7, _, 2, _ | 7, _, 3, _ | 7, _, 4, _ | 7, _, 5, _ | 7, _, 6, _ | 7, _, 7, _ => rfl
theorem be8_get (n j : Nat) (hj : j < 8) : (S5.be8 n).getD j 0 = UInt8.ofNat (n / 2 ^ (56 - 8 * j)) := by
  simp [S5.be8, List.getD, hj]
/-- The words as bytes, of which the first k are laid. -/
def jf5 (s : S5.St) (k idx : Nat) : UInt8 := if idx < k then (S5.out s).getD idx 0 else 0
def sumv5 (s : S5.St) : Array Value := ub 64 (fun j => (S5.out s).getD j 0)
theorem sumv_size5 (s : S5.St) : (sumv5 s).size = 64 := ub_size _ _
theorem sumv_one5 (s : S5.St) : (sumv5 s).all (·.oneCell') = true := ub_one _ _
theorem Tryd.sizeS5 {s : S5.St} : (Tryd.prog.info? 31).map (·.size) = some (sumv5 s).size := Tryd.size64u
theorem jf_step5 (s : S5.St) (i : Nat) (hi : i < 64) : (ub 64 (jf5 s i)).setIfInBounds i (.int .u8 (((S5.out s).getD i 0).toNat : Int)) = ub 64 (jf5 s (i + 1)) := by
  rw [ub_set _ _ _ _ hi]
  apply ub_congr
  intro j hj
  unfold jf5
  by_cases e : j = i
  · subst e; rw [if_pos rfl, if_pos (by omega)]
  · rw [if_neg e]
    by_cases e2 : j < i
    · rw [if_pos e2, if_pos (by omega)]
    · rw [if_neg e2, if_neg (by omega)]
set_option maxRecDepth 100000 in
set_option maxHeartbeats 800000 in
theorem joined_any5 (s : S5.St) (hs : s.ok) (w : World) :
    Calls Tryd.prog 36 #[.agg (stv5 s)] w fun e w' => e = .returned (.agg (sumv5 s)) ∧ Fr (fun _ => False) w w' := by
  have z1 := heap_three w (.cells (stv5 s) 65) (.cells (ub 64 (fun _ => 0)) 31) (.cells (ub 64 (fun _ => 0)) 31)
  have z2 := heap_three1 w (.cells (stv5 s) 65) (.cells (ub 64 (fun _ => 0)) 31) (.cells (ub 64 (fun _ => 0)) 31)
  have z3 := heap_three2 w (.cells (stv5 s) 65) (.cells (ub 64 (fun _ => 0)) 31) (.cells (ub 64 (fun _ => 0)) 31)
  have FZ := (((Fr.refl (fun _ => False) w).alloc (.cells (stv5 s) 65)).alloc (.cells (ub 64 (fun _ => 0)) 31)).alloc (.cells (ub 64 (fun _ => 0)) 31)
  rw [← zero64] at z1 z2 z3 FZ
  have j0 : ub 64 (jf5 s 0) = ub 64 (fun _ => 0) := ub_congr (fun j hj => by unfold jf5; rw [if_neg (by omega)])
  rw [← zero64] at j0
  have J0 := Lib.hid j0
  clear j0
  go_enter Tryd.func36, Tryd.ntmps36
  go_wp2_with fail
  go_loopw [5] (fun i wr => ∃ k : Nat, k ≤ 64 ∧ i = .int .i64 k ∧ wr.heap[w.heap.size]? = some (.cells (stv5 s) 65 (0, 0)) ∧ (∃ rs, wr.heap[w.heap.size + 1]? = some (.cells rs 31 (0, 0)) ∧ rs.size = 64) ∧ wr.heap[w.heap.size + 1 + 1]? = some (.cells (ub 64 (jf5 s k)) 31 (0, 0)) ∧ Fr (fun _ => False) w wr) (fun i _ => 64 - (intOf i).toNat)
  case atStart => exact ⟨0, by omega, by simp, z1, ⟨_, z2, rfl⟩, by rw [J0.out]; exact z3, FZ⟩
  case round =>
    clear z1 z2 z3 FZ J0
    obtain ⟨k, hk, rfl, h1, ⟨rs, h2, hrs⟩, h3, hF⟩ := hrel
    by_cases hlt : k < 64
    · have cw := cell_of_block h1 (k / 8)
      rw [stv_uv5, uv_get5 8 _ _ (by omega)] at cw
      have c3 := cell_of_block h3 k
      rw [ub_get 64 _ _ hlt] at c3
      have f3 := free_of_block h3 k
      have hog := out_get5 s (k / 8) (by omega) (k % 8) (by omega)
      rw [show 8 * (k / 8) + k % 8 = k by omega, be8_get _ _ (by omega)] at hog
      have hst := jf_step5 s k hlt
      rw [hog] at hst
      generalize sw5 s (k / 8) = n at cw hst hog
      have hv : (n : Int) / 2 ^ (56 - k % 8 * 8) % 256 = (((UInt8.ofNat (n / 2 ^ (56 - 8 * (k % 8)))).toNat : Nat) : Int) := by
        rw [UInt8.toNat_ofNat', show k % 8 * 8 = 8 * (k % 8) by omega]; simp
      rw [← hv] at hst
      have q0 : (0 : Int) ≤ (k : Int) := by omega
      have q1 : (k : Int) < 64 := by omega
      have q2 : (0 : Int) ≤ 56 - (k : Int) % 8 * 8 := by omega
      have HS := Lib.hid hst
      clear hst hog hv
      have FB : Fr (fun i => i = w.heap.size + 1 + 1) wr (wr.setCell ⟨w.heap.size + 1 + 1, k, none⟩ (.int .u8 ((n : Int) / 2 ^ (56 - k % 8 * 8) % 256))) := (Fr.refl (fun i => i = w.heap.size + 1 + 1) wr).setCell (Or.inl rfl) _
      have B1 := Lib.hid ((FB.block _ (lt_of_block h1) (by omega)).trans h1)
      have B2 := Lib.hid ((FB.block _ (lt_of_block h2) (by omega)).trans h2)
      have B3 := Lib.hid ((block_setCell h3 k (.int .u8 ((n : Int) / 2 ^ (56 - k % 8 * 8) % 256))).trans (by rw [HS.out]))
      have F3 := hF.trans FB (fun i hi => Or.inr (by omega))
      clear FB h1 h2 h3 hF
      go_wp2_with fail
      exact ⟨⟨k + 1, by omega, rfl, B1.out, ⟨rs, B2.out, hrs⟩, B3.out, F3⟩, by simp [intOf]; omega⟩
    · obtain rfl : k = 64 := by omega
      have e : ub 64 (jf5 s 64) = sumv5 s := ub_congr (fun j hj => by unfold jf5; rw [if_pos hj])
      rw [e] at h3
      have hrs2 : rs.size = (sumv5 s).size := hrs.trans (sumv_size5 s).symm
      have HR := Lib.hid hrs2
      clear e hrs hrs2
      go_wp2_with (first
        | (with_reducible refine wpList_load_row rfl 31 (.tmp 3) rfl (w.heap.size + 1 + 1) rfl 31 (sumv5 s) (0, 0) _ h3 Tryd.underlying31 rfl Tryd.sizeS5 ?_)
        | (with_reducible refine wpList_store_row rfl 31 (.tmp 2) (.tmp 21) rfl (w.heap.size + 1) (sumv5 s) rfl rfl 31 rs h2 Tryd.sizeS5 HR.out (sumv_one5 s) ?_))
      refine bodyPost_ret (results_cell_row rfl _ _ (w.heap.size + 1) 31 (sumv5 s) (0, 0) _ rfl (setRow_heap _ _ _ _ _ _ h2) Tryd.underlying31 rfl Tryd.sizeS5) rfl ?_
      exact ⟨rfl, hF.trans (Fr.setRow (S := fun k => k = w.heap.size + 1) (Fr.refl _ _) rfl _) (fun i hi => Or.inr (by omega))⟩
end Go.Proofs.YtmoepalhoaekgaaDoor


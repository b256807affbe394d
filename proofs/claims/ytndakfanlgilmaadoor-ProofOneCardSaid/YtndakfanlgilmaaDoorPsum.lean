/-
  The contract of Sum of package sha2, of any parts.
-/
import Derived.Test.YtndakfanlgilmaaDoorSum
namespace Go.Proofs.YtndakfanlgilmaaDoor
open Go.RowKit
set_option linter.unusedVariables false

/-- Parts that lie in memory. -/
def Parts (w : World) (a : Option Addr) (L : List (List UInt8)) : Prop := L = [] ∨ ∃ g o, a = some ⟨g, o, none⟩ ∧ ∀ j (h : j < L.length), ∃ aj cj, w.cell? ⟨g, o + j, none⟩ = some (.slice aj (L[j]).length cj) ∧ Lies w aj L[j] ∧ (L[j]).length ≤ cj ∧ cj ≤ maxLen
set_option maxRecDepth 100000 in
theorem Lies.lt {w : World} {a : Option Addr} {l : List UInt8} (h : Lies w a l) (hl : l ≠ []) : ∀ k, inBlk a k → k < w.heap.size := by
  rintro k ⟨ad, rfl, rfl⟩
  rcases h with h | ⟨g, o, e, hc⟩
  · exact absurd h hl
  · cases e
    have := hc 0 (List.length_pos_iff.2 hl)
    exact World.block_lt_of_cell? w ⟨g, o + 0, none⟩ this
set_option maxRecDepth 100000 in
theorem Lies.grow {w w2 : World} {a : Option Addr} {l : List UInt8} (h : Lies w a l) (hF : Fr (fun _ => False) w w2) : Lies w2 a l := h.fr hF (fun _ _ h => h)
set_option maxRecDepth 100000 in
theorem zero73 : (#[.int .u32 0, .int .u32 0, .int .u32 0, .int .u32 0, .int .u32 0, .int .u32 0, .int .u32 0, .int .u32 0, .int .u8 0, .int .u8 0, .int .u8 0, .int .u8 0, .int .u8 0, .int .u8 0, .int .u8 0, .int .u8 0, .int .u8 0, .int .u8 0, .int .u8 0, .int .u8 0, .int .u8 0, .int .u8 0, .int .u8 0, .int .u8 0, .int .u8 0, .int .u8 0, .int .u8 0, .int .u8 0, .int .u8 0, .int .u8 0, .int .u8 0, .int .u8 0, .int .u8 0, .int .u8 0, .int .u8 0, .int .u8 0, .int .u8 0, .int .u8 0, .int .u8 0, .int .u8 0, .int .u8 0, .int .u8 0, .int .u8 0, .int .u8 0, .int .u8 0, .int .u8 0, .int .u8 0, .int .u8 0, .int .u8 0, .int .u8 0, .int .u8 0, .int .u8 0, .int .u8 0, .int .u8 0, .int .u8 0, .int .u8 0, .int .u8 0, .int .u8 0, .int .u8 0, .int .u8 0, .int .u8 0, .int .u8 0, .int .u8 0, .int .u8 0, .int .u8 0, .int .u8 0, .int .u8 0, .int .u8 0, .int .u8 0, .int .u8 0, .int .u8 0, .int .u8 0, .int .i64 0] : Array Value) = (hcells (List.replicate 8 (.int .u32 0)) (List.replicate 64 0) 0).toArray := by kernel_rfl
set_option maxRecDepth 100000 in
theorem HIs.zero {w : World} {b : Nat} (h : w.heap[b]? = some (.cells #[.int .u32 0, .int .u32 0, .int .u32 0, .int .u32 0, .int .u32 0, .int .u32 0, .int .u32 0, .int .u32 0, .int .u8 0, .int .u8 0, .int .u8 0, .int .u8 0, .int .u8 0, .int .u8 0, .int .u8 0, .int .u8 0, .int .u8 0, .int .u8 0, .int .u8 0, .int .u8 0, .int .u8 0, .int .u8 0, .int .u8 0, .int .u8 0, .int .u8 0, .int .u8 0, .int .u8 0, .int .u8 0, .int .u8 0, .int .u8 0, .int .u8 0, .int .u8 0, .int .u8 0, .int .u8 0, .int .u8 0, .int .u8 0, .int .u8 0, .int .u8 0, .int .u8 0, .int .u8 0, .int .u8 0, .int .u8 0, .int .u8 0, .int .u8 0, .int .u8 0, .int .u8 0, .int .u8 0, .int .u8 0, .int .u8 0, .int .u8 0, .int .u8 0, .int .u8 0, .int .u8 0, .int .u8 0, .int .u8 0, .int .u8 0, .int .u8 0, .int .u8 0, .int .u8 0, .int .u8 0, .int .u8 0, .int .u8 0, .int .u8 0, .int .u8 0, .int .u8 0, .int .u8 0, .int .u8 0, .int .u8 0, .int .u8 0, .int .u8 0, .int .u8 0, .int .u8 0, .int .i64 0] 75 (0, 0))) : HIs w b [] := by
  rw [zero73] at h
  exact ⟨_, Or.inl ⟨rfl, _, h, by simp, by simp, by simp [Value.oneCell']⟩⟩

set_option maxRecDepth 100000 in
theorem Tryd.sizeC {l : List UInt8} : (Tryd.prog.info? 22).map (·.size) = some (sumc l).size := Tryd.sizeS
set_option maxRecDepth 100000 in
set_option maxHeartbeats 1600000 in
theorem psum_any (a : Option Addr) (L : List (List UInt8)) (n c : Nat) (hn : L.length = n) (w : World) (h : Parts w a L) (hn2 : n ≤ maxLen) (hl : L.flatten.length ≤ 1152921504606846976) (hE : Env w) :
    Calls Tryd.prog 18 #[.slice a n c] w fun e w' => e = .returned (.agg (sumc L.flatten)) ∧ Fr (fun _ => False) w w' := by
  have hn3 : n ≤ 9223372036854775807 := by unfold maxLen at hn2; omega
  have hzv := zv72
  have hzn := zn72
  have hzw := zv73
  have hzm := zn73
  go_enter Tryd.func18, Tryd.ntmps18
  go_wp2_with fail
  go_loopw [8] (fun i wr => ∃ k : Nat, k ≤ n ∧ i = .int .i64 k ∧ HIs wr (w.heap.size + 1) (L.take k).flatten ∧ (∃ rs, wr.heap[w.heap.size]? = some (.cells rs 22 (0, 0)) ∧ rs.size = 32) ∧ Fr (fun _ => False) w wr) (fun i _ => n - (intOf i).toNat)
  case atStart => exact ⟨0, by omega, by simp, by rw [List.take_zero]; exact HIs.zero (heap_alloc2_new w _ _), ⟨_, heap_alloc2_old w _ _, rfl⟩, ((Fr.refl _ w).alloc _).alloc _⟩
  case round =>
    obtain ⟨k, hk, rfl, hI, hR, hF⟩ := hrel
    by_cases hlt : k < n
    · have hkL : k < L.length := by omega
      obtain ⟨p, hp⟩ : ∃ p, p = L[k]'hkL := ⟨_, rfl⟩
      have e2 : L.take (k + 1) = L.take k ++ [p] := by rw [hp, List.take_succ_eq_append_getElem hkL]
      have hsub : ((L.take k).flatten).length + p.length ≤ 1152921504606846976 := by
        have e3 : L.flatten = (L.take (k + 1)).flatten ++ (L.drop (k + 1)).flatten := by rw [← List.flatten_append, List.take_append_drop]
        have e4 : (L.take (k + 1)).flatten = (L.take k).flatten ++ p := by rw [e2, List.flatten_append]; simp
        rw [e3, e4, List.length_append, List.length_append] at hl
        omega
      obtain ⟨g, o, ha, hc⟩ := h.resolve_left (fun e => by rw [e] at hn; simp at hn; omega)
      obtain ⟨aj, cj, h1, h2, h3, h4⟩ := hc k hkL
      rw [← hp] at h1 h2 h3
      clear hp
      subst ha
      have h1' := hF.cellSome (p := ⟨g, o + k, none⟩) (fun h => h) h1
      have hE1 := hE.fr hF (fun h => h)
      have hnb : p = [] ∨ ¬ inBlk aj (w.heap.size + 1) := by
        by_cases e : p = []
        · exact Or.inl e
        · exact Or.inr fun hb => by have := h2.lt e _ hb; omega
      have hz := hE.lt
      go_wp2_with fail
      refine (write_any (w.heap.size + 1) _ p aj cj _ hI (h2.grow hF) h3 h4 hnb (by omega) hE1.tab hE1.lt (by omega)).mono ?_
      rintro e w2 ⟨rfl, hI2, hG2⟩
      have hF2 : Fr (fun _ => False) w w2 := hF.trans hG2 (fun i hi => Or.inr (by omega))
      have hI3 : HIs w2 (w.heap.size + 1) (L.take (k + 1)).flatten := by
        rw [e2, List.flatten_append]
        simpa using hI2
      have hR2 : ∃ rs, w2.heap[w.heap.size]? = some (.cells rs 22 (0, 0)) ∧ rs.size = 32 := by
        obtain ⟨rs, a1, a2⟩ := hR
        exact ⟨rs, (hG2.block _ (lt_of_block a1) (by omega)).trans a1, a2⟩
      clear hI hR hF hI2 hG2 h1 h1' hE1 e2
      go_wp2
      go_roundw
      case rel => exact ⟨k + 1, by omega, by go_num, hI3, hR2, hF2⟩
      case measure => simp [intOf]; omega
    · have e1 : L.take k = L := List.take_of_length_le (by omega)
      rw [e1] at hI
      clear e1
      have ht : decide ((k : Int) < (n : Int)) = false := by simp; omega
      go_wp2_with fail
      refine (hsum_any (w.heap.size + 1) L.flatten _ hI hl (hE.fr hF (fun h => h))).mono ?_
      rintro e w2 ⟨rfl, F2⟩
      obtain ⟨rs, a1, a2⟩ := hR
      have a3 := (F2.block _ (lt_of_block a1) (fun h => h)).trans a1
      have hs2 : rs.size = (sumc L.flatten).size := a2.trans (sumv_size _).symm
      have hone : (sumc L.flatten).all (·.oneCell') = true := sumv_one _
      go_wp2_with (with_reducible refine wpList_store_row rfl 22 (.tmp 2) (.tmp 15) rfl w.heap.size (sumc L.flatten) rfl rfl 22 rs a3 Tryd.sizeC hs2 hone ?_)
      refine bodyPost_ret (results_cell_row rfl _ _ w.heap.size 22 (sumc L.flatten) (0, 0) _ rfl (setRow_heap _ _ _ _ _ _ a3) Tryd.underlying22 rfl Tryd.sizeC) rfl ?_
      exact ⟨rfl, (hF.trans F2 (fun _ h => h.elim)).trans (Fr.setRow (S := fun k => k = w.heap.size) (Fr.refl _ _) rfl _) (fun i hi => Or.inr (by omega))⟩
end Go.Proofs.YtndakfanlgilmaaDoor


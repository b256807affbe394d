/-
  Plain laws of this verifier: so many noughts appended onto owned bytes (append of make).
-/
import Derived.Test.YtikdgjgcopjocaaDoorSz
import Derived.Lib.AppendZerosOnto
namespace Go.Proofs.YtikdgjgcopjocaaDoor
open Go.RowKit
set_option linter.unusedVariables false

set_option maxRecDepth 100000 in
theorem zc (k : Nat) : Builtin.zeroCells (Value.int .u8 0).cells k = (bv (noughts2 k)).toArray := by
  apply Array.toList_inj.1
  rw [List.toList_toArray]
  apply List.ext_getElem
  · simp [Builtin.zeroCells, noughts2, bv, Value.cells]
  · intro i h1 h2
    simp [Builtin.zeroCells, noughts2, bv, Value.cells, Nat.mod_one]
set_option maxRecDepth 100000 in
theorem nl (k : Nat) : (noughts2 k).length = k := by simp [noughts2]
section
variable (w : World)
set_option maxRecDepth 100000 in
theorem run_own_zeros (B : Nat) (ty tn : TypeId) (kq kn : IntKind) (htn : Tryd.prog.underlying tn = some (.int kn)) (v : Value) (l : List UInt8) (k : Nat) (hown : Own w B v l)
    (hbytes : l.length + k ≤ 1000000) (hbase : B ≤ w.heap.size) :
    ∃ v2 w2, (Builtin.append_ #[22, tn] ty #[v, .int kq (k : Int)]).run Tryd.prog w = .ok v2 w2 ∧ Own w2 B v2 (l ++ noughts2 k) ∧ w.grownBy w2 v.ownBlock ∧ (v2.ownBlock = v.ownBlock ∨ v2.ownBlock = some w.heap.size) := by
  obtain ⟨i, hi, hz, hs, hby⟩ : ∃ i, Tryd.prog.info? 5 = some i ∧ i.zero = some (.int .u8 0) ∧ i.size = 1 ∧ i.bytes = 1 := by
    have h := Tryd.infoB
    cases hi : Tryd.prog.info? 5 with
    | none => rw [hi] at h; cases h
    | some i =>
      rw [hi] at h
      simp only [Option.map_some, Option.some.injEq, Prod.mk.injEq] at h
      exact ⟨i, rfl, h.1, h.2.1, h.2.2⟩
  have hw : IntKind.i64.wrap (k : Int) = k := by rw [IntKind.wrap_i64]; omega
  have hneg : ¬ ((k : Int) < 0) := by omega
  have h48i : ¬ (281474976710656 < (k : Int) * (i.bytes : Int)) := by rw [hby]; omega
  have hmx : l.length + k ≤ maxLen := by unfold maxLen; omega
  have grown : ∀ (old : Nat) (row : Option Nat) (W2 : World), W2 = w.drew.alloc (.cells ((bv l).toArray ++ (bv (noughts2 k)).toArray ++ (bv (noughts2 (grownCap w (l.length + k) old 5 - (l.length + k)))).toArray) 5) →
      Own W2 B (.slice (some ⟨w.heap.size, 0, none⟩) (l.length + k) (grownCap w (l.length + k) old 5)) (l ++ noughts2 k) ∧ w.grownBy W2 row := by
    intro old row W2 hW
    subst hW
    have hge := grownCap_ge w (l.length + k) old 5
    have hcm := grownCap_le_maxLen w (l.length + k) old 5 hmx
    refine ⟨Or.inr ⟨w.heap.size, _, _, (0, 0), by rw [List.length_append, nl], hbase, heap_alloc_new w.drew _, Or.inl rfl, by rw [List.length_append, nl]; exact hge, hcm, ?_, ?_⟩, ⟨rfl, rfl, rfl, by simp, fun j hj _ => Below.heap_alloc w.drew _ j hj⟩⟩
    · simp [nl]; omega
    · simp only [Array.toList_append]
      rw [bv_append]
      exact List.take_left' (by simp [nl])
  rcases hown with ⟨rfl, rfl⟩ | ⟨g, cap, cur, fz, rfl, hbg, hg, hfz, hnc, hcm, hcs, htake⟩
  · by_cases hk : k = 0
    · subst hk
      refine ⟨.slice none 0 0, w, ?_, Or.inl ⟨rfl, rfl⟩, ⟨rfl, rfl, rfl, Nat.le_refl _, fun _ _ _ => rfl⟩, .inl rfl⟩
      have w0 : IntKind.i64.wrap 0 = 0 := by rw [IntKind.wrap_i64]; omega
      simp [Builtin.append_, run_underlying Tryd.underlying22, run_underlying htn, sizeOf, typeInfo, hi, asInt, asIntOf, w0]
    · have hr := Lib.run_append_nil_zeros (P := Tryd.prog) w 22 tn ty 5 i (.int .u8 0) kq kn Tryd.underlying22 htn hi hz k (by omega) (by omega) (by omega) (by rw [hby]; omega)
      rw [zc, zc] at hr
      obtain ⟨g1, g2⟩ := grown 0 (Value.ownBlock (.slice none 0 0)) _ (show w.drew.alloc (.cells ((bv (noughts2 k)).toArray ++ (bv (noughts2 (grownCap w k 0 5 - k))).toArray) 5) = _ by simp [bv])
      refine ⟨_, _, hr, ?_, g2, .inr rfl⟩
      simpa using g1
  · by_cases hroom : l.length + k ≤ cap
    · have hcur : w.heap[g]? = some (.cells cur.toList.toArray 5 fz) := by simpa using hg
      have hst := run_storeCells_cells (P := Tryd.prog) g l.length (bv (noughts2 k)) 0 w (fun j hj => by
          rw [bv_length, nl] at hj
          rw [Nat.add_zero, cell_of_block hg, Array.getElem?_eq_getElem (by omega)]; rfl) (fun j hj => by
          rw [bv_length, nl] at hj
          rw [Nat.add_zero]
          rcases hfz with e | e
          · subst e; simp [World.frozen?, hg]
          · simp [World.frozen?, hg]; omega) (bv_one _)
      simp only [Nat.add_zero] at hst
      have hr : (Builtin.append_ #[22, tn] ty #[.slice (some ⟨g, 0, none⟩) l.length cap, .int kq (k : Int)]).run Tryd.prog w = .ok (.slice (some ⟨g, 0, none⟩) (l.length + k) cap) (w.setCells g l.length (bv (noughts2 k))) := by
        by_cases hk : k = 0
        · subst hk
          have w0 : IntKind.i64.wrap 0 = 0 := by rw [IntKind.wrap_i64]; omega
          have hst0 : (storeCells ⟨g, l.length, none⟩ []).run Tryd.prog w = .ok () w := by simpa [noughts2, bv, World.setCells] using hst
          have hc : l.length ≤ cap := hnc
          simp [Builtin.append_, run_underlying Tryd.underlying22, run_underlying htn, sizeOf, typeInfo, hi, hs, asInt, asIntOf, w0, hc, Addr.add_lit, hst0, noughts2, bv, World.setCells]
        · simp [Builtin.append_, run_underlying Tryd.underlying22, run_underlying htn, sizeOf, typeInfo, zeroValue, hi, hz, asInt, asIntOf, hw, hneg, h48i, hroom, Addr.add_lit, hs, hk]
          rw [zc, List.toList_toArray, hst]
          rfl
      have hb := setCells_blockF (bv (noughts2 k)) l.length cur.toList w hcur (by simp [nl]; omega)
      refine ⟨_, _, hr, Or.inr ⟨g, cap, _, fz, by rw [List.length_append, nl], hbg, hb, ?_, by rw [List.length_append, nl]; omega, hcm, ?_, ?_⟩, setCells_grown _ _ _, .inl rfl⟩
      · rcases hfz with e | e
        · exact Or.inl e
        · refine Or.inr (Nat.le_trans (Nat.le_of_eq ?_) e)
          simp [nl]; omega
      · simp [nl]; omega
      · rw [htake, bv_append, ← List.append_assoc, List.toList_toArray]
        exact List.take_left' (by simp [nl])
    · have holds : ∀ j u, (bv l)[j]? = some u → w.drew.cell? ((⟨g, 0, none⟩ : Addr).add j) = some u := fun j u h => by
        rw [addr_add, Nat.zero_add]
        show w.cell? _ = _
        rw [cell_of_block hg, ← Array.getElem?_toList]
        rw [← htake, List.getElem?_take] at h
        split at h
        · exact h
        · cases h
      have hr := Lib.run_append_grow_zeros (P := Tryd.prog) w 22 tn ty 5 i (.int .u8 0) kq kn Tryd.underlying22 htn hi hz (some ⟨g, 0, none⟩) l.length cap (bv l) (run_firstCells_some w.drew i.size l.length ⟨g, 0, none⟩ l.length cap (bv l) (by rw [hs]; simp) holds) k (by omega) (by omega) (by omega) (by omega) (by rw [hby]; omega) (growslice_fits (by omega) (by rw [hby]; omega))
      rw [zc, zc] at hr
      have hgr := grown cap (Value.ownBlock (.slice (some ⟨g, 0, none⟩) l.length cap)) _ rfl
      exact ⟨_, _, hr, hgr.1, hgr.2, .inr rfl⟩
end
end Go.Proofs.YtikdgjgcopjocaaDoor


/-
  The contracts of (*Hash).Sum, New, Fork, Len and Sum of package sha2.
-/
import Derived.Test.YtndakfanlgilmaaDoorJoin
namespace Go.Proofs.YtndakfanlgilmaaDoor
open Go.RowKit
set_option linter.unusedVariables false

section
variable {P : Program}
set_option maxRecDepth 100000 in
theorem wpList_store_rowA {ops : Array Oper} {rest : List Oper} {o : Oper} {a : Act} {w : World} {Q : Exit → Act → World → Prop} (hgd : o.guard = none) (ty : TypeId) (x y : Operand) (ho : o.op = .store ty x y)
    (g : Nat) (cells : Array Value) (hx : a.eval x = .pointer (some ⟨g, 0, none⟩)) (hy : a.eval y = .agg cells)
    (t : TypeId) (old : Array Value) (hg : w.heap[g]? = some (.cells old t (0, 0))) (hi : (P.info? ty).map (·.size) = some cells.size)
    (hold : old.size = cells.size) (h1 : cells.all (·.oneCell') = true)
    (h : ∀ w2 : World, w2.heap[g]? = some (.cells cells t (0, 0)) → Fr (fun k => k = g) w w2 → wpList P ops Q rest (a.put o.dst undef) w2) : wpList P ops Q (o :: rest) a w :=
  wpList_store_row hgd ty x y ho g cells hx hy t old hg hi hold h1 (h _ (setRow_heap _ _ _ _ _ _ hg) (Fr.setRow (S := fun k => k = g) (Fr.refl _ _) rfl _))
end

set_option maxRecDepth 100000 in
theorem Tryd.z72 : Tryd.zeroCells87.size = 72 := by kernel_rfl
set_option maxRecDepth 100000 in
theorem Tryd.size8L {m : S2.St} : (Tryd.prog.info? 72).map (·.size) = some (stv m).toList.length := by
  show _ = some 8
  kernel_rfl
set_option maxRecDepth 100000 in
theorem write_any' (bh : Nat) (l m : List UInt8) (a : Option Addr) (c n : Nat) (hn : m.length = n) (w : World) (h : HIs w bh l) (hm : Lies w a m) (hc : n ≤ c) (hc2 : c ≤ maxLen) (hne : m = [] ∨ ¬ inBlk a bh) (hsum : l.length + n ≤ 9223372036854775807) (hT : Tab w) (hTs : 2 < w.heap.size) (hTb : bh ≠ 2) :
    Calls Tryd.prog 29 #[.pointer (some ⟨bh, 0, none⟩), .slice a n c] w fun e w' => e = .returned (.tuple #[]) ∧ HIs w' bh (l ++ m) ∧ Fr (fun k => k = bh) w w' := by
  subst hn
  exact write_any bh l m a c w h hm hc hc2 hne hsum hT hTs hTb

/-- The sum of bytes, as 32 cells. -/
def sumc (l : List UInt8) : Array Value := sumv (S2.hw (l ++ S2.pad l.length))
set_option maxRecDepth 100000 in
theorem Tryd.size73 {wl : List Value} {tl : List UInt8} {n : Nat} (h1 : wl.length = 8) (h2 : tl.length = 64) : (Tryd.prog.info? 75).map (·.size) = some (hcells wl tl n).toArray.size := by
  rw [show (hcells wl tl n).toArray.size = 73 by simp [hcells, h1, h2]]; kernel_rfl
set_option maxRecDepth 100000 in
theorem hcells_one {wl : List Value} {tl : List UInt8} {n : Nat} (h : ∀ v ∈ wl, v.oneCell' = true) : (hcells wl tl n).toArray.all (·.oneCell') = true := by
  rw [Array.all_eq_true_iff_forall_mem]
  intro v hv
  simp only [List.mem_toArray, hcells, List.mem_append, List.mem_singleton] at hv
  rcases hv with hv | hv | rfl
  · exact h v hv
  · exact bv_one tl v hv
  · rfl
set_option maxRecDepth 100000 in
theorem HIs.cells {w : World} {bh : Nat} {l : List UInt8} (h : HIs w bh l) : ∃ wl tl, HB w bh wl tl l.length ∧ (l ≠ [] → HInv w bh l tl) := by
  obtain ⟨tl, h⟩ := h
  rcases h with ⟨rfl, wl, hb⟩ | ⟨hl, hi⟩
  · exact ⟨wl, tl, hb, fun h => absurd rfl h⟩
  · exact ⟨_, tl, hi.hb, fun _ => hi⟩
set_option maxRecDepth 100000 in
theorem HIs.copied {w w2 : World} {bh b2 : Nat} {l : List UInt8} {wl : List Value} {tl : List UInt8} (h : HB w bh wl tl l.length) (hi : l ≠ [] → HInv w bh l tl) (h2 : w2.heap[b2]? = some (.cells (hcells wl tl l.length).toArray 75 (0, 0))) : HIs w2 b2 l := by
  by_cases e : l = []
  · subst e
    exact ⟨tl, Or.inl ⟨rfl, wl, h2, h.w8, h.t64, h.one⟩⟩
  · have hI := hi e
    have e2 : hcells wl tl l.length = hcells (stv (S2.hw l)).toList tl l.length := by
      have a := h.blk
      rw [hI.hb.blk] at a
      injection a with a
      injection a with a
      exact (congrArg Array.toList a).symm
    exact ⟨tl, Or.inr ⟨e, ⟨⟨by rw [← e2]; exact h2, hI.hb.w8, hI.hb.t64, hI.hb.one⟩, hI.tail⟩⟩⟩
set_option maxRecDepth 100000 in
theorem HIs.fr {w w2 : World} {bh : Nat} {l : List UInt8} {S : Nat → Prop} (h : HIs w bh l) (hF : Fr S w w2) (hs : ¬ S bh) : HIs w2 bh l := by
  obtain ⟨tl, h⟩ := h
  rcases h with ⟨rfl, wl, hb⟩ | ⟨hl, hi⟩
  · exact ⟨tl, Or.inl ⟨rfl, wl, hb.fr hF hs⟩⟩
  · exact ⟨tl, Or.inr ⟨hl, hi.hb.fr hF hs, hi.tail⟩⟩
set_option maxRecDepth 100000 in
theorem HIs.lt {w : World} {bh : Nat} {l : List UInt8} (h : HIs w bh l) : bh < w.heap.size := by
  obtain ⟨wl, tl, hb, _⟩ := h.cells
  exact lt_of_block hb.blk
set_option maxRecDepth 100000 in
/-- The bytes of a padding lie in its block. -/
theorem pad_lies {w : World} {b c : Nat} {t : TypeId} {fr : Nat × Nat} (h : w.heap[b]? = some (.cells (ub 72 (pf c 8)) t fr)) : Lies w (some ⟨b, 0, none⟩) (S2.pad c) := by
  have hp : S2.padLen c = 64 - (c % 64 + 8) % 64 + 8 := rfl
  refine Or.inr ⟨b, 0, rfl, fun j hj => ?_⟩
  rw [Nat.zero_add, cell_of_block h]
  have hl : (S2.pad c).length = S2.padLen c := by rw [← pf_pad c]; simp
  rw [ub_get 72 _ j (by omega)]
  simp only [← pf_pad c, List.getElem_map, List.getElem_range]

/-- The global table, and where it lies. -/
structure Env (w : World) : Prop where
  tab : Tab w
  lt : 2 < w.heap.size
set_option maxRecDepth 100000 in
theorem Env.fr {w w2 : World} {S : Nat → Prop} (h : Env w) (hF : Fr S w w2) (hs : ¬ S 2) : Env w2 := ⟨h.tab.fr hF hs, Nat.lt_of_lt_of_le h.lt hF.size⟩

set_option maxRecDepth 100000 in
set_option maxHeartbeats 1600000 in
theorem hsum_any (bh : Nat) (l : List UInt8) (w : World) (h : HIs w bh l) (hl : l.length ≤ 1152921504606846976) (hE : Env w) :
    Calls Tryd.prog 30 #[.pointer (some ⟨bh, 0, none⟩)] w fun e w' => e = .returned (.agg (sumc l)) ∧ Fr (fun _ => False) w w' := by
  obtain ⟨wl, tl, hb, hi⟩ := h.cells
  have hlt := h.lt
  have hw8 := hb.w8
  have ht64 := hb.t64
  have hzv := zv72
  have hzn := zn72
  have hzw := zv73
  have hzm := zn73
  go_enter Tryd.func30, Tryd.ntmps30
  go_wp2_with (first
    | (with_reducible refine wpList_load_row rfl 75 (.tmp 9) rfl bh rfl 75 (hcells wl tl l.length).toArray (0, 0) _ (hb.fr (((Fr.refl (fun _ => False) w).alloc _).alloc _) (fun h => h)).blk Tryd.underlying75 rfl (Tryd.size73 hw8 ht64) ?_)
    | (with_reducible refine wpList_store_rowA rfl 75 (.tmp 3) (.tmp 10) rfl (w.heap.size + 1) (hcells wl tl l.length).toArray rfl rfl 75 _ (heap_alloc2_new w _ _) (Tryd.size73 hw8 ht64) ?hold (hcells_one hb.one) ?k))
  case hold => simp [hcells, hw8, ht64] <;> rfl
  case k =>
  intro w1 hn1 hG1
  have hF1 : Fr (fun _ => False) w w1 := (((Fr.refl (fun _ => False) w).alloc _).alloc _).trans hG1 (fun i hi => Or.inr (by omega))
  have hr1 : ∃ rs, w1.heap[w.heap.size]? = some (.cells rs 22 (0, 0)) ∧ rs.size = 32 := ⟨_, (hG1.block _ (by simp; omega) (by omega)).trans (heap_alloc2_old w _ _), rfl⟩
  have hh1 : HIs w1 (w.heap.size + 1) l := HIs.copied hb hi hn1
  have hE1 := hE.fr hF1 (fun h => h)
  have hz1 : w.heap.size + 1 < w1.heap.size := hh1.lt
  clear hG1
  have hcnt : w1.cell? ⟨w.heap.size + 1, 72, none⟩ = some (.int .i64 (l.length : Int)) := by
    obtain ⟨_, _, hb1, _⟩ := hh1.cells
    exact hb1.count
  go_wp2_with fail
  refine (padding_any l.length hl _).mono ?_
  rintro e w2 ⟨rfl, F2⟩
  go_wp2_with (with_reducible refine wpList_store_rowA rfl 87 (.tmp 4) (.tmp 15) rfl w2.heap.size (ub 72 (pf l.length 8)) rfl rfl 87 _ (heap_alloc_new w2 _) Tryd.size72 (Tryd.z72.trans (ub_size _ _).symm) (ub_one _ _) ?k2)
  case k2 =>
  intro w3 hp3 hG3
  have hG : Fr (fun k => k = w2.heap.size) w1 w3 := ((F2.mono (T := fun k => k = w2.heap.size) (fun _ _ h => h.elim)).alloc _).trans hG3 (fun i hi => Or.inl hi)
  have hF3 : Fr (fun _ => False) w w3 := hF1.trans hG (fun i hi => Or.inr (by have := hF1.size; have := F2.size; omega))
  have hh3 : HIs w3 (w.heap.size + 1) l := hh1.fr hG (by have := F2.size; omega)
  have hE3 := hE.fr hF3 (fun h => h)
  have hlies := pad_lies hp3
  have hplen : (S2.pad l.length).length = S2.padLen l.length := by rw [← pf_pad]; simp
  have hpl : S2.padLen l.length = 64 - (l.length % 64 + 8) % 64 + 8 := rfl
  have hp72 : S2.padLen l.length ≤ 72 := by omega
  have hp0 : (0 : Int) ≤ (S2.padLen l.length : Int) := by omega
  have hp1 : (S2.padLen l.length : Int) ≤ 72 := by omega
  have hne : S2.pad l.length ≠ [] := by intro e; rw [e] at hplen; simp at hplen; omega
  clear hpl hG3
  have Hplen := Lib.hid hplen
  clear hplen
  go_wp2_with fail
  refine (write_any' (w.heap.size + 1) l (S2.pad l.length) _ 72 _ Hplen.out w3 hh3 hlies hp72 (by unfold maxLen; omega) (Or.inr (fun ⟨ad, e, hb⟩ => by cases e; simp at hb; have := F2.size; omega)) (by have := Hplen.out; omega) hE3.tab hE3.lt (by have := hE.lt; omega)).mono ?_
  rintro e w4 ⟨rfl, hh4, hG4⟩
  obtain ⟨wl4, tl4, hb4, hi4⟩ := hh4.cells
  have hI4 := hi4 (by simp [hne])
  have hwords := hI4.hb.words
  go_wp2_with (with_reducible refine wpList_load_mid rfl 72 (.tmp 20) rfl (w.heap.size + 1) 0 rfl (stv (S2.hw (l ++ S2.pad l.length))).toList _ hwords Tryd.underlying72 rfl Tryd.size8L ?_)
  refine (joined_any _ (S2.hw_ok _) _).mono ?_
  rintro e w5 ⟨rfl, F5⟩
  have hF4 : Fr (fun _ => False) w w4 := hF3.trans hG4 (fun i hi => Or.inr (by omega))
  have hF5 : Fr (fun _ => False) w w5 := hF4.trans F5 (fun _ h => h.elim)
  have hr5 : ∃ rs, w5.heap[w.heap.size]? = some (.cells rs 22 (0, 0)) ∧ rs.size = 32 := by
    obtain ⟨rs, h1, h2⟩ := hr1
    have hz := lt_of_block h1
    refine ⟨rs, ?_, h2⟩
    rw [F5.block _ (by have := hG4.size; have := hF3.size; have := hh3.lt; omega) (fun h => h), hG4.block _ (by have := hh3.lt; omega) (by omega), hG.block _ (by omega) (by have := F2.size; omega), h1]
  obtain ⟨rs, hr5, hrs⟩ := hr5
  go_wp2_with (with_reducible refine wpList_store_row rfl 22 (.tmp 2) (.tmp 22) rfl w.heap.size (sumv (S2.hw (l ++ S2.pad l.length))) rfl rfl 22 rs hr5 Tryd.sizeS (hrs.trans (sumv_size _).symm) (sumv_one _) ?_)
  refine bodyPost_ret (results_cell_row rfl _ _ w.heap.size 22 (sumv (S2.hw (l ++ S2.pad l.length))) (0, 0) _ rfl (setRow_heap _ _ _ _ _ _ hr5) Tryd.underlying22 rfl Tryd.sizeS) rfl ?_
  exact ⟨rfl, hF5.trans (Fr.setRow (S := fun k => k = w.heap.size) (Fr.refl _ _) rfl _) (fun i hi => Or.inr (by omega))⟩
end Go.Proofs.YtndakfanlgilmaaDoor


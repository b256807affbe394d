/-
  Plain laws of this verifier: bytes that a call owns in a row of its own, whether the row was made by a conversion (and bears its mark behind its end) or not; appends onto them, from any source.
-/
import Derived.Test.YtndakfanlgilmaaDoorBy
import Derived.Lib.ConvBytes
import Derived.Laws.IdiomCopy
namespace Go.Proofs.YtndakfanlgilmaaDoor
open Go.RowKit
set_option linter.unusedVariables false

set_option maxRecDepth 100000 in
theorem block_setCellF {w : World} {b : Nat} {cs : Array Value} {t : TypeId} {fz : Nat × Nat} (h : w.heap[b]? = some (.cells cs t fz)) (o : Nat) (u : Value) : (w.setCell ⟨b, o, none⟩ u).heap[b]? = some (.cells (cs.setIfInBounds o u) t fz) := by
  have hlt := lt_of_block h
  have h' : w.heap[b] = .cells cs t fz := by simpa [Array.getElem?_eq_getElem hlt] using h
  show (w.heap.modify b _)[b]? = _
  rw [Array.getElem?_eq_getElem (by simpa using hlt), Array.getElem_modify_self, h']
  rfl
set_option maxRecDepth 100000 in
theorem setCells_blockF {b : Nat} {t : TypeId} {fz : Nat × Nat} : ∀ (vs : List Value) (o : Nat) (cur : List Value) (w : World), w.heap[b]? = some (.cells cur.toArray t fz) → o + vs.length ≤ cur.length →
    (w.setCells b o vs).heap[b]? = some (.cells (cur.take o ++ (vs ++ cur.drop (o + vs.length))).toArray t fz) := by
  intro vs
  induction vs with
  | nil => intro o cur w h _; simpa [World.setCells] using h
  | cons v r ih =>
    intro o cur w h hl
    simp only [List.length_cons] at hl
    have h1 := block_setCellF h o v
    rw [show cur.toArray.setIfInBounds o v = (cur.set o v).toArray by simp] at h1
    have h2 := ih (o + 1) (cur.set o v) _ h1 (by simp; omega)
    rw [World.setCells, h2]
    congr 3
    have := list_seg_step cur o v r (by omega)
    simpa [List.append_assoc] using this
set_option maxRecDepth 100000 in
theorem setCells_grown {b : Nat} : ∀ (vs : List Value) (o : Nat) (w : World), w.grownBy (w.setCells b o vs) (some b)
  | [], _, w => ⟨rfl, rfl, rfl, Nat.le_refl _, fun _ _ _ => rfl⟩
  | v :: r, o, w => by
    have h := setCells_grown (b := b) r (o + 1) (w.setCell ⟨b, o, none⟩ v)
    exact ⟨h.os, h.tape, h.output, Nat.le_trans (by simp [World.setCell]) h.size, fun k hk hne => (h.block k (by simpa [World.setCell] using hk) hne).trans (Below.heap_setCell _ _ _ _ (fun e => hne (by rw [e])))⟩

/-- The bytes l are owned: in a row above B of the call's own. -/
def Own (w : World) (B : Nat) (v : Value) (l : List UInt8) : Prop :=
  (v = .slice none 0 0 ∧ l = []) ∨
  ∃ g cap cur fz, v = .slice (some ⟨g, 0, none⟩) l.length cap ∧ B ≤ g ∧ w.heap[g]? = some (.cells cur 5 fz) ∧ (fz = (0, 0) ∨ cur.size ≤ fz.1) ∧ l.length ≤ cap ∧ cap ≤ maxLen ∧ cur.size = cap ∧ cur.toList.take l.length = bv l

set_option maxRecDepth 100000 in
theorem Own.nil (w : World) (B : Nat) : Own w B (.slice none 0 0) [] := Or.inl ⟨rfl, rfl⟩
set_option maxRecDepth 100000 in
theorem Own.of {w : World} {B n : Nat} {v : Value} {l : List UInt8} (h : w.ownsRow B 5 1 v n (bv l)) : Own w B v l := by
  have hl := h.1
  simp at hl
  rcases h.2 with ⟨e, h0⟩ | ⟨g, cap, cur, e, h1, h2, h3, h4, h5, h6⟩
  · exact Or.inl ⟨e, List.eq_nil_of_length_eq_zero (by omega)⟩
  · exact Or.inr ⟨g, cap, cur, (0, 0), by rw [e, hl], h1, h2, Or.inl rfl, by omega, h4, by simpa using h5, by rw [hl]; simpa using h6⟩
set_option maxRecDepth 100000 in
theorem Own.fr {w w2 : World} {B : Nat} {v : Value} {l : List UInt8} {S : Nat → Prop} (h : Own w B v l) (hF : Fr S w w2) (hs : ∀ k, v.ownBlock = some k → ¬ S k) : Own w2 B v l := by
  rcases h with h | ⟨g, cap, cur, fz, e, h1, h2, h3⟩
  · exact Or.inl h
  · exact Or.inr ⟨g, cap, cur, fz, e, h1, (hF.block g (lt_of_block h2) (hs g (by rw [e]; rfl))).trans h2, h3⟩
set_option maxRecDepth 100000 in
theorem Own.up {w : World} {B B2 : Nat} {v : Value} {l : List UInt8} (h : Own w B v l) (hB : B2 ≤ B) : Own w B2 v l := by
  rcases h with h | ⟨g, cap, cur, fz, e, h1, h2⟩
  · exact Or.inl h
  · exact Or.inr ⟨g, cap, cur, fz, e, by omega, h2⟩
set_option maxRecDepth 100000 in
theorem Own.lt {w : World} {B : Nat} {v : Value} {l : List UInt8} (h : Own w B v l) : ∀ k, v.ownBlock = some k → B ≤ k ∧ k < w.heap.size := by
  intro k hk
  rcases h with ⟨rfl, _⟩ | ⟨g, cap, cur, fz, rfl, h1, h2, _⟩
  · cases hk
  · cases hk; exact ⟨h1, lt_of_block h2⟩
set_option maxRecDepth 100000 in
theorem Own.slice {w : World} {B : Nat} {v : Value} {l : List UInt8} (h : Own w B v l) : ∃ a c, v = .slice a l.length c := by
  rcases h with ⟨rfl, rfl⟩ | ⟨g, cap, cur, fz, rfl, _⟩
  · exact ⟨_, _, rfl⟩
  · exact ⟨_, _, rfl⟩
set_option maxRecDepth 100000 in
theorem Own.lies {w : World} {B n : Nat} {a : Option Addr} {c : Nat} {l : List UInt8} (h : Own w B (.slice a n c) l) : n = l.length ∧ n ≤ c ∧ c ≤ maxLen ∧ Lies w a l := by
  rcases h with ⟨e, rfl⟩ | ⟨g, cap, cur, fz, e, h1, h2, h3, h4, h5, h6, h7⟩
  · cases e; exact ⟨rfl, Nat.le_refl _, Nat.zero_le _, Or.inl rfl⟩
  · cases e
    refine ⟨rfl, h4, h5, Or.inr ⟨g, 0, rfl, fun j hj => ?_⟩⟩
    rw [Nat.zero_add, cell_of_block h2]
    have := bv_get' l j hj
    rw [← h7, List.getElem?_take, if_pos hj, Array.getElem?_toList] at this
    exact this
set_option maxRecDepth 100000 in
theorem Own.nilAddr {w : World} {B n c : Nat} {l : List UInt8} (h : Own w B (.slice none n c) l) : n = 0 ∧ c = 0 := by
  rcases h with ⟨e, rfl⟩ | ⟨g, cap, cur, fz, e, _⟩
  · cases e; exact ⟨rfl, rfl⟩
  · cases e

section
variable (w : World)
set_option maxRecDepth 100000 in
/-- An append onto owned bytes. -/
theorem run_own (B : Nat) (ty tx : TypeId) (v : Value) (l m : List UInt8) (hown : Own w B v l) (x : Value) (hsrc : Src Tryd.prog 1 tx x m.length (bv m) w)
    (hbytes : l.length + m.length ≤ 140737488355328) (hbase : B ≤ w.heap.size) :
    ∃ v2 w2, (Builtin.append_ #[39, tx] ty #[v, x]).run Tryd.prog w = .ok v2 w2 ∧ Own w2 B v2 (l ++ m) ∧ w.grownBy w2 v.ownBlock ∧ (v2.ownBlock = v.ownBlock ∨ v2.ownBlock = some w.heap.size) := by
  obtain ⟨i, hi, hz, hs, hby⟩ : ∃ i, Tryd.prog.info? 5 = some i ∧ i.zero = some (.int .u8 0) ∧ i.size = 1 ∧ i.bytes = 1 := by
    have h := Tryd.infoB
    cases hi : Tryd.prog.info? 5 with
    | none => rw [hi] at h; cases h
    | some i =>
      rw [hi] at h
      simp only [Option.map_some, Option.some.injEq, Prod.mk.injEq] at h
      exact ⟨i, rfl, h.1, h.2.1, h.2.2⟩
  have hmx : l.length + m.length ≤ maxLen := by unfold maxLen; omega
  rcases hown with ⟨rfl, rfl⟩ | ⟨g, cap, cur, fz, rfl, hbg, hg, hfz, hnc, hcm, hcs, htake⟩
  · obtain ⟨v2, w2, h1, h2, h3, h4⟩ := run_app (P := Tryd.prog) w B 39 tx ty 5 i (.int .u8 0) 1 1 Tryd.underlying39 hi hz hs hby rfl (by decide) _ 0 [] (World.ownsRow_nil _ _ _ _) x m.length (bv m) hsrc (by simpa using hmx) (by simp at hbytes ⊢; omega) hbase
    exact ⟨v2, w2, h1, Own.of (n := 0 + m.length) (by simpa using h2), h3, h4⟩
  · by_cases hroom : l.length + m.length ≤ cap
    · have hf := hsrc.cells
      have hcur : w.heap[g]? = some (.cells cur.toList.toArray 5 fz) := by simpa using hg
      have hst := run_storeCells_cells (P := Tryd.prog) g l.length (bv m) 0 w (fun j hj => by
          rw [bv_length] at hj
          rw [Nat.add_zero, cell_of_block hg, Array.getElem?_eq_getElem (by omega)]; rfl) (fun j hj => by
          rw [bv_length] at hj
          rw [Nat.add_zero]
          rcases hfz with e | e
          · subst e; simp [World.frozen?, hg]
          · simp [World.frozen?, hg]; omega) (bv_one m)
      simp only [Nat.add_zero] at hst
      have hr : (Builtin.append_ #[39, tx] ty #[.slice (some ⟨g, 0, none⟩) l.length cap, x]).run Tryd.prog w = .ok (.slice (some ⟨g, 0, none⟩) (l.length + m.length) cap) (w.setCells g l.length (bv m)) := by
        rcases hsrc.kind with ⟨e2, hk⟩ | hk <;>
          simp [Builtin.append_, run_underlying Tryd.underlying39, run_underlying hk, sizeOf, typeInfo, hi, hs, hsrc.len, hroom, hf, Addr.add_lit, hst]
      have hb := setCells_blockF (bv m) l.length cur.toList w hcur (by simp; omega)
      refine ⟨_, _, hr, Or.inr ⟨g, cap, _, fz, by rw [List.length_append], hbg, hb, ?_, by rw [List.length_append]; omega, hcm, ?_, ?_⟩, setCells_grown _ _ _, .inl rfl⟩
      · rcases hfz with e | e
        · exact Or.inl e
        · refine Or.inr (Nat.le_trans (Nat.le_of_eq ?_) e)
          simp; omega
      · simp; omega
      · rw [htake, bv_append, ← List.append_assoc, List.toList_toArray]
        exact List.take_left' (by simp)
    · have holds : ∀ j u, (bv l)[j]? = some u → w.drew.cell? ((⟨g, 0, none⟩ : Addr).add j) = some u := fun j u h => by
        rw [addr_add, Nat.zero_add]
        show w.cell? _ = _
        rw [cell_of_block hg, ← Array.getElem?_toList]
        rw [← htake, List.getElem?_take] at h
        split at h
        · exact h
        · cases h
      have hr := run_append_grow_src (P := Tryd.prog) w 39 tx ty 5 i (.int .u8 0) Tryd.underlying39 hi hz (some ⟨g, 0, none⟩) l.length cap (bv l) (run_firstCells_some w.drew i.size l.length ⟨g, 0, none⟩ l.length cap (bv l) (by rw [hs]; simp) holds) x m.length (bv m) (by rw [hs]; exact hsrc) (by omega) (by unfold maxLen at hmx; omega) (growslice_fits (by unfold maxLen at hmx; omega) (by rw [hby]; omega))
      have hge := grownCap_ge w (l.length + m.length) cap 5
      have hcm2 := grownCap_le_maxLen w (l.length + m.length) cap 5 hmx
      refine ⟨_, _, hr, Or.inr ⟨w.heap.size, _, _, (0, 0), by rw [List.length_append], hbase, heap_alloc_new w.drew _, Or.inl rfl, by rw [List.length_append]; exact hge, hcm2, ?_, ?_⟩, ⟨rfl, rfl, rfl, by simp, fun k hk _ => Below.heap_alloc w.drew _ k hk⟩, .inr rfl⟩
      · simp only [Array.size_append, List.size_toArray, size_zeroCells, List.length_append, bv_length]
        simp [Value.cells]
        omega
      · rw [Array.toList_append, bv_append]
        exact List.take_left' (by simp)
set_option maxRecDepth 100000 in
theorem wpList_own {ops : Array Oper} {rest : List Oper} {o : Oper} {a : Act} {Q : Exit → Act → World → Prop} (hgd : o.guard = none) (s x : Operand) (tx : TypeId)
    (ho : o.op = .call { callee := .builtin .append, args := #[s, x], argTypes := #[39, tx] }) (B : Nat) (v : Value) (l m : List UInt8) (hs : a.eval s = v) (hown : Own w B v l)
    (xv : Value) (hx : a.eval x = xv) (hsrc : Src Tryd.prog 1 tx xv m.length (bv m) w) (hbytes : l.length + m.length ≤ 140737488355328) (hbase : B ≤ w.heap.size)
    (h : ∀ v2 w2, Own w2 B v2 (l ++ m) → w.grownBy w2 v.ownBlock → (v2.ownBlock = v.ownBlock ∨ v2.ownBlock = some w.heap.size) → wpList Tryd.prog ops Q rest (a.put o.dst v2) w2) : wpList Tryd.prog ops Q (o :: rest) a w := by
  refine wpList_plain hgd fun _ hK => ?_
  obtain ⟨v2, w2, hr, h2, h3, h4⟩ := run_own w B o.type tx v l m hown xv hsrc hbytes hbase
  unfold Oper.wp execOp
  simp only [ho, resolve, invoke, builtin, Sem.run_bind, Sem.run_pure, Result.andThen_ok, List.map_toArray, List.map_cons, List.map_nil, hs, hx, hr]
  exact hK _ _ (h v2 w2 h2 h3 h4)
set_option maxRecDepth 100000 in
theorem wp_own {o : Oper} {a : Act} {K : Act → World → Prop} {Q : Exit → Act → World → Prop} (s x : Operand) (tx : TypeId)
    (ho : o.op = .call { callee := .builtin .append, args := #[s, x], argTypes := #[39, tx] }) (B : Nat) (v : Value) (l m : List UInt8) (hs : a.eval s = v) (hown : Own w B v l)
    (xv : Value) (hx : a.eval x = xv) (hsrc : Src Tryd.prog 1 tx xv m.length (bv m) w) (hbytes : l.length + m.length ≤ 140737488355328) (hbase : B ≤ w.heap.size)
    (h : ∀ v2 w2, Own w2 B v2 (l ++ m) → w.grownBy w2 v.ownBlock → (v2.ownBlock = v.ownBlock ∨ v2.ownBlock = some w.heap.size) → K (a.put o.dst v2) w2) : o.wp Tryd.prog a w K Q := by
  obtain ⟨v2, w2, hr, h2, h3, h4⟩ := run_own w B o.type tx v l m hown xv hsrc hbytes hbase
  unfold Oper.wp execOp
  simp only [ho, resolve, invoke, builtin, Sem.run_bind, Sem.run_pure, Result.andThen_ok, List.map_toArray, List.map_cons, List.map_nil, hs, hx, hr]
  exact h v2 w2 h2 h3 h4
set_option maxRecDepth 100000 in
/-- The bytes of a string, in a row of the call's own. -/
theorem own_str (s : ByteArray) (B : Nat) (hB : B ≤ w.heap.size) (hs : s.size ≤ 140737488355328) : Own (Lib.bytesWorld w 5 s) B (.slice (some ⟨w.heap.size, 0, none⟩) s.size (grownCap w s.size 0 5)) (sb s) := by
  have hge := grownCap_ge w s.size 0 5
  have hmx : s.size ≤ maxLen := by unfold maxLen; omega
  have hcm := grownCap_le_maxLen w s.size 0 5 hmx
  have hsz : s.data.size = s.size := rfl
  refine Or.inr ⟨w.heap.size, _, _, _, by rw [sb_length], hB, Lib.bytesWorld_at_new w 5 s, Or.inr (Nat.le_refl _), by rw [sb_length]; exact hge, hcm, ?_, ?_⟩
  · simp only [Lib.bytesCells, Array.size_append, Array.size_map, Array.size_replicate, hsz]; omega
  · simp only [Lib.bytesCells, Array.toList_append, Array.toList_map]
    rw [List.take_left' (by simp [sb])]
    rfl
set_option maxRecDepth 100000 in
theorem src_b1 {w : World} {k : Nat} (b : UInt8) {v : Value} {t : TypeId} {fr : Nat × Nat} (h : w.heap[k]? = some (.cells #[v] t fr)) (hv : v = .int .u8 (b.toNat : Int)) : Src Tryd.prog 1 39 (.slice (some ⟨k, 0, none⟩) 1 1) [b].length (bv [b]) w := by
  subst hv
  exact src_block h (by simp [Value.oneCell']) 1
set_option maxRecDepth 100000 in
theorem own_str_fr (s : ByteArray) : Fr (fun _ => False) w (Lib.bytesWorld w 5 s) := ⟨rfl, rfl, rfl, by rw [Lib.bytesWorld_size]; omega, fun k hk _ => Lib.bytesWorld_at_old w 5 s k hk⟩
end
end Go.Proofs.YtndakfanlgilmaaDoor


/-
  Rows of sums; the sum of an entry, and of two sums.
  The sum of an entry; of a row of sums.
  What a proof sums up, plain: its texts, what it says; two that say unlike things under one sum clash.
  The path of an entry; what shows that a beginning is one.
  What shows that a beginning is one.
  What comes out of a sum and a path.
  Regions that draw their order, as in Ks; each operation j may touch blocks of S j of its own; what an operation leaves hangs on no block that an operation touches which does not wait for it. Plain: of no program.
  The document's log: half, node, Sum.
  The sums of a tree, of both sides: of none, of a leaf, of a node.
  A tree of one leaf: the library's functions at one element.
  A tree of one leaf: sorted, cloned; its count and root; the sum of none.
  A tree of one leaf: made; the sum of none.
  A tree of one leaf, whole; what the law asks of it.
  The law TreeSums.
  A proof's 66 cells; tame, to, from.
-/
import Derived.Test.YtndakfanlgilmaaDoorGb
import Derived.Test.YtndakfanlgilmaaDoorPa
import Derived.Test.YtndakfanlgilmaaDoorHo
import Derived.Test.YtndakfanlgilmaaDoorKs
import Derived.Test.YtndakfanlgilmaaDoorKw
import Derived.Lib.Hide
import Derived.Test.YtndakfanlgilmaaDoorQPz
import Derived.Lib.SliceRun
namespace Go.Proofs.YtndakfanlgilmaaDoor
open Go.RowKit
set_option linter.unusedVariables false
set_option linter.unusedSimpArgs false
def krow (l : List UInt8) : Array Value := (bv l).toArray
set_option maxRecDepth 100000 in
theorem krow_size (l : List UInt8) : (krow l).size = l.length := by simp [krow]
set_option maxRecDepth 100000 in
theorem krow_one (l : List UInt8) : (krow l).all (·.oneCell') = true := by
  rw [Array.all_eq_true_iff_forall_mem]
  intro x hx
  obtain ⟨b, _, rfl⟩ := List.mem_map.1 (by simpa [krow, bv] using hx)
  rfl
set_option maxRecDepth 100000 in
theorem krow_one' (l : List UInt8) : ∀ u ∈ (krow l).toList, u.oneCell' = true := by
  intro u hu
  exact bv_one l u (by simpa [krow] using hu)
set_option maxRecDepth 100000 in
theorem krow_get {l : List UInt8} {j : Nat} (u : Value) (h : (krow l)[j]? = some u) : ∃ b, l[j]? = some b ∧ u = .int .u8 (b.toNat : Int) := by
  rw [krow, List.getElem?_toArray, bv_get] at h
  obtain ⟨b, h1, h2⟩ := Option.map_eq_some_iff.1 h
  exact ⟨b, h1, h2.symm⟩
set_option maxRecDepth 100000 in
theorem krow_sum (l : List UInt8) : sumc l = krow (S2.sum l) := sumc_map l
set_option maxRecDepth 100000 in
theorem sz32 : (Tryd.prog.info? 22).map (·.size) = some 32 := by kernel_rfl
set_option maxRecDepth 100000 in
theorem sz32' {l : List UInt8} (h : l.length = 32) : (Tryd.prog.info? 22).map (·.size) = some (krow l).size := by rw [krow_size, h]; exact sz32
set_option maxRecDepth 100000 in
theorem came_row {W : World} {b : Nat} {l : List UInt8} {t : TypeId} {fr : Nat × Nat} (h : W.heap[b]? = some (.cells (krow l) t fr)) (hl : l.length ≤ 1000) : Came W (some ⟨b, 0, none⟩) l.length l.length l := by
  refine ⟨rfl, Nat.le_refl _, by unfold maxLen; omega, Or.inr ⟨b, 0, rfl, fun j hj => ?_⟩, fun e => by cases e⟩
  rw [Nat.zero_add, cell_of_block h, krow, List.getElem?_toArray, bv_get' l j hj]
set_option maxRecDepth 100000 in
theorem came_cells {W : World} {b : Nat} {l : List UInt8} {cs : Array Value} {t : TypeId} {fr : Nat × Nat} (h : W.heap[b]? = some (.cells cs t fr)) (hcs : cs = krow l) (hl : l.length ≤ 1000) : Came W (some ⟨b, 0, none⟩) l.length l.length l := by subst hcs; exact came_row h hl
set_option maxRecDepth 100000 in
theorem parts3g {w : World} {b : Nat} {a a2 a3 : Option Addr} {n n2 n3 c c2 c3 : Nat} {x y z : List UInt8} {t : TypeId} {fr : Nat × Nat} (h : w.heap[b]? = some (.cells #[.slice a n c, .slice a2 n2 c2, .slice a3 n3 c3] t fr)) (hx : Came w a n c x) (hy : Came w a2 n2 c2 y) (hz : Came w a3 n3 c3 z) : Parts w (some ⟨b, 0, none⟩) [x, y, z] := by
  refine Or.inr ⟨b, 0, rfl, fun j hj => ?_⟩
  match j, hj with
  | 0, _ => exact ⟨a, c, by rw [cell_of_block h]; simp [hx.len], hx.lies, by have := hx.le; have := hx.len; simp; omega, hx.mx⟩
  | 1, _ => exact ⟨a2, c2, by rw [cell_of_block h]; simp [hy.len], hy.lies, by have := hy.le; have := hy.len; simp; omega, hy.mx⟩
  | 2, _ => exact ⟨a3, c3, by rw [cell_of_block h]; simp [hz.len], hz.lies, by have := hz.le; have := hz.len; simp; omega, hz.mx⟩
set_option maxRecDepth 100000 in
theorem Came.ext {w w2 : World} {a : Option Addr} {n c : Nat} {l : List UInt8} (h : Came w a n c l) (F : Fr (fun _ => False) w w2) : Came w2 a n c l := h.grow F (fun _ _ h => h)
set_option maxRecDepth 100000 in
theorem Env.ext {w w2 : World} (h : Env w) (F : Fr (fun _ => False) w w2) : Env w2 := h.fr F (fun h => h)
set_option maxRecDepth 100000 in
theorem wpList_val {P : Program} {ops : Array Oper} {rest : List Oper} {o : Oper} {a : Act} {w w' : World} {v : Value} {Q : Exit → Act → World → Prop} (hgd : o.guard = none) (hr : (execOp a.eval o).run P w = .ok (.value v) w') (h : wpList P ops Q rest (a.put o.dst v) w') : wpList P ops Q (o :: rest) a w :=
  wpList_plain hgd fun _ hK => by
    unfold Oper.wp
    rw [hr]
    exact hK _ _ h
set_option maxRecDepth 100000 in
theorem wpList_buildSlice {P : Program} {ops : Array Oper} {rest : List Oper} {o : Oper} {a : Act} {w : World} {Q : Exit → Act → World → Prop} (hgd : o.guard = none) (t : TypeId) (m : Nat) (parts : Array (Nat × Operand)) (ho : o.op = .buildSlice t m parts) (vs : Array (Nat × Value)) (hvs : (parts.map fun (p : Nat × Operand) => (p.1, a.eval p.2)) = vs) {w' : World} {v : Value} (hr : (Instr.buildSlice t m vs).run P w = .ok v w') (h : wpList P ops Q rest (a.put o.dst v) w') : wpList P ops Q (o :: rest) a w := by
  refine wpList_val hgd (v := v) (w' := w') ?_ h
  unfold execOp
  simp only [ho, hvs, Sem.run_bind, Result.andThen_ok, Sem.run_pure, hr]
set_option maxRecDepth 100000 in
theorem mkB (z : Int) (w : World) : (Instr.buildSlice 39 1 #[(0, .int .u8 z)]).run Tryd.prog w = .ok (.slice (some ⟨w.heap.size, 0, none⟩) 1 1) (w.alloc (.cells #[.int .u8 z] 5)) := by kernel_rfl
set_option maxRecDepth 100000 in
theorem mkB2 (a b : Value) (h1 : a.cells = #[a]) (h2 : b.cells = #[b]) (w : World) : True := trivial
set_option maxRecDepth 100000 in
theorem mkP2 (a1 a2 : Option Addr) (n1 c1 n2 c2 : Nat) (w : World) : (Instr.buildSlice 30 2 #[(0, .slice a1 n1 c1), (1, .slice a2 n2 c2)]).run Tryd.prog w = .ok (.slice (some ⟨w.heap.size, 0, none⟩) 2 2) (w.alloc (.cells #[.slice a1 n1 c1, .slice a2 n2 c2] 39)) := by kernel_rfl
set_option maxRecDepth 100000 in
theorem mkP3 (a1 a2 a3 : Option Addr) (n1 c1 n2 c2 n3 c3 : Nat) (w : World) : (Instr.buildSlice 30 3 #[(0, .slice a1 n1 c1), (1, .slice a2 n2 c2), (2, .slice a3 n3 c3)]).run Tryd.prog w = .ok (.slice (some ⟨w.heap.size, 0, none⟩) 3 3) (w.alloc (.cells #[.slice a1 n1 c1, .slice a2 n2 c2, .slice a3 n3 c3] 39)) := by kernel_rfl
set_option maxRecDepth 100000 in
/-- A row stored into a block of the call's own, which is its result. -/
theorem done_row {f : Func} {Q : Ending → World → Prop} : True := trivial
end Go.Proofs.YtndakfanlgilmaaDoor
namespace Go.Proofs.YtndakfanlgilmaaDoor
open Go.RowKit
set_option linter.unusedVariables false
set_option linter.unusedSimpArgs false
/-- Rows of 32 bytes that lie behind an address. -/
structure Kv (w : World) (a : Option Addr) (L : List (List UInt8)) : Prop where
  lies : Lies w a L.flatten
  all : Lg.All32 L
set_option maxRecDepth 100000 in
theorem Kv.ext {w w2 : World} {a : Option Addr} {L : List (List UInt8)} (h : Kv w a L) (F : Fr (fun _ => False) w w2) : Kv w2 a L := ⟨h.lies.grow F, h.all⟩
set_option maxRecDepth 100000 in
theorem Kv.fr {w w2 : World} {a : Option Addr} {L : List (List UInt8)} {S : Nat → Prop} (h : Kv w a L) (F : Fr S w w2) (hS : ∀ k, inBlk a k → ¬ S k) : Kv w2 a L := ⟨h.lies.fr F hS, h.all⟩
set_option maxRecDepth 100000 in
theorem Kv.nil (w : World) (a : Option Addr) : Kv w a [] := ⟨Or.inl rfl, .nil⟩
set_option maxRecDepth 100000 in
theorem Kv.take {w : World} {a : Option Addr} {L : List (List UInt8)} (h : Kv w a L) (k : Nat) : Kv w a (L.take k) := ⟨by rw [← h.all.flat_take k]; exact h.lies.take _, h.all.take k⟩
set_option maxRecDepth 100000 in
theorem Kv.drop {w : World} {g off : Nat} {L : List (List UInt8)} (h : Kv w (some ⟨g, off, none⟩) L) (k : Nat) : Kv w (some ⟨g, off + k * 32, none⟩) (L.drop k) := ⟨by rw [← h.all.flat_drop k]; exact h.lies.drop _, h.all.drop k⟩
set_option maxRecDepth 100000 in
theorem Kv.at {w : World} {a : Option Addr} {L : List (List UInt8)} (h : Kv w a L) (h0 : 0 < L.length) : ∃ g off, a = some ⟨g, off, none⟩ := by
  rcases h.lies with h1 | ⟨g, off, e, _⟩
  · have := h.all.flat
    rw [h1] at this
    simp at this
    omega
  · exact ⟨g, off, e⟩
set_option maxRecDepth 100000 in
theorem Kv.cells {w : World} {g off : Nat} {L : List (List UInt8)} (h : Kv w (some ⟨g, off, none⟩) L) {k : Nat} {x : List UInt8} (hx : L[k]? = some x) : ∀ (j : Nat) (u : Value), (krow x)[j]? = some u → w.cell? ⟨g, off + k * 32 + j, none⟩ = some u := by
  intro j u hu
  obtain ⟨b, hb, rfl⟩ := krow_get u hu
  have hl := h.all x (List.mem_of_getElem? hx)
  have hj : j < 32 := by have := (List.getElem?_eq_some_iff.1 hb).1; omega
  have hat := h.all.at hx j hj
  rw [hb] at hat
  have hlt := (List.getElem?_eq_some_iff.1 hat).1
  have hv := (List.getElem?_eq_some_iff.1 hat).2
  rcases h.lies with h1 | ⟨g2, off2, e, hc⟩
  · rw [h1] at hlt; simp at hlt
  · cases e
    have := hc (k * 32 + j) hlt
    rw [hv, ← Nat.add_assoc] at this
    exact this
set_option maxRecDepth 100000 in
theorem wpList_load_cells {P : Program} {ops : Array Oper} {rest : List Oper} {o : Oper} {a : Act} {w : World} {Q : Exit → Act → World → Prop} (hgd : o.guard = none) (ty : TypeId) (x : Operand) (ho : o.op = .load ty x) (g q : Nat) (hx : a.eval x = .pointer (some ⟨g, q, none⟩)) (R : Array Value) (m : Nat)
    (d : TypeDesc) (hu : P.underlying ty = some d) (hd : d.isRow = true) (hty : (P.info? ty).map (·.size) = some m) (hc : ∀ i u, R[i]? = some u → w.cell? ⟨g, q + i, none⟩ = some u) (hm : R.size = m)
    (h : wpList P ops Q rest (a.put o.dst (.agg R)) w) : wpList P ops Q (o :: rest) a w := by
  refine wpList_load_mid hgd ty x ho g q hx R.toList d (fun j u hj => ?_) hu hd (by rw [hty, Array.length_toList, hm]) ?_
  · exact hc j u (by rw [← hj, Array.getElem?_toList])
  · rwa [Array.toArray_toList]
end Go.Proofs.YtndakfanlgilmaaDoor
namespace Go.Proofs.YtndakfanlgilmaaDoor
open Go.RowKit
set_option linter.unusedVariables false
set_option linter.unusedSimpArgs false
/-- The text of a proof's end. -/
def Pf.en (th : Bool) (k v : List UInt8) : List UInt8 := if th then 0 :: (k ++ v) else [2]
/-- The text of a node. -/
def Pf.nd (b : Bool) (d : Nat) (s o : List UInt8) : List UInt8 := 1 :: UInt8.ofNat (d / 256) :: UInt8.ofNat d :: (if b then o ++ s else s ++ o)
/-- The text behind so many rounds, from the end to the top. -/
def Pf.tx (key : List UInt8) (S : List (List UInt8)) (e : List UInt8) : Nat → List UInt8
  | 0 => e
  | j + 1 => Pf.nd (kb key (S.length - 1 - j)) (S.length - 1 - j) (S2.sum (Pf.tx key S e j)) (S.getD (S.length - 1 - j) [])
def Pf.txs (key : List UInt8) (S : List (List UInt8)) (e : List UInt8) (j : Nat) : List (List UInt8) := (List.range (j + 1)).map (Pf.tx key S e)
set_option maxRecDepth 100000 in
theorem Pf.txs_zero (key : List UInt8) (S : List (List UInt8)) (e : List UInt8) : Pf.txs key S e 0 = [e] := rfl
set_option maxRecDepth 100000 in
theorem Pf.txs_succ (key : List UInt8) (S : List (List UInt8)) (e : List UInt8) (j : Nat) : Pf.txs key S e (j + 1) = Pf.txs key S e j ++ [Pf.tx key S e (j + 1)] := by
  unfold Pf.txs; rw [List.range_succ, List.map_append]; rfl
set_option maxRecDepth 100000 in
theorem Pf.txs_len (key : List UInt8) (S : List (List UInt8)) (e : List UInt8) (j : Nat) : (Pf.txs key S e j).length = j + 1 := by simp [Pf.txs]
set_option maxRecDepth 100000 in
theorem Pf.txs_get (key : List UInt8) (S : List (List UInt8)) (e : List UInt8) {i j : Nat} (h : i ≤ j) : (Pf.txs key S e j).getD i [] = Pf.tx key S e i := by
  rw [List.getD_eq_getElem?_getD, List.getElem?_eq_getElem (by rw [Pf.txs_len]; omega)]
  simp [Pf.txs]
set_option maxRecDepth 100000 in
theorem Pf.en_le (th : Bool) {k v : List UInt8} (hk : k.length = 32) (hv : v.length = 32) : (Pf.en th k v).length ≤ 67 := by
  unfold Pf.en; cases th <;> simp <;> omega
set_option maxRecDepth 100000 in
theorem Pf.nd_len (b : Bool) (d : Nat) {s o : List UInt8} (hs : s.length = 32) (ho : o.length = 32) : (Pf.nd b d s o).length = 67 := by
  unfold Pf.nd; cases b <;> simp <;> omega
set_option maxRecDepth 100000 in
theorem Pf.at32 {S : List (List UInt8)} (hS : Lg.All32 S) {i : Nat} (hi : i < S.length) : (S.getD i []).length = 32 := by
  rw [List.getD_eq_getElem?_getD, List.getElem?_eq_getElem hi]; exact hS _ (List.getElem_mem _)
set_option maxRecDepth 100000 in
theorem Pf.tx_le (key : List UInt8) {S : List (List UInt8)} (hS : Lg.All32 S) {e : List UInt8} (he : e.length ≤ 67) : ∀ j, j ≤ S.length → (Pf.tx key S e j).length ≤ 67
  | 0, _ => he
  | j + 1, h => Nat.le_of_eq (Pf.nd_len _ _ (sum_length _) (Pf.at32 hS (by omega)))
set_option maxRecDepth 100000 in
theorem Pf.txs_le (key : List UInt8) {S : List (List UInt8)} (hS : Lg.All32 S) {e : List UInt8} (he : e.length ≤ 67) (j : Nat) (h : j ≤ S.length) : ∀ x ∈ Pf.txs key S e j, x.length ≤ 67 := fun x hx => by
  obtain ⟨i, hi, rfl⟩ := List.mem_map.1 hx
  exact Pf.tx_le key hS he i (by have := List.mem_range.1 hi; omega)
/-- What a proof that is taken says. -/
def Pf.says (key : List UInt8) (th : Bool) (k v : List UInt8) : Bool := th && (k == key)
def Pf.val (key : List UInt8) (th : Bool) (k v : List UInt8) : List UInt8 := if Pf.says key th k v then v else List.replicate 32 0
set_option maxRecDepth 100000 in
theorem Pf.val_len {key : List UInt8} {th : Bool} {k v : List UInt8} (hv : v.length = 32) : (Pf.val key th k v).length = 32 := by
  unfold Pf.val; split
  · exact hv
  · simp
set_option maxRecDepth 100000 in
theorem Pf.nd_inj {b : Bool} {d : Nat} {s s' o o' : List UInt8} (hs : s.length = 32) (hs' : s'.length = 32) (ho : o.length = 32) (ho' : o'.length = 32) (h : Pf.nd b d s o = Pf.nd b d s' o') : s = s' ∧ o = o' := by
  unfold Pf.nd at h
  have h2 := (List.cons.inj (List.cons.inj (List.cons.inj h).2).2).2
  cases b
  · exact List.append_inj h2 (by rw [hs, hs'])
  · exact (List.append_inj h2 (by rw [ho, ho'])).symm
set_option maxRecDepth 100000 in
theorem Pf.en_inj {th th' : Bool} {k v k' v' : List UInt8} (hk : k.length = 32) (hk' : k'.length = 32) (h : Pf.en th k v = Pf.en th' k' v') : th = th' ∧ (th = true → k = k' ∧ v = v') := by
  unfold Pf.en at h
  cases th <;> cases th'
  · exact ⟨rfl, fun h => by cases h⟩
  · simp at h
  · simp at h
  · simp only [if_true] at h
    have h2 := (List.cons.inj h).2
    exact ⟨rfl, fun _ => List.append_inj h2 (by rw [hk, hk'])⟩
set_option maxRecDepth 100000 in
theorem Pf.en_nd {th : Bool} {k v : List UInt8} {b : Bool} {d : Nat} {s o : List UInt8} : Pf.en th k v ≠ Pf.nd b d s o := by
  unfold Pf.en Pf.nd
  cases th <;> simp
set_option maxRecDepth 100000 in
/-- Two proofs of one key under one sum, that say unlike things, have two unlike texts of one sum. -/
theorem Pf.must {key : List UInt8} {S S' : List (List UInt8)} {th th' : Bool} {k v k' v' : List UInt8} (hS : Lg.All32 S) (hS' : Lg.All32 S') (hk : k.length = 32) (hk' : k'.length = 32)
    (hroot : S2.sum (Pf.tx key S (Pf.en th k v) S.length) = S2.sum (Pf.tx key S' (Pf.en th' k' v') S'.length))
    (hne : ¬ (Pf.val key th k v = Pf.val key th' k' v' ∧ Pf.says key th k v = Pf.says key th' k' v')) :
    ∃ i j, i ≤ S.length ∧ j ≤ S'.length ∧ Pf.tx key S (Pf.en th k v) i ≠ Pf.tx key S' (Pf.en th' k' v') j ∧ S2.sum (Pf.tx key S (Pf.en th k v) i) = S2.sum (Pf.tx key S' (Pf.en th' k' v') j) := by
  refine Classical.byContradiction fun hno => hne ?_
  have hall : ∀ i j, i ≤ S.length → j ≤ S'.length → S2.sum (Pf.tx key S (Pf.en th k v) i) = S2.sum (Pf.tx key S' (Pf.en th' k' v') j) → Pf.tx key S (Pf.en th k v) i = Pf.tx key S' (Pf.en th' k' v') j := fun i j hi hj h =>
    Classical.byContradiction fun hn => hno ⟨i, j, hi, hj, hn, h⟩
  have down : ∀ d, d ≤ S.length → d ≤ S'.length → Pf.tx key S (Pf.en th k v) (S.length - d) = Pf.tx key S' (Pf.en th' k' v') (S'.length - d) := by
    intro d
    induction d with
    | zero => intro _ _; exact hall _ _ (by omega) (by omega) hroot
    | succ d ih =>
      intro h1 h2
      have h := ih (by omega) (by omega)
      obtain ⟨a, ha⟩ : ∃ a, S.length - d = a + 1 := ⟨S.length - d - 1, by omega⟩
      obtain ⟨b, hb⟩ : ∃ b, S'.length - d = b + 1 := ⟨S'.length - d - 1, by omega⟩
      rw [ha, hb] at h
      have e1 : S.length - (d + 1) = a := by omega
      have e2 : S'.length - (d + 1) = b := by omega
      have d1 : S.length - 1 - a = d := by omega
      have d2 : S'.length - 1 - b = d := by omega
      rw [e1, e2]
      rw [Pf.tx, Pf.tx, d1, d2] at h
      exact hall _ _ (by omega) (by omega) (Pf.nd_inj (sum_length _) (sum_length _) (Pf.at32 hS (by omega)) (Pf.at32 hS' (by omega)) h).1
  rcases Nat.lt_trichotomy S.length S'.length with h | h | h
  · have g := down S.length (Nat.le_refl _) (by omega)
    obtain ⟨b, hb⟩ : ∃ b, S'.length - S.length = b + 1 := ⟨S'.length - S.length - 1, by omega⟩
    rw [Nat.sub_self, hb] at g
    exact absurd g (by rw [Pf.tx, Pf.tx]; exact Pf.en_nd)
  · have g := down S.length (Nat.le_refl _) (by omega)
    rw [show S'.length - S.length = 0 by omega, Nat.sub_self] at g
    obtain ⟨rfl, g2⟩ := Pf.en_inj hk hk' g
    cases th
    · exact ⟨rfl, rfl⟩
    · obtain ⟨rfl, rfl⟩ := g2 rfl
      exact ⟨rfl, rfl⟩
  · have g := down S'.length (by omega) (Nat.le_refl _)
    obtain ⟨a, ha⟩ : ∃ a, S.length - S'.length = a + 1 := ⟨S.length - S'.length - 1, by omega⟩
    rw [Nat.sub_self, ha] at g
    exact absurd g.symm (by rw [Pf.tx, Pf.tx]; exact Pf.en_nd)
end Go.Proofs.YtndakfanlgilmaaDoor
namespace Go.Proofs.YtndakfanlgilmaaDoor
open Go.RowKit
set_option linter.unusedVariables false
set_option linter.unusedSimpArgs false
set_option maxRecDepth 100000 in
theorem bv_range (x : List UInt8) (h : x.length = 32) : ∃ f, krow x = ub 32 f := ⟨fun j => x.getD j 0, by
  apply Array.ext_getElem?
  intro j
  by_cases hj : j < 32
  · rw [ub_get 32 _ j hj, krow, List.getElem?_toArray, bv_get' x j (by omega), List.getD_eq_getElem?_getD, List.getElem?_eq_getElem (by omega)]; rfl
  · rw [Array.getElem?_eq_none (by rw [krow_size]; omega), Array.getElem?_eq_none (by rw [ub_size]; omega)]⟩
set_option maxRecDepth 100000 in
theorem mkR0 (f : Nat → UInt8) (w : World) : (Instr.buildSlice 24 1 #[(0, .agg (ub 32 f))]).run Tryd.prog w = .ok (.slice (some ⟨w.heap.size, 0, none⟩) 1 1) (w.alloc (.cells (ub 32 f) 22)) := by kernel_rfl
set_option maxRecDepth 100000 in
theorem mkR {x : List UInt8} (h : x.length = 32) (w : World) : (Instr.buildSlice 24 1 #[(0, .agg (krow x))]).run Tryd.prog w = .ok (.slice (some ⟨w.heap.size, 0, none⟩) 1 1) (w.alloc (.cells (krow x) 22)) := by
  obtain ⟨f, e⟩ := bv_range x h
  rw [e]; exact mkR0 f w
set_option maxRecDepth 100000 in
theorem rInfo : ∃ ti z, Tryd.prog.info? 22 = some ti ∧ ti.zero = some z ∧ ti.size = 32 ∧ ti.bytes = 32 ∧ z.cells.size = 32 := ⟨_, .agg (ub 32 (fun _ => 0)), rfl, by kernel_rfl, by kernel_rfl, by kernel_rfl, by kernel_rfl⟩
/-- The type of a row, its facts together. -/
structure RI (ti : TypeInfo) (z : Value) : Prop where
  h1 : Tryd.prog.info? 22 = some ti
  h2 : ti.zero = some z
  h3 : ti.size = 32
  h4 : ti.bytes = 32
  h5 : z.cells.size = 32
set_option maxRecDepth 100000 in
theorem rI : ∃ ti z, RI ti z := by
  obtain ⟨ti, z, h1, h2, h3, h4, h5⟩ := rInfo
  exact ⟨ti, z, h1, h2, h3, h4, h5⟩
set_option maxRecDepth 100000 in
theorem src_row {w : World} {b : Nat} {x : List UInt8} {t : TypeId} {fr : Nat × Nat} (h : w.heap[b]? = some (.cells (krow x) t fr)) (hx : x.length = 32) : Src Tryd.prog 32 24 (.slice (some ⟨b, 0, none⟩) 1 1) 1 (bv x) w :=
  Src.ofSlice _ Tryd.underlying24 ⟨b, 0, none⟩ 1 1 _ (by rw [bv_length, hx]) (fun j u hj => by
    rw [Addr.add_mid, Nat.zero_add, cell_of_block h, krow, List.getElem?_toArray]; exact hj) (bv_one x)
/-- Rows of one's own. -/
def Or32 (w : World) (base : Nat) (v : Value) (L : List (List UInt8)) : Prop := w.ownsRow base 22 32 v L.length (bv L.flatten)
set_option maxRecDepth 100000 in
theorem own_ext {w w' : World} {base : Nat} {e : TypeId} {size : Nat} {v : Value} {n : Nat} {xs : List Value} (h : w.ownsRow base e size v n xs) (hF : Fr (fun _ => False) w w') : w'.ownsRow base e size v n xs := by
  refine ⟨h.1, ?_⟩
  rcases h.2 with hn | ⟨g, cap, cur, e, hb, hg, rest⟩
  · exact .inl hn
  · refine .inr ⟨g, cap, cur, e, hb, ?_, rest⟩
    exact (hF.block g (lt_of_block hg) (fun h => h)).trans hg
set_option maxRecDepth 100000 in
theorem own_fr {w w' : World} {base : Nat} {e : TypeId} {size : Nat} {v : Value} {n : Nat} {xs : List Value} {S : Nat → Prop} (h : w.ownsRow base e size v n xs) (hF : Fr S w w') (hS : ∀ k, v.ownBlock = some k → ¬ S k) : w'.ownsRow base e size v n xs := by
  refine ⟨h.1, ?_⟩
  rcases h.2 with hn | ⟨g, cap, cur, e, hb, hg, rest⟩
  · exact .inl hn
  · refine .inr ⟨g, cap, cur, e, hb, ?_, rest⟩
    exact (hF.block g (lt_of_block hg) (hS _ (by rw [e]; rfl))).trans hg
set_option maxRecDepth 100000 in
theorem own_up {w : World} {base base2 : Nat} {e : TypeId} {size : Nat} {v : Value} {n : Nat} {xs : List Value} (h : w.ownsRow base e size v n xs) (hb : base2 ≤ base) : w.ownsRow base2 e size v n xs := by
  refine ⟨h.1, ?_⟩
  rcases h.2 with hn | ⟨g, cap, cur, e, hb, rest⟩
  · exact .inl hn
  · exact .inr ⟨g, cap, cur, e, by omega, rest⟩
set_option maxRecDepth 100000 in
theorem Or32.nil (w : World) (base : Nat) : Or32 w base (.slice none 0 0) [] := World.ownsRow_nil _ _ _ _
set_option maxRecDepth 100000 in
theorem Or32.snoc {w : World} {base : Nat} {v : Value} {L : List (List UInt8)} {x : List UInt8} (h : w.ownsRow base 22 32 v (L.length + 1) (bv L.flatten ++ bv x)) : Or32 w base v (L ++ [x]) := by
  unfold Or32
  rw [List.length_append, List.flatten_append, List.flatten_singleton, bv_append]
  exact h
set_option maxRecDepth 100000 in
/-- What an own row is, for who reads it. -/
theorem Or32.view {w : World} {base : Nat} {v : Value} {L : List (List UInt8)} (h : Or32 w base v L) (ha : Lg.All32 L) : ∃ a c, v = .slice a L.length c ∧ L.length ≤ c ∧ c ≤ maxLen ∧ Kv w a L ∧ (∀ k, inBlk a k → base ≤ k ∧ k < w.heap.size) := by
  rcases h.2 with ⟨e, h0⟩ | ⟨g, cap, cur, e, hb, hg, hc, hm, hs, ht⟩
  · refine ⟨none, 0, by rw [e, h0], by omega, by unfold maxLen; omega, ?_, fun k hk => by obtain ⟨ad, h1, _⟩ := hk; cases h1⟩
    rw [List.eq_nil_of_length_eq_zero h0]
    exact Kv.nil _ _
  · refine ⟨some ⟨g, 0, none⟩, cap, e, hc, hm, ⟨Or.inr ⟨g, 0, rfl, fun j hj => ?_⟩, ha⟩, fun k hk => ?_⟩
    · have hl := ha.flat
      rw [Nat.zero_add, cell_of_block hg, ← Array.getElem?_toList]
      have h1 : (cur.toList.take (L.length * 32))[j]? = (bv L.flatten)[j]? := by rw [ht]
      rw [List.getElem?_take_of_lt (by omega), bv_get' _ j hj] at h1
      exact h1
    · obtain ⟨ad, h1, h2⟩ := hk
      cases h1
      rw [← h2]
      exact ⟨hb, lt_of_block hg⟩
set_option maxRecDepth 100000 in
theorem Lg.path_len : ∀ (n : Nat) (i : Nat) (L : List (List UInt8)), L.length ≤ n → (Lg.path i L).length ≤ L.length
  | 0, i, L, hn => by rw [Lg.path_one (by omega)]; simp
  | n + 1, i, L, hn => by
    by_cases h2 : L.length < 2
    · rw [Lg.path_one h2]; simp
    · have h1 := Lg.hf_lt (n := L.length) (by omega)
      have h0 := Lg.hf_pos L.length
      by_cases hi : i < Lg.hf L.length
      · rw [Lg.path_left (by omega) hi, List.length_append]
        have := Lg.path_len n i (L.take (Lg.hf L.length)) (by rw [List.length_take]; omega)
        rw [List.length_take] at this
        simp; omega
      · rw [Lg.path_right (by omega) hi, List.length_append]
        have := Lg.path_len n (i - Lg.hf L.length) (L.drop (Lg.hf L.length)) (by rw [List.length_drop]; omega)
        rw [List.length_drop] at this
        simp; omega
structure Nonempty' (p : Prop) : Prop where
  h : p
end Go.Proofs.YtndakfanlgilmaaDoor
namespace Go.Proofs.YtndakfanlgilmaaDoor
open Go.RowKit
set_option linter.unusedVariables false
set_option linter.unusedSimpArgs false
set_option maxRecDepth 100000 in
theorem Lg.sub_len : ∀ (n : Nat) (m : Nat) (L : List (List UInt8)) (all : Bool), L.length ≤ n → 1 ≤ m → m ≤ L.length → (Lg.sub m L all).length ≤ L.length
  | 0, m, L, all, hn, h1, h2 => by omega
  | n + 1, m, L, all, hn, h1, h2 => by
    by_cases hm : m = L.length
    · subst hm
      cases all
      · rw [Lg.sub_own]; simp; omega
      · rw [Lg.sub_all]; simp
    · have h4 := Lg.hf_lt (n := L.length) (by omega)
      have h0 := Lg.hf_pos L.length
      by_cases hi : m ≤ Lg.hf L.length
      · rw [Lg.sub_left hm (by omega) hi, List.length_append]
        have := Lg.sub_len n m (L.take (Lg.hf L.length)) all (by rw [List.length_take]; omega) h1 (by rw [List.length_take]; omega)
        rw [List.length_take] at this
        simp; omega
      · rw [Lg.sub_right hm (by omega) hi, List.length_append]
        have := Lg.sub_len n (m - Lg.hf L.length) (L.drop (Lg.hf L.length)) false (by rw [List.length_drop]; omega) (by omega) (by rw [List.length_drop]; omega)
        rw [List.length_drop] at this
        simp; omega
set_option maxRecDepth 100000 in
theorem Lg.sub_all32 : ∀ (n : Nat) (m : Nat) (L : List (List UInt8)) (all : Bool), L.length ≤ n → Lg.All32 L → Lg.All32 (Lg.sub m L all)
  | n, m, L, all, hn, h => by
    by_cases hm : m = L.length
    · subst hm
      cases all
      · rw [Lg.sub_own]; exact fun x hx => by rw [List.mem_singleton.1 hx]; exact Lg.root_len h
      · rw [Lg.sub_all]; exact .nil
    · by_cases h2 : L.length < 2
      · rw [Lg.sub, dif_neg hm, dif_pos h2]; exact .nil
      · match n, hn with
        | 0, hn => omega
        | n + 1, hn =>
          have h4 := Lg.hf_lt (n := L.length) (by omega)
          have h0 := Lg.hf_pos L.length
          by_cases hi : m ≤ Lg.hf L.length
          · rw [Lg.sub_left hm (by omega) hi]
            exact (Lg.sub_all32 n m _ all (by rw [List.length_take]; omega) (h.take _)).snoc (Lg.root_len (h.drop _))
          · rw [Lg.sub_right hm (by omega) hi]
            exact (Lg.sub_all32 n _ _ false (by rw [List.length_drop]; omega) (h.drop _)).snoc (Lg.root_len (h.take _))
set_option maxRecDepth 100000 in
theorem Or32.one {w : World} {base g : Nat} {x : List UInt8} (hb : base ≤ g) (hg : w.heap[g]? = some (.cells (krow x) 22 (0, 0))) (hx : x.length = 32) : Or32 w base (.slice (some ⟨g, 0, none⟩) 1 1) [x] :=
  ⟨by simp [hx], .inr ⟨g, 1, _, rfl, hb, hg, Nat.le_refl _, by unfold maxLen; omega, by rw [krow_size, hx], by
    have : (bv x).length ≤ 1 * 32 := by rw [bv_length, hx]; decide
    simp [krow, List.take_of_length_le, hx]⟩⟩
end Go.Proofs.YtndakfanlgilmaaDoor
namespace Go.Proofs.YtndakfanlgilmaaDoor
open Go.RowKit
set_option linter.unusedVariables false
set_option linter.unusedSimpArgs false
set_option maxRecDepth 100000 in
theorem wrA (k : Nat) (h : k + 1 ≤ 9223372036854775807) : wrap64 (((k + 1 : Nat) : Int) - 1) = (k : Int) := by rw [IntWalk.wrap64_in _ (by omega)]; omega
set_option maxRecDepth 100000 in
theorem wrC (k : Nat) (h : k ≤ 9223372036854775807) : wrap64 (k : Int) = (k : Int) := IntWalk.wrap64_in _ (by omega)
set_option maxRecDepth 100000 in
theorem wrS (i h : Nat) (h1 : h ≤ i) (h2 : i ≤ 9223372036854775807) : wrap64 ((i : Int) - (h : Int)) = ((i - h : Nat) : Int) := by rw [IntWalk.wrap64_in _ (by omega)]; omega
set_option maxRecDepth 100000 in
theorem quiet_load_cellsS {P : Program} {C : Act → Prop} {a : Act} {o : Oper} {S : Nat → Prop} {W0 : World} {γ : Ks.Gs S W0} (ty : TypeId) (x : Operand) (ho : o.op = .load ty x) (g q : Nat) (hx : a.eval x = .pointer (some ⟨g, q, none⟩)) (R : Array Value) (m : Nat)
    (d : TypeDesc) (hu : P.underlying ty = some d) (hd : d.isRow = true) (hty : (P.info? ty).map (·.size) = some m) (hc : ∀ z : Ks.Ws γ, ∀ (i : Nat) (u : Value), R[i]? = some u → z.w.cell? ⟨g, q + i, none⟩ = some u) (hm : R.size = m)
    (hk : C (a.put o.dst (.agg R))) : o.quiet P a (fun w' => ∃ y : Ks.Ws γ, w' = y.w) C :=
  ⟨.agg R, fun w' ⟨y, e⟩ => by
    subst e
    have hr := run_loadVar_mid (P := P) y.w g q ty R.toList d (fun j u hj => hc y j u (by rw [← hj, Array.getElem?_toList])) hu hd (by rw [hty, Array.length_toList, hm])
    rw [Array.toArray_toList] at hr
    unfold Oper.quietAt execOp
    simp only [ho, hx, Instr.loadAt, Instr.sureAddr, Sem.run_bind, Sem.run_pure, Result.andThen_ok, hr, Oper.quietUpon]
    exact ⟨trivial, trivial⟩, hk⟩
set_option maxRecDepth 100000 in
theorem Calls.keepS {P : Program} {f : FuncId} {args : Array Value} {S : Nat → Prop} {W0 : World} {γ : Ks.Gs S W0} {x : Ks.Ws γ} {v : Value} (h : Calls P f args x.w fun e w' => e = .returned v ∧ x.w = w') : Calls P f args x.w fun e w'' => e = .returned v ∧ ∃ y : Ks.Ws γ, w'' = y.w :=
  h.mono fun _ w' ⟨he, hf⟩ => ⟨he, x, hf.symm⟩
def z32 : List UInt8 := List.replicate 32 0
set_option maxRecDepth 100000 in
theorem z32_row : ub 32 (fun _ => 0) = krow z32 := by kernel_rfl
set_option maxRecDepth 100000 in
theorem z32_len : z32.length = 32 := rfl
set_option maxRecDepth 100000 in
theorem Lg.climb_len (s : List UInt8) (hs : s.length = 32) : ∀ (r : List (List UInt8)) (i n : Nat), (Lg.climb z32 s i n r).1.length = 32
  | [], i, n => by unfold Lg.climb; split <;> first | exact hs | rfl
  | x :: r, i, n => by
    unfold Lg.climb
    split
    · exact hs
    · split <;> rfl
set_option maxRecDepth 100000 in
theorem rev_take (x : List UInt8) (r : List (List UInt8)) : (x :: r).reverse.take r.length = r.reverse := by
  rw [List.reverse_cons, List.take_append_of_le_length (by simp)]
  exact List.take_of_length_le (by simp)
set_option maxRecDepth 100000 in
theorem rev_last (x : List UInt8) (r : List (List UInt8)) : (x :: r).reverse[r.length]? = some x := by
  rw [List.reverse_cons, List.getElem?_append_right (by simp)]; simp
end Go.Proofs.YtndakfanlgilmaaDoor
namespace Go.Proofs.YtndakfanlgilmaaDoor
open Go.RowKit
set_option linter.unusedVariables false
namespace Kj
open Ks (Es)
section
variable {P : Program} {md : Region.Mode} {ops : Array Oper} {Q : Act → World → Prop} {S : Nat → Nat → Prop}

/-- Whatever order is picked from here on, from every world that keeps what is here. -/
def wpM (S : Nat → Nat → Prop) (P : Program) (md : Region.Mode) (ops : Array Oper) (Q : Act → World → Prop) : Nat → Array Bool → Act → World → Prop
  | 0, listed, a, w => Region.ready md ops listed = [] ∧ ∀ w', Ex w w' → Q a w'
  | fuel + 1, listed, a, w => (Region.ready md ops listed = [] → ∀ w', Ex w w' → Q a w') ∧
    ∀ i ∈ Region.ready md ops listed, ∀ w', Ex w w' → wpOp P ops NQ i (fun a'' w'' => Es (S i) w' w'' ∧ wpM S P md ops Q fuel (listed.setIfInBounds i true) a'' w'') a w'
set_option maxRecDepth 100000 in
theorem wpM.up : ∀ (fuel : Nat) (listed : Array Bool) (a : Act) (w w' : World), Ex w w' → wpM S P md ops Q fuel listed a w → wpM S P md ops Q fuel listed a w'
  | 0, _, _, _, _, hx, h => ⟨h.1, fun w2 h2 => h.2 w2 (hx.tr h2)⟩
  | _ + 1, _, _, _, _, hx, h => ⟨fun h0 w2 h2 => h.1 h0 w2 (hx.tr h2), fun i hi w2 h2 => h.2 i hi w2 (hx.tr h2)⟩
set_option maxRecDepth 100000 in
theorem wpAny_of_M {Q' : Exit → Act → World → Prop} (hQ : ∀ a w, Q a w → Q' .normal a w) : ∀ (fuel : Nat) (listed : Array Bool) (a : Act) (w : World), wpM S P md ops Q fuel listed a w → wpAny P md ops Q' fuel listed a w
  | 0, _, _, w, h => ⟨h.1, hQ _ _ (h.2 w (Fr.refl _ w))⟩
  | fuel + 1, _, _, w, h => ⟨fun h0 => hQ _ _ (h.1 h0 w (Fr.refl _ w)), fun i hi => wpOp_mono (fun a'' w'' h => wpAny_of_M hQ fuel _ a'' w'' h.2) (wpOp_nq (h.2 i hi w (Fr.refl _ w)))⟩

/-- In every world from W on the operation leaves v, and keeps what is there. -/
def YM (S : Nat → Prop) (P : Program) (ops : Array Oper) (W : World) (o : Oper) (v : Value) (a : Act) : Prop :=
  (Region.wanted o (yielded ops a.tmps) = true ∧ ∀ w, Es S W w → o.quietAt P a (Ex w) w v) ∨ (Region.wanted o (yielded ops a.tmps) = false ∧ v = undef)
set_option maxRecDepth 100000 in
theorem YM.up {S : Nat → Prop} {W W' : World} {o : Oper} {v : Value} {a : Act} (hx : Es S W W') (h : YM S P ops W o v a) : YM S P ops W' o v a :=
  h.imp (fun h => ⟨h.1, fun w hw => h.2 w (hx.tr hw)⟩) id
set_option maxRecDepth 100000 in
theorem YM.of_same {S : Nat → Prop} {W : World} {o : Oper} {v : Value} {a a' : Act} (hy : YM S P ops W o v a) (he : execOp a'.eval o = execOp a.eval o)
    (hw : Region.wanted o (yielded ops a'.tmps) = Region.wanted o (yielded ops a.tmps)) : YM S P ops W o v a' := by
  unfold YM Oper.quietAt at *
  rw [he, hw]
  exact hy
set_option maxRecDepth 100000 in
theorem YM.wpOp {S : Nat → Prop} {W w : World} {i : Nat} {o : Oper} {v : Value} {a : Act} (hi : ops[i]? = some o) (hy : YM S P ops W o v a) (hx : Ex W w) {K : Act → World → Prop} (h : ∀ w', Ex w w' → K (a.put o.dst v) w') : Go.wpOp P ops NQ i K a w := by
  unfold Go.wpOp
  simp only [hi]
  rcases hy with ⟨hw, hv⟩ | ⟨hw, rfl⟩
  · simp only [hw, if_true]
    exact .inl (Oper.wp_of_quiet (C := Ex w) (K := fun a' => a' = a.put o.dst v) (Fr.refl _ w) (fun a' w' hc e => by subst e; exact h w' hc) ⟨v, fun w1 h1 => quietAt_mono (fun w2 h2 => h1.tr h2) (hv w1 (Ks.Es.of (hx.tr h1))), rfl⟩)
  · simp only [hw, Bool.false_eq_true, if_false]; exact h w (Fr.refl _ w)
set_option maxRecDepth 100000 in
theorem wpM_first {T : Nat → Prop} {i : Nat} {oi : Oper} {v : Value} (hi : ops[i]? = some oi) (hz : ∀ j oz, ops[j]? = some oz → (∃ e ∈ oz.after, Region.binds md e = true ∧ e.on = i) ∨ ∀ b, S j b → T b) (hsel : ∀ (j : Nat) (o : Oper) cs b, ops[j]? = some o → o.op ≠ .select cs b) :
    ∀ (fuel : Nat) (listed : Array Bool) (a : Act) (W : World), Fre md ops oi i listed → i ∈ Region.ready md ops listed → YM T P ops W oi v a →
      wpM S P md ops Q fuel (listed.setIfInBounds i true) (a.put oi.dst v) W → wpM S P md ops Q (fuel + 1) listed a W
  | fuel, listed, a, W, hf, hr, hy, H => by
    refine ⟨fun e => absurd hr (by rw [e]; simp), fun j hj w' hx => ?_⟩
    rcases Nat.decEq j i with hji | hji
    · cases fuel with
      | zero => exact absurd (ready_mono hj hji) (by rw [H.1]; simp)
      | succ fuel =>
        obtain ⟨hun, oj, hoj, _⟩ := mem_ready.1 hj
        have hjz : ∀ b, S j b → T b := (hz j oj hoj).resolve_left (fun ⟨e, he, hb, hon⟩ => no_wait hr hj hoj e he hb hon)
        obtain ⟨s1, s2, s3⟩ := Oper.apart_spec (hf j oj hoj hji hun (no_wait hr hj hoj))
        have selj := fun cs b => hsel j oj cs b hoj
        have seli := fun cs b => hsel i oi cs b hi
        refine wpOp_over hoj (execOp_put oj selj a oi.dst v s1).symm (wanted_put oj a oi.dst v s1).symm (fun u w'' ⟨h1, h2⟩ => ⟨h1, ?_⟩) (fun d w'' ⟨h1, h2⟩ => ⟨h1, ?_⟩) (H.2 j (ready_mono hj hji) w' hx)
        · refine wpM_first (v := v) hi hz hsel fuel _ _ w'' (hf.next hun) (ready_mono hr (fun c => hji c.symm)) ?_ ?_
          · exact (hy.up (Ks.Es.tr (Ks.Es.of hx) (h1.mono (fun b _ => hjz b)))).of_same (execOp_put oi seli a oj.dst u s3) (wanted_put oi a oj.dst u s3)
          · rw [Array.setIfInBounds_comm _ _ hji, ← Act.put_comm a v u s2]
            exact h2
        · refine wpM_first (v := v) hi hz hsel fuel _ _ w'' (hf.next hun) (ready_mono hr (fun c => hji c.symm)) ?_ ?_
          · exact ((hy.up (Ks.Es.tr (Ks.Es.of hx) (h1.mono (fun b _ => hjz b)))).of_same (a' := { a with defers := d :: a.defers }) rfl rfl).of_same (execOp_put oi seli _ oj.dst undef s3) (wanted_put oi _ oj.dst undef s3)
          · rw [Array.setIfInBounds_comm _ _ hji, ← Act.put_comm _ v undef s2, ← Act.put_defers]
            exact h2
    · subst hji
      exact hy.wpOp hi hx fun w'' h2 => ⟨Ks.Es.of h2, wpM.up _ _ _ _ _ (hx.tr h2) H⟩

/-- The walk in an order of one's own: (k, false): the operation k leaves one value wherever it comes up; (k, true): it comes up when no other one can. -/
def Wk (S : Nat → Nat → Prop) (P : Program) (md : Region.Mode) (ops : Array Oper) (Q : Act → World → Prop) : List (Nat × Bool) → Act → World → Prop
  | [], a, w => ∀ w', Ex w w' → Q a w'
  | (k, false) :: r, a, w => ∃ (o : Oper) (v : Value) (T : Nat → Prop), ops[k]? = some o ∧ (∀ j oz, ops[j]? = some oz → (∃ e ∈ oz.after, Region.binds md e = true ∧ e.on = k) ∨ ∀ b, S j b → T b) ∧ YM T P ops w o v a ∧ Wk S P md ops Q r (a.put o.dst v) w
  | (k, true) :: r, a, w => ∀ w', Ex w w' → wpOp P ops NQ k (fun a'' w'' => Es (S k) w' w'' ∧ Wk S P md ops Q r a'' w'') a w'
/-- That z waits for k. -/
def zB (md : Region.Mode) (ops : Array Oper) (z k : Nat) : Bool := match ops[z]? with
  | some oz => oz.after.any fun e => Region.binds md e && e.on == k
  | none => true
set_option maxRecDepth 100000 in
theorem zB_spec {md : Region.Mode} {ops : Array Oper} {z k : Nat} (h : zB md ops z k = true) : ∀ oz, ops[z]? = some oz → ∃ e ∈ oz.after, Region.binds md e = true ∧ e.on = k := by
  intro oz ho
  unfold zB at h
  rw [ho] at h
  obtain ⟨i, hi, h2⟩ := Array.any_eq_true.1 h
  simp only [Bool.and_eq_true, beq_iff_eq] at h2
  exact ⟨_, Array.getElem_mem hi, h2.1, h2.2⟩
/-- That j waits for all of a stretch. -/
def segW (md : Region.Mode) (ops : Array Oper) (j k n : Nat) : Bool := (List.range n).all fun i => zB md ops j (k + i)
set_option maxRecDepth 100000 in
theorem segW_spec {md : Region.Mode} {ops : Array Oper} {j k n : Nat} (h : segW md ops j k n = true) {oz : Oper} (ho : ops[j]? = some oz) (i : Nat) (h1 : k ≤ i) (h2 : i < k + n) : ∃ e ∈ oz.after, Region.binds md e = true ∧ e.on = i := by
  have := List.all_eq_true.1 h (i - k) (List.mem_range.2 (by omega))
  rw [show k + (i - k) = i by omega] at this
  exact zB_spec this oz ho
/-- That the order may be walked so. -/
def okZ (md : Region.Mode) (ops : Array Oper) : List (Nat × Bool) → Array Bool → Bool
  | [], listed => (Region.ready md ops listed).isEmpty
  | (k, false) :: r, listed => (Region.ready md ops listed).contains k && Region.free md ops listed k && okZ md ops r (listed.setIfInBounds k true)
  | (k, true) :: r, listed => (Region.ready md ops listed == [k]) && okZ md ops r (listed.setIfInBounds k true)
set_option maxRecDepth 100000 in
theorem Wk.M (hs : Region.noSelect ops = true) : ∀ (l : List (Nat × Bool)) (listed : Array Bool) (a : Act) (w : World), okZ md ops l listed = true → Wk S P md ops Q l a w → wpM S P md ops Q l.length listed a w
  | [], _, _, _, hB, h => ⟨by simpa [okZ] using hB, h⟩
  | (k, false) :: r, listed, a, w, hB, h => by
    obtain ⟨o, v, T, h0, hw, hy, hk⟩ := h
    simp only [okZ, Bool.and_eq_true] at hB
    obtain ⟨⟨hr, hf⟩, hB'⟩ := hB
    exact wpM_first h0 hw (Region.noSelect_spec hs) r.length listed a w (Region.free_spec h0 hf) (by simpa using hr) hy (Wk.M hs r _ _ w hB' hk)
  | (k, true) :: r, listed, a, w, hB, h => by
    simp only [okZ, Bool.and_eq_true, beq_iff_eq] at hB
    refine ⟨fun h0 => (by rw [hB.1] at h0; cases h0), fun i hi w' hx => ?_⟩
    rw [hB.1] at hi
    obtain rfl : i = k := by simpa using hi
    exact wpOp_mono (fun a'' w'' ⟨h1, h2⟩ => ⟨h1, Wk.M hs r _ a'' w'' hB.2 h2⟩) (h w' hx)
end

set_option maxRecDepth 100000 in
theorem wp_region_mono (S : Nat → Nat → Prop) {P : Program} {id : Nat} {Q : Exit → Act → World → Prop} {a : Act} {W0 : World} {l : List Oper} (π : List (Nat × Bool)) (hm : P.follows .mixedOrders = true)
    (hB : (Region.noSelect l.toArray && (π.length == l.length) && okZ .any l.toArray π (Array.replicate l.length false)) = true)
    (h : Wk S P .any l.toArray (fun a w => Q .normal a w) π a W0) : (Code.region id l.toArray true).wp P Q a W0 := by
  simp only [Bool.and_eq_true, beq_iff_eq] at hB
  refine wp_region_any hm ?_
  have := wpM.up _ _ _ _ _ ((Fr.refl (fun _ => False) W0).drew) (Wk.M hB.1.1 π _ a W0 hB.2 h)
  rw [hB.1.2] at this
  have h2 := wpAny_of_M (Q' := Q) (fun _ _ h => h) _ _ _ _ this
  simpa using h2

section
variable {P : Program} {md : Region.Mode} {Q : Act → World → Prop} {S : Nat → Nat → Prop} {T : Nat → Prop}
open Ks (Gs Ws)
set_option maxRecDepth 100000 in
theorem Wk.steps {ops : Array Oper} {aF : Act} {W : World} {r : List (Nat × Bool)} : ∀ (os : List Oper) (k : Nat) (a : Act), (∀ j, j < os.length → ops[k + j]? = os[j]?) → segB a.tmps.size os = true → (∀ i, k ≤ i → i < k + os.length → ∀ j oz, ops[j]? = some oz → (∃ e ∈ oz.after, Region.binds md e = true ∧ e.on = i) ∨ ∀ b, S j b → T b) →
    (∀ γ : Gs T W, wpQuiet P ops (fun w' => ∃ y : Ws γ, w' = y.w) (fun a' => a' = aF) os a) → Wk S P md ops Q r aF W → Wk S P md ops Q (sg k os.length ++ r) a W
  | [], k, a, _, _, _, h, hr => by
    have h : a = aF := h ⟨fun _ => True, fun _ _ _ _ => trivial, W, Fr.refl _ W, trivial⟩
    rw [h]
    exact hr
  | o :: l, k, a, hl, hB, hT, h, hr => by
    have h0 : ops[k]? = some o := by simpa using hl 0 (by simp)
    simp only [segB, Bool.and_eq_true] at hB
    obtain ⟨hB1, hB2⟩ := hB
    obtain ⟨d, hod⟩ : ∃ d, o.dst = some d := by
      cases hd : o.dst with
      | none => rw [hd] at hB1; simp at hB1
      | some d => exact ⟨d, rfl⟩
    rw [hod] at hB1
    simp only [Bool.and_eq_true, decide_eq_true_eq, List.all_eq_true] at hB1
    have one : ∀ γ : Gs T W, ∀ v, wpQuiet P ops (fun w' => ∃ y : Ws γ, w' = y.w) (fun a' => a' = aF) l (a.put o.dst v) → aF.tmps[d]? = some v := fun γ v hq => by
      rw [quiet_final l _ hq d (fun x hx e => by have := hB1.2 x hx; simp [e] at this), hod]
      simp [Act.put, hB1.1]
    have key : ∀ γ : Gs T W, ∃ v, YieldsIn P ops (fun w' => ∃ y : Ws γ, w' = y.w) o v a ∧ wpQuiet P ops (fun w' => ∃ y : Ws γ, w' = y.w) (fun a' => a' = aF) l (a.put o.dst v) := fun γ => by
      have hq := h γ
      unfold wpQuiet at hq
      by_cases hw : Region.wanted o (yielded ops a.tmps) = true
      · rw [if_pos hw] at hq
        obtain ⟨v, h1, h2⟩ := hq
        exact ⟨v, .inl ⟨hw, h1⟩, h2⟩
      · rw [if_neg hw] at hq
        exact ⟨undef, .inr ⟨by simpa using hw, rfl⟩, hq⟩
    obtain ⟨v, hy0, hq0⟩ := key ⟨fun _ => True, fun _ _ _ _ => trivial, W, Fr.refl _ W, trivial⟩
    have hv := one _ v hq0
    have all : ∀ γ : Gs T W, YieldsIn P ops (fun w' => ∃ y : Ws γ, w' = y.w) o v a ∧ wpQuiet P ops (fun w' => ∃ y : Ws γ, w' = y.w) (fun a' => a' = aF) l (a.put o.dst v) := fun γ => by
      obtain ⟨u, h1, h2⟩ := key γ
      have hu := one γ u h2
      rw [hv] at hu
      obtain rfl := Option.some.inj hu
      exact ⟨h1, h2⟩
    refine ⟨o, v, T, h0, hT k (Nat.le_refl _) (by simp), ?_, Wk.steps l (k + 1) (a.put o.dst v) (fun j hj => by have := hl (j + 1) (by simpa using hj); simpa [Nat.add_assoc, Nat.add_comm 1 j] using this) (by rw [put_size]; exact hB2) (fun i h1 h2 => hT i (by omega) (by simp only [List.length_cons]; omega)) (fun γ => (all γ).2) hr⟩
    rcases hy0 with ⟨hw, _⟩ | ⟨hw, rfl⟩
    · refine .inl ⟨hw, fun w hx => ?_⟩
      have hg := (all ⟨fun w' => Ex w w', fun w1 w2 hF hw1 => Ex.tr hw1 hF, w, hx, Fr.refl _ w⟩).1
      rcases hg with ⟨_, hg⟩ | ⟨hw2, _⟩
      · exact quietAt_mono (fun w' ⟨y, e⟩ => by rw [e]; exact y.g) (hg w ⟨⟨w, hx, Fr.refl _ w⟩, rfl⟩)
      · rw [hw] at hw2; cases hw2
    · exact .inr ⟨hw, rfl⟩
set_option maxRecDepth 100000 in
/-- Operations that leave one value each, by the walk in the order of the text. -/
theorem Wk.seg {l : List Oper} {a : Act} {W : World} {r : List (Nat × Bool)} (T : Nat → Prop) (k n : Nat) (hn : ((l.drop k).take n).length = n) (hB : segB a.tmps.size ((l.drop k).take n) = true)
    (hT : ∀ j b, S j b → segW md l.toArray j k n = true ∨ T b)
    (h : ∃ aF, (∀ γ : Gs T W, wpQuiet P l.toArray (fun w' => ∃ y : Ws γ, w' = y.w) (fun a' => a' = aF) ((l.drop k).take n) a) ∧ Wk S P md l.toArray Q r aF W) : Wk S P md l.toArray Q (sg k n ++ r) a W := by
  obtain ⟨aF, h1, h2⟩ := h
  have := Wk.steps (md := md) (Q := Q) (r := r) ((l.drop k).take n) k a (fun j hj => by
    rw [List.getElem?_take_of_lt (by omega), List.getElem?_drop, List.getElem?_toArray]) hB (fun i hi1 hi2 j oz hoz => by
      rw [hn] at hi2
      by_cases hw : segW md l.toArray j k n = true
      · exact .inl (segW_spec hw hoz i hi1 hi2)
      · exact .inr fun b hb => (hT j b hb).resolve_left hw) h1 h2
  rwa [hn] at this
set_option maxRecDepth 100000 in
/-- A call, whatever it answers. -/
theorem Wk.call {ops : Array Oper} {a : Act} {W : World} {r : List (Nat × Bool)} {k : Nat} {o : Oper} (hi : ops[k]? = some o) (hw : Region.wanted o (yielded ops a.tmps) = true) (f : FuncId) (args : Array Value)
    (hrun : ∀ w, (execOp a.eval o).run P w = .ok (.enter f args) w) (R : Value → World → Prop) (hc : ∀ w, Ex W w → Calls P f args w fun e w' => ∃ v, e = .returned v ∧ Ex w w' ∧ R v w')
    (h : ∀ v w', Ex W w' → R v w' → Wk S P md ops Q r (a.put o.dst v) w') : Wk S P md ops Q ((k, true) :: r) a W := by
  intro w hx
  unfold wpOp
  simp only [hi, hw, if_true]
  refine .inl ?_
  unfold Oper.wp
  rw [hrun, Oper.upon_enter]
  refine (hc w hx).mono fun e w' hh => ?_
  obtain ⟨v, rfl, h1, h2⟩ := hh
  exact ⟨Ks.Es.of h1, h v w' (hx.tr h1) h2⟩

end
set_option maxRecDepth 100000 in
/-- An operation that comes up alone, by a law of the walk in the text's order. -/
theorem Wk.one {P : Program} {md : Region.Mode} {Q : Act → World → Prop} {S : Nat → Nat → Prop} {ops : Array Oper} {a : Act} {W : World} {r : List (Nat × Bool)} {k : Nat} {o : Oper} (hi : ops[k]? = some o)
    (h : ∀ w, Ex W w → wpList P ops (fun e a' w' => e = .normal ∧ Es (S k) w w' ∧ Wk S P md ops Q r a' w') [o] a w) : Wk S P md ops Q ((k, true) :: r) a W :=
  fun w hx => Ks.wpOp_of_list hi (h w hx)
end Kj
end Go.Proofs.YtndakfanlgilmaaDoor
namespace Go.Proofs.YtndakfanlgilmaaDoor
open Go.RowKit
set_option linter.unusedVariables false
set_option linter.unusedSimpArgs false
/-- A string's value. -/
def str (l : List UInt8) : Value := .string ⟨l.toArray⟩
set_option maxRecDepth 100000 in
theorem str_cells (l : List UInt8) : (str l).cells = #[str l] := rfl
set_option maxRecDepth 100000 in
theorem str_oneg (l : List UInt8) : (str l).oneCell' = true := rfl
/-- Strings that lie behind an address. -/
def Sv (w : World) (a : Option Addr) (W : List (List UInt8)) : Prop := W = [] ∨ ∃ g off, a = some ⟨g, off, none⟩ ∧ ∀ (j : Nat) (x : List UInt8), W[j]? = some x → w.cell? ⟨g, off + j, none⟩ = some (str x)
set_option maxRecDepth 100000 in
theorem Sv.fr {w w2 : World} {a : Option Addr} {W : List (List UInt8)} {S : Nat → Prop} (h : Sv w a W) (F : Fr S w w2) (hS : ∀ k, inBlk a k → ¬ S k) : Sv w2 a W :=
  h.imp id fun ⟨g, off, e, hc⟩ => ⟨g, off, e, fun j x hx => F.cellSome (hS g ⟨_, e, rfl⟩) (hc j x hx)⟩
set_option maxRecDepth 100000 in
theorem Sv.ext {w w2 : World} {a : Option Addr} {W : List (List UInt8)} (h : Sv w a W) (F : Fr (fun _ => False) w w2) : Sv w2 a W := h.fr F (fun _ _ h => h)
set_option maxRecDepth 100000 in
theorem Sv.nil (w : World) (a : Option Addr) : Sv w a [] := Or.inl rfl
set_option maxRecDepth 100000 in
theorem Sv.take {w : World} {a : Option Addr} {W : List (List UInt8)} (h : Sv w a W) (k : Nat) : Sv w a (W.take k) := by
  rcases h with h | ⟨g, off, e, hc⟩
  · rw [h]; simp [Sv]
  · exact Or.inr ⟨g, off, e, fun j x hx => hc j x (by
      rw [List.getElem?_take] at hx
      split at hx
      · exact hx
      · cases hx)⟩
set_option maxRecDepth 100000 in
theorem Sv.drop {w : World} {g off : Nat} {W : List (List UInt8)} (h : Sv w (some ⟨g, off, none⟩) W) (k : Nat) : Sv w (some ⟨g, off + k, none⟩) (W.drop k) := by
  rcases h with h | ⟨g2, off2, e, hc⟩
  · rw [h]; simp [Sv]
  · cases e
    exact Or.inr ⟨g, off + k, rfl, fun j x hx => by
      have := hc (k + j) x (by rw [← List.getElem?_drop]; exact hx)
      rw [show off + k + j = off + (k + j) by omega]; exact this⟩
set_option maxRecDepth 100000 in
theorem Sv.at {w : World} {a : Option Addr} {W : List (List UInt8)} (h : Sv w a W) (h0 : 0 < W.length) : ∃ g off, a = some ⟨g, off, none⟩ := by
  rcases h with h1 | ⟨g, off, e, _⟩
  · rw [h1] at h0; simp at h0
  · exact ⟨g, off, e⟩
set_option maxRecDepth 100000 in
theorem Sv.cell {w : World} {g off : Nat} {W : List (List UInt8)} (h : Sv w (some ⟨g, off, none⟩) W) {k : Nat} {x : List UInt8} (hx : W[k]? = some x) : w.cell? ⟨g, off + k, none⟩ = some (str x) := by
  rcases h with h1 | ⟨g2, off2, e, hc⟩
  · rw [h1] at hx; simp at hx
  · cases e; exact hc k x hx
set_option maxRecDepth 100000 in
theorem rsum_str (l : List UInt8) (hl : l.length ≤ 1000000) (w : World) (hE : REnv w) : Calls Tryd.prog 9 #[str l] w fun e w' => e = .returned (str (S2.sum l)) ∧ Fr (fun _ => False) w w' := by
  refine (rsum_any ⟨l.toArray⟩ (by show l.toArray.size ≤ _; simp; omega) w hE).mono ?_
  rintro e w' ⟨rfl, F⟩
  exact ⟨by rw [sb_mk]; rfl, F⟩
set_option maxRecDepth 100000 in
theorem str_add (x y : List UInt8) (hx : x.length ≤ 1000000) (hy : y.length ≤ 1000000) (W : World) : (Op.stringOp .add ⟨x.toArray⟩ ⟨y.toArray⟩).run Tryd.prog W = .ok (str (x ++ y)) W := run_string_add_lists W x y (by omega) (by omega)
set_option maxRecDepth 100000 in
theorem REnv.ext {w w2 : World} (h : REnv w) (F : Fr (fun _ => False) w w2) : REnv w2 := h.fr F (fun h => h) (fun h => h)
set_option maxRecDepth 100000 in
theorem wrD (p : Nat) (h : p * 2 ≤ 9223372036854775807) : wrap64 ((p : Int) * 2) = ((p * 2 : Nat) : Int) := by rw [IntWalk.wrap64_in _ (by omega)]; omega
set_option maxRecDepth 100000 in
theorem half_meas {n p : Nat} (h : p < n - p) (h0 : 0 < p) (u : Int) (hu : u = ((p * 2 : Nat) : Int)) : n - u.toNat < n - ((p : Int)).toNat := by
  rw [hu, Int.toNat_natCast, Int.toNat_natCast]; omega
set_option maxRecDepth 100000 in
theorem hf_loop {n j : Nat} (h2 : 2 ≤ n) (hj : j ≤ Nat.log2 (n - 1)) : (2 ^ j < n - 2 ^ j ↔ j < Nat.log2 (n - 1)) ∧ 2 ^ j < n := by
  have h1 := Nat.log2_self_le (show n - 1 ≠ 0 by omega)
  have h3 := Nat.lt_log2_self (n := n - 1)
  have hp : 2 ^ j ≤ 2 ^ Nat.log2 (n - 1) := Nat.pow_le_pow_right (by decide) hj
  refine ⟨⟨fun h => ?_, fun h => ?_⟩, by omega⟩
  · rcases Nat.lt_or_ge j (Nat.log2 (n - 1)) with h4 | h4
    · exact h4
    · obtain rfl : j = Nat.log2 (n - 1) := by omega
      rw [Nat.pow_succ] at h3
      omega
  · have : 2 ^ (j + 1) ≤ 2 ^ Nat.log2 (n - 1) := Nat.pow_le_pow_right (by decide) h
    rw [Nat.pow_succ] at this
    omega
set_option maxRecDepth 100000 in
theorem lit12 (f : Nat → Value) : ((List.range 12).map f).toArray = (f 0 :: f 1 :: f 2 :: f 3 :: f 4 :: f 5 :: f 6 :: f 7 :: f 8 :: f 9 :: f 10 :: f 11 :: []).toArray := by kernel_rfl
set_option maxRecDepth 100000 in
theorem leaf_all (W : List (List UInt8)) : Lg.All32 (W.map Lg.leaf) := fun x hx => by obtain ⟨y, _, rfl⟩ := List.mem_map.1 hx; rfl
set_option maxRecDepth 100000 in
theorem mem_le_take {W : List (List UInt8)} {m : Nat} (h : ∀ x ∈ W, x.length ≤ m) (k : Nat) : (∀ x ∈ W.take k, x.length ≤ m) ∧ (∀ x ∈ W.drop k, x.length ≤ m) := ⟨fun x hx => h x (List.mem_of_mem_take hx), fun x hx => h x (List.mem_of_mem_drop hx)⟩
end Go.Proofs.YtndakfanlgilmaaDoor
namespace Go.Proofs.YtndakfanlgilmaaDoor
open Go.RowKit
set_option linter.unusedVariables false
set_option linter.unusedSimpArgs false
def Tn.none : List UInt8 := S2.sum [2]
def Tn.leaf (k v : List UInt8) : List UInt8 := S2.sum (0 :: (k ++ v))
def Tn.node (b1 b2 : UInt8) (l r : List UInt8) : List UInt8 := S2.sum (1 :: b1 :: b2 :: (l ++ r))
set_option maxRecDepth 100000 in
theorem Tn.none_len : Tn.none.length = 32 := sum_length _
set_option maxRecDepth 100000 in
theorem Tn.leaf_len (k v : List UInt8) : (Tn.leaf k v).length = 32 := sum_length _
set_option maxRecDepth 100000 in
theorem Tn.node_len (b1 b2 : UInt8) (l r : List UInt8) : (Tn.node b1 b2 l r).length = 32 := sum_length _
/-- A leaf's 64 cells. -/
def leafRow (k v : List UInt8) : Array Value := (bv (k ++ v)).toArray
set_option maxRecDepth 100000 in
theorem leaf_size {k v : List UInt8} (hk : k.length = 32) (hv : v.length = 32) : (leafRow k v).size = 64 := by simp [leafRow, hk, hv]
set_option maxRecDepth 100000 in
theorem leaf_came {w : World} {g : Nat} {k v : List UInt8} {t : TypeId} {fr : Nat × Nat} (h : w.heap[g]? = some (.cells (leafRow k v) t fr)) (hk : k.length = 32) (hv : v.length = 32) : Came w (some ⟨g, 0, none⟩) 32 32 k ∧ Came w (some ⟨g, 32, none⟩) 32 32 v := by
  have hc : ∀ j x, (k ++ v)[j]? = some x → w.cell? ⟨g, j, none⟩ = some (.int .u8 (x.toNat : Int)) := fun j x hx => by
    rw [cell_of_block h, leafRow, List.getElem?_toArray, bv_get, hx]; rfl
  refine ⟨⟨hk, Nat.le_refl _, by unfold maxLen; omega, .inr ⟨g, 0, rfl, fun j hj => ?_⟩, fun e => by cases e⟩, ⟨hv, Nat.le_refl _, by unfold maxLen; omega, .inr ⟨g, 32, rfl, fun j hj => ?_⟩, fun e => by cases e⟩⟩
  · rw [Nat.zero_add]; exact hc j _ (by rw [List.getElem?_append_left hj, List.getElem?_eq_getElem hj])
  · exact hc (32 + j) _ (by rw [List.getElem?_append_right (by omega), hk, Nat.add_sub_cancel_left, List.getElem?_eq_getElem hj])
set_option maxRecDepth 100000 in
theorem mkB3 (a b c : Int) (w : World) : (Instr.buildSlice 39 3 #[(0, .int .u8 a), (1, .int .u8 b), (2, .int .u8 c)]).run Tryd.prog w = .ok (.slice (some ⟨w.heap.size, 0, none⟩) 3 3) (w.alloc (.cells #[.int .u8 a, .int .u8 b, .int .u8 c] 5)) := by kernel_rfl
set_option maxRecDepth 100000 in
theorem mkB2' (a b : Int) (w : World) : (Instr.buildSlice 39 2 #[(0, .int .u8 a), (1, .int .u8 b)]).run Tryd.prog w = .ok (.slice (some ⟨w.heap.size, 0, none⟩) 2 2) (w.alloc (.cells #[.int .u8 a, .int .u8 b] 5)) := by kernel_rfl
end Go.Proofs.YtndakfanlgilmaaDoor
namespace Go.Proofs.YtndakfanlgilmaaDoor
open Go.RowKit
set_option linter.unusedVariables false
set_option linter.unusedSimpArgs false
end Go.Proofs.YtndakfanlgilmaaDoor
namespace Go.Proofs.YtndakfanlgilmaaDoor
open Go.RowKit
set_option linter.unusedVariables false
set_option linter.unusedSimpArgs false
set_option maxRecDepth 100000 in
theorem lInfo : ∃ ti z, Tryd.prog.info? 33 = some ti ∧ ti.zero = some z ∧ ti.size = 64 ∧ ti.bytes = 64 ∧ z.cells.size = 64 := ⟨_, .agg (ub 64 (fun _ => 0)), rfl, by kernel_rfl, by kernel_rfl, by kernel_rfl, by kernel_rfl⟩
set_option maxRecDepth 100000 in
set_option maxHeartbeats 6400000 in
theorem tlen_some (g : Nat) (n : Int) (w : World) (h : w.cell? ⟨g, 0, none⟩ = some (.int .i64 n)) : Calls Tryd.prog 40 #[.pointer (some ⟨g, 0, none⟩)] w fun e w' => e = .returned (.int .i64 n) ∧ w = w' := by
  go_enter Tryd.func40, Tryd.ntmps40
  go_wp2_with fail
  go_ret
  exact ⟨rfl, rfl⟩
set_option maxRecDepth 100000 in
theorem wpList_load_kv {ops : Array Oper} {rest : List Oper} {o : Oper} {a : Act} {w : World} {Q : Exit → Act → World → Prop} (hgd : o.guard = none) (x : Operand) (ho : o.op = .load 22 x) (g q : Nat) (hx : a.eval x = .pointer (some ⟨g, q, none⟩)) (r : List UInt8) (hr : r.length = 32) (hc : ∀ (i : Nat) (u : Value), (krow r)[i]? = some u → w.cell? ⟨g, q + i, none⟩ = some u)
    (h : wpList Tryd.prog ops Q rest (a.put o.dst (.agg (krow r))) w) : wpList Tryd.prog ops Q (o :: rest) a w := by
  refine wpList_load_mid hgd 22 x ho g q hx (krow r).toList _ (fun j u hj => hc j u (by simpa using hj)) Tryd.underlying22 rfl (by rw [sz32, Array.length_toList, krow_size, hr]) ?_
  rw [Array.toArray_toList]; exact h
set_option maxRecDepth 100000 in
theorem wpList_load_leaf {ops : Array Oper} {rest : List Oper} {o : Oper} {a : Act} {w : World} {Q : Exit → Act → World → Prop} (hgd : o.guard = none) (x : Operand) (ho : o.op = .load 33 x) (g q : Nat) (hx : a.eval x = .pointer (some ⟨g, q, none⟩)) (k v : List UInt8) (hk : k.length = 32) (hv : v.length = 32) (hc : ∀ (i : Nat) (u : Value), (leafRow k v)[i]? = some u → w.cell? ⟨g, q + i, none⟩ = some u)
    (h : wpList Tryd.prog ops Q rest (a.put o.dst (.agg (leafRow k v))) w) : wpList Tryd.prog ops Q (o :: rest) a w := by
  have hs : (Tryd.prog.info? 33).map (·.size) = some 64 := by kernel_rfl
  refine wpList_load_mid hgd 33 x ho g q hx (leafRow k v).toList _ (fun j u hj => hc j u (by simpa using hj)) Tryd.underlying33 rfl (by rw [hs, Array.length_toList, leaf_size hk hv]) ?_
  rw [Array.toArray_toList]; exact h
set_option maxRecDepth 100000 in
set_option maxHeartbeats 6400000 in
theorem troot_some (g : Nat) (n : Int) (hn : n ≠ 0) (s : List UInt8) (hs : s.length = 32) (w : World) (h : w.cell? ⟨g, 0, none⟩ = some (.int .i64 n)) (hc : ∀ (i : Nat) (u : Value), (krow s)[i]? = some u → w.cell? ⟨g, 1 + i, none⟩ = some u) : Calls Tryd.prog 41 #[.pointer (some ⟨g, 0, none⟩)] w fun e w' => e = .returned (.agg (krow s)) ∧ Fr (fun _ => False) w w' := by
  have B0 := heap_alloc_new w (.cells (ub 32 (fun _ => 0)) 22)
  have F0 := (Fr.refl (fun _ => False) w).alloc (.cells (ub 32 (fun _ => 0)) 22)
  have HB := Lib.hid B0
  have HF := Lib.hid F0
  have HL := Lib.hid (tlen_some g n _ (F0.cellSome (p := ⟨g, 0, none⟩) (fun h => h) h))
  have hc1 : ∀ (i : Nat) (u : Value), (krow s)[i]? = some u → (w.alloc (.cells (ub 32 (fun _ => 0)) 22)).cell? ⟨g, 1 + i, none⟩ = some u := fun i u hu => F0.cellSome (p := ⟨g, 1 + i, none⟩) (fun h => h) (hc i u hu)
  have HS := Lib.hid hs
  have b0 : (n == 0) = false := beq_eq_false_iff_ne.2 hn
  clear B0 F0 h hc hs
  go_enter Tryd.func41, Tryd.ntmps41
  go_wp2_with (focus (rw [zero32]))
  generalize (w.alloc (.cells (ub 32 (fun _ => 0)) 22)) = w1 at *
  refine HL.out.mono ?_
  rintro e w2 ⟨rfl, rfl⟩
  clear HL
  go_wp2_with (first | (focus ((refine wpList_load_kv rfl (.tmp 9) rfl g 1 rfl s HS.out hc1 ?_); simp only [Act.put, List.setIfInBounds_toArray, List.set_cons_zero, List.set_cons_succ])) | (focus (refine wpList_store_rowA rfl 22 (.tmp 2) (.tmp 10) rfl w.heap.size (krow s) rfl rfl 22 _ HB.out (sz32' HS.out) (by rw [ub_size, krow_size, HS.out]) (krow_one _) ?_; intro w2 B2 F2; simp only [Act.put, List.setIfInBounds_toArray, List.set_cons_zero, List.set_cons_succ]; refine Hid.out ?_)))
  have HX := Lib.hid (HF.out.trans F2 (fun i hi => .inr (by rw [hi]; exact Nat.le_refl _)))
  have HB2 := Lib.hid B2
  clear F2 B2
  refine Lib.hid ?_
  go_wp2_with fail
  refine bodyPost_ret (results_cell_row rfl _ _ w.heap.size 22 (krow s) (0, 0) _ rfl HB2.out Tryd.underlying22 rfl (sz32' HS.out)) rfl ?_
  exact ⟨rfl, HX.out⟩
end Go.Proofs.YtndakfanlgilmaaDoor
namespace Go.Proofs.YtndakfanlgilmaaDoor
open Go.RowKit
set_option linter.unusedVariables false
set_option linter.unusedSimpArgs false
set_option maxRecDepth 100000 in
theorem parts_one {w : World} {b : Nat} {a : Option Addr} {n c : Nat} {x : List UInt8} {t : TypeId} {fr : Nat × Nat} (h : w.heap[b]? = some (.cells #[.slice a n c] t fr)) (hx : Came w a n c x) : Parts w (some ⟨b, 0, none⟩) [x] := by
  refine Or.inr ⟨b, 0, rfl, fun j hj => ?_⟩
  match j, hj with
  | 0, _ => exact ⟨a, c, by rw [cell_of_block h]; simp [hx.len], hx.lies, by have := hx.le; have := hx.len; simp; omega, hx.mx⟩
set_option maxRecDepth 100000 in
set_option maxHeartbeats 6400000 in
theorem tnone_any (w : World) (hE : Env w) : Calls Tryd.prog 22 #[] w fun e w' => e = .returned (.agg (krow Tn.none)) ∧ Fr (fun _ => False) w w' := by
  go_enter Tryd.func22, Tryd.ntmps22
  go_wp2_with fail
  rw [zero32]
  have B0 := heap_three w (.cells (ub 32 (fun _ => 0)) 22) (.cells #[.int .u8 2] 5) (.cells #[.slice (some ⟨w.heap.size + 1, 0, none⟩) 1 1] 39)
  have B1 := heap_three1 w (.cells (ub 32 (fun _ => 0)) 22) (.cells #[.int .u8 2] 5) (.cells #[.slice (some ⟨w.heap.size + 1, 0, none⟩) 1 1] 39)
  have B2 := heap_three2 w (.cells (ub 32 (fun _ => 0)) 22) (.cells #[.int .u8 2] 5) (.cells #[.slice (some ⟨w.heap.size + 1, 0, none⟩) 1 1] 39)
  have F0 := (((Fr.refl (fun _ => False) w).alloc (.cells (ub 32 (fun _ => 0)) 22)).alloc (.cells #[.int .u8 2] 5)).alloc (.cells #[.slice (some ⟨w.heap.size + 1, 0, none⟩) 1 1] 39)
  generalize (((w.alloc (.cells (ub 32 (fun _ => 0)) 22)).alloc (.cells #[.int .u8 2] 5)).alloc (.cells #[.slice (some ⟨w.heap.size + 1, 0, none⟩) 1 1] 39)) = w3 at *
  refine (psum_any _ [[2]] 1 1 rfl _ (parts_one B2 (came_cells (l := [2]) B1 rfl (by decide))) (by unfold maxLen; omega) (by simp) (hE.fr F0 (fun h => h))).mono ?_
  rintro e w4 ⟨rfl, F4⟩
  have hsum : sumc ([[2]] : List (List UInt8)).flatten = krow Tn.none := by rw [krow_sum]; rfl
  rw [hsum]
  have HB4 := Lib.hid ((F4.block _ (lt_of_block B0) (fun h => h)).trans B0)
  have HF4 := Lib.hid (F0.trans F4 (fun _ h => h.elim))
  clear B0 B1 B2 F0 F4 hE hsum
  go_wp2_with (focus (refine wpList_store_rowA rfl 22 (.tmp 0) (.tmp 3) rfl w.heap.size (krow Tn.none) rfl rfl 22 _ HB4.out (sz32' Tn.none_len) (by rw [ub_size, krow_size, Tn.none_len]) (krow_one _) ?_; intro w5 B5 F5; simp only [Act.put, List.setIfInBounds_toArray, List.set_cons_zero, List.set_cons_succ]; refine Hid.out ?_))
  have HB5 := Lib.hid B5
  have HX := Lib.hid (HF4.out.trans F5 (fun i hi => .inr (by rw [hi]; exact Nat.le_refl _)))
  clear B5 F5
  refine Lib.hid ?_
  go_wp2_with fail
  refine bodyPost_ret (results_cell_row rfl _ _ w.heap.size 22 (krow Tn.none) (0, 0) _ rfl HB5.out Tryd.underlying22 rfl (sz32' Tn.none_len)) rfl ?_
  exact ⟨rfl, HX.out⟩
set_option maxRecDepth 100000 in
set_option maxHeartbeats 6400000 in
theorem tree_built0 (f : Nat → UInt8) (h : Nat → UInt8) : ∃ C, Tryd.prog.built 94 [(0, .int .i64 1), (1, .agg (ub 32 f)), (2, .agg (ub 64 h))] = some C ∧ C[0]? = some (.int .i64 1) ∧ (List.range 32).map (fun j => C[1 + j]?) = (List.range 32).map (fun j => (ub 32 f)[j]?) :=
  ⟨(Tryd.prog.built 94 [(0, .int .i64 1), (1, .agg (ub 32 f)), (2, .agg (ub 64 h))]).getD #[], by kernel_rfl, by kernel_rfl, by kernel_rfl⟩
set_option maxRecDepth 100000 in
set_option maxHeartbeats 6400000 in
theorem tree_built (s k v : List UInt8) (hs : s.length = 32) (hk : k.length = 32) (hv : v.length = 32) : ∃ C, Tryd.prog.built 94 [(0, .int .i64 1), (1, .agg (krow s)), (2, .agg (leafRow k v))] = some C ∧ C[0]? = some (.int .i64 1) ∧ ∀ (i : Nat) (u : Value), (krow s)[i]? = some u → C[1 + i]? = some u := by
  obtain ⟨f, hf⟩ := bv_range s hs
  have hl : leafRow k v = ub 64 (fun j => (k ++ v).getD j 0) := by
    apply Array.ext_getElem?
    intro j
    by_cases hj : j < 64
    · rw [ub_get 64 _ j hj, leafRow, List.getElem?_toArray, bv_get' (k ++ v) j (by rw [List.length_append]; omega), List.getD_eq_getElem?_getD, List.getElem?_eq_getElem (by rw [List.length_append]; omega)]; rfl
    · rw [Array.getElem?_eq_none (by rw [leaf_size hk hv]; omega), Array.getElem?_eq_none (by rw [ub_size]; omega)]
  rw [hl, hf]
  obtain ⟨C, h1, h2, h3⟩ := tree_built0 f (fun j => (k ++ v).getD j 0)
  refine ⟨C, h1, h2, fun i u hu => ?_⟩
  have hi : i < 32 := by
    have := (Array.getElem?_eq_some_iff.1 hu).1
    rwa [ub_size] at this
  have h4 := congrArg (fun l => l[i]?) h3
  simp only [List.getElem?_map, List.getElem?_range hi, Option.map_some, Option.some.injEq] at h4
  rw [h4]; exact hu
/-- A tree of one leaf, in memory. -/
structure To (w : World) (g : Nat) (s : List UInt8) : Prop where
  c0 : w.cell? ⟨g, 0, none⟩ = some (.int .i64 1)
  cs : ∀ (i : Nat) (u : Value), (krow s)[i]? = some u → w.cell? ⟨g, 1 + i, none⟩ = some u
set_option maxRecDepth 100000 in
theorem To.ext {w w' : World} {g : Nat} {s : List UInt8} (h : To w g s) (F : Fr (fun _ => False) w w') : To w' g s := ⟨F.cellSome (p := ⟨g, 0, none⟩) (fun h => h) h.c0, fun i u hu => F.cellSome (p := ⟨g, 1 + i, none⟩) (fun h => h) (h.cs i u hu)⟩
end Go.Proofs.YtndakfanlgilmaaDoor
namespace Go.Proofs.YtndakfanlgilmaaDoor
open Go.RowKit
set_option linter.unusedVariables false
set_option linter.unusedSimpArgs false
end Go.Proofs.YtndakfanlgilmaaDoor
namespace Go.Proofs.YtndakfanlgilmaaDoor
open Go.RowKit
set_option linter.unusedVariables false
set_option linter.unusedSimpArgs false
def tk1 : List UInt8 := 1 :: List.replicate 31 0
def tk2 : List UInt8 := 2 :: List.replicate 31 0
set_option maxRecDepth 100000 in
theorem bk1 : Tryd.prog.built 23 [(0, .int .u8 1)] = some (krow tk1) := by kernel_rfl
set_option maxRecDepth 100000 in
theorem bk2 : Tryd.prog.built 22 [(0, .int .u8 2)] = some (krow tk2) := by kernel_rfl
set_option maxRecDepth 100000 in
theorem bkl : Tryd.prog.built 33 [(0, .agg (krow tk1)), (1, .agg (krow tk2))] = some (leafRow tk1 tk2) := by kernel_rfl
set_option maxRecDepth 100000 in
theorem bkl2 (f h : Nat → UInt8) : Tryd.prog.built 33 [(0, .agg (ub 32 f)), (1, .agg (ub 32 h))] = some (ub 32 f ++ ub 32 h) := by kernel_rfl
set_option maxRecDepth 100000 in
theorem leaf_cat (k v : List UInt8) : leafRow k v = krow k ++ krow v := by simp [leafRow, krow, bv_append]
set_option maxRecDepth 100000 in
theorem bkl3 {k v : List UInt8} (hk : k.length = 32) (hv : v.length = 32) : Tryd.prog.built 33 [(0, .agg (krow k)), (1, .agg (krow v))] = some (leafRow k v) := by
  obtain ⟨f, hf⟩ := bv_range k hk
  obtain ⟨h, hh⟩ := bv_range v hv
  rw [leaf_cat, hf, hh]; exact bkl2 f h
set_option maxRecDepth 100000 in
theorem leaf_one (k v : List UInt8) : (leafRow k v).all (·.oneCell') = true := krow_one (k ++ v)
set_option maxRecDepth 100000 in
theorem eql_row {x y : List UInt8} (hx : x.length = 32) (hy : y.length = 32) (w : World) : (binOp .eql 22 (.agg (krow x)) (.agg (krow y))).run Tryd.prog w = .ok (.bool (x == y)) w := by
  refine run_eql_bytes w 22 5 32 Tryd.underlying22 Tryd.underlying5 ?_ _ _ hx hy
  intro w2
  obtain ⟨i0, hi, hz⟩ := Option.map_eq_some_iff.1 Tryd.sizeB
  simp [sizeOf, typeInfo, hi, hz]
set_option maxRecDepth 100000 in
theorem neq_row {x y : List UInt8} (hx : x.length = 32) (hy : y.length = 32) (w : World) : (binOp .neq 22 (.agg (krow x)) (.agg (krow y))).run Tryd.prog w = .ok (.bool (!(x == y))) w := by
  have h := eql_row hx hy w
  simp only [binOp, Sem.run_bind] at h ⊢
  cases hr : (Op.equal 22 (.agg (krow x)) (.agg (krow y))).run Tryd.prog w with
  | ok b w2 =>
    rw [hr] at h
    simp only [Result.andThen_ok, Sem.run_pure, Result.ok.injEq, Value.bool.injEq] at h ⊢
    exact ⟨by rw [h.1], h.2⟩
  | halt b w2 => rw [hr] at h; simp [Result.andThen] at h
end Go.Proofs.YtndakfanlgilmaaDoor
namespace Go.Proofs.YtndakfanlgilmaaDoor
open Go.RowKit
set_option linter.unusedVariables false
set_option linter.unusedSimpArgs false
set_option maxRecDepth 100000 in
theorem src_kv {w : World} {a : Option Addr} {P : List (List UInt8)} (h : Kv w a P) (c : Nat) : Src Tryd.prog 32 24 (.slice a P.length c) P.length (bv P.flatten) w := by
  have hfl := h.all.flat
  rcases h.lies with h0 | ⟨g, off, rfl, hc⟩
  · rw [h0] at hfl ⊢
    have h1 : P.length = 0 := by simp at hfl; omega
    rw [h1]
    cases a with
    | none => exact Src.ofNil _ Tryd.underlying24 c
    | some ad => exact Src.ofSlice _ Tryd.underlying24 ad 0 c [] rfl (by simp) (by simp)
  · exact Src.ofSlice _ Tryd.underlying24 ⟨g, off, none⟩ _ c _ (by rw [bv_length, hfl]) (fun j u hj => by
      rw [bv_get] at hj
      obtain ⟨b, h1, h2⟩ := Option.map_eq_some_iff.1 hj
      obtain ⟨hl, h3⟩ := List.getElem?_eq_some_iff.1 h1
      have h4 := hc j hl
      rw [Addr.add_mid, h4, ← h2, h3]) (bv_one _)
set_option maxRecDepth 100000 in
theorem own0_rows (w : World) : (w.alloc (.cells #[] 22)).ownsRow w.heap.size 22 32 (.slice (some ⟨w.heap.size, 0, none⟩) 0 0) 0 [] :=
  ⟨rfl, .inr ⟨w.heap.size, 0, #[], rfl, Nat.le_refl _, heap_alloc_new w _, Nat.le_refl _, Nat.zero_le _, rfl, rfl⟩⟩
set_option maxRecDepth 100000 in
theorem own0_ge {w0 w3 : World} {b : Nat} (h : w0.heap.size ≤ w3.heap.size) (hb : (Value.slice (some ⟨w3.heap.size, 0, none⟩) 0 0).ownBlock = some b) : w0.heap.size ≤ b := by
  have : w3.heap.size = b := by simpa [Value.ownBlock] using hb
  omega
set_option maxRecDepth 100000 in
theorem or32_kv2 {w : World} {Z n c : Nat} {a : Option Addr} {P : List (List UInt8)} (h : Or32 w Z (.slice a n c) P) (hA : Lg.All32 P) : P.length = n ∧ n ≤ c ∧ c ≤ maxLen ∧ Kv w a P ∧ ∀ k, inBlk a k → Z ≤ k ∧ k < w.heap.size := by
  obtain ⟨a', c', e, h1, h2, h3, h4⟩ := h.view hA
  injection e with e1 e2 e3
  rw [e1, e2, e3]
  exact ⟨rfl, h1, h2, h3, h4⟩
/-- A proof's 66 cells. -/
def pfRow (s : Value) (th : Bool) (k v : List UInt8) : Array Value := #[s, .bool th] ++ leafRow k v
set_option maxRecDepth 100000 in
theorem pf_size {s : Value} {th : Bool} {k v : List UInt8} (hk : k.length = 32) (hv : v.length = 32) : (pfRow s th k v).size = 66 := by simp [pfRow, leaf_size hk hv]
set_option maxRecDepth 100000 in
theorem pf_0 (s : Value) (th : Bool) (k v : List UInt8) : (pfRow s th k v)[0]? = some s := by simp [pfRow, Array.getElem?_append]
set_option maxRecDepth 100000 in
theorem pf_1 (s : Value) (th : Bool) (k v : List UInt8) : (pfRow s th k v)[1]? = some (.bool th) := by simp [pfRow, Array.getElem?_append]
set_option maxRecDepth 100000 in
theorem pf_leaf (s : Value) (th : Bool) (k v : List UInt8) : Part (pfRow s th k v) 2 (leafRow k v) := fun j u h => by
  unfold pfRow
  rw [Array.getElem?_append_right (by simp)]
  simpa using h
set_option maxRecDepth 100000 in
theorem pf_key (s : Value) (th : Bool) {k : List UInt8} (v : List UInt8) : Part (pfRow s th k v) 2 (krow k) := fun j u h => by
  refine pf_leaf s th k v j u ?_
  rw [leaf_cat, Array.getElem?_append_left (Array.getElem?_eq_some_iff.1 h).1]; exact h
set_option maxRecDepth 100000 in
theorem pf_val (s : Value) (th : Bool) {k : List UInt8} (hk : k.length = 32) (v : List UInt8) : Part (pfRow s th k v) 34 (krow v) := fun j u h => by
  have := pf_leaf s th k v (32 + j) u (by rw [leaf_cat, Array.getElem?_append_right (by rw [krow_size]; omega), krow_size, hk, Nat.add_sub_cancel_left]; exact h)
  rwa [← Nat.add_assoc] at this
set_option maxRecDepth 100000 in
theorem pf_one (s : Value) (hs : s.oneCell' = true) (th : Bool) (k v : List UInt8) : (pfRow s th k v).all (·.oneCell') = true := by
  have hl := leaf_one k v
  rw [Array.all_eq_true_iff_forall_mem] at hl ⊢
  intro x hx
  unfold pfRow at hx
  rcases Array.mem_append.1 hx with h | h
  · simp at h; rcases h with rfl | rfl
    · exact hs
    · rfl
  · exact hl x h
set_option maxRecDepth 100000 in
theorem pf_cell {w : World} {g : Nat} {C : Array Value} {t : TypeId} {fr : Nat × Nat} (h : w.heap[g]? = some (.cells C t fr)) {o : Nat} {R : Array Value} (hp : Part C o R) : ∀ (i : Nat) (u : Value), R[i]? = some u → w.cell? ⟨g, o + i, none⟩ = some u := fun i u hu => by rw [cell_of_block h]; exact hp i u hu
/-- What is known of a block that holds a proof. -/
structure Pb (w : World) (g : Nat) (s : Value) (th : Bool) (k v : List UInt8) : Prop where
  c0 : w.cell? ⟨g, 0, none⟩ = some s
  c1 : w.cell? ⟨g, 1, none⟩ = some (.bool th)
  cl : ∀ (i : Nat) (u : Value), (leafRow k v)[i]? = some u → w.cell? ⟨g, 2 + i, none⟩ = some u
  ck : ∀ (i : Nat) (u : Value), (krow k)[i]? = some u → w.cell? ⟨g, 2 + i, none⟩ = some u
  cv : ∀ (i : Nat) (u : Value), (krow v)[i]? = some u → w.cell? ⟨g, 34 + i, none⟩ = some u
  lt : g < w.heap.size
set_option maxRecDepth 100000 in
theorem Pb.of {w : World} {g : Nat} {s : Value} {th : Bool} {k v : List UInt8} {t : TypeId} {fr : Nat × Nat} (h : w.heap[g]? = some (.cells (pfRow s th k v) t fr)) (hk : k.length = 32) : Pb w g s th k v :=
  ⟨by rw [cell_of_block h]; exact pf_0 _ _ _ _, by rw [cell_of_block h]; exact pf_1 _ _ _ _, pf_cell h (pf_leaf _ _ _ _), pf_cell h (pf_key _ _ _), pf_cell h (pf_val _ _ hk _), lt_of_block h⟩
set_option maxRecDepth 100000 in
theorem Pb.fr {w w' : World} {g : Nat} {s : Value} {th : Bool} {k v : List UInt8} {S : Nat → Prop} (h : Pb w g s th k v) (F : Fr S w w') (hS : ¬ S g) : Pb w' g s th k v :=
  ⟨F.cellSome (p := ⟨g, 0, none⟩) hS h.c0, F.cellSome (p := ⟨g, 1, none⟩) hS h.c1, fun i u hu => F.cellSome (p := ⟨g, 2 + i, none⟩) hS (h.cl i u hu), fun i u hu => F.cellSome (p := ⟨g, 2 + i, none⟩) hS (h.ck i u hu), fun i u hu => F.cellSome (p := ⟨g, 34 + i, none⟩) hS (h.cv i u hu), Nat.lt_of_lt_of_le h.lt F.size⟩
set_option maxRecDepth 100000 in
theorem Pb.came {w : World} {g : Nat} {s : Value} {th : Bool} {k v : List UInt8} (h : Pb w g s th k v) (hk : k.length = 32) (hv : v.length = 32) : Came w (some ⟨g, 2, none⟩) 32 32 k ∧ Came w (some ⟨g, 34, none⟩) 32 32 v := by
  refine ⟨⟨hk, Nat.le_refl _, by unfold maxLen; omega, .inr ⟨g, 2, rfl, fun j hj => h.ck j _ (by rw [krow, List.getElem?_toArray, bv_get, List.getElem?_eq_getElem hj]; rfl)⟩, fun e => by cases e⟩, ⟨hv, Nat.le_refl _, by unfold maxLen; omega, .inr ⟨g, 34, rfl, fun j hj => h.cv j _ (by rw [krow, List.getElem?_toArray, bv_get, List.getElem?_eq_getElem hj]; rfl)⟩, fun e => by cases e⟩⟩
set_option maxRecDepth 100000 in
theorem bpf0 (a : Option Addr) (n c : Nat) (th : Bool) (f h : Nat → UInt8) : Tryd.prog.built 28 [(0, .slice a n c), (1, .bool th), (2, .agg (ub 32 f ++ ub 32 h))] = some (#[.slice a n c, .bool th] ++ (ub 32 f ++ ub 32 h)) := by kernel_rfl
set_option maxRecDepth 100000 in
theorem bpf1 (a : Option Addr) (n c : Nat) (th : Bool) (f h : Nat → UInt8) : Tryd.prog.built 35 [(0, .slice a n c), (1, .bool th), (2, .agg (ub 32 f ++ ub 32 h))] = some (#[.slice a n c, .bool th] ++ (ub 32 f ++ ub 32 h)) := by kernel_rfl
set_option maxRecDepth 100000 in
theorem bpl1 (f h : Nat → UInt8) : Tryd.prog.built 26 [(0, .agg (ub 32 f)), (1, .agg (ub 32 h))] = some (ub 32 f ++ ub 32 h) := by kernel_rfl
set_option maxRecDepth 100000 in
theorem bp28 (a : Option Addr) (n c : Nat) (th : Bool) {k v : List UInt8} (hk : k.length = 32) (hv : v.length = 32) : Tryd.prog.built 28 [(0, .slice a n c), (1, .bool th), (2, .agg (leafRow k v))] = some (pfRow (.slice a n c) th k v) := by
  obtain ⟨f, hf⟩ := bv_range k hk
  obtain ⟨h, hh⟩ := bv_range v hv
  unfold pfRow
  rw [leaf_cat, hf, hh]; exact bpf0 a n c th f h
set_option maxRecDepth 100000 in
theorem bp35 (a : Option Addr) (n c : Nat) (th : Bool) {k v : List UInt8} (hk : k.length = 32) (hv : v.length = 32) : Tryd.prog.built 35 [(0, .slice a n c), (1, .bool th), (2, .agg (leafRow k v))] = some (pfRow (.slice a n c) th k v) := by
  obtain ⟨f, hf⟩ := bv_range k hk
  obtain ⟨h, hh⟩ := bv_range v hv
  unfold pfRow
  rw [leaf_cat, hf, hh]; exact bpf1 a n c th f h
set_option maxRecDepth 100000 in
theorem bp26 {k v : List UInt8} (hk : k.length = 32) (hv : v.length = 32) : Tryd.prog.built 26 [(0, .agg (krow k)), (1, .agg (krow v))] = some (leafRow k v) := by
  obtain ⟨f, hf⟩ := bv_range k hk
  obtain ⟨h, hh⟩ := bv_range v hv
  rw [leaf_cat, hf, hh]; exact bpl1 f h
set_option maxRecDepth 100000 in
theorem szLd : (Tryd.prog.info? 33).map (·.size) = some 64 := by kernel_rfl
set_option maxRecDepth 100000 in
theorem szLr : (Tryd.prog.info? 26).map (·.size) = some 64 := by kernel_rfl
set_option maxRecDepth 100000 in
theorem szK : (Tryd.prog.info? 23).map (·.size) = some 32 := by kernel_rfl
set_option maxRecDepth 100000 in
theorem szPd : (Tryd.prog.info? 35).map (·.size) = some 66 := by kernel_rfl
set_option maxRecDepth 100000 in
theorem szPr : (Tryd.prog.info? 28).map (·.size) = some 66 := by kernel_rfl
set_option maxRecDepth 100000 in
theorem mkT0 (w : World) : (Instr.buildSlice 24 0 #[]).run Tryd.prog w = .ok (.slice (some ⟨w.heap.size, 0, none⟩) 0 0) (w.alloc (.cells #[] 22)) := by kernel_rfl
def zp66 : Array Value := (.slice none 0 0 :: .bool false :: List.replicate 64 (Value.int .u8 0)).toArray
set_option maxRecDepth 100000 in
theorem zv28 (w : World) : (zeroValue 28).run Tryd.prog w = .ok (.agg zp66) w := by kernel_rfl
set_option maxRecDepth 100000 in
theorem zv35 (w : World) : (zeroValue 35).run Tryd.prog w = .ok (.agg zp66) w := by kernel_rfl
set_option maxRecDepth 100000 in
theorem zn66 : zp66 ≠ #[] := by decide +kernel
set_option maxRecDepth 100000 in
theorem zs66 : zp66.size = 66 := by decide +kernel
namespace Ks
set_option maxRecDepth 100000 in
theorem quiet_load_mids {P : Program} {C : Act → Prop} {a : Act} {o : Oper} {S : Nat → Prop} {W0 : World} {γ : Gs S W0} (ty : TypeId) (x : Operand) (ho : o.op = .load ty x) (g q : Nat) (hx : a.eval x = .pointer (some ⟨g, q, none⟩)) (R : Array Value) (m : Nat)
    (d : TypeDesc) (hu : P.underlying ty = some d) (hd : d.isRow = true) (hty : (P.info? ty).map (·.size) = some m) (hc : ∀ z : Ws γ, ∀ (i : Nat) (u : Value), R[i]? = some u → z.w.cell? ⟨g, q + i, none⟩ = some u) (hm : R.size = m)
    (hk : C (a.put o.dst (.agg R))) : o.quiet P a (fun w' => ∃ y : Ws γ, w' = y.w) C :=
  ⟨.agg R, fun w' ⟨y, e⟩ => by
    subst e
    have hr := run_loadVar_mid (P := P) y.w g q ty R.toList d (fun j u hj => hc y j u (by rw [← hj, Array.getElem?_toList])) hu hd (by rw [hty, Array.length_toList, hm])
    rw [Array.toArray_toList] at hr
    unfold Oper.quietAt execOp
    simp only [ho, hx, Instr.loadAt, Instr.sureAddr, Sem.run_bind, Sem.run_pure, Result.andThen_ok, hr, Oper.quietUpon]
    exact ⟨trivial, trivial⟩, hk⟩
end Ks
set_option maxRecDepth 100000 in
set_option maxHeartbeats 6400000 in
theorem tame_any (a : Option Addr) (n c : Nat) (th : Bool) (k v : List UInt8) (S : List (List UInt8)) (hSn : S.length = n) (hnc : n ≤ c) (hcm : c ≤ maxLen) (hk : k.length = 32) (hv : v.length = 32) (w : World) (hK : Kv w a S) : Calls Tryd.prog 5 #[.agg (pfRow (.slice a n c) th k v)] w fun e w' => (∃ a' n' c', e = .returned (.agg (pfRow (.slice a' n' c') th k v)) ∧ Or32 w' w.heap.size (.slice a' n' c') (S.take 260)) ∧ Fr (fun _ => False) w w' := by
  obtain ⟨m, hm⟩ : ∃ m, m = min n 260 := ⟨_, rfl⟩
  have q2 : min (n : Int) 260 = (m : Int) := by omega
  have q5 : m ≤ c := by omega
  have q6 : (m : Int) ≤ (c : Int) := by omega
  have q8 : (0 : Int) ≤ (m : Int) := by omega
  have HM := Lib.hid (show m ≤ 260 by omega)
  have HPK := Lib.hid (hK.take 260)
  have HPL := Lib.hid (show (S.take 260).length = m by rw [List.length_take, hSn]; omega)
  generalize hp : S.take 260 = PP at *
  have s1 : (Tryd.prog.info? 28).map (·.size) = some (pfRow (.slice a n c) th k v).size := by rw [pf_size hk hv]; kernel_rfl
  have hzv := zv28
  have hzn := zn66
  have B0 := heap_alloc2_old w (.cells (pfRow (.slice a n c) th k v) 28) (.cells zp66 28)
  have B1 := heap_alloc2_new w (.cells (pfRow (.slice a n c) th k v) 28) (.cells zp66 28)
  have F0 := ((Fr.refl (fun _ => False) w).alloc (.cells (pfRow (.slice a n c) th k v) 28)).alloc (.cells zp66 28)
  have HB := Lib.hid (Pb.of B0 hk)
  have HZ := Lib.hid B1
  have HF := Lib.hid F0
  have HSZ := Lib.hid (show ((w.alloc (.cells (pfRow (.slice a n c) th k v) 28)).alloc (.cells zp66 28)).heap.size = w.heap.size + 2 by simp)
  have HKL := Lib.hid (And.intro hk hv)
  have HSL := Lib.hid (leaf_size hk hv)
  have HSK := Lib.hid (show (krow k).size = 32 by rw [krow_size, hk])
  have HSV := Lib.hid (show (krow v).size = 32 by rw [krow_size, hv])
  have bL := bkl3 hk hv
  have bR := bp26 hk hv
  have b28 := fun (a' : Option Addr) (n' c' : Nat) => bp28 a' n' c' th hk hv
  have b35 := fun (a' : Option Addr) (n' c' : Nat) => bp35 a' n' c' th hk hv
  have HOS := Lib.hid (fun (s : Value) => pf_size (s := s) (th := th) hk hv)
  obtain ⟨ti, zz, HI⟩ := rI
  clear hk hv hK B0 B1 F0 hSn hnc hcm hm hp
  go_enter Tryd.func5, Tryd.ntmps5
  go_wp2_with fail
  clear hzv hzn
  generalize ((w.alloc (.cells (pfRow (.slice a n c) th k v) 28)).alloc (.cells zp66 28)) = w1 at *
  obtain ⟨g, hg⟩ : ∃ g, g = w.heap.size := ⟨_, rfl⟩
  obtain ⟨g2, hg2⟩ : ∃ g2, g2 = w.heap.size + 1 := ⟨_, rfl⟩
  rw [← hg2, ← hg]
  rw [← hg] at HB
  rw [← hg2] at HZ
  have HNS := Lib.hid (show ¬ (w1.heap.size ≤ g ∨ g = g2) by have := HSZ.out; omega)
  have HZ2 := Lib.hid (show g2 < w1.heap.size by have := HSZ.out; omega)
  have HG2 := Lib.hid (show w.heap.size ≤ g2 by omega)
  have HGE := Lib.hid (show w.heap.size ≤ w1.heap.size by have := HSZ.out; omega)
  clear hg hg2
  refine Ks.wp_region_mono (fun b => w1.heap.size ≤ b ∨ b = g2) (sg 1 7 ++ (sg 9 4 ++ ((0, true) :: ((8, true) :: (sg 13 1 ++ ((14, true) :: ([]))))))) (by kernel_rfl) (by kernel_rfl) ?_
  refine Ks.Wk.seg 1 7 (by kernel_rfl) (by kernel_rfl) ?_
  apply Exists.intro
  refine ⟨?wk0, ?fin0⟩
  case wk0 =>
    intro γ
    have kx : ∀ u : Ks.Ws γ, u.w.cell? ⟨g, 0, none⟩ = some (.slice a n c) := fun u => (HB.out.fr u.h HNS.out).c0
    simp only [List.drop_succ_cons, List.drop_zero, List.take_succ_cons, List.take_zero]
    repeat (any_goals (first | go_big_quiet_step (fail) | quiet_step (fail)))
    exact wpQuiet_nil rfl
  case fin0 =>
  (try simp only [Act.put, List.setIfInBounds_toArray, List.set_cons_zero, List.set_cons_succ])
  refine Ks.Wk.seg 9 4 (by kernel_rfl) (by kernel_rfl) ?_
  apply Exists.intro
  refine ⟨?wk1, ?fin1⟩
  case wk1 =>
    intro γ
    have kp : ∀ u : Ks.Ws γ, Pb u.w g (.slice a n c) th k v := fun u => HB.out.fr u.h HNS.out
    have kx : ∀ u : Ks.Ws γ, u.w.cell? ⟨g, 1, none⟩ = some (.bool th) := fun u => (kp u).c1
    simp only [List.drop_succ_cons, List.drop_zero, List.take_succ_cons, List.take_zero]
    repeat (any_goals (first | (focus (go_big_quiet_want; (refine Ks.quiet_load_mids 26 (.tmp 14) rfl g 2 rfl (leafRow k v) 64 _ Tryd.underlying26 rfl szLr (fun z => (kp z).cl) (HSL.out) ?_); simp only [Act.put, List.setIfInBounds_toArray, List.set_cons_zero, List.set_cons_succ]; go_big_quiet_on)) | (focus (go_big_quiet_want; (refine quiet_build3 28 0 1 2 (.tmp 11) (.tmp 13) (.tmp 15) (.slice a' n' c') (.bool th) (.agg (leafRow k v)) rfl _ bN rfl rfl rfl ?_); simp only [Act.put, List.setIfInBounds_toArray, List.set_cons_zero, List.set_cons_succ]; go_big_quiet_on)) | go_big_quiet_step (fail) | quiet_step (fail)))
    exact wpQuiet_nil rfl
  case fin1 =>
  (try simp only [Act.put, List.setIfInBounds_toArray, List.set_cons_zero, List.set_cons_succ])
  refine Ks.Wk.one rfl (fun w3 Xw3 => ?_)
  refine wpList_buildSlice rfl 24 0 _ rfl #[] (by first | kernel_rfl | rfl | simp [Act.eval]) (mkT0 w3) ⟨rfl, Ks.Es.of ((Fr.refl _ w3).alloc _), ?_⟩
  (try simp only [List.getElem_toArray, List.getElem_cons_succ, List.getElem_cons_zero, Act.put, List.setIfInBounds_toArray, List.set_cons_zero, List.set_cons_succ])
  have X1 : Fr (fun _ => False) w1 (w3.alloc (.cells #[] 22)) := Xw3.alloc _
  have O3 := own_up (own0_rows w3) Xw3.size
  have HC1 := Lib.hid (show w1.heap.size ≤ w3.heap.size from Xw3.size)
  refine Ks.Wk.one rfl (fun w4 Xw4 => ?_)
  refine wpList_app _ rfl (.tmp 3) (.tmp 10) 24 24 rfl w1.heap.size 22 ti zz 32 32 Tryd.underlying24 HI.h1 HI.h2 HI.h3 HI.h4 HI.h5 (by decide) (.slice (some ⟨w3.heap.size, 0, none⟩) 0 0) 0 [] rfl (own_ext O3 Xw4) (.slice a m c) rfl m (bv PP.flatten) (by have := src_kv (HPK.out.ext (HF.out.trans (X1.trans Xw4 (fun _ h => h.elim)) (fun _ h => h.elim))) c; rwa [HPL.out] at this) (by have := HM.out; unfold maxLen; omega) (by have := HM.out; omega) (X1.trans Xw4 (fun _ h => h.elim)).size ?_
  intro v5 w5 O5 G5 G5x
  refine ⟨rfl, (Fr.ofGrown G5).mono (fun b _ hb => .inl (own0_ge HC1.out hb)), ?_⟩
  (try simp only [List.getElem_toArray, List.getElem_cons_succ, List.getElem_cons_zero, Act.put, List.setIfInBounds_toArray, List.set_cons_zero, List.set_cons_succ])
  rw [List.nil_append, Nat.zero_add] at O5
  have X5 : Fr (fun b => w1.heap.size ≤ b) w1 w5 := ((X1.trans Xw4 (fun _ h => h.elim)).mono (fun _ _ h => h.elim)).trans (Fr.ofGrown G5) (fun b hb => .inl (own0_ge HC1.out hb))
  have O5' : Or32 w5 w1.heap.size v5 PP := by unfold Or32; rw [HPL.out]; exact O5
  obtain ⟨a', n', c', rfl⟩ : ∃ a' n' c', v5 = .slice a' n' c' := by
    obtain ⟨a', c', e, _⟩ := O5'.view HPK.out.all
    exact ⟨a', _, c', e⟩
  have HO5 := Lib.hid O5'
  have HX5 := Lib.hid X5
  have HB5 := Lib.hid (HB.out.fr X5 (fun h => HNS.out (.inl h)))
  have bN := b28 a' n' c'
  have bM := b35 a' n' c'
  clear O5 O5' X5 G5 G5x O3 X1 Xw3 Xw4 b28 b35
  refine Ks.Wk.seg 13 1 (by kernel_rfl) (by kernel_rfl) ?_
  apply Exists.intro
  refine ⟨?wk4, ?fin4⟩
  case wk4 =>
    intro γ
    simp only [List.drop_succ_cons, List.drop_zero, List.take_succ_cons, List.take_zero]
    repeat (any_goals (first | (focus (go_big_quiet_want; (refine quiet_build3 28 0 1 2 (.tmp 11) (.tmp 13) (.tmp 15) (.slice a' n' c') (.bool th) (.agg (leafRow k v)) rfl _ bN rfl rfl rfl ?_); simp only [Act.put, List.setIfInBounds_toArray, List.set_cons_zero, List.set_cons_succ]; go_big_quiet_on)) | go_big_quiet_step (fail) | quiet_step (fail)))
    exact wpQuiet_nil rfl
  case fin4 =>
  (try simp only [Act.put, List.setIfInBounds_toArray, List.set_cons_zero, List.set_cons_succ])
  refine Ks.Wk.one rfl (fun w6 Xw6 => ?_)
  have HZ6 := (Xw6.block _ (Nat.lt_of_lt_of_le HZ2.out HX5.out.size) (fun h => h)).trans ((HX5.out.block _ HZ2.out (fun h => by have := HZ2.out; omega)).trans HZ.out)
  refine wpList_store_rowA rfl 28 (.tmp 2) (.tmp 16) rfl g2 (pfRow (.slice a' n' c') th k v) rfl rfl 28 _ HZ6 (by rw [HOS.out]; kernel_rfl) (by rw [zs66, HOS.out]) (pf_one _ rfl _ _ _) (fun w8 B8 F8 => ⟨rfl, F8.mono (fun _ _ h => .inr h), ?_⟩)
  (try simp only [List.getElem_toArray, List.getElem_cons_succ, List.getElem_cons_zero, Act.put, List.setIfInBounds_toArray, List.set_cons_zero, List.set_cons_succ])
  intro w9 X9
  have B9 := Lib.hid ((X9.block _ (lt_of_block B8) (fun h => h)).trans B8)
  have O9 := own_ext (own_fr (own_ext HO5.out Xw6) F8 (fun k hk e => by have := (ownsRow_lt HO5.out k hk).1; have := HZ2.out; omega)) X9
  have HO9 := Lib.hid (own_up O9 HGE.out)
  have Y1 : Fr (fun b => w1.heap.size ≤ b ∨ b = g2) w1 w5 := HX5.out.mono (fun _ _ h => .inl h)
  have Y2 : Fr (fun b => w1.heap.size ≤ b ∨ b = g2) w1 w9 := ((Y1.trans Xw6 (fun _ h => h.elim)).trans F8 (fun b h => .inl (.inr h))).trans X9 (fun _ h => h.elim)
  have HXX := Lib.hid (HF.out.trans Y2 (fun b h => .inr (by have := HG2.out; have := HGE.out; rcases h with h | h <;> omega)))
  clear Y1 Y2
  clear B8 F8 X9 HZ6 Xw6 O9
  go_wp2_with fail
  refine bodyPost_ret (results_cell_row rfl _ _ g2 28 (pfRow (.slice a' n' c') th k v) (0, 0) _ rfl B9.out Tryd.underlying28 rfl (by rw [HOS.out]; kernel_rfl)) rfl ?_
  exact ⟨⟨a', n', c', rfl, HO9.out⟩, HXX.out⟩
set_option maxRecDepth 100000 in
set_option maxHeartbeats 6400000 in
theorem to_any (a : Option Addr) (n c : Nat) (th : Bool) (k v : List UInt8) (S : List (List UInt8)) (hSn : S.length = n) (hnc : n ≤ c) (hcm : c ≤ maxLen) (hk : k.length = 32) (hv : v.length = 32) (hn9 : n ≤ 1000) (w : World) (hK : Kv w a S) : Calls Tryd.prog 7 #[.agg (pfRow (.slice a n c) th k v)] w fun e w' => (∃ a' n' c', e = .returned (.agg (pfRow (.slice a' n' c') th k v)) ∧ Or32 w' w.heap.size (.slice a' n' c') S) ∧ Fr (fun _ => False) w w' := by
  have HM := Lib.hid hn9
  have HPK := Lib.hid hK
  have HPL := Lib.hid hSn
  have s1 : (Tryd.prog.info? 28).map (·.size) = some (pfRow (.slice a n c) th k v).size := by rw [pf_size hk hv]; kernel_rfl
  have hzv := zv35
  have hzn := zn66
  have B0 := heap_alloc2_old w (.cells (pfRow (.slice a n c) th k v) 28) (.cells zp66 35)
  have B1 := heap_alloc2_new w (.cells (pfRow (.slice a n c) th k v) 28) (.cells zp66 35)
  have F0 := ((Fr.refl (fun _ => False) w).alloc (.cells (pfRow (.slice a n c) th k v) 28)).alloc (.cells zp66 35)
  have HB := Lib.hid (Pb.of B0 hk)
  have HZ := Lib.hid B1
  have HF := Lib.hid F0
  have HSZ := Lib.hid (show ((w.alloc (.cells (pfRow (.slice a n c) th k v) 28)).alloc (.cells zp66 35)).heap.size = w.heap.size + 2 by simp)
  have HKL := Lib.hid (And.intro hk hv)
  have HSL := Lib.hid (leaf_size hk hv)
  have HSK := Lib.hid (show (krow k).size = 32 by rw [krow_size, hk])
  have HSV := Lib.hid (show (krow v).size = 32 by rw [krow_size, hv])
  have bL := bkl3 hk hv
  have bR := bp26 hk hv
  have b28 := fun (a' : Option Addr) (n' c' : Nat) => bp28 a' n' c' th hk hv
  have b35 := fun (a' : Option Addr) (n' c' : Nat) => bp35 a' n' c' th hk hv
  have HOS := Lib.hid (fun (s : Value) => pf_size (s := s) (th := th) hk hv)
  obtain ⟨ti, zz, HI⟩ := rI
  clear hk hv hK B0 B1 F0 hSn hnc hcm hn9
  go_enter Tryd.func7, Tryd.ntmps7
  go_wp2_with fail
  clear hzv hzn
  generalize ((w.alloc (.cells (pfRow (.slice a n c) th k v) 28)).alloc (.cells zp66 35)) = w1 at *
  obtain ⟨g, hg⟩ : ∃ g, g = w.heap.size := ⟨_, rfl⟩
  obtain ⟨g2, hg2⟩ : ∃ g2, g2 = w.heap.size + 1 := ⟨_, rfl⟩
  rw [← hg2, ← hg]
  rw [← hg] at HB
  rw [← hg2] at HZ
  have HNS := Lib.hid (show ¬ (w1.heap.size ≤ g ∨ g = g2) by have := HSZ.out; omega)
  have HZ2 := Lib.hid (show g2 < w1.heap.size by have := HSZ.out; omega)
  have HG2 := Lib.hid (show w.heap.size ≤ g2 by omega)
  have HGE := Lib.hid (show w.heap.size ≤ w1.heap.size by have := HSZ.out; omega)
  clear hg hg2
  refine Ks.wp_region_mono (fun b => w1.heap.size ≤ b ∨ b = g2) (sg 1 2 ++ (sg 4 9 ++ ((0, true) :: ((3, true) :: (sg 13 1 ++ ((14, true) :: ([]))))))) (by kernel_rfl) (by kernel_rfl) ?_
  refine Ks.Wk.seg 1 2 (by kernel_rfl) (by kernel_rfl) ?_
  apply Exists.intro
  refine ⟨?wk0, ?fin0⟩
  case wk0 =>
    intro γ
    have kx : ∀ u : Ks.Ws γ, u.w.cell? ⟨g, 0, none⟩ = some (.slice a n c) := fun u => (HB.out.fr u.h HNS.out).c0
    simp only [List.drop_succ_cons, List.drop_zero, List.take_succ_cons, List.take_zero]
    repeat (any_goals (first | go_big_quiet_step (fail) | quiet_step (fail)))
    exact wpQuiet_nil rfl
  case fin0 =>
  (try simp only [Act.put, List.setIfInBounds_toArray, List.set_cons_zero, List.set_cons_succ])
  refine Ks.Wk.seg 4 9 (by kernel_rfl) (by kernel_rfl) ?_
  apply Exists.intro
  refine ⟨?wk1, ?fin1⟩
  case wk1 =>
    intro γ
    have kp : ∀ u : Ks.Ws γ, Pb u.w g (.slice a n c) th k v := fun u => HB.out.fr u.h HNS.out
    have kx : ∀ u : Ks.Ws γ, u.w.cell? ⟨g, 1, none⟩ = some (.bool th) := fun u => (kp u).c1
    simp only [List.drop_succ_cons, List.drop_zero, List.take_succ_cons, List.take_zero]
    repeat (any_goals (first | (focus (go_big_quiet_want; (refine Ks.quiet_load_mids 22 (.tmp 10) rfl g 2 rfl (krow k) 32 _ Tryd.underlying22 rfl sz32 (fun z => (kp z).ck) (HSK.out) ?_); simp only [Act.put, List.setIfInBounds_toArray, List.set_cons_zero, List.set_cons_succ]; go_big_quiet_on)) | (focus (go_big_quiet_want; (refine Ks.quiet_load_mids 22 (.tmp 13) rfl g 34 rfl (krow v) 32 _ Tryd.underlying22 rfl sz32 (fun z => (kp z).cv) (HSV.out) ?_); simp only [Act.put, List.setIfInBounds_toArray, List.set_cons_zero, List.set_cons_succ]; go_big_quiet_on)) | (focus (go_big_quiet_want; (refine quiet_build2 33 0 1 (.tmp 11) (.tmp 14) (.agg (krow k)) (.agg (krow v)) rfl _ bL rfl rfl ?_); simp only [Act.put, List.setIfInBounds_toArray, List.set_cons_zero, List.set_cons_succ]; go_big_quiet_on)) | (focus (go_big_quiet_want; (refine quiet_build3 35 0 1 2 (.tmp 6) (.tmp 8) (.tmp 15) (.slice a' n' c') (.bool th) (.agg (leafRow k v)) rfl _ bM rfl rfl rfl ?_); simp only [Act.put, List.setIfInBounds_toArray, List.set_cons_zero, List.set_cons_succ]; go_big_quiet_on)) | go_big_quiet_step (fail) | quiet_step (fail)))
    exact wpQuiet_nil rfl
  case fin1 =>
  (try simp only [Act.put, List.setIfInBounds_toArray, List.set_cons_zero, List.set_cons_succ])
  refine Ks.Wk.one rfl (fun w3 Xw3 => ?_)
  refine wpList_buildSlice rfl 24 0 _ rfl #[] (by first | kernel_rfl | rfl | simp [Act.eval]) (mkT0 w3) ⟨rfl, Ks.Es.of ((Fr.refl _ w3).alloc _), ?_⟩
  (try simp only [List.getElem_toArray, List.getElem_cons_succ, List.getElem_cons_zero, Act.put, List.setIfInBounds_toArray, List.set_cons_zero, List.set_cons_succ])
  have X1 : Fr (fun _ => False) w1 (w3.alloc (.cells #[] 22)) := Xw3.alloc _
  have O3 := own_up (own0_rows w3) Xw3.size
  have HC1 := Lib.hid (show w1.heap.size ≤ w3.heap.size from Xw3.size)
  refine Ks.Wk.one rfl (fun w4 Xw4 => ?_)
  refine wpList_app _ rfl (.tmp 3) (.tmp 5) 24 24 rfl w1.heap.size 22 ti zz 32 32 Tryd.underlying24 HI.h1 HI.h2 HI.h3 HI.h4 HI.h5 (by decide) (.slice (some ⟨w3.heap.size, 0, none⟩) 0 0) 0 [] rfl (own_ext O3 Xw4) (.slice a n c) rfl n (bv S.flatten) (by have := src_kv (HPK.out.ext (HF.out.trans (X1.trans Xw4 (fun _ h => h.elim)) (fun _ h => h.elim))) c; rwa [HPL.out] at this) (by have := HM.out; unfold maxLen; omega) (by have := HM.out; omega) (X1.trans Xw4 (fun _ h => h.elim)).size ?_
  intro v5 w5 O5 G5 G5x
  refine ⟨rfl, (Fr.ofGrown G5).mono (fun b _ hb => .inl (own0_ge HC1.out hb)), ?_⟩
  (try simp only [List.getElem_toArray, List.getElem_cons_succ, List.getElem_cons_zero, Act.put, List.setIfInBounds_toArray, List.set_cons_zero, List.set_cons_succ])
  rw [List.nil_append, Nat.zero_add] at O5
  have X5 : Fr (fun b => w1.heap.size ≤ b) w1 w5 := ((X1.trans Xw4 (fun _ h => h.elim)).mono (fun _ _ h => h.elim)).trans (Fr.ofGrown G5) (fun b hb => .inl (own0_ge HC1.out hb))
  have O5' : Or32 w5 w1.heap.size v5 S := by unfold Or32; rw [HPL.out]; exact O5
  obtain ⟨a', n', c', rfl⟩ : ∃ a' n' c', v5 = .slice a' n' c' := by
    obtain ⟨a', c', e, _⟩ := O5'.view HPK.out.all
    exact ⟨a', _, c', e⟩
  have HO5 := Lib.hid O5'
  have HX5 := Lib.hid X5
  have HB5 := Lib.hid (HB.out.fr X5 (fun h => HNS.out (.inl h)))
  have bN := b28 a' n' c'
  have bM := b35 a' n' c'
  clear O5 O5' X5 G5 G5x O3 X1 Xw3 Xw4 b28 b35
  refine Ks.Wk.seg 13 1 (by kernel_rfl) (by kernel_rfl) ?_
  apply Exists.intro
  refine ⟨?wk4, ?fin4⟩
  case wk4 =>
    intro γ
    simp only [List.drop_succ_cons, List.drop_zero, List.take_succ_cons, List.take_zero]
    repeat (any_goals (first | (focus (go_big_quiet_want; (refine quiet_build3 35 0 1 2 (.tmp 6) (.tmp 8) (.tmp 15) (.slice a' n' c') (.bool th) (.agg (leafRow k v)) rfl _ bM rfl rfl rfl ?_); simp only [Act.put, List.setIfInBounds_toArray, List.set_cons_zero, List.set_cons_succ]; go_big_quiet_on)) | go_big_quiet_step (fail) | quiet_step (fail)))
    exact wpQuiet_nil rfl
  case fin4 =>
  (try simp only [Act.put, List.setIfInBounds_toArray, List.set_cons_zero, List.set_cons_succ])
  refine Ks.Wk.one rfl (fun w6 Xw6 => ?_)
  have HZ6 := (Xw6.block _ (Nat.lt_of_lt_of_le HZ2.out HX5.out.size) (fun h => h)).trans ((HX5.out.block _ HZ2.out (fun h => by have := HZ2.out; omega)).trans HZ.out)
  refine wpList_store_rowA rfl 35 (.tmp 2) (.tmp 16) rfl g2 (pfRow (.slice a' n' c') th k v) rfl rfl 35 _ HZ6 (by rw [HOS.out]; kernel_rfl) (by rw [zs66, HOS.out]) (pf_one _ rfl _ _ _) (fun w8 B8 F8 => ⟨rfl, F8.mono (fun _ _ h => .inr h), ?_⟩)
  (try simp only [List.getElem_toArray, List.getElem_cons_succ, List.getElem_cons_zero, Act.put, List.setIfInBounds_toArray, List.set_cons_zero, List.set_cons_succ])
  intro w9 X9
  have B9 := Lib.hid ((X9.block _ (lt_of_block B8) (fun h => h)).trans B8)
  have O9 := own_ext (own_fr (own_ext HO5.out Xw6) F8 (fun k hk e => by have := (ownsRow_lt HO5.out k hk).1; have := HZ2.out; omega)) X9
  have HO9 := Lib.hid (own_up O9 HGE.out)
  have Y1 : Fr (fun b => w1.heap.size ≤ b ∨ b = g2) w1 w5 := HX5.out.mono (fun _ _ h => .inl h)
  have Y2 : Fr (fun b => w1.heap.size ≤ b ∨ b = g2) w1 w9 := ((Y1.trans Xw6 (fun _ h => h.elim)).trans F8 (fun b h => .inl (.inr h))).trans X9 (fun _ h => h.elim)
  have HXX := Lib.hid (HF.out.trans Y2 (fun b h => .inr (by have := HG2.out; have := HGE.out; rcases h with h | h <;> omega)))
  clear Y1 Y2
  clear B8 F8 X9 HZ6 Xw6 O9
  go_wp2_with fail
  refine bodyPost_ret (results_cell_row rfl _ _ g2 35 (pfRow (.slice a' n' c') th k v) (0, 0) _ rfl B9.out Tryd.underlying35 rfl (by rw [HOS.out]; kernel_rfl)) rfl ?_
  exact ⟨⟨a', n', c', rfl, HO9.out⟩, HXX.out⟩
end Go.Proofs.YtndakfanlgilmaaDoor

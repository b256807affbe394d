/-
  A table of tenants: Place, bury, Delete.
-/
import Derived.Test.YtancppfkkepdiaaBe
namespace Go.Proofs.Ytancppfkkepdiaa
open Go.RowKit
set_option linter.unusedVariables false
set_option linter.unusedSimpArgs false
theorem wpList_store_part {P : Program} {ops : Array Oper} {rest : List Oper} {o : Oper} {a : Act} {w : World} {Q : Exit → Act → World → Prop} (hgd : o.guard = none) (ty : TypeId) (x y : Operand) (ho : o.op = .store ty x y)
    (g off : Nat) (R : Array Value) (hx : a.eval x = .pointer (some ⟨g, off, none⟩)) (hy : a.eval y = .agg R) (hi : (P.info? ty).map (·.size) = some R.size) (h1 : R.all (·.oneCell') = true)
    (t : TypeId) (cs : Array Value) (hg : w.heap[g]? = some (.cells cs t (0, 0))) (hoff : off + R.size ≤ cs.size)
    (h : ∀ w2 : World, w2.heap[g]? = some (.cells (cs.toList.take off ++ R.toList ++ cs.toList.drop (off + R.size)).toArray t (0, 0)) → Fr (fun i => i = g) w w2 → wpList P ops Q rest (a.put o.dst undef) w2) : wpList P ops Q (o :: rest) a w := by
  refine wpList_plain hgd fun _ hK => ?_
  have hst := run_storeCells_at P g off t R.toList 0 cs w hg (by simpa using hoff) (fun v hv => (Array.all_eq_true_iff_forall_mem.1 h1) v (by simpa using hv))
  have key := h _ (setRow_heap w g cs (cs.toList.take off ++ R.toList ++ cs.toList.drop (off + R.size)).toArray t (0, 0) hg) (Fr.setRow' (S := fun i => i = g) (Fr.refl _ w) rfl _)
  simp only [Nat.add_zero, Array.length_toList] at hst
  cases hq : P.info? ty with
  | none => simp [hq] at hi
  | some i =>
    have hs : R.size = i.size := by simp [hq] at hi; omega
    unfold Oper.wp execOp
    simp only [ho, hx, hy, Instr.storeAt, Instr.sureAddr, Sem.run_bind, Sem.run_pure, Result.andThen_ok]
    have hrun : (storeVar ty ⟨g, off, none⟩ (.agg R)).run P w = .ok () (w.setRow g (cs.toList.take off ++ R.toList ++ cs.toList.drop (off + R.size)).toArray) := by
      simp [storeVar, sizeOf, typeInfo, hq, Value.cells, hs]
      simpa [hs] using hst
    rw [hrun]
    exact hK _ _ key


theorem pc_app (A B : List Pl) : pc (A ++ B) = pc A ++ pc B := by simp [pc]
theorem pc_take (L : List Pl) (k : Nat) : (pc L).take (k * 3) = pc (L.take k) := by
  induction L generalizing k with
  | nil => simp [pc]
  | cons x L ih =>
    cases k with
    | zero => simp [pc]
    | succ k => rw [pc_cons, show (k + 1) * 3 = k * 3 + 1 + 1 + 1 by omega, List.take_succ_cons, List.take_succ_cons, List.take_succ_cons, List.take_succ_cons, pc_cons, ih]
theorem pc_drop (L : List Pl) (k : Nat) : (pc L).drop (k * 3) = pc (L.drop k) := by
  induction L generalizing k with
  | nil => simp [pc]
  | cons x L ih =>
    cases k with
    | zero => simp
    | succ k => rw [pc_cons, show (k + 1) * 3 = k * 3 + 1 + 1 + 1 by omega, List.drop_succ_cons, List.drop_succ_cons, List.drop_succ_cons, List.drop_succ_cons, ih]
theorem pc_put (P : List Pl) (k : Nat) (x : Pl) (hk : k < P.length) : ((pc P).toArray.toList.take (k * 3) ++ (#[.string x.id, .int .i64 x.st, .pointer x.dir] : Array Value).toList ++ (pc P).toArray.toList.drop (k * 3 + 3)).toArray = (pc (P.set k x)).toArray := by
  have e : P.set k x = P.take k ++ x :: P.drop (k + 1) := by
    rw [List.set_eq_take_append_cons_drop, if_pos hk]
  rw [e, pc_app, pc_cons, show k * 3 + 3 = (k + 1) * 3 by omega]
  simp only [pc_take, pc_drop]
  simp
set_option maxRecDepth 100000 in
set_option maxHeartbeats 1600000 in
theorem place_at (tb pb : Nat) (P : List Pl) (gv : Value) (hl : P.length ≤ 8) (a : Option Addr) (n c : Nat) (s : ByteArray) (w : World) (h : TB w tb pb P gv) (hcv : Cv w a n c s) (k : Nat) (x : Pl) (hx : P[k]? = some x) (hat : isAt s x = true) (hone : ∀ j y, P[j]? = some y → isAt s y = true → j = k) (h3 : x.st ≠ 3) : Calls Try.prog 11 #[.pointer (some ⟨tb, 0, none⟩), .slice a n c] w fun e w' => e = .returned (.tuple #[.int .i64 (k : Int), .int .i64 0]) ∧ Fr (fun _ => False) w w' := by
  have HS := Lib.hid (state_at tb pb P gv hl a n c s w h hcv k x hx hat hone)
  have HFD := fun (W : World) (G : Fr (fun _ => False) w W) => find_any tb pb P gv hl a n c s W (h.ext G) (hcv.ext G)
  have HFD2 := Lib.hid HFD
  have t0 : ¬ (x.st = 0) := fun e => by simp [isAt, e] at hat
  have t0b : (x.st == 0) = false := beq_eq_false_iff_ne.2 t0
  have t3b : (x.st == 3) = false := beq_eq_false_iff_ne.2 h3
  have HX := Lib.hid (And.intro hx (And.intro hat hone))
  clear HFD h hcv hx hat hone t0 h3
  go_enter Try.func11, Try.ntmps11
  go_wp2_with fail
  refine HS.out.mono ?_
  rintro e w1 ⟨rfl, F1⟩
  have HF1 := Lib.hid F1
  clear F1
  go_wp2_with fail
  refine (HFD2.out w1 HF1.out).mono ?_
  rintro e w2 ⟨hf, F2⟩
  have HF2 := Lib.hid (HF1.out.trans F2 (fun _ h => h.elim))
  clear F2
  rcases hf with ⟨k2, x2, hx2, hy2, hz2, rfl⟩ | ⟨hno, rfl⟩
  · obtain rfl : k2 = k := HX.out.2.2 k2 x2 hx2 hy2
    clear hx2 hy2 hz2
    go_wp2_with fail
    go_returns
    exact ⟨rfl, HF2.out⟩
  · have h1 := hno x (List.mem_of_getElem? HX.out.1)
    have h2 := HX.out.2.1
    rw [h2] at h1
    cases h1
set_option maxRecDepth 100000 in
theorem sInfo : ∃ ti z, Try.prog.info? 9 = some ti ∧ ti.zero = some z ∧ ti.size = 1 ∧ ti.bytes = 16 ∧ z.cells.size = 1 := ⟨_, .string ⟨#[]⟩, rfl, by kernel_rfl, by kernel_rfl, by kernel_rfl, by kernel_rfl⟩
theorem src_s (s : ByteArray) (V : World) (g : Nat) (hg : V.heap[g]? = some (.cells #[.string s] 9 (0, 0))) : Src Try.prog 1 42 (.slice (some ⟨g, 0, none⟩) 1 1) 1 [.string s] V := Src.ofSlice _ Try.underlying42 ⟨g, 0, none⟩ 1 1 [.string s] rfl (fun j u hj => by
  rw [Addr.add_mid, Nat.zero_add, cell_of_block hg, ← Array.getElem?_toList]; exact hj) (fun u hu => by
  have : u = .string s := by simpa using hu
  rw [this]; rfl)
set_option maxRecDepth 100000 in
set_option maxHeartbeats 1600000 in
theorem ins_none (gv : Nat) (s : ByteArray) (w : World) (h : w.heap[gv]? = some (.cells #[.string s] 9 (0, 0))) : Calls Try.prog 41 #[.slice none 0 0, .int .i64 0, .slice (some ⟨gv, 0, none⟩) 1 1] w fun e w' => ∃ g c, e = .returned (.slice (some ⟨g, 0, none⟩) 1 c) ∧ w.heap.size ≤ g ∧ w'.cell? ⟨g, 0, none⟩ = some (.string s) ∧ Fr (fun _ => False) w w' := by
  obtain ⟨ti, zv, t1, t2, t3, t4, t5⟩ := sInfo
  have HT := Lib.hid (And.intro t1 (And.intro t2 (And.intro t3 (And.intro t4 t5))))
  have HS := Lib.hid (src_s s w gv h)
  clear t1 t2 t3 t4 t5 h
  go_enter Try.func41, Try.ntmps41
  go_wp2_with (focus ((refine wpList_app _ rfl (.tmp 23) (.tmp 24) 42 42 rfl w.heap.size 9 ti zv 1 16 Try.underlying42 HT.out.1 HT.out.2.1 HT.out.2.2.1 HT.out.2.2.2.1 HT.out.2.2.2.2 (by decide) (.slice none 0 0) 0 [] rfl (World.ownsRow_nil _ _ _ _) _ rfl 1 [.string s] HS.out (by unfold maxLen; omega) (by decide) (Nat.le_refl _) ?_); intro v2 w2 O2 G2 G2x; simp only [Act.put, List.setIfInBounds_toArray, List.set_cons_zero, List.set_cons_succ]))
  rcases O2.2 with ⟨_, h0⟩ | ⟨g, cap, cur, rfl, hb, hg, _, _, _, hx⟩
  · omega
  · have hc : w2.cell? ⟨g, 0, none⟩ = some (.string s) := by
      rw [cell_of_block hg, ← Array.getElem?_toList, ← List.getElem?_take_of_lt (show 0 < (0 + 1) * 1 by decide), hx]; rfl
    have HC := Lib.hid hc
    have HG := Lib.hid G2
    have HBB := Lib.hid hb
    clear O2 G2 G2x hb hg hx hc
    go_wp2_with fail
    go_ret
    exact ⟨g, cap, rfl, HBB.out, HC.out, (Fr.ofGrown HG.out).mono (fun _ _ e => by simp [Value.ownBlock] at e)⟩
set_option maxRecDepth 100000 in
set_option maxHeartbeats 1600000 in
theorem bury_none (tb pb : Nat) (P : List Pl) (s : ByteArray) (w : World) (h : TB w tb pb P (.slice none 0 0)) : Calls Try.prog 31 #[.pointer (some ⟨tb, 0, none⟩), .string s] w fun e w' => e = .returned (.tuple #[]) ∧ ∃ g c, TB w' tb pb P (.slice (some ⟨g, 0, none⟩) 1 c) ∧ w.heap.size ≤ g ∧ w'.cell? ⟨g, 0, none⟩ = some (.string s) ∧ Fr (fun k => k = tb) w w' := by
  obtain ⟨c0, c1, f1⟩ := h.c
  have HT := Lib.hid h
  clear h
  go_enter Try.func31, Try.ntmps31
  go_wp2_with fail
  refine (bs_none s w).mono ?_
  rintro e w1 ⟨rfl, F1⟩
  have HT1 := Lib.hid (HT.out.ext F1)
  have HF1 := Lib.hid F1
  clear F1 c0 c1 f1
  obtain ⟨c0, c1, f1⟩ := HT1.out.c
  go_wp2_with fail
  have A1 := (Fr.refl (fun _ => False) w1).alloc (.cells #[.string s] 9)
  refine (ins_none w1.heap.size s _ (heap_alloc_new w1 _)).mono ?_
  rintro e w2 ⟨g, c, rfl, hgs, hcs, F2⟩
  have F12 := A1.trans F2 (fun _ h => h.elim)
  have HT2 := Lib.hid (HT1.out.ext F12)
  have HF2 := Lib.hid (HF1.out.trans F12 (fun _ h => h.elim))
  have HG := Lib.hid (And.intro (show w1.heap.size < g by simp at hgs; omega) hcs)
  clear A1 hgs hcs F2 F12 c0 c1 f1
  obtain ⟨c0, c1, f1⟩ := HT2.out.c
  go_wp2_with fail
  go_end0
  have FS : Fr (fun k => k = tb) w2 (w2.setCell ⟨tb, 1, none⟩ (.slice (some ⟨g, 0, none⟩) 1 c)) := Fr.setCell (S := fun k => k = tb) (Fr.refl _ w2) (Or.inl rfl) _
  have hlt := lt_of_block HT1.out.blk
  have hg1 := HG.out.1
  have hsz := HF1.out.size
  exact ⟨rfl, g, c, ⟨(block_setCell HT2.out.blk 1 _).trans rfl, (FS.block pb (lt_of_block HT2.out.row) (fun e => HT2.out.ne e.symm)).trans HT2.out.row, HT2.out.ne⟩, by omega, FS.cellSome (fun e => by have : g = tb := e; omega) HG.out.2, (HF2.out.mono (fun _ _ h => h.elim)).trans FS (fun _ h => .inl h)⟩
end Go.Proofs.Ytancppfkkepdiaa

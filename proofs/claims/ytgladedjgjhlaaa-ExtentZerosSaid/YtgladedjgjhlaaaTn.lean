/-
  Write, where it is done.
-/
import Derived.Test.YtgladedjgjhlaaaTm
import Derived.Test.YtgladedjgjhlaaaTb
namespace Go.Proofs.Ytgladedjgjhlaaa
open Go.RowKit
set_option linter.unusedVariables false
set_option linter.unusedSimpArgs false
/-- What a Write may touch. -/
def Wt (d bn : Nat) (wv : Value) : Nat → Prop := fun k => k = d ∨ k = bn ∨ wv.ownBlock = some k
theorem wpList_store_part {P : Program} {ops : Array Oper} {rest : List Oper} {o : Oper} {a : Act} {w : World} {Q : Exit → Act → World → Prop} (hgd : o.guard = none) (ty : TypeId) (x y : Operand) (ho : o.op = .store ty x y)
    (g off : Nat) (R : Array Value) (hx : a.eval x = .pointer (some ⟨g, off, none⟩)) (hy : a.eval y = .agg R) (hi : (P.info? ty).map (·.size) = some R.size) (h1 : R.all (·.oneCell') = true)
    (t : TypeId) (cs : Array Value) (hg : w.heap[g]? = some (.cells cs t (0, 0))) (hoff : off + R.size ≤ cs.size)
    (h : ∀ w2 : World, w2.heap[g]? = some (.cells (cs.toList.take off ++ R.toList ++ cs.toList.drop (off + R.size)).toArray t (0, 0)) → Fr (fun i => i = g) w w2 → wpList P ops Q rest (a.put o.dst undef) w2) : wpList P ops Q (o :: rest) a w := by
  refine wpList_plain hgd fun _ hK => ?_
  have hst := run_storeCells_at P g off t R.toList 0 cs w hg (by simpa using hoff) (fun v hv => (Array.all_eq_true_iff_forall_mem.1 h1) v (by simpa using hv))
  have key := h _ (setRow_heap w g cs (cs.toList.take off ++ R.toList ++ cs.toList.drop (off + R.size)).toArray t (0, 0) hg) (Fr.setRow' (S := fun i => i = g) (Fr.refl _ w) rfl _)
  simp only [Nat.add_zero, Array.length_toList] at hst
  cases hq : P.info? ty with
  | none => simp [hq] at hi
  | some i =>
    have hs : R.size = i.size := by simp [hq] at hi; omega
    unfold Oper.wp execOp
    simp only [ho, hx, hy, Instr.storeAt, Instr.sureAddr, Sem.run_bind, Sem.run_pure, Result.andThen_ok]
    have hrun : (storeVar ty ⟨g, off, none⟩ (.agg R)).run P w = .ok () (w.setRow g (cs.toList.take off ++ R.toList ++ cs.toList.drop (off + R.size)).toArray) := by
      simp [storeVar, sizeOf, typeInfo, hq, Value.cells, hs]
      simpa [hs] using hst
    rw [hrun]
    exact hK _ _ key
/-- A write that waits. -/
def wrow (i : Nat) (b : Nat → UInt8) : Array Value := (Value.int .i64 (i : Int) :: (ub 128 b).toList).toArray
theorem wrow_size (i : Nat) (b : Nat → UInt8) : (wrow i b).size = 129 := by simp [wrow, ub_size]
set_option maxRecDepth 100000 in
theorem mkW (i : Nat) (b : Nat → UInt8) (w : World) : (Instr.build 108 #[(0, .int .i64 (i : Int)), (1, .agg (ub 128 b))]).run Try.prog w = .ok (.agg (wrow i b)) w := by kernel_rfl
set_option maxRecDepth 100000 in
theorem mkS (i : Nat) (b : Nat → UInt8) (w : World) : (Instr.buildSlice 104 1 #[(0, .agg (wrow i b))]).run Try.prog w = .ok (.slice (some ⟨w.heap.size, 0, none⟩) 1 1) (w.alloc (.cells (wrow i b) 108)) := by kernel_rfl
theorem wpList_value {P : Program} {ops : Array Oper} {rest : List Oper} {o : Oper} {a : Act} {w : World} {Q : Exit → Act → World → Prop} (hgd : o.guard = none) {w' : World} {v : Value} (hr : (execOp a.eval o).run P w = .ok (.value v) w') (h : wpList P ops Q rest (a.put o.dst v) w') : wpList P ops Q (o :: rest) a w := by
  refine wpList_plain hgd fun _ hK => ?_
  unfold Oper.wp
  rw [hr]
  exact hK _ _ h
theorem wpList_build {P : Program} {ops : Array Oper} {rest : List Oper} {o : Oper} {a : Act} {w : World} {Q : Exit → Act → World → Prop} (hgd : o.guard = none) (t : TypeId) (parts : Array (Nat × Operand)) (ho : o.op = .build t parts) (vs : Array (Nat × Value)) (hvs : (parts.map fun (p : Nat × Operand) => (p.1, a.eval p.2)) = vs) {w' : World} {v : Value} (hr : (Instr.build t vs).run P w = .ok v w') (h : wpList P ops Q rest (a.put o.dst v) w') : wpList P ops Q (o :: rest) a w := by
  refine wpList_value hgd (v := v) (w' := w') ?_ h
  unfold execOp
  simp only [ho, hvs, Sem.run_bind, Result.andThen_ok, Sem.run_pure, hr]
theorem wpList_buildSlice {P : Program} {ops : Array Oper} {rest : List Oper} {o : Oper} {a : Act} {w : World} {Q : Exit → Act → World → Prop} (hgd : o.guard = none) (t : TypeId) (m : Nat) (parts : Array (Nat × Operand)) (ho : o.op = .buildSlice t m parts) (vs : Array (Nat × Value)) (hvs : (parts.map fun (p : Nat × Operand) => (p.1, a.eval p.2)) = vs) {w' : World} {v : Value} (hr : (Instr.buildSlice t m vs).run P w = .ok v w') (h : wpList P ops Q rest (a.put o.dst v) w') : wpList P ops Q (o :: rest) a w := by
  refine wpList_value hgd (v := v) (w' := w') ?_ h
  unfold execOp
  simp only [ho, hvs, Sem.run_bind, Result.andThen_ok, Sem.run_pure, hr]
theorem own_fr {w w' : World} {base : Nat} {e : TypeId} {size : Nat} {v : Value} {n : Nat} {xs : List Value} {S : Nat → Prop} (h : w.ownsRow base e size v n xs) (hF : Fr S w w') (hS : ∀ k, v.ownBlock = some k → ¬ S k) : w'.ownsRow base e size v n xs := by
  refine ⟨h.1, ?_⟩
  rcases h.2 with hn | ⟨g, cap, cur, e, hb, hg, rest⟩
  · exact .inl hn
  · refine .inr ⟨g, cap, cur, e, hb, ?_, rest⟩
    exact (hF.block g (lt_of_block hg) (hS _ (by rw [e]; rfl))).trans hg
set_option maxRecDepth 100000 in
theorem wInfo : ∃ ti z, Try.prog.info? 108 = some ti ∧ ti.zero = some z ∧ ti.size = 129 ∧ ti.bytes = 136 ∧ z.cells.size = 129 := ⟨_, .agg (#[.int .i64 0] ++ Array.replicate 128 (.int .u8 0)), rfl, by kernel_rfl, by kernel_rfl, by kernel_rfl, by kernel_rfl⟩
theorem wrow_one (i : Nat) (b : Nat → UInt8) : ∀ u ∈ (wrow i b).toList, u.oneCell' = true := by
  intro u hu
  simp only [wrow, List.mem_cons] at hu
  rcases hu with rfl | hu
  · rfl
  · exact (Array.all_eq_true_iff_forall_mem.1 (ub_one 128 b)) u (by simpa using hu)
theorem wpList_store_one {P : Program} {ops : Array Oper} {rest : List Oper} {o : Oper} {a : Act} {w : World} {Q : Exit → Act → World → Prop} (hgd : o.guard = none) (ty : TypeId) (x y : Operand) (ho : o.op = .store ty x y)
    (g off : Nat) (hx : a.eval x = .pointer (some ⟨g, off, none⟩)) (u : Value) (hy : a.eval y = u) (hu : u.cells = #[u]) (h1 : u.oneCell' = true) (hi : (P.info? ty).map (·.size) = some 1)
    (t : TypeId) (cs : Array Value) (hg : w.heap[g]? = some (.cells cs t (0, 0))) (hoff : off < cs.size)
    (h : ∀ w2 : World, w2.heap[g]? = some (.cells (cs.setIfInBounds off u) t (0, 0)) → Fr (fun i => i = g) w w2 → wpList P ops Q rest (a.put o.dst undef) w2) : wpList P ops Q (o :: rest) a w := by
  refine wpList_plain hgd fun _ hK => ?_
  have hst := run_storeCells_at P g off t [u] 0 cs w hg (by simp; omega) (by simpa using h1)
  have e : (cs.toList.take (off + 0) ++ [u] ++ cs.toList.drop (off + 0 + 1)).toArray = cs.setIfInBounds off u := by
    apply Array.toList_inj.1
    rw [Array.toList_setIfInBounds, List.set_eq_take_append_cons_drop, if_pos (by simpa using hoff)]
    simp
  have key := h (w.setRow g (cs.setIfInBounds off u)) (setRow_heap _ _ _ _ _ _ hg) (Fr.setRow' (S := fun i => i = g) (Fr.refl _ w) rfl _)
  simp only [List.length_cons, List.length_nil] at hst
  rw [e] at hst
  cases hq : P.info? ty with
  | none => simp [hq] at hi
  | some i =>
    have hs : i.size = 1 := by simpa [hq] using hi
    unfold Oper.wp execOp
    simp only [ho, hx, hy, Instr.storeAt, Instr.sureAddr, Sem.run_bind, Sem.run_pure, Result.andThen_ok]
    have hrun : (storeVar ty ⟨g, off, none⟩ u).run P w = .ok () (w.setRow g (cs.setIfInBounds off u)) := by
      simp [storeVar, sizeOf, typeInfo, hq, hu, hs]
      simpa using hst
    rw [hrun]
    exact hK _ _ key
theorem own_shape {w : World} {base : Nat} {e : TypeId} {size : Nat} {v : Value} {n : Nat} {xs : List Value} (h : w.ownsRow base e size v n xs) : v.cells = #[v] ∧ v.oneCell' = true := by
  rcases h.2 with ⟨e, _⟩ | ⟨g, cap, cur, e, _⟩
  · rw [e]; exact ⟨rfl, rfl⟩
  · rw [e]; exact ⟨rfl, rfl⟩
set_option maxRecDepth 100000 in
set_option maxHeartbeats 3200000 in
theorem write_un {w : World} {d bn bl n : Nat} {N L : Nat → Nat → UInt8} {ws : List (Nat × (Nat → UInt8))} {wv : Value} {wr ar : Int} {base : Nat} (h : DA w d bn bl n N L ws wv wr ar false base) (hm : ws.length < 1000000000000) (hwr : In64 (wr + 1)) (har : ¬ (0 < ar)) (i : Nat) (hi : i < n) (b : Nat → UInt8) :
    Calls Try.prog 19 #[.pointer (some ⟨d, 0, none⟩), .int .i64 (i : Int), .agg (ub 128 b)] w fun e w' => e = .returned (.int .i64 0) ∧ ∃ v', w'.heap[d]? = some (.cells (dcells bn bl n v' (wr + 1) ar false) 106 (0, 0)) ∧ w'.heap[bn]? = some (.cells (bk n (bset N i b)) 30 (0, 0)) ∧ w'.ownsRow base 108 129 v' (ws.length + 1) (wcells ws ++ (wrow i b).toList) ∧ (v'.ownBlock = wv.ownBlock ∨ ∃ k, v'.ownBlock = some k ∧ w.heap.size ≤ k) ∧ Fr (Wt d bn wv) w w' := by
  have hre := fun W hF => h.reach (i : Int) W hF
  rw [show rcode n false (i : Int) = 0 by unfold rcode; simp; omega] at hre
  have HR := Lib.hid hre
  have sB : Sz 128 (ub 128 b) := ⟨ub_size _ _, ub_one _ _⟩
  generalize hBB : ub 128 b = B at *
  have K := (Kn.start w).new (w.heap.size) 128 B 30 rfl sB.1
  clear hre
  go_enter Try.func19, Try.ntmps19
  go_wp2_with fail
  refine (HR.out _ K.fr).mono ?_
  rintro e w2 ⟨rfl, F2⟩
  have K2 := K.call F2
  clear K
  have K := K2
  clear K2
  have hd2 := (K.fr.block _ (lt_of_block h.blk) (fun h => h)).trans h.blk
  have hb2 := (K.fr.block _ (lt_of_block h.now) (fun h => h)).trans h.now
  have hv2 := K.heap 0 rfl
  have nB : ¬ (w.heap.size = bn) := by have := lt_of_block h.now; omega
  have nd : ¬ (d = bn) := h.d1
  have q0 : (0 : Int) ≤ (i : Int) := by omega
  have q1 : (i : Int) < (n : Int) := by omega
  have hn := h.hn
  go_wp2_with fail
  refine Ks.wp_region_mono (fun k => k = bn) (sg 0 7 ++ ((7, true) :: [])) (by kernel_rfl) (by kernel_rfl) ?_
  refine Ks.Wk.seg 0 7 (by kernel_rfl) (by kernel_rfl) ?_
  apply Exists.intro
  refine ⟨?wk0, ?fin0⟩
  case wk0 =>
      intro γ
      have c0 : ∀ y : Ks.Ws γ, y.w.cell? ⟨d, 0, none⟩ = some (.slice (some ⟨bn, 0, none⟩) n n) := fun y => by rw [cell_of_block (y.blk hd2 nd)]; rfl
      simp only [List.drop_succ_cons, List.drop_zero, List.take_succ_cons, List.take_zero]
      repeat (any_goals (first | (focus (go_big_quiet_want; (refine' Ks.quiet_load_rows 30 (.tmp 5) rfl w.heap.size rfl _ _ _ _ hv2 nB Try.underlying30 rfl (by rw [sB.1]; exact Try.szBk) _); simp only [Act.put, List.setIfInBounds_toArray, List.set_cons_zero, List.set_cons_succ]; go_big_quiet_on)) | go_big_quiet_step (fail) | quiet_step (fail)))
      exact wpQuiet_nil rfl
  case fin0 =>
    (try simp only [Act.put, List.setIfInBounds_toArray, List.set_cons_zero, List.set_cons_succ])
    refine Ks.Wk.one rfl (fun w3 X3 => ?_)
    have b3 := (X3.block _ (lt_of_block hb2) (fun h => h)).trans hb2
    refine wpList_store_part rfl 30 (.tmp 20) (.tmp 19) rfl bn (i * 128) B rfl rfl (by rw [sB.1]; exact Try.szBk) sB.2 30 _ b3 (by rw [sB.1, bk_size]; omega) (fun w4 B4 F4 => ⟨rfl, F4, ?_⟩)
    rw [sB.1, Nat.mul_comm, ← hBB, bk_set n N i hi b] at B4
    have F4' : Fr (fun k => k = bn) w2 w4 := (X3.mono (fun _ _ h => h.elim)).trans F4 (fun _ h => .inl h)
    simp only [Act.put, List.setIfInBounds_toArray, List.set_cons_zero, List.set_cons_succ]
    intro w5 X5
    have F5 : Fr (fun k => k = bn) w w5 := ((K.fr.mono (fun _ _ h => h.elim)).trans F4' (fun _ h => .inl h)).trans X5 (fun _ h => h.elim)
    have B5 := (X5.block _ (lt_of_block B4) (fun h => h)).trans B4
    have F25 : Fr (fun k => k = bn) w2 w5 := F4'.trans X5 (fun _ h => h.elim)
    have V5 := (F25.block _ (lt_of_block hv2) nB).trans hv2
    have D5 := (F25.block _ (lt_of_block hd2) nd).trans hd2
    clear K F2 hd2 hb2 hv2 X3 b3 B4 F4 F4' X5 HR
    go_wp2_with fail
    have nO : ¬ (wv.ownBlock = some w.heap.size) := by
      intro hc
      rcases h.own.2 with ⟨e, h0⟩ | ⟨g, cap, cur, e, hb, hg, rest⟩
      · rw [e] at hc; exact absurd hc (by simp [Value.ownBlock])
      · rw [e] at hc
        have : g = w.heap.size := by simpa [Value.ownBlock] using hc
        have := lt_of_block hg
        omega
    have nd2 : ¬ (wv.ownBlock = some d) := h.o1
    refine Kz.wp_region_mono (fun k => wv.ownBlock = some k) 12 (sg 0 7 ++ ((7, true) :: (8, true) :: (9, true) :: (10, true) :: (11, true) :: (12, true) :: [])) (by kernel_rfl) (by kernel_rfl) ?_
    refine Kz.Wk.seg 0 7 (by kernel_rfl) (by kernel_rfl) ?_
    apply Exists.intro
    refine ⟨?wk1, ?fin1⟩
    case wk1 =>
      intro γ
      have c2 : ∀ y : Ks.Ws γ, y.w.cell? ⟨d, 2, none⟩ = some wv := fun y => by rw [cell_of_block (y.blk D5 nd2)]; rfl
      simp only [List.drop_succ_cons, List.drop_zero, List.take_succ_cons, List.take_zero]
      repeat (any_goals (first | (focus (go_big_quiet_want; (refine' Ks.quiet_load_rows 30 (.tmp 5) rfl w.heap.size rfl _ _ _ _ V5 nO Try.underlying30 rfl (by rw [sB.1]; exact Try.szBk) _); simp only [Act.put, List.setIfInBounds_toArray, List.set_cons_zero, List.set_cons_succ]; go_big_quiet_on)) | go_big_quiet_step (fail) | quiet_step (fail)))
      exact wpQuiet_nil rfl
    case fin1 =>
    (try simp only [Act.put, List.setIfInBounds_toArray, List.set_cons_zero, List.set_cons_succ])
    have hb7 : ∀ w, (Instr.build 108 #[(0, .int .i64 (i : Int)), (1, .agg B)]).run Try.prog w = .ok (.agg (wrow i b)) w := fun w => by rw [← hBB]; exact mkW i b w
    refine Kz.Wk.one rfl (fun w6 X6 => ?_)
    refine wpList_build rfl 108 _ rfl #[(0, .int .i64 (i : Int)), (1, .agg B)] (by first | kernel_rfl | rfl | simp [Act.eval]) (hb7 w6) ⟨rfl, fun _ => Fr.refl _ _, ?_⟩
    simp only [Act.put, List.setIfInBounds_toArray, List.set_cons_zero, List.set_cons_succ]
    refine Kz.Wk.one rfl (fun w7 X7 => ?_)
    refine wpList_buildSlice rfl 104 1 _ rfl #[(0, .agg (wrow i b))] (by first | kernel_rfl | rfl | simp [Act.eval]) (mkS i b w7) ⟨rfl, fun _ => (Fr.refl _ w7).alloc _, ?_⟩
    simp only [Act.put, List.setIfInBounds_toArray, List.set_cons_zero, List.set_cons_succ]
    refine Kz.Wk.one rfl (fun w8 X8 => ?_)
    have X58 : Fr (fun _ => False) w5 w8 := ((Ex.tr X6 X7).alloc _).trans X8 (fun _ h => h.elim)
    have F8 : Fr (fun k => k = bn) w w8 := F5.trans X58 (fun _ h => h.elim)
    have O8 := own_fr h.own F8 (fun k hk hb => h.o2 (by rw [hk, hb]))
    have R8 := (X8.block _ (by simp) (fun h => h)).trans (show (w7.alloc (.cells (wrow i b) 108)).heap[w7.heap.size]? = some (.cells (wrow i b) 108 (0, 0)) from heap_alloc_new _ _)
    obtain ⟨ti, z, t1, t2, t3, t4, t5⟩ := wInfo
    have hnew : ∀ j u, (wrow i b).toList[j]? = some u → w8.cell? ((⟨w7.heap.size, 0, none⟩ : Addr).add j) = some u := fun j u hj => by
      rw [Addr.add_mid, Nat.zero_add, cell_of_block R8]; simpa using hj
    have hb8 : base ≤ w8.heap.size := by have := h.b1; have := lt_of_block h.blk; have := F8.size; omega
    refine wpList_app _ rfl (.tmp 25) (.tmp 29) 104 104 rfl base 108 ti z 129 136 Try.underlying104 t1 t2 t3 t4 t5 (by decide) wv ws.length (wcells ws) rfl O8 _ rfl 1 (wrow i b).toList (Src.ofSlice _ Try.underlying104 ⟨w7.heap.size, 0, none⟩ 1 1 _ (by rw [Array.length_toList, wrow_size]) hnew (wrow_one i b)) (by simp only [maxLen]; omega) (by omega) hb8 (fun v' w9 O9 G9 G9x => ⟨rfl, fun _ => Fr.ofGrown G9, ?_⟩)
    have X89 := Fr.ofGrown G9
    have F9 : Fr (fun k => k = bn ∨ wv.ownBlock = some k) w w9 := (F8.mono (fun _ _ h => Or.inl h)).trans X89 (fun _ h => .inl (.inr h))
    simp only [Act.put, List.setIfInBounds_toArray, List.set_cons_zero, List.set_cons_succ]
    refine Kz.Wk.one rfl (fun wa Xa => ?_)
    go_wp2_with fail
    refine ⟨Fr.refl _ _, ?_⟩
    refine Kz.Wk.one rfl (fun wb Xb => ?_)
    go_wp2_with fail
    refine ⟨Fr.refl _ _, ?_⟩
    refine Kz.Wk.one rfl (fun wc Xc => ?_)
    have X9c : Fr (fun _ => False) w9 wc := Ex.tr (Ex.tr Xa Xb) Xc
    have Fc := F9.trans X9c (fun _ h => h.elim)
    have Dc := (Fc.block _ (lt_of_block h.blk) (fun hh => hh.elim nd nd2)).trans h.blk
    have szs : (Try.prog.info? 104).map (·.size) = some 1 := by kernel_rfl
    refine wpList_store_one rfl 104 (.tmp 32) (.tmp 30) rfl d 2 rfl v' rfl (own_shape O9).1 (own_shape O9).2 szs 106 _ Dc (by simp [dcells]) (fun wd Dd Fd => ⟨rfl, fun hne => absurd rfl hne, ?_⟩)
    simp only [Act.put, List.setIfInBounds_toArray, List.set_cons_zero, List.set_cons_succ]
    intro we Xe
    have De := (Xe.block _ (lt_of_block Dd) (fun hh => hh)).trans Dd
    have Oe := own_fr (own_fr (own_fr O9 X9c (fun _ _ hh => hh)) Fd (fun k hk hb => by
      have hb : k = d := hb
      rw [hb] at hk
      rcases G9x with e | e
      · exact h.o1 (by rw [← e]; exact hk)
      · rw [e] at hk
        have : w8.heap.size = d := by simpa using hk
        have := lt_of_block h.blk
        have := F8.size
        omega)) Xe (fun _ _ hh => hh)
    have s1 := (X58.block _ (lt_of_block B5) (fun hh => hh)).trans B5
    have s2 := (X89.block _ (lt_of_block s1) h.o2).trans s1
    have s3 := (X9c.block _ (lt_of_block s2) (fun hh => hh)).trans s2
    have s4 := (Fd.block _ (lt_of_block s3) (fun hh => nd hh.symm)).trans s3
    have Be := (Xe.block _ (lt_of_block s4) (fun hh => hh)).trans s4
    clear s1 s2 s3 s4
    have G9y : v'.ownBlock = wv.ownBlock ∨ ∃ k, v'.ownBlock = some k ∧ w.heap.size ≤ k := G9x.imp id (fun e => ⟨_, e, F8.size⟩)
    have Fe : Fr (Wt d bn wv) w we := ((Fc.mono (fun k _ hh => hh.elim (fun e => .inr (.inl e)) (fun e => .inr (.inr e)))).trans Fd (fun k e => .inl (.inl e))).trans Xe (fun _ hh => hh.elim)
    have nO2 : ∀ k, v'.ownBlock = some k → ¬ (k = d) := fun k hk hb => by
      rw [hb] at hk
      rcases G9y with e | ⟨k2, e, hk2⟩
      · exact h.o1 (by rw [← e]; exact hk)
      · rw [e] at hk
        have : k2 = d := by simpa using hk
        have := lt_of_block h.blk
        omega
    clear G9x G9 O9 X9c X89 Xe Fd Dd Dc Fc F9 Xa Xb Xc R8 hnew O8 F8 X58 X8 X7 X6 hb8 B5 D5 V5 F5 F25 t1 t2 t3 t4 t5
    have De' : we.heap[d]? = some (.cells (dcells bn bl n v' wr ar false) 106 (0, 0)) := De
    have c3 : we.cell? ⟨d, 3, none⟩ = some (.int .i64 wr) := by rw [cell_of_block De']; rfl
    have szi : (Try.prog.info? 3).map (·.size) = some 1 := by kernel_rfl
    have hwr2 := hwr.k
    have u1 : decide (0 < ar) = false := by simpa using har
    clear De
    go_wp2_with (focus ((with_reducible refine wpList_store_one ?p0 3 (.tmp 39) (.tmp 37) ?p1 d 3 ?p2 (.int .i64 (wr + 1)) ?p3 ?p4 ?p5 szi 106 _ De' ?p6 ?p7); (case p0 => rfl); (case p1 => rfl); (case p2 => rfl); (case p3 => first | rfl | (simp [Act.eval, hwr2]; done) | (show Value.int .i64 (IntKind.i64.wrap (wr + 1)) = _; rw [hwr2])); (case p4 => rfl); (case p5 => rfl); (case p6 => simp [dcells]); intro w10 h10 F10; (simp only [Act.put, List.setIfInBounds_toArray, List.set_cons_zero, List.set_cons_succ]); have De2 : w10.heap[d]? = some (.cells (dcells bn bl n v' (wr + 1) ar false) 106 (0, 0)) := h10; have c4 : w10.cell? ⟨d, 4, none⟩ = some (.int .i64 ar) := (cell_of_block De2 4).trans rfl; have c5 : w10.cell? ⟨d, 5, none⟩ = some (.bool false) := (cell_of_block De2 5).trans rfl))
    go_ret
    refine ⟨rfl, v', De2, (F10.block _ (lt_of_block Be) (fun hh => nd hh.symm)).trans Be, own_fr Oe F10 nO2, G9y, Fe.trans F10 (fun k e => .inl (.inl e))⟩
end Go.Proofs.Ytgladedjgjhlaaa

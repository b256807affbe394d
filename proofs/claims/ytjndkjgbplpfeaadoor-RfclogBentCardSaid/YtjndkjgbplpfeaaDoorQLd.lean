/-
  A log: its memory; Add, Len, first, Root, Inclusion, Consistency.
  A log: Inclusion, Consistency; the checks.
  A log: what is checked.
  A log: what is checked of a beginning.
-/
import Derived.Test.YtjndkjgbplpfeaaDoorQLc
namespace Go.Proofs.YtjndkjgbplpfeaaDoor
open Go.RowKit
set_option linter.unusedVariables false
set_option linter.unusedSimpArgs false
/-- A log: its block, its row of sums. -/
structure LM (w : World) (lb base : Nat) (v : Value) (L : List (List UInt8)) : Prop where
  blk : w.heap[lb]? = some (.cells #[v] 56 (0, 0))
  own : Or32 w base v L
  ne : v.ownBlock ≠ some lb
  all : Lg.All32 L
set_option maxRecDepth 100000 in
theorem LM.fr {w w' : World} {lb base : Nat} {v : Value} {L : List (List UInt8)} {S : Nat → Prop} (h : LM w lb base v L) (F : Fr S w w') (h1 : ¬ S lb) (h2 : ∀ k, v.ownBlock = some k → ¬ S k) : LM w' lb base v L :=
  ⟨(F.block lb (lt_of_block h.blk) h1).trans h.blk, own_fr h.own F h2, h.ne, h.all⟩
set_option maxRecDepth 100000 in
theorem LM.ext {w w' : World} {lb base : Nat} {v : Value} {L : List (List UInt8)} (h : LM w lb base v L) (F : Fr (fun _ => False) w w') : LM w' lb base v L := h.fr F (fun h => h) (fun _ _ h => h)
set_option maxRecDepth 100000 in
theorem LM.cell {w : World} {lb base : Nat} {v : Value} {L : List (List UInt8)} (h : LM w lb base v L) : w.cell? ⟨lb, 0, none⟩ = some v ∧ w.frozen? ⟨lb, 0, none⟩ = false := ⟨(cell_of_block h.blk 0).trans rfl, free_of_block h.blk 0⟩
set_option maxRecDepth 100000 in
theorem wpList_store_one {P : Program} {ops : Array Oper} {rest : List Oper} {o : Oper} {a : Act} {w : World} {Q : Exit → Act → World → Prop} (hgd : o.guard = none) (ty : TypeId) (x y : Operand) (ho : o.op = .store ty x y)
    (g off : Nat) (v : Value) (hx : a.eval x = .pointer (some ⟨g, off, none⟩)) (hy : a.eval y = v) (hc : v.cells = #[v]) (h1 : v.oneCell' = true) (hi : (P.info? ty).map (·.size) = some 1)
    (t : TypeId) (cs : Array Value) (hg : w.heap[g]? = some (.cells cs t (0, 0))) (hoff : off < cs.size)
    (h : ∀ w2 : World, w2.heap[g]? = some (.cells (cs.setIfInBounds off v) t (0, 0)) → Fr (fun i => i = g) w w2 → wpList P ops Q rest (a.put o.dst undef) w2) : wpList P ops Q (o :: rest) a w := by
  refine wpList_plain hgd fun _ hK => ?_
  have hst := run_storeCells_at P g off t [v] 0 cs w hg (by simp; omega) (fun u hu => by rw [List.mem_singleton.1 hu]; exact h1)
  have e : (cs.toList.take off ++ [v] ++ cs.toList.drop (off + 1)).toArray = cs.setIfInBounds off v := by
    apply Array.ext'
    rw [Array.toList_setIfInBounds, List.set_eq_take_append_cons_drop, if_pos (by simpa using hoff)]
    simp
  have key := h _ (setRow_heap w g cs (cs.setIfInBounds off v) t (0, 0) hg) (Fr.setRow' (S := fun i => i = g) (Fr.refl _ w) rfl _)
  simp only [Nat.add_zero, List.length_singleton] at hst
  rw [e] at hst
  cases hq : P.info? ty with
  | none => simp [hq] at hi
  | some i =>
    have hs : 1 = i.size := by simp [hq] at hi; omega
    unfold Oper.wp execOp
    simp only [ho, hx, hy, Instr.storeAt, Instr.sureAddr, Sem.run_bind, Sem.run_pure, Result.andThen_ok]
    have hrun : (storeVar ty ⟨g, off, none⟩ v).run P w = .ok () (w.setRow g (cs.setIfInBounds off v)) := by
      simp [storeVar, sizeOf, typeInfo, hq, hc, ← hs]
      simpa using hst
    rw [hrun]
    exact hK _ _ key
set_option maxRecDepth 100000 in
theorem own_shape {w : World} {base : Nat} {e : TypeId} {size : Nat} {v : Value} {n : Nat} {xs : List Value} (h : w.ownsRow base e size v n xs) : v.cells = #[v] ∧ v.oneCell' = true := by
  rcases h.2 with ⟨e, h0⟩ | ⟨g, cap, cur, e, _⟩
  · rw [e]; exact ⟨rfl, rfl⟩
  · rw [e]; exact ⟨rfl, rfl⟩
set_option maxRecDepth 100000 in
theorem szTS : (Tryd.prog.info? 38).map (·.size) = some 1 := by kernel_rfl
set_option maxRecDepth 100000 in
set_option maxHeartbeats 6400000 in
theorem add_any (lb base : Nat) (v : Value) (L : List (List UInt8)) (a : Option Addr) (n c : Nat) (l : List UInt8) (w : World) (hM : LM w lb base v L) (hC : Came w a n c l) (hn : n ≤ 100000) (hL : L.length ≤ 1000) (hb : base ≤ w.heap.size) (hE : Env w) :
    Calls Tryd.prog 11 #[.pointer (some ⟨lb, 0, none⟩), .slice a n c] w fun e w' => e = .returned (.int .i64 (L.length : Int)) ∧ ∃ v', LM w' lb base v' (L ++ [Lg.leaf l]) ∧ (v'.ownBlock = v.ownBlock ∨ ∃ k, v'.ownBlock = some k ∧ w.heap.size ≤ k) ∧ Fr (fun k => k = lb ∨ v.ownBlock = some k) w w' := by
  obtain ⟨ti, z, hI⟩ := rI
  have HI := Lib.hid hI
  have HM := Lib.hid hM
  have HC := Lib.hid hC
  have HN := Lib.hid (And.intro hn (And.intro hL hb))
  have HE := Lib.hid hE
  have u1 := wrC L.length (by omega)
  have u2 := wrA L.length (by omega)
  clear hM hC hn hL hb hE hI
  go_enter Tryd.func11, Tryd.ntmps11
  go_wp2_with fail
  refine Kj.wp_region_mono (fun j b => (j = 8 ∧ v.ownBlock = some b) ∨ (j = 11 ∧ b = lb)) (sg 0 4 ++ (sg 4 1 ++ (sg 5 1 ++ ((6, true) :: ((7, true) :: ((8, true) :: (sg 9 2 ++ ((11, true) :: ([]))))))))) (by kernel_rfl) (by kernel_rfl) ?_
  refine Kj.Wk.seg (fun _ => True) 0 4 (by kernel_rfl) (by kernel_rfl) (fun j b h => .inr trivial) ?_
  apply Exists.intro
  refine ⟨?wk0, ?fin0⟩
  case wk0 =>
    intro γ
    simp only [List.drop_succ_cons, List.drop_zero, List.take_succ_cons, List.take_zero]
    repeat (any_goals (first | go_big_quiet_step (fail) | quiet_step (fail)))
    exact wpQuiet_nil rfl
  case fin0 =>
  (try simp only [Act.put, List.setIfInBounds_toArray, List.set_cons_zero, List.set_cons_succ])
  refine Kj.Wk.seg (fun b => v.ownBlock = some b) 4 1 (by kernel_rfl) (by kernel_rfl) (fun j b h => h.elim (fun h => .inr h.2) (fun h => .inl (by rw [h.1]; kernel_rfl))) ?_
  apply Exists.intro
  refine ⟨?wk1, ?fin1⟩
  case wk1 =>
    intro γ
    have k0 : ∀ z : Ks.Ws γ, z.w.cell? ⟨lb, 0, none⟩ = some v := fun z => z.h.cellSome HM.out.ne HM.out.cell.1
    simp only [List.drop_succ_cons, List.drop_zero, List.take_succ_cons, List.take_zero]
    repeat (any_goals (first | go_big_quiet_step (fail) | quiet_step (fail)))
    exact wpQuiet_nil rfl
  case fin1 =>
  (try simp only [Act.put, List.setIfInBounds_toArray, List.set_cons_zero, List.set_cons_succ])
  refine Kj.Wk.seg (fun _ => True) 5 1 (by kernel_rfl) (by kernel_rfl) (fun j b h => .inr trivial) ?_
  apply Exists.intro
  refine ⟨?wk2, ?fin2⟩
  case wk2 =>
    intro γ
    simp only [List.drop_succ_cons, List.drop_zero, List.take_succ_cons, List.take_zero]
    repeat (any_goals (first | go_big_quiet_step (fail) | quiet_step (fail)))
    exact wpQuiet_nil rfl
  case fin2 =>
  (try simp only [Act.put, List.setIfInBounds_toArray, List.set_cons_zero, List.set_cons_succ])
  refine Kj.Wk.call rfl (by kernel_rfl) 26 #[.slice a n c] (fun W => by first | kernel_rfl | rfl) (fun v W => v = .agg (krow (Lg.leaf l))) (fun W hx => (entry_any a n c l W (HC.out.ext hx) HN.out.1 (HE.out.ext hx)).mono (fun e w' he => ⟨_, he.1, he.2, rfl⟩)) ?_
  rintro v2 w2 X2 rfl
  (try simp only [List.getElem_toArray, List.getElem_cons_succ, List.getElem_cons_zero, Act.put, List.setIfInBounds_toArray, List.set_cons_zero, List.set_cons_succ])
  refine Kj.Wk.one rfl (fun w3 Xw3 => ?_)
  refine wpList_buildSlice rfl 38 1 _ rfl #[(0, .agg (krow (Lg.leaf l)))] (by first | kernel_rfl | rfl | simp [Act.eval]) (mkR (Lg.leaf_len l) w3) ⟨rfl, Ks.Es.of ((Fr.refl _ w3).alloc _), ?_⟩
  (try simp only [List.getElem_toArray, List.getElem_cons_succ, List.getElem_cons_zero, Act.put, List.setIfInBounds_toArray, List.set_cons_zero, List.set_cons_succ])
  have B3 := heap_alloc_new w3 (.cells (krow (Lg.leaf l)) 31)
  have X23 : Fr (fun _ => False) w (w3.alloc (.cells (krow (Lg.leaf l)) 31)) := (X2.trans Xw3 (fun _ h => h.elim)).alloc _
  refine Kj.Wk.one rfl (fun w4 Xw4 => ?_)
  have X24 := X23.trans Xw4 (fun _ h => h.elim)
  have O4 : w4.ownsRow base 31 32 v L.length (bv L.flatten) := own_ext HM.out.own X24
  have B4 := (Xw4.block _ (lt_of_block B3) (fun h => h)).trans B3
  have hz4 : base ≤ w4.heap.size := Nat.le_trans HN.out.2.2 X24.size
  refine wpList_app _ rfl (.tmp 11) (.tmp 14) 38 38 rfl base 31 ti z 32 32 Tryd.underlying38 HI.h1 HI.h2 HI.h3 HI.h4 HI.h5 (by decide) v _ _ rfl O4 _ rfl 1 (bv (Lg.leaf l)) (src_row B4 (Lg.leaf_len l)) (by have := HN.out.2.1; unfold maxLen; omega) (by have := HN.out.2.1; omega) hz4 (fun v5 w5 O5 G5 G5x => ⟨rfl, (Fr.ofGrown G5).mono (fun k _ hk => .inl ⟨rfl, hk⟩), ?_⟩)
  (try simp only [List.getElem_toArray, List.getElem_cons_succ, List.getElem_cons_zero, Act.put, List.setIfInBounds_toArray, List.set_cons_zero, List.set_cons_succ])
  have F45 := Fr.ofGrown G5
  have HO5 := Lib.hid (Or32.snoc O5)
  have HX5 := Lib.hid (show v5.ownBlock = v.ownBlock ∨ ∃ k, v5.ownBlock = some k ∧ w.heap.size ≤ k from G5x.imp id (fun h => ⟨_, h, X24.size⟩))
  have HF5 := Lib.hid (show Fr (fun k => v.ownBlock = some k) w w5 from (X24.mono (T := fun k => v.ownBlock = some k) (fun _ _ h => h.elim)).trans F45 (fun _ h => .inl h))
  clear F45 G5x G5 O5 hz4 B4 O4 X24 Xw4 X23 B3 Xw3 X2
  refine Kj.Wk.seg (fun _ => True) 9 2 (by kernel_rfl) (by kernel_rfl) (fun j b h => .inr trivial) ?_
  apply Exists.intro
  refine ⟨?wk6, ?fin6⟩
  case wk6 =>
    intro γ
    simp only [List.drop_succ_cons, List.drop_zero, List.take_succ_cons, List.take_zero]
    repeat (any_goals (first | go_big_quiet_step (fail) | quiet_step (fail)))
    exact wpQuiet_nil rfl
  case fin6 =>
  (try simp only [Act.put, List.setIfInBounds_toArray, List.set_cons_zero, List.set_cons_succ])
  refine Kj.Wk.one rfl (fun w6 Xw6 => ?_)
  have D6 := (Xw6.block _ (lt_of_block ((HF5.out.block lb (lt_of_block HM.out.blk) HM.out.ne).trans HM.out.blk)) (fun h => h)).trans ((HF5.out.block lb (lt_of_block HM.out.blk) HM.out.ne).trans HM.out.blk)
  refine wpList_store_one rfl 38 (.tmp 17) (.tmp 15) rfl lb 0 v5 rfl rfl (own_shape HO5.out).1 (own_shape HO5.out).2 szTS 56 _ D6 (by simp) (fun w7 D7 F7 => ⟨rfl, F7.mono (fun k _ hk => .inr ⟨rfl, hk⟩), ?_⟩)
  (try simp only [List.getElem_toArray, List.getElem_cons_succ, List.getElem_cons_zero, Act.put, List.setIfInBounds_toArray, List.set_cons_zero, List.set_cons_succ])
  intro w8 X8
  have HD8 := Lib.hid ((X8.block _ (lt_of_block D7) (fun h => h)).trans D7)
  have hne : v5.ownBlock ≠ some lb := by
    rcases HX5.out with h | ⟨k, h, hk⟩
    · rw [h]; exact HM.out.ne
    · rw [h]; intro e; have := lt_of_block HM.out.blk; have := Option.some.inj e; omega
  have F58 : Fr (fun k => k = lb) w5 w8 := ((Xw6.mono (T := fun k => k = lb) (fun _ _ h => h.elim)).trans F7 (fun _ h => .inl h)).trans X8 (fun _ h => h.elim)
  have HM8 := Lib.hid (show LM w8 lb base v5 (L ++ [Lg.leaf l]) from ⟨HD8.out, own_fr HO5.out F58 (fun k hk e => hne (by rw [hk, e])), hne, HM.out.all.snoc (Lg.leaf_len l)⟩)
  have HF8 := Lib.hid (show Fr (fun k => k = lb ∨ v.ownBlock = some k) w w8 from (HF5.out.mono (T := fun k => k = lb ∨ v.ownBlock = some k) (fun _ _ h => .inr h)).trans F58 (fun _ h => .inl (.inl h)))
  clear F58 hne X8 F7 D7 D6 Xw6
  obtain ⟨a9, c9, rfl⟩ := ownsRow_slice HM8.out.own
  have hlen : (L ++ [Lg.leaf l]).length = L.length + 1 := by simp
  have k0 := HM8.out.cell.1
  rw [hlen] at k0
  go_wp2_with fail
  go_ret
  exact ⟨congrArg Ending.returned (congrArg (Value.int .i64) u1), _, HM8.out, HX5.out, HF8.out⟩
set_option maxRecDepth 100000 in
set_option maxHeartbeats 6400000 in
theorem len_m (lb base : Nat) (v : Value) (L : List (List UInt8)) (w : World) (hM : LM w lb base v L) : Calls Tryd.prog 12 #[.pointer (some ⟨lb, 0, none⟩)] w fun e w' => e = .returned (.int .i64 (L.length : Int)) ∧ w = w' := by
  obtain ⟨a, c, rfl⟩ := ownsRow_slice hM.own
  obtain ⟨c0, _⟩ := hM.cell
  go_enter Tryd.func12, Tryd.ntmps12
  go_wp2_with fail
  go_ret
  exact ⟨rfl, rfl⟩
set_option maxRecDepth 100000 in
theorem len_nil (w : World) : Calls Tryd.prog 12 #[.pointer none] w fun e w' => e = .returned (.int .i64 0) ∧ w = w' := by
  go_enter Tryd.func12, Tryd.ntmps12
  go_wp2_with fail
  go_ret
  exact ⟨rfl, rfl⟩
set_option maxRecDepth 100000 in
theorem add_nil (a : Option Addr) (n c : Nat) (w : World) : Calls Tryd.prog 11 #[.pointer none, .slice a n c] w fun e w' => e = .returned (.int .i64 (-1)) ∧ w = w' := by
  go_enter Tryd.func11, Tryd.ntmps11
  go_wp2_with fail
  go_ret
  exact ⟨rfl, rfl⟩
set_option maxRecDepth 100000 in
theorem first_m (lb base : Nat) (v : Value) (L : List (List UInt8)) (n : Nat) (hn : n ≤ L.length) (w : World) (hM : LM w lb base v L) : ∃ a c, v = .slice a L.length c ∧ n ≤ c ∧ c ≤ maxLen ∧ Kv w a (L.take n) ∧ (∀ k, inBlk a k → v.ownBlock = some k) ∧ Calls Tryd.prog 29 #[.pointer (some ⟨lb, 0, none⟩), .int .i64 (n : Int)] w fun e w' => e = .returned (.slice a n c) ∧ w = w' := by
  obtain ⟨a, c, rfl, h1, h2, hK, hb⟩ := hM.own.view hM.all
  refine ⟨a, c, rfl, by omega, h2, hK.take n, fun k hk => by obtain ⟨ad, h1, h2⟩ := hk; rw [h1, ← h2]; rfl, ?_⟩
  obtain ⟨c0, _⟩ := hM.cell
  have q1 : n ≤ c := by omega
  have q2 : (n : Int) ≤ (L.length : Int) := by omega
  clear h1 h2 hb hn
  go_enter Tryd.func29, Tryd.ntmps29
  go_wp2_with fail
  go_ret
  exact ⟨rfl, rfl⟩
set_option maxRecDepth 100000 in
set_option maxHeartbeats 6400000 in
theorem root_m (lb base : Nat) (v : Value) (L : List (List UInt8)) (n : Nat) (hn : n ≤ L.length) (hL : L.length ≤ 1000) (w : World) (hM : LM w lb base v L) (hE : Env w) : Calls Tryd.prog 13 #[.pointer (some ⟨lb, 0, none⟩), .int .i64 (n : Int)] w fun e w' => e = .returned (.tuple #[.agg (krow (Lg.root (L.take n))), .int .i64 0]) ∧ Fr (fun _ => False) w w' := by
  have F0 := (Fr.refl (fun _ => False) w).alloc (.cells (ub 32 (fun _ => 0)) 31)
  have HB := Lib.hid (heap_alloc_new w (.cells (ub 32 (fun _ => 0)) 31))
  have hM1 := hM.ext F0
  have HM := Lib.hid hM1
  have HE := Lib.hid (hE.ext F0)
  have HF := Lib.hid F0
  have HR := Lib.hid (Lg.root_len (hM.all.take n))
  have HN := Lib.hid (And.intro hn hL)
  have t1 : decide ((n : Int) < 0) = false := decide_eq_false (by omega)
  have q1 : ¬ ((n : Int) < 0) := by omega
  have q2 : ¬ ((L.length : Int) < (n : Int)) := by omega
  have q3 : ¬ (L.length < n) := by omega
  have t2 : decide (L.length < n) = false := decide_eq_false q3
  clear F0 hM hE hM1 hn hL
  go_enter Tryd.func13, Tryd.ntmps13
  go_wp2_with fail
  rw [zero32]
  generalize (w.alloc (.cells (ub 32 (fun _ => 0)) 31)) = w1 at *
  refine (len_m lb base v L w1 HM.out).mono ?_
  rintro e w2 ⟨rfl, rfl⟩
  obtain ⟨a, c, hv, h1, h2, hK, _, hc⟩ := first_m lb base v L n HN.out.1 w1 HM.out
  have HC := Lib.hid hc
  have HK := Lib.hid (root_any _ a c (L.take n) n w1 (Nat.le_refl _) (by rw [List.length_take]; have := HN.out.1; omega) h1 h2 hK HE.out)
  clear hv h1 h2 hK hc
  go_wp2_with fail
  refine HC.out.mono ?_
  rintro e w2 ⟨rfl, rfl⟩
  go_wp2_with fail
  refine HK.out.mono ?_
  rintro e w2 ⟨rfl, F2⟩
  have HB2 := Lib.hid ((F2.block _ (lt_of_block HB.out) (fun h => h)).trans HB.out)
  have HF2 := Lib.hid (HF.out.trans F2 (fun _ h => h.elim))
  clear F2
  go_wp2_with (refine wpList_store_rowA rfl 31 (.tmp 4) (.tmp 18) rfl w.heap.size (krow (Lg.root (L.take n))) rfl rfl 31 _ HB2.out (sz32' HR.out) (by rw [ub_size, krow_size, HR.out]) (krow_one _) ?_; intro w3 B3 F3; simp only [Act.put, List.setIfInBounds_toArray, List.set_cons_zero, List.set_cons_succ])
  refine bodyPost_ret (results_cell_tmp rfl _ _ w.heap.size 31 (krow (Lg.root (L.take n))) (0, 0) _ rfl B3 Tryd.underlying31 rfl (sz32' HR.out)) rfl ?_
  exact ⟨rfl, HF2.out.trans F3 (fun k h => .inr (by rw [h]; exact Nat.le_refl _))⟩
set_option maxRecDepth 100000 in
set_option maxHeartbeats 6400000 in
theorem root_low (lb base : Nat) (v : Value) (L : List (List UInt8)) (z : Int) (hz : z < 0) (w : World) (hM : LM w lb base v L) : Calls Tryd.prog 13 #[.pointer (some ⟨lb, 0, none⟩), .int .i64 z] w fun e w' => e = .returned (.tuple #[.agg (krow z32), .int .i64 1]) ∧ Fr (fun _ => False) w w' := by
  have F0 := (Fr.refl (fun _ => False) w).alloc (.cells (ub 32 (fun _ => 0)) 31)
  have HB := Lib.hid (heap_alloc_new w (.cells (ub 32 (fun _ => 0)) 31))
  have HM := Lib.hid (hM.ext F0)
  have HF := Lib.hid F0
  have t1 : decide (z < 0) = true := decide_eq_true hz
  clear F0 hM
  go_enter Tryd.func13, Tryd.ntmps13
  go_wp2_with (first | (rw [zero32]) | (refine wpList_build_to rfl 31 #[] rfl (ub 32 (fun _ => 0)) (by kernel_rfl) ?_; simp only [Act.put, List.setIfInBounds_toArray, List.set_cons_zero, List.set_cons_succ]) | (go_at_call 12; refine (len_m lb base v L _ HM.out).mono ?_; rintro e w2 ⟨rfl, rfl⟩) | (refine wpList_store_rowA rfl 31 (.tmp 4) (.tmp 14) rfl w.heap.size (ub 32 (fun _ => 0)) rfl rfl 31 _ HB.out (by rw [ub_size]; exact sz32) rfl (ub_one _ _) ?_; intro w3 B3 F3; simp only [Act.put, List.setIfInBounds_toArray, List.set_cons_zero, List.set_cons_succ]))
  refine bodyPost_ret (results_cell_tmp rfl _ _ w.heap.size 31 (ub 32 (fun _ => 0)) (0, 0) _ rfl B3 Tryd.underlying31 rfl (by rw [ub_size]; exact sz32)) rfl ?_
  rw [z32_row]
  exact ⟨rfl, HF.out.trans F3 (fun k h => .inr (by rw [h]; exact Nat.le_refl _))⟩
set_option maxRecDepth 100000 in
set_option maxHeartbeats 6400000 in
theorem root_high (lb base : Nat) (v : Value) (L : List (List UInt8)) (z : Int) (hz : (L.length : Int) < z) (w : World) (hM : LM w lb base v L) : Calls Tryd.prog 13 #[.pointer (some ⟨lb, 0, none⟩), .int .i64 z] w fun e w' => e = .returned (.tuple #[.agg (krow z32), .int .i64 1]) ∧ Fr (fun _ => False) w w' := by
  have F0 := (Fr.refl (fun _ => False) w).alloc (.cells (ub 32 (fun _ => 0)) 31)
  have HB := Lib.hid (heap_alloc_new w (.cells (ub 32 (fun _ => 0)) 31))
  have HM := Lib.hid (hM.ext F0)
  have HF := Lib.hid F0
  have t1 : decide (z < 0) = false := decide_eq_false (by omega)
  have q1 : ¬ (z < 0) := by omega
  have t2 : decide ((L.length : Int) < z) = true := decide_eq_true hz
  clear F0 hM
  go_enter Tryd.func13, Tryd.ntmps13
  go_wp2_with (first | (rw [zero32]) | (refine wpList_build_to rfl 31 #[] rfl (ub 32 (fun _ => 0)) (by kernel_rfl) ?_; simp only [Act.put, List.setIfInBounds_toArray, List.set_cons_zero, List.set_cons_succ]) | (go_at_call 12; refine (len_m lb base v L _ HM.out).mono ?_; rintro e w2 ⟨rfl, rfl⟩) | (refine wpList_store_rowA rfl 31 (.tmp 4) (.tmp 14) rfl w.heap.size (ub 32 (fun _ => 0)) rfl rfl 31 _ HB.out (by rw [ub_size]; exact sz32) rfl (ub_one _ _) ?_; intro w3 B3 F3; simp only [Act.put, List.setIfInBounds_toArray, List.set_cons_zero, List.set_cons_succ]))
  refine bodyPost_ret (results_cell_tmp rfl _ _ w.heap.size 31 (ub 32 (fun _ => 0)) (0, 0) _ rfl B3 Tryd.underlying31 rfl (by rw [ub_size]; exact sz32)) rfl ?_
  rw [z32_row]
  exact ⟨rfl, HF.out.trans F3 (fun k h => .inr (by rw [h]; exact Nat.le_refl _))⟩
end Go.Proofs.YtjndkjgbplpfeaaDoor
namespace Go.Proofs.YtjndkjgbplpfeaaDoor
open Go.RowKit
set_option linter.unusedVariables false
set_option linter.unusedSimpArgs false
set_option maxRecDepth 100000 in
theorem eql_row {x y : List UInt8} (hx : x.length = 32) (hy : y.length = 32) (w : World) : (binOp .eql 31 (.agg (krow x)) (.agg (krow y))).run Tryd.prog w = .ok (.bool (x == y)) w := by
  refine run_eql_bytes w 31 5 32 Tryd.underlying31 Tryd.underlying5 ?_ _ _ hx hy
  intro w2
  obtain ⟨i0, hi, hz⟩ := Option.map_eq_some_iff.1 Tryd.sizeB
  simp [sizeOf, typeInfo, hi, hz]
set_option maxRecDepth 100000 in
theorem neq_row {x y : List UInt8} (hx : x.length = 32) (hy : y.length = 32) (w : World) : (binOp .neq 31 (.agg (krow x)) (.agg (krow y))).run Tryd.prog w = .ok (.bool (!(x == y))) w := by
  have h := eql_row hx hy w
  simp only [binOp, Sem.run_bind] at h ⊢
  cases hr : (Op.equal 31 (.agg (krow x)) (.agg (krow y))).run Tryd.prog w with
  | ok b w2 =>
    rw [hr] at h
    simp only [Result.andThen_ok, Sem.run_pure, Result.ok.injEq, Value.bool.injEq] at h ⊢
    exact ⟨by rw [h.1], h.2⟩
  | halt b w2 => rw [hr] at h; simp [Result.andThen] at h
set_option maxRecDepth 100000 in
set_option maxHeartbeats 6400000 in
theorem incl_m (lb base : Nat) (v : Value) (L : List (List UInt8)) (i n : Nat) (hi : i < n) (hn : n ≤ L.length) (hL : L.length ≤ 1000) (w : World) (hM : LM w lb base v L) (hE : Env w) : Calls Tryd.prog 15 #[.pointer (some ⟨lb, 0, none⟩), .int .i64 (i : Int), .int .i64 (n : Int)] w fun e w' => (∃ v2, e = .returned (.tuple #[v2, .int .i64 0]) ∧ Or32 w' w.heap.size v2 (Lg.path i (L.take n))) ∧ Fr (fun _ => False) w w' := by
  have HM := Lib.hid hM
  have HE := Lib.hid hE
  have HN := Lib.hid (And.intro hi (And.intro hn hL))
  have t1 : decide ((i : Int) < 0) = false := decide_eq_false (by omega)
  have q1 : ¬ ((i : Int) < 0) := by omega
  have t3 : decide ((n : Int) ≤ (i : Int)) = false := decide_eq_false (by omega)
  have q3 : ¬ ((n : Int) ≤ (i : Int)) := by omega
  have q4 : ¬ (n ≤ i) := by omega
  have t4 : decide (n ≤ i) = false := decide_eq_false q4
  have q5 : ¬ ((L.length : Int) < (n : Int)) := by omega
  have q6 : ¬ (L.length < n) := by omega
  have t6 : decide (L.length < n) = false := decide_eq_false q6
  clear hM hE hi hn hL
  go_enter Tryd.func15, Tryd.ntmps15
  go_wp2_with fail
  refine (len_m lb base v L w HM.out).mono ?_
  rintro e w2 ⟨rfl, rfl⟩
  obtain ⟨a, c, hv, h1, h2, hK, _, hc⟩ := first_m lb base v L n HN.out.2.1 w HM.out
  have HC := Lib.hid hc
  have HK := Lib.hid (incl_any _ a c (L.take n) n i w (Nat.le_refl _) (by rw [List.length_take]; have := HN.out.2.1; omega) h1 h2 HN.out.1 (by have := HN.out.2; omega) hK HE.out)
  clear hv h1 h2 hK hc
  go_wp2_with fail
  refine HC.out.mono ?_
  rintro e w2 ⟨rfl, rfl⟩
  go_wp2_with fail
  refine HK.out.mono ?_
  rintro e w2 ⟨⟨v2, rfl, hO⟩, F2⟩
  have HO := Lib.hid hO
  have HF2 := Lib.hid F2
  clear F2 hO
  go_wp2_with fail
  go_returns
  exact ⟨⟨v2, rfl, HO.out⟩, HF2.out⟩
set_option maxRecDepth 100000 in
set_option maxHeartbeats 6400000 in
theorem cons_m (lb base : Nat) (v : Value) (L : List (List UInt8)) (i n : Nat) (h1m : 1 ≤ i) (hi : i ≤ n) (hn : n ≤ L.length) (hL : L.length ≤ 1000) (w : World) (hM : LM w lb base v L) (hE : Env w) : Calls Tryd.prog 16 #[.pointer (some ⟨lb, 0, none⟩), .int .i64 (i : Int), .int .i64 (n : Int)] w fun e w' => (∃ v2, e = .returned (.tuple #[v2, .int .i64 0]) ∧ Or32 w' w.heap.size v2 (Lg.sub i (L.take n) true)) ∧ Fr (fun _ => False) w w' := by
  have HM := Lib.hid hM
  have HE := Lib.hid hE
  have HN := Lib.hid (And.intro hi (And.intro hn hL))
  have HM1 := Lib.hid h1m
  have t1 : decide ((i : Int) < 0) = false := decide_eq_false (by omega)
  have q1 : ¬ ((i : Int) < 0) := by omega
  have t3 : decide ((n : Int) < (i : Int)) = false := decide_eq_false (by omega)
  have q3 : ¬ ((n : Int) < (i : Int)) := by omega
  have q4 : ¬ (n < i) := by omega
  have t4 : decide (n < i) = false := decide_eq_false q4
  have b0 : ((i : Int) == 0) = false := beq_eq_false_iff_ne.2 (by omega)
  have b1 : (i == 0) = false := beq_eq_false_iff_ne.2 (by omega)
  clear h1m
  have q5 : ¬ ((L.length : Int) < (n : Int)) := by omega
  have q6 : ¬ (L.length < n) := by omega
  have t6 : decide (L.length < n) = false := decide_eq_false q6
  clear hM hE hi hn hL
  go_enter Tryd.func16, Tryd.ntmps16
  go_wp2_with fail
  refine (len_m lb base v L w HM.out).mono ?_
  rintro e w2 ⟨rfl, rfl⟩
  obtain ⟨a, c, hv, h1, h2, hK, _, hc⟩ := first_m lb base v L n HN.out.2.1 w HM.out
  have HC := Lib.hid hc
  have HK := Lib.hid (cons_any _ a c (L.take n) n i true w (Nat.le_refl _) (by rw [List.length_take]; have := HN.out.2.1; omega) h1 h2 HM1.out HN.out.1 (by have := HN.out.2; omega) hK HE.out)
  clear hv h1 h2 hK hc
  go_wp2_with fail
  refine HC.out.mono ?_
  rintro e w2 ⟨rfl, rfl⟩
  go_wp2_with fail
  refine HK.out.mono ?_
  rintro e w2 ⟨⟨v2, rfl, hO⟩, F2⟩
  have HO := Lib.hid hO
  have HF2 := Lib.hid F2
  clear F2 hO
  go_wp2_with fail
  go_returns
  exact ⟨⟨v2, rfl, HO.out⟩, HF2.out⟩
set_option maxRecDepth 100000 in
set_option maxHeartbeats 6400000 in
theorem incl_e1 (lb base : Nat) (v : Value) (L : List (List UInt8)) (y z : Int) (h : y < 0) (w : World) (hM : LM w lb base v L) : Calls Tryd.prog 15 #[.pointer (some ⟨lb, 0, none⟩), .int .i64 y, .int .i64 z] w fun e w' => e = .returned (.tuple #[.slice none 0 0, .int .i64 1]) ∧ Fr (fun _ => False) w w' := by
  have HM := Lib.hid hM
  have t1 : decide (y < 0) = true := decide_eq_true h
  clear hM
  go_enter Tryd.func15, Tryd.ntmps15
  go_wp2_with (go_at_call 12; refine (len_m lb base v L _ HM.out).mono ?_; rintro e w2 ⟨rfl, rfl⟩)
  go_returns
  exact ⟨rfl, Fr.refl _ _⟩
set_option maxRecDepth 100000 in
set_option maxHeartbeats 6400000 in
theorem incl_e2 (lb base : Nat) (v : Value) (L : List (List UInt8)) (y z : Int) (h0 : 0 ≤ y) (h : z ≤ y) (w : World) (hM : LM w lb base v L) : Calls Tryd.prog 15 #[.pointer (some ⟨lb, 0, none⟩), .int .i64 y, .int .i64 z] w fun e w' => e = .returned (.tuple #[.slice none 0 0, .int .i64 1]) ∧ Fr (fun _ => False) w w' := by
  have HM := Lib.hid hM
  have t1 : decide (y < 0) = false := decide_eq_false (by omega)
  have q1 : ¬ (y < 0) := by omega
  have t2 : decide (z ≤ y) = true := decide_eq_true h
  clear hM
  go_enter Tryd.func15, Tryd.ntmps15
  go_wp2_with (go_at_call 12; refine (len_m lb base v L _ HM.out).mono ?_; rintro e w2 ⟨rfl, rfl⟩)
  go_returns
  exact ⟨rfl, Fr.refl _ _⟩
set_option maxRecDepth 100000 in
set_option maxHeartbeats 6400000 in
theorem incl_e3 (lb base : Nat) (v : Value) (L : List (List UInt8)) (y z : Int) (h0 : 0 ≤ y) (h1 : y < z) (h : (L.length : Int) < z) (w : World) (hM : LM w lb base v L) : Calls Tryd.prog 15 #[.pointer (some ⟨lb, 0, none⟩), .int .i64 y, .int .i64 z] w fun e w' => e = .returned (.tuple #[.slice none 0 0, .int .i64 1]) ∧ Fr (fun _ => False) w w' := by
  have HM := Lib.hid hM
  have t1 : decide (y < 0) = false := decide_eq_false (by omega)
  have q1 : ¬ (y < 0) := by omega
  have t2 : decide (z ≤ y) = false := decide_eq_false (by omega)
  have q2 : ¬ (z ≤ y) := by omega
  have t3 : decide ((L.length : Int) < z) = true := decide_eq_true h
  clear hM
  go_enter Tryd.func15, Tryd.ntmps15
  go_wp2_with (go_at_call 12; refine (len_m lb base v L _ HM.out).mono ?_; rintro e w2 ⟨rfl, rfl⟩)
  go_returns
  exact ⟨rfl, Fr.refl _ _⟩
set_option maxRecDepth 100000 in
set_option maxHeartbeats 6400000 in
theorem cons_e1 (lb base : Nat) (v : Value) (L : List (List UInt8)) (y z : Int) (h : y < 0) (w : World) (hM : LM w lb base v L) : Calls Tryd.prog 16 #[.pointer (some ⟨lb, 0, none⟩), .int .i64 y, .int .i64 z] w fun e w' => e = .returned (.tuple #[.slice none 0 0, .int .i64 1]) ∧ Fr (fun _ => False) w w' := by
  have HM := Lib.hid hM
  have t1 : decide (y < 0) = true := decide_eq_true h
  clear hM
  go_enter Tryd.func16, Tryd.ntmps16
  go_wp2_with (go_at_call 12; refine (len_m lb base v L _ HM.out).mono ?_; rintro e w2 ⟨rfl, rfl⟩)
  go_returns
  exact ⟨rfl, Fr.refl _ _⟩
set_option maxRecDepth 100000 in
set_option maxHeartbeats 6400000 in
theorem cons_e2 (lb base : Nat) (v : Value) (L : List (List UInt8)) (y z : Int) (h0 : 0 ≤ y) (h : z < y) (w : World) (hM : LM w lb base v L) : Calls Tryd.prog 16 #[.pointer (some ⟨lb, 0, none⟩), .int .i64 y, .int .i64 z] w fun e w' => e = .returned (.tuple #[.slice none 0 0, .int .i64 1]) ∧ Fr (fun _ => False) w w' := by
  have HM := Lib.hid hM
  have t1 : decide (y < 0) = false := decide_eq_false (by omega)
  have q1 : ¬ (y < 0) := by omega
  have t2 : decide (z < y) = true := decide_eq_true h
  clear hM
  go_enter Tryd.func16, Tryd.ntmps16
  go_wp2_with (go_at_call 12; refine (len_m lb base v L _ HM.out).mono ?_; rintro e w2 ⟨rfl, rfl⟩)
  go_returns
  exact ⟨rfl, Fr.refl _ _⟩
set_option maxRecDepth 100000 in
set_option maxHeartbeats 6400000 in
theorem cons_e3 (lb base : Nat) (v : Value) (L : List (List UInt8)) (y z : Int) (h0 : 0 ≤ y) (h1 : y ≤ z) (h : (L.length : Int) < z) (w : World) (hM : LM w lb base v L) : Calls Tryd.prog 16 #[.pointer (some ⟨lb, 0, none⟩), .int .i64 y, .int .i64 z] w fun e w' => e = .returned (.tuple #[.slice none 0 0, .int .i64 1]) ∧ Fr (fun _ => False) w w' := by
  have HM := Lib.hid hM
  have t1 : decide (y < 0) = false := decide_eq_false (by omega)
  have q1 : ¬ (y < 0) := by omega
  have t2 : decide (z < y) = false := decide_eq_false (by omega)
  have q2 : ¬ (z < y) := by omega
  have t3 : decide ((L.length : Int) < z) = true := decide_eq_true h
  clear hM
  go_enter Tryd.func16, Tryd.ntmps16
  go_wp2_with (go_at_call 12; refine (len_m lb base v L _ HM.out).mono ?_; rintro e w2 ⟨rfl, rfl⟩)
  go_returns
  exact ⟨rfl, Fr.refl _ _⟩
set_option maxRecDepth 100000 in
set_option maxHeartbeats 6400000 in
theorem cons_zero (lb base : Nat) (v : Value) (L : List (List UInt8)) (n : Nat) (hn : n ≤ L.length) (w : World) (hM : LM w lb base v L) : Calls Tryd.prog 16 #[.pointer (some ⟨lb, 0, none⟩), .int .i64 0, .int .i64 (n : Int)] w fun e w' => e = .returned (.tuple #[.slice none 0 0, .int .i64 0]) ∧ Fr (fun _ => False) w w' := by
  have HM := Lib.hid hM
  have q3 : ¬ ((n : Int) < 0) := by omega
  have t3 : decide ((n : Int) < 0) = false := decide_eq_false q3
  have q5 : ¬ ((L.length : Int) < (n : Int)) := by omega
  have q6 : ¬ (L.length < n) := by omega
  have t6 : decide (L.length < n) = false := decide_eq_false q6
  clear hM hn
  go_enter Tryd.func16, Tryd.ntmps16
  go_wp2_with (go_at_call 12; refine (len_m lb base v L _ HM.out).mono ?_; rintro e w2 ⟨rfl, rfl⟩)
  go_returns
  exact ⟨rfl, Fr.refl _ _⟩
end Go.Proofs.YtjndkjgbplpfeaaDoor
namespace Go.Proofs.YtjndkjgbplpfeaaDoor
open Go.RowKit
set_option linter.unusedVariables false
set_option linter.unusedSimpArgs false
def chkI (s : List UInt8) (i n : Nat) (P : List (List UInt8)) (root : List UInt8) : Int := if (Lg.climb z32 s i n P.reverse).2 = true ∧ ((Lg.climb z32 s i n P.reverse).1 == root) = true then 0 else 17
def chkC (m n : Nat) (P : List (List UInt8)) (old root : List UInt8) : Int := if (Lg.both z32 old m n true P.reverse).2.2 = true ∧ ((Lg.both z32 old m n true P.reverse).1 == old) = true ∧ ((Lg.both z32 old m n true P.reverse).2.1 == root) = true then 0 else 17
def chkN (n : Int) (P : List (List UInt8)) (old root : List UInt8) : Int := if P.length = 0 ∧ (old == Lg.none') = true ∧ (n = 0 → (root == old) = true) then 0 else 17
set_option maxRecDepth 100000 in
theorem wpList_load_row_gd {P : Program} {ops : Array Oper} {rest : List Oper} {o : Oper} {a : Act} {w : World} {Q : Exit → Act → World → Prop} (hw : Region.wanted o (yielded ops a.tmps) = true) (ty : TypeId) (x : Operand) (ho : o.op = .load ty x) (g : Nat) (hx : a.eval x = .pointer (some ⟨g, 0, none⟩)) (T : TypeId) (cs : Array Value) (fr : Nat × Nat) (d : TypeDesc)
    (hg : w.heap[g]? = some (.cells cs T fr)) (hu : P.underlying ty = some d) (hd : (match d with | .struct _ | .array _ _ => true | _ => false) = true) (hi : (P.info? ty).map (·.size) = some cs.size) (h : wpList P ops Q rest (a.put o.dst (.agg cs)) w) : wpList P ops Q (o :: rest) a w := by
  unfold wpList
  rw [if_pos hw]
  refine .inl ?_
  unfold Oper.wp execOp
  simp only [ho, hx, Instr.loadAt, Instr.sureAddr, Sem.run_bind, Sem.run_pure, Result.andThen_ok, run_loadVar_row w g T ty cs fr d hg hu hd hi, Oper.upon]
  exact h
set_option maxRecDepth 100000 in
set_option maxHeartbeats 6400000 in
theorem chki_bad (a a2 : Option Addr) (n1 c1 n2 c2 : Nat) (y z : Int) (root : List UInt8) (hr : root.length = 32) (h : y < 0 ∨ z ≤ y) (w : World) : Calls Tryd.prog 20 #[.slice a n1 c1, .int .i64 y, .int .i64 z, .slice a2 n2 c2, .agg (krow root)] w fun e w' => e = .returned (.int .i64 1) ∧ Fr (fun _ => False) w w' := by
  have s1 := sz32' hr
  have F0 := Lib.hid ((Fr.refl (fun _ => False) w).alloc (.cells (krow root) 31))
  by_cases hy : y < 0
  · have t1 : decide (y < 0) = true := decide_eq_true hy
    clear h hr
    go_enter Tryd.func20, Tryd.ntmps20
    go_wp2_with fail
    go_ret
    exact ⟨rfl, F0.out⟩
  · have t1 : decide (y < 0) = false := decide_eq_false hy
    have q1 : ¬ (y < 0) := hy
    have t2 : decide (z ≤ y) = true := decide_eq_true (by omega)
    clear h hr hy
    go_enter Tryd.func20, Tryd.ntmps20
    go_wp2_with fail
    go_ret
    exact ⟨rfl, F0.out⟩
set_option maxRecDepth 100000 in
set_option maxHeartbeats 6400000 in
theorem chki_any (a a2 : Option Addr) (n1 c1 c2 : Nat) (l : List UInt8) (P : List (List UInt8)) (i n : Nat) (root : List UInt8) (hr : root.length = 32) (hin : i < n) (n9 : n ≤ 9223372036854775807) (w : World) (hC : Came w a n1 c1 l) (hn1 : n1 ≤ 100000) (hP : P.length ≤ c2) (hm : c2 ≤ maxLen) (hK : Kv w a2 P) (hE : Env w) : Calls Tryd.prog 20 #[.slice a n1 c1, .int .i64 (i : Int), .int .i64 (n : Int), .slice a2 P.length c2, .agg (krow root)] w fun e w' => e = .returned (.int .i64 (chkI (Lg.leaf l) i n P root)) ∧ Fr (fun _ => False) w w' := by
  have s1 := sz32' hr
  have F0 := (Fr.refl (fun _ => False) w).alloc (.cells (krow root) 31)
  have HB := Lib.hid (heap_alloc_new w (.cells (krow root) 31))
  have HC := Lib.hid (hC.ext F0)
  have HE := Lib.hid (hE.ext F0)
  have HK := Lib.hid (show Kv (w.alloc (.cells (krow root) 31)) a2 P.reverse.reverse by rw [List.reverse_reverse]; exact hK.ext F0)
  have HF := Lib.hid F0
  have HR := Lib.hid hr
  have hcl := climb_any (Lg.leaf l) (Lg.leaf_len l) P.reverse
  rw [List.length_reverse] at hcl
  have HCL := Lib.hid hcl
  have HYL := Lib.hid (Lg.climb_len (Lg.leaf l) (Lg.leaf_len l) P.reverse i n)
  have HN := Lib.hid (show n1 ≤ 100000 ∧ 1 ≤ n ∧ n ≤ 9223372036854775807 ∧ i < n ∧ P.length ≤ c2 ∧ c2 ≤ maxLen from ⟨hn1, by omega, n9, hin, hP, hm⟩)
  have t1 : decide ((i : Int) < 0) = false := decide_eq_false (by omega)
  have q1 : ¬ ((i : Int) < 0) := by omega
  have q3 : ¬ ((n : Int) ≤ (i : Int)) := by omega
  have q4 : ¬ (n ≤ i) := by omega
  have t4 : decide (n ≤ i) = false := decide_eq_false q4
  clear F0 hC hE hK hr hcl hn1 n9 hin hP hm
  go_enter Tryd.func20, Tryd.ntmps20
  go_wp2_with fail
  generalize (w.alloc (.cells (krow root) 31)) = w1 at *
  refine (entry_any a n1 c1 l w1 HC.out HN.out.1 HE.out).mono ?_
  rintro e w2 ⟨rfl, F2⟩
  have HK2 := Lib.hid (HK.out.ext F2)
  have HE2 := Lib.hid (HE.out.ext F2)
  have HB2 := Lib.hid ((F2.block _ (lt_of_block HB.out) (fun h => h)).trans HB.out)
  have HF2 := Lib.hid (HF.out.trans F2 (fun _ h => h.elim))
  clear F2
  go_wp2_with fail
  refine (HCL.out a2 c2 i n w2 HN.out.2.1 HN.out.2.2.1 HN.out.2.2.2.1 HN.out.2.2.2.2.1 HN.out.2.2.2.2.2 HK2.out HE2.out).mono ?_
  rintro e w3 ⟨rfl, F3⟩
  obtain ⟨Y, hY⟩ : ∃ Y, Y = Lg.climb z32 (Lg.leaf l) i n P.reverse := ⟨_, rfl⟩
  have HY1 := Lib.hid (show Y.1.length = 32 by rw [hY]; exact HYL.out)
  have HV := Lib.hid (show chkI (Lg.leaf l) i n P root = if Y.2 = true ∧ (Y.1 == root) = true then 0 else 17 by rw [hY]; rfl)
  rw [← hY]
  have HB3 := Lib.hid ((F3.block _ (lt_of_block HB2.out) (fun h => h)).trans HB2.out)
  have HF3 := Lib.hid (HF2.out.trans F3 (fun _ h => h.elim))
  clear F3 hY
  go_wp2_with (refine wpList_store_rowA rfl 31 (.tmp 11) (.tmp 27) rfl w3.heap.size (krow Y.1) rfl rfl 31 _ (heap_alloc_new w3 _) (sz32' HY1.out) (by rw [krow_size, HY1.out]; rfl) (krow_one _) ?_; intro w4 B4 F4; refine Hid.out ?_)
  refine Lib.hid ?_
  have Y34 : Fr (fun _ => False) w3 w4 := ((Fr.refl (fun _ => False) w3).alloc _).trans F4 (fun k h => .inr (by rw [h]; exact Nat.le_refl _))
  have HB4 := Lib.hid B4
  have HBR := Lib.hid ((Y34.block _ (lt_of_block HB3.out) (fun h => h)).trans HB3.out)
  have HF4 := Lib.hid (HF3.out.trans Y34 (fun _ h => h.elim))
  clear B4 F4 Y34
  (try simp only [Act.put, List.setIfInBounds_toArray, List.set_cons_zero, List.set_cons_succ])
  obtain ⟨b, hb⟩ : ∃ b, b = Y.2 := ⟨_, rfl⟩
  rw [← hb]
  have HVb := Lib.hid hb
  clear hb
  cases b
  · go_wp2_with fail
    go_ret
    refine ⟨?_, HF4.out⟩
    rw [HV.out, if_neg (by rw [← HVb.out]; simp)]; rfl
  · obtain ⟨q, hq⟩ : ∃ q, q = (Y.1 == root) := ⟨_, rfl⟩
    have y1 := fun w => neq_row HY1.out HR.out w
    rw [← hq] at y1
    have HVq := Lib.hid hq
    clear hq
    cases q
    · go_wp2_with (first | (refine wpList_load_row_gd rfl 31 (.tmp 11) rfl w3.heap.size rfl 31 (krow Y.1) (0, 0) _ HB4.out Tryd.underlying31 rfl (sz32' HY1.out) ?_) | (refine wpList_load_row_gd rfl 31 (.tmp 9) rfl w.heap.size rfl 31 (krow root) (0, 0) _ HBR.out Tryd.underlying31 rfl (sz32' HR.out) ?_))
      go_ret
      refine ⟨?_, HF4.out⟩
      rw [HV.out, if_neg (by rw [← HVq.out]; simp)]; rfl
    · go_wp2_with (first | (refine wpList_load_row_gd rfl 31 (.tmp 11) rfl w3.heap.size rfl 31 (krow Y.1) (0, 0) _ HB4.out Tryd.underlying31 rfl (sz32' HY1.out) ?_) | (refine wpList_load_row_gd rfl 31 (.tmp 9) rfl w.heap.size rfl 31 (krow root) (0, 0) _ HBR.out Tryd.underlying31 rfl (sz32' HR.out) ?_))
      go_ret
      refine ⟨?_, HF4.out⟩
      rw [HV.out, if_pos ⟨HVb.out.symm, HVq.out.symm⟩]; rfl
end Go.Proofs.YtjndkjgbplpfeaaDoor
namespace Go.Proofs.YtjndkjgbplpfeaaDoor
open Go.RowKit
set_option linter.unusedVariables false
set_option linter.unusedSimpArgs false
set_option maxRecDepth 100000 in
set_option maxHeartbeats 6400000 in
theorem chkn_len (n : Int) (a : Option Addr) (c : Nat) (P : List (List UInt8)) (old root : List UInt8) (ho : old.length = 32) (hr : root.length = 32) (h : 0 < P.length) (w : World) (hE : Env w) : Calls Tryd.prog 36 #[.int .i64 n, .slice a P.length c, .agg (krow old), .agg (krow root)] w fun e w' => e = .returned (.int .i64 17) ∧ Fr (fun _ => False) w w' := by
  have s1 := sz32' ho
  have s2 := sz32' hr
  have F0 := ((Fr.refl (fun _ => False) w).alloc (.cells (krow old) 31)).alloc (.cells (krow root) 31)
  have HB0 := Lib.hid (heap_alloc2_old w (.cells (krow old) 31) (.cells (krow root) 31))
  have HB1 := Lib.hid (heap_alloc2_new w (.cells (krow old) 31) (.cells (krow root) 31))
  have HE := Lib.hid (hE.ext F0)
  have HF := Lib.hid F0
  have HO := Lib.hid ho
  have HR := Lib.hid hr
  have HRT := Lib.hid (fun (W : World) (h : Env W) => root_none none 0 W h)
  rw [show Lg.root [] = Lg.none' from Lg.root_nil] at HRT
  obtain ⟨N0, hN0⟩ : ∃ N0, N0 = Lg.none' := ⟨_, rfl⟩
  have HNL := Lib.hid (show N0.length = 32 by rw [hN0]; rfl)
  obtain ⟨k, hk⟩ : ∃ k, k = P.length := ⟨_, rfl⟩
  rw [← hk]
  have t0 : decide ((0 : Int) < (k : Int)) = true := decide_eq_true (by rw [hk]; omega)
  have q0 : (0 : Int) < (k : Int) := by rw [hk]; omega
  have q0b : 0 < k := by omega
  clear h
  rw [← hN0] at HRT
  clear F0 hE ho hr hN0 hk
  go_enter Tryd.func36, Tryd.ntmps36
  go_wp2_with fail
  generalize ((w.alloc (.cells (krow old) 31)).alloc (.cells (krow root) 31)) = w1 at *
  refine Ks.wp_region_mono (fun _ => False) (sg 0 17 ++ ([])) (by kernel_rfl) (by kernel_rfl) ?_
  refine Ks.Wk.seg 0 17 (by kernel_rfl) (by kernel_rfl) ?_
  apply Exists.intro
  refine ⟨?wk0, ?fin0⟩
  case wk0 =>
    intro γ
    have HRz := fun (z : Ks.Ws γ) => HRT.out z.w (HE.out.ext z.h)
    simp only [List.drop_succ_cons, List.drop_zero, List.take_succ_cons, List.take_zero]
    repeat (any_goals (first | (focus (go_big_quiet_want; (refine Ks.quiet_load_rows 31 (.tmp 6) rfl w.heap.size rfl 31 (krow old) (0, 0) _ HB0.out (fun h => h) Tryd.underlying31 rfl (sz32' HO.out) ?_); simp only [Act.put, List.setIfInBounds_toArray, List.set_cons_zero, List.set_cons_succ]; go_big_quiet_on)) | (focus (go_big_quiet_want; (refine Ks.quiet_load_rows 31 (.tmp 7) rfl (w.heap.size + 1) rfl 31 (krow root) (0, 0) _ HB1.out (fun h => h) Tryd.underlying31 rfl (sz32' HR.out) ?_); simp only [Act.put, List.setIfInBounds_toArray, List.set_cons_zero, List.set_cons_succ]; go_big_quiet_on)) | go_big_quiet_step (exact Ks.Calls.keeps (HRz _)) | quiet_step (exact Ks.Calls.keeps (HRz _))))
    exact wpQuiet_nil rfl
  case fin0 =>
  (try simp only [Act.put, List.setIfInBounds_toArray, List.set_cons_zero, List.set_cons_succ])
  intro w5 X5
  have HX := Lib.hid (HF.out.trans X5 (fun _ h => h.elim))
  clear X5
  go_wp2_with fail
  go_ret
  exact ⟨rfl, HX.out⟩
set_option maxRecDepth 100000 in
set_option maxHeartbeats 6400000 in
theorem chkn_old (n : Int) (a : Option Addr) (c : Nat) (P : List (List UInt8)) (old root : List UInt8) (ho : old.length = 32) (hr : root.length = 32) (h : P.length = 0) (h2 : (old == Lg.none') = false) (w : World) (hE : Env w) : Calls Tryd.prog 36 #[.int .i64 n, .slice a P.length c, .agg (krow old), .agg (krow root)] w fun e w' => e = .returned (.int .i64 17) ∧ Fr (fun _ => False) w w' := by
  have s1 := sz32' ho
  have s2 := sz32' hr
  have F0 := ((Fr.refl (fun _ => False) w).alloc (.cells (krow old) 31)).alloc (.cells (krow root) 31)
  have HB0 := Lib.hid (heap_alloc2_old w (.cells (krow old) 31) (.cells (krow root) 31))
  have HB1 := Lib.hid (heap_alloc2_new w (.cells (krow old) 31) (.cells (krow root) 31))
  have HE := Lib.hid (hE.ext F0)
  have HF := Lib.hid F0
  have HO := Lib.hid ho
  have HR := Lib.hid hr
  have HRT := Lib.hid (fun (W : World) (h : Env W) => root_none none 0 W h)
  rw [show Lg.root [] = Lg.none' from Lg.root_nil] at HRT
  obtain ⟨N0, hN0⟩ : ∃ N0, N0 = Lg.none' := ⟨_, rfl⟩
  have HNL := Lib.hid (show N0.length = 32 by rw [hN0]; rfl)
  obtain ⟨k, hk⟩ : ∃ k, k = P.length := ⟨_, rfl⟩
  rw [← hk]
  have t0 : decide ((0 : Int) < (k : Int)) = false := decide_eq_false (by rw [hk]; omega)
  have q0 : ¬ ((0 : Int) < (k : Int)) := by rw [hk]; omega
  have q0b : ¬ (0 < k) := by omega
  have t0b : decide (0 < k) = false := decide_eq_false q0b
  have t0c : k = 0 := by omega
  subst t0c
  have y1 : ∀ w : World, (binOp .neq 31 (.agg (krow old)) (.agg (krow N0))).run Tryd.prog w = .ok (.bool true) w := fun w => by rw [neq_row HO.out HNL.out, hN0, h2]; rfl
  clear h2 h
  rw [← hN0] at HRT
  clear F0 hE ho hr hN0 hk
  go_enter Tryd.func36, Tryd.ntmps36
  go_wp2_with fail
  generalize ((w.alloc (.cells (krow old) 31)).alloc (.cells (krow root) 31)) = w1 at *
  refine Ks.wp_region_mono (fun _ => False) (sg 0 17 ++ ([])) (by kernel_rfl) (by kernel_rfl) ?_
  refine Ks.Wk.seg 0 17 (by kernel_rfl) (by kernel_rfl) ?_
  apply Exists.intro
  refine ⟨?wk0, ?fin0⟩
  case wk0 =>
    intro γ
    have HRz := fun (z : Ks.Ws γ) => HRT.out z.w (HE.out.ext z.h)
    simp only [List.drop_succ_cons, List.drop_zero, List.take_succ_cons, List.take_zero]
    repeat (any_goals (first | (focus (go_big_quiet_want; (refine Ks.quiet_load_rows 31 (.tmp 6) rfl w.heap.size rfl 31 (krow old) (0, 0) _ HB0.out (fun h => h) Tryd.underlying31 rfl (sz32' HO.out) ?_); simp only [Act.put, List.setIfInBounds_toArray, List.set_cons_zero, List.set_cons_succ]; go_big_quiet_on)) | (focus (go_big_quiet_want; (refine Ks.quiet_load_rows 31 (.tmp 7) rfl (w.heap.size + 1) rfl 31 (krow root) (0, 0) _ HB1.out (fun h => h) Tryd.underlying31 rfl (sz32' HR.out) ?_); simp only [Act.put, List.setIfInBounds_toArray, List.set_cons_zero, List.set_cons_succ]; go_big_quiet_on)) | go_big_quiet_step (exact Ks.Calls.keeps (HRz _)) | quiet_step (exact Ks.Calls.keeps (HRz _))))
    exact wpQuiet_nil rfl
  case fin0 =>
  (try simp only [Act.put, List.setIfInBounds_toArray, List.set_cons_zero, List.set_cons_succ])
  intro w5 X5
  have HX := Lib.hid (HF.out.trans X5 (fun _ h => h.elim))
  clear X5
  go_wp2_with fail
  go_ret
  exact ⟨rfl, HX.out⟩
set_option maxRecDepth 100000 in
set_option maxHeartbeats 6400000 in
theorem chkn_pos (n : Int) (a : Option Addr) (c : Nat) (P : List (List UInt8)) (old root : List UInt8) (ho : old.length = 32) (hr : root.length = 32) (h : P.length = 0) (h2 : (old == Lg.none') = true) (h3 : n ≠ 0) (w : World) (hE : Env w) : Calls Tryd.prog 36 #[.int .i64 n, .slice a P.length c, .agg (krow old), .agg (krow root)] w fun e w' => e = .returned (.int .i64 0) ∧ Fr (fun _ => False) w w' := by
  have s1 := sz32' ho
  have s2 := sz32' hr
  have F0 := ((Fr.refl (fun _ => False) w).alloc (.cells (krow old) 31)).alloc (.cells (krow root) 31)
  have HB0 := Lib.hid (heap_alloc2_old w (.cells (krow old) 31) (.cells (krow root) 31))
  have HB1 := Lib.hid (heap_alloc2_new w (.cells (krow old) 31) (.cells (krow root) 31))
  have HE := Lib.hid (hE.ext F0)
  have HF := Lib.hid F0
  have HO := Lib.hid ho
  have HR := Lib.hid hr
  have HRT := Lib.hid (fun (W : World) (h : Env W) => root_none none 0 W h)
  rw [show Lg.root [] = Lg.none' from Lg.root_nil] at HRT
  obtain ⟨N0, hN0⟩ : ∃ N0, N0 = Lg.none' := ⟨_, rfl⟩
  have HNL := Lib.hid (show N0.length = 32 by rw [hN0]; rfl)
  obtain ⟨k, hk⟩ : ∃ k, k = P.length := ⟨_, rfl⟩
  rw [← hk]
  have t0 : decide ((0 : Int) < (k : Int)) = false := decide_eq_false (by rw [hk]; omega)
  have q0 : ¬ ((0 : Int) < (k : Int)) := by rw [hk]; omega
  have q0b : ¬ (0 < k) := by omega
  have t0b : decide (0 < k) = false := decide_eq_false q0b
  have t0c : k = 0 := by omega
  subst t0c
  have y1 : ∀ w : World, (binOp .neq 31 (.agg (krow old)) (.agg (krow N0))).run Tryd.prog w = .ok (.bool false) w := fun w => by rw [neq_row HO.out HNL.out, hN0, h2]; rfl
  have b3 : (n == 0) = false := beq_eq_false_iff_ne.2 h3
  clear h2 h h3
  rw [← hN0] at HRT
  clear F0 hE ho hr hN0 hk
  go_enter Tryd.func36, Tryd.ntmps36
  go_wp2_with fail
  generalize ((w.alloc (.cells (krow old) 31)).alloc (.cells (krow root) 31)) = w1 at *
  refine Ks.wp_region_mono (fun _ => False) (sg 0 17 ++ ([])) (by kernel_rfl) (by kernel_rfl) ?_
  refine Ks.Wk.seg 0 17 (by kernel_rfl) (by kernel_rfl) ?_
  apply Exists.intro
  refine ⟨?wk0, ?fin0⟩
  case wk0 =>
    intro γ
    have HRz := fun (z : Ks.Ws γ) => HRT.out z.w (HE.out.ext z.h)
    simp only [List.drop_succ_cons, List.drop_zero, List.take_succ_cons, List.take_zero]
    repeat (any_goals (first | (focus (go_big_quiet_want; (refine Ks.quiet_load_rows 31 (.tmp 6) rfl w.heap.size rfl 31 (krow old) (0, 0) _ HB0.out (fun h => h) Tryd.underlying31 rfl (sz32' HO.out) ?_); simp only [Act.put, List.setIfInBounds_toArray, List.set_cons_zero, List.set_cons_succ]; go_big_quiet_on)) | (focus (go_big_quiet_want; (refine Ks.quiet_load_rows 31 (.tmp 7) rfl (w.heap.size + 1) rfl 31 (krow root) (0, 0) _ HB1.out (fun h => h) Tryd.underlying31 rfl (sz32' HR.out) ?_); simp only [Act.put, List.setIfInBounds_toArray, List.set_cons_zero, List.set_cons_succ]; go_big_quiet_on)) | go_big_quiet_step (exact Ks.Calls.keeps (HRz _)) | quiet_step (exact Ks.Calls.keeps (HRz _))))
    exact wpQuiet_nil rfl
  case fin0 =>
  (try simp only [Act.put, List.setIfInBounds_toArray, List.set_cons_zero, List.set_cons_succ])
  intro w5 X5
  have HX := Lib.hid (HF.out.trans X5 (fun _ h => h.elim))
  clear X5
  go_wp2_with fail
  go_ret
  exact ⟨rfl, HX.out⟩
set_option maxRecDepth 100000 in
set_option maxHeartbeats 6400000 in
theorem chkn_eq (n : Int) (a : Option Addr) (c : Nat) (P : List (List UInt8)) (old root : List UInt8) (ho : old.length = 32) (hr : root.length = 32) (h : P.length = 0) (h2 : (old == Lg.none') = true) (h3 : n = 0) (h4 : (root == old) = true) (w : World) (hE : Env w) : Calls Tryd.prog 36 #[.int .i64 n, .slice a P.length c, .agg (krow old), .agg (krow root)] w fun e w' => e = .returned (.int .i64 0) ∧ Fr (fun _ => False) w w' := by
  have s1 := sz32' ho
  have s2 := sz32' hr
  have F0 := ((Fr.refl (fun _ => False) w).alloc (.cells (krow old) 31)).alloc (.cells (krow root) 31)
  have HB0 := Lib.hid (heap_alloc2_old w (.cells (krow old) 31) (.cells (krow root) 31))
  have HB1 := Lib.hid (heap_alloc2_new w (.cells (krow old) 31) (.cells (krow root) 31))
  have HE := Lib.hid (hE.ext F0)
  have HF := Lib.hid F0
  have HO := Lib.hid ho
  have HR := Lib.hid hr
  have HRT := Lib.hid (fun (W : World) (h : Env W) => root_none none 0 W h)
  rw [show Lg.root [] = Lg.none' from Lg.root_nil] at HRT
  obtain ⟨N0, hN0⟩ : ∃ N0, N0 = Lg.none' := ⟨_, rfl⟩
  have HNL := Lib.hid (show N0.length = 32 by rw [hN0]; rfl)
  obtain ⟨k, hk⟩ : ∃ k, k = P.length := ⟨_, rfl⟩
  rw [← hk]
  have t0 : decide ((0 : Int) < (k : Int)) = false := decide_eq_false (by rw [hk]; omega)
  have q0 : ¬ ((0 : Int) < (k : Int)) := by rw [hk]; omega
  have q0b : ¬ (0 < k) := by omega
  have t0b : decide (0 < k) = false := decide_eq_false q0b
  have t0c : k = 0 := by omega
  subst t0c
  have y1 : ∀ w : World, (binOp .neq 31 (.agg (krow old)) (.agg (krow N0))).run Tryd.prog w = .ok (.bool false) w := fun w => by rw [neq_row HO.out HNL.out, hN0, h2]; rfl
  have y2 : ∀ w : World, (binOp .neq 31 (.agg (krow root)) (.agg (krow old))).run Tryd.prog w = .ok (.bool false) w := fun w => by rw [neq_row HR.out HO.out, h4]; rfl
  subst h3
  clear h2 h h4
  rw [← hN0] at HRT
  clear F0 hE ho hr hN0 hk
  go_enter Tryd.func36, Tryd.ntmps36
  go_wp2_with fail
  generalize ((w.alloc (.cells (krow old) 31)).alloc (.cells (krow root) 31)) = w1 at *
  refine Ks.wp_region_mono (fun _ => False) (sg 0 17 ++ ([])) (by kernel_rfl) (by kernel_rfl) ?_
  refine Ks.Wk.seg 0 17 (by kernel_rfl) (by kernel_rfl) ?_
  apply Exists.intro
  refine ⟨?wk0, ?fin0⟩
  case wk0 =>
    intro γ
    have HRz := fun (z : Ks.Ws γ) => HRT.out z.w (HE.out.ext z.h)
    simp only [List.drop_succ_cons, List.drop_zero, List.take_succ_cons, List.take_zero]
    repeat (any_goals (first | (focus (go_big_quiet_want; (refine Ks.quiet_load_rows 31 (.tmp 6) rfl w.heap.size rfl 31 (krow old) (0, 0) _ HB0.out (fun h => h) Tryd.underlying31 rfl (sz32' HO.out) ?_); simp only [Act.put, List.setIfInBounds_toArray, List.set_cons_zero, List.set_cons_succ]; go_big_quiet_on)) | (focus (go_big_quiet_want; (refine Ks.quiet_load_rows 31 (.tmp 7) rfl (w.heap.size + 1) rfl 31 (krow root) (0, 0) _ HB1.out (fun h => h) Tryd.underlying31 rfl (sz32' HR.out) ?_); simp only [Act.put, List.setIfInBounds_toArray, List.set_cons_zero, List.set_cons_succ]; go_big_quiet_on)) | go_big_quiet_step (exact Ks.Calls.keeps (HRz _)) | quiet_step (exact Ks.Calls.keeps (HRz _))))
    exact wpQuiet_nil rfl
  case fin0 =>
  (try simp only [Act.put, List.setIfInBounds_toArray, List.set_cons_zero, List.set_cons_succ])
  intro w5 X5
  have HX := Lib.hid (HF.out.trans X5 (fun _ h => h.elim))
  clear X5
  go_wp2_with fail
  go_ret
  exact ⟨rfl, HX.out⟩
set_option maxRecDepth 100000 in
set_option maxHeartbeats 6400000 in
theorem chkn_ne (n : Int) (a : Option Addr) (c : Nat) (P : List (List UInt8)) (old root : List UInt8) (ho : old.length = 32) (hr : root.length = 32) (h : P.length = 0) (h2 : (old == Lg.none') = true) (h3 : n = 0) (h4 : (root == old) = false) (w : World) (hE : Env w) : Calls Tryd.prog 36 #[.int .i64 n, .slice a P.length c, .agg (krow old), .agg (krow root)] w fun e w' => e = .returned (.int .i64 17) ∧ Fr (fun _ => False) w w' := by
  have s1 := sz32' ho
  have s2 := sz32' hr
  have F0 := ((Fr.refl (fun _ => False) w).alloc (.cells (krow old) 31)).alloc (.cells (krow root) 31)
  have HB0 := Lib.hid (heap_alloc2_old w (.cells (krow old) 31) (.cells (krow root) 31))
  have HB1 := Lib.hid (heap_alloc2_new w (.cells (krow old) 31) (.cells (krow root) 31))
  have HE := Lib.hid (hE.ext F0)
  have HF := Lib.hid F0
  have HO := Lib.hid ho
  have HR := Lib.hid hr
  have HRT := Lib.hid (fun (W : World) (h : Env W) => root_none none 0 W h)
  rw [show Lg.root [] = Lg.none' from Lg.root_nil] at HRT
  obtain ⟨N0, hN0⟩ : ∃ N0, N0 = Lg.none' := ⟨_, rfl⟩
  have HNL := Lib.hid (show N0.length = 32 by rw [hN0]; rfl)
  obtain ⟨k, hk⟩ : ∃ k, k = P.length := ⟨_, rfl⟩
  rw [← hk]
  have t0 : decide ((0 : Int) < (k : Int)) = false := decide_eq_false (by rw [hk]; omega)
  have q0 : ¬ ((0 : Int) < (k : Int)) := by rw [hk]; omega
  have q0b : ¬ (0 < k) := by omega
  have t0b : decide (0 < k) = false := decide_eq_false q0b
  have t0c : k = 0 := by omega
  subst t0c
  have y1 : ∀ w : World, (binOp .neq 31 (.agg (krow old)) (.agg (krow N0))).run Tryd.prog w = .ok (.bool false) w := fun w => by rw [neq_row HO.out HNL.out, hN0, h2]; rfl
  have y2 : ∀ w : World, (binOp .neq 31 (.agg (krow root)) (.agg (krow old))).run Tryd.prog w = .ok (.bool true) w := fun w => by rw [neq_row HR.out HO.out, h4]; rfl
  subst h3
  clear h2 h h4
  rw [← hN0] at HRT
  clear F0 hE ho hr hN0 hk
  go_enter Tryd.func36, Tryd.ntmps36
  go_wp2_with fail
  generalize ((w.alloc (.cells (krow old) 31)).alloc (.cells (krow root) 31)) = w1 at *
  refine Ks.wp_region_mono (fun _ => False) (sg 0 17 ++ ([])) (by kernel_rfl) (by kernel_rfl) ?_
  refine Ks.Wk.seg 0 17 (by kernel_rfl) (by kernel_rfl) ?_
  apply Exists.intro
  refine ⟨?wk0, ?fin0⟩
  case wk0 =>
    intro γ
    have HRz := fun (z : Ks.Ws γ) => HRT.out z.w (HE.out.ext z.h)
    simp only [List.drop_succ_cons, List.drop_zero, List.take_succ_cons, List.take_zero]
    repeat (any_goals (first | (focus (go_big_quiet_want; (refine Ks.quiet_load_rows 31 (.tmp 6) rfl w.heap.size rfl 31 (krow old) (0, 0) _ HB0.out (fun h => h) Tryd.underlying31 rfl (sz32' HO.out) ?_); simp only [Act.put, List.setIfInBounds_toArray, List.set_cons_zero, List.set_cons_succ]; go_big_quiet_on)) | (focus (go_big_quiet_want; (refine Ks.quiet_load_rows 31 (.tmp 7) rfl (w.heap.size + 1) rfl 31 (krow root) (0, 0) _ HB1.out (fun h => h) Tryd.underlying31 rfl (sz32' HR.out) ?_); simp only [Act.put, List.setIfInBounds_toArray, List.set_cons_zero, List.set_cons_succ]; go_big_quiet_on)) | go_big_quiet_step (exact Ks.Calls.keeps (HRz _)) | quiet_step (exact Ks.Calls.keeps (HRz _))))
    exact wpQuiet_nil rfl
  case fin0 =>
  (try simp only [Act.put, List.setIfInBounds_toArray, List.set_cons_zero, List.set_cons_succ])
  intro w5 X5
  have HX := Lib.hid (HF.out.trans X5 (fun _ h => h.elim))
  clear X5
  go_wp2_with fail
  go_ret
  exact ⟨rfl, HX.out⟩
set_option maxRecDepth 100000 in
theorem chkn_any (n : Int) (a : Option Addr) (c : Nat) (P : List (List UInt8)) (old root : List UInt8) (ho : old.length = 32) (hr : root.length = 32) (w : World) (hE : Env w) : Calls Tryd.prog 36 #[.int .i64 n, .slice a P.length c, .agg (krow old), .agg (krow root)] w fun e w' => e = .returned (.int .i64 (chkN n P old root)) ∧ Fr (fun _ => False) w w' := by
  unfold chkN
  by_cases h : P.length = 0
  · cases h2 : old == Lg.none'
    · rw [if_neg (by simp)]; exact chkn_old n a c P old root ho hr h h2 w hE
    · by_cases h3 : n = 0
      · cases h4 : root == old
        · rw [if_neg (fun hh => by have := hh.2.2 h3; simp at this)]; exact chkn_ne n a c P old root ho hr h h2 h3 h4 w hE
        · rw [if_pos ⟨h, rfl, fun _ => rfl⟩]; exact chkn_eq n a c P old root ho hr h h2 h3 h4 w hE
      · rw [if_pos ⟨h, rfl, fun e => absurd e h3⟩]; exact chkn_pos n a c P old root ho hr h h2 h3 w hE
  · rw [if_neg (fun hh => h hh.1)]; exact chkn_len n a c P old root ho hr (by omega) w hE
set_option maxRecDepth 100000 in
set_option maxHeartbeats 6400000 in
theorem chkc_bad (m n : Int) (a : Option Addr) (P : List (List UInt8)) (c : Nat) (old root : List UInt8) (ho : old.length = 32) (hr : root.length = 32) (h : m < 0 ∨ n < m) (w : World) : Calls Tryd.prog 22 #[.int .i64 m, .int .i64 n, .slice a P.length c, .agg (krow old), .agg (krow root)] w fun e w' => e = .returned (.int .i64 1) ∧ Fr (fun _ => False) w w' := by
  have s1 := sz32' ho
  have s2 := sz32' hr
  have F0 := ((Fr.refl (fun _ => False) w).alloc (.cells (krow old) 31)).alloc (.cells (krow root) 31)
  have HB0 := Lib.hid (heap_alloc2_old w (.cells (krow old) 31) (.cells (krow root) 31))
  have HB1 := Lib.hid (heap_alloc2_new w (.cells (krow old) 31) (.cells (krow root) 31))
  have HF := Lib.hid F0
  have HO := Lib.hid ho
  have HR := Lib.hid hr
  by_cases hy : m < 0
  · have t1 : decide (m < 0) = true := decide_eq_true hy
    clear h hr ho F0
    go_enter Tryd.func22, Tryd.ntmps22
    go_wp2_with fail
    go_ret
    exact ⟨rfl, HF.out⟩
  · have t1 : decide (m < 0) = false := decide_eq_false hy
    have q1 : ¬ (m < 0) := hy
    have t2 : decide (n < m) = true := decide_eq_true (by omega)
    clear h hr hy ho F0
    go_enter Tryd.func22, Tryd.ntmps22
    go_wp2_with fail
    go_ret
    exact ⟨rfl, HF.out⟩
set_option maxRecDepth 100000 in
set_option maxHeartbeats 6400000 in
theorem chkc_zero (n : Int) (h0 : 0 ≤ n) (a : Option Addr) (P : List (List UInt8)) (c : Nat) (old root : List UInt8) (ho : old.length = 32) (hr : root.length = 32) (w : World) (hE : Env w) : Calls Tryd.prog 22 #[.int .i64 0, .int .i64 n, .slice a P.length c, .agg (krow old), .agg (krow root)] w fun e w' => e = .returned (.int .i64 (chkN n P old root)) ∧ Fr (fun _ => False) w w' := by
  have s1 := sz32' ho
  have s2 := sz32' hr
  have F0 := ((Fr.refl (fun _ => False) w).alloc (.cells (krow old) 31)).alloc (.cells (krow root) 31)
  have HB0 := Lib.hid (heap_alloc2_old w (.cells (krow old) 31) (.cells (krow root) 31))
  have HB1 := Lib.hid (heap_alloc2_new w (.cells (krow old) 31) (.cells (krow root) 31))
  have HF := Lib.hid F0
  have HO := Lib.hid ho
  have HR := Lib.hid hr
  have HE := Lib.hid (hE.ext F0)
  have t2 : decide (n < 0) = false := decide_eq_false (by omega)
  have q2 : ¬ (n < 0) := by omega
  clear hr ho F0 hE h0
  go_enter Tryd.func22, Tryd.ntmps22
  go_wp2_with (first | (refine wpList_load_row rfl 31 (.tmp 8) rfl w.heap.size rfl 31 (krow old) (0, 0) _ HB0.out Tryd.underlying31 rfl (sz32' HO.out) ?_) | (refine wpList_load_row rfl 31 (.tmp 9) rfl (w.heap.size + 1) rfl 31 (krow root) (0, 0) _ HB1.out Tryd.underlying31 rfl (sz32' HR.out) ?_))
  refine (chkn_any n a c P old root HO.out HR.out _ HE.out).mono ?_
  rintro e w2 ⟨rfl, F2⟩
  have HF2 := Lib.hid (HF.out.trans F2 (fun _ h => h.elim))
  clear F2
  go_wp2_with fail
  go_ret
  exact ⟨rfl, HF2.out⟩
set_option maxRecDepth 100000 in
set_option maxHeartbeats 6400000 in
theorem chkc_any (m n : Nat) (h1 : 1 ≤ m) (hmn : m ≤ n) (n9 : n ≤ 9223372036854775807) (a : Option Addr) (P : List (List UInt8)) (c : Nat) (hc : P.length ≤ c) (hm : c ≤ maxLen) (old root : List UInt8) (ho : old.length = 32) (hr : root.length = 32) (w : World) (hK : Kv w a P) (hE : Env w) : Calls Tryd.prog 22 #[.int .i64 (m : Int), .int .i64 (n : Int), .slice a P.length c, .agg (krow old), .agg (krow root)] w fun e w' => e = .returned (.int .i64 (chkC m n P old root)) ∧ Fr (fun _ => False) w w' := by
  have s1 := sz32' ho
  have s2 := sz32' hr
  have F0 := ((Fr.refl (fun _ => False) w).alloc (.cells (krow old) 31)).alloc (.cells (krow root) 31)
  have HB0 := Lib.hid (heap_alloc2_old w (.cells (krow old) 31) (.cells (krow root) 31))
  have HB1 := Lib.hid (heap_alloc2_new w (.cells (krow old) 31) (.cells (krow root) 31))
  have HF := Lib.hid F0
  have HO := Lib.hid ho
  have HR := Lib.hid hr
  have HE := Lib.hid (hE.ext F0)
  have HK := Lib.hid (show Kv ((w.alloc (.cells (krow old) 31)).alloc (.cells (krow root) 31)) a P.reverse.reverse by rw [List.reverse_reverse]; exact hK.ext F0)
  have hcl := both_any old ho P.reverse
  rw [List.length_reverse] at hcl
  have HCL := Lib.hid hcl
  have HYL := Lib.hid (Lg.both_len old ho P.reverse m n true (fun x hx => hK.all x (by simpa using hx)))
  have HN := Lib.hid (show 1 ≤ m ∧ m ≤ n ∧ n ≤ 9223372036854775807 ∧ P.length ≤ c ∧ c ≤ maxLen from ⟨h1, hmn, n9, hc, hm⟩)
  have t1 : decide ((m : Int) < 0) = false := decide_eq_false (by omega)
  have q1 : ¬ ((m : Int) < 0) := by omega
  have q3 : ¬ ((n : Int) < (m : Int)) := by omega
  have q4 : ¬ (n < m) := by omega
  have t4 : decide (n < m) = false := decide_eq_false q4
  have b0 : ((m : Int) == 0) = false := beq_eq_false_iff_ne.2 (by omega)
  have b1 : (m == 0) = false := beq_eq_false_iff_ne.2 (by omega)
  clear F0 hE hK hr ho hcl h1 hmn n9 hc hm
  go_enter Tryd.func22, Tryd.ntmps22
  go_wp2_with (refine wpList_load_row rfl 31 (.tmp 8) rfl w.heap.size rfl 31 (krow old) (0, 0) _ HB0.out Tryd.underlying31 rfl (sz32' HO.out) ?_)
  generalize ((w.alloc (.cells (krow old) 31)).alloc (.cells (krow root) 31)) = w1 at *
  refine (HCL.out a c m n true w1 HN.out.1 HN.out.2.1 HN.out.2.2.1 HN.out.2.2.2.1 HN.out.2.2.2.2 HK.out HE.out).mono ?_
  rintro e w3 ⟨rfl, F3⟩
  obtain ⟨Y, hY⟩ : ∃ Y, Y = Lg.both z32 old m n true P.reverse := ⟨_, rfl⟩
  have HY1 := Lib.hid (show Y.1.length = 32 by rw [hY]; exact HYL.out.1)
  have HY2 := Lib.hid (show Y.2.1.length = 32 by rw [hY]; exact HYL.out.2)
  have HV := Lib.hid (show chkC m n P old root = if Y.2.2 = true ∧ (Y.1 == old) = true ∧ (Y.2.1 == root) = true then 0 else 17 by rw [hY]; rfl)
  rw [← hY]
  have HB03 := Lib.hid ((F3.block _ (lt_of_block HB0.out) (fun h => h)).trans HB0.out)
  have HB13 := Lib.hid ((F3.block _ (lt_of_block HB1.out) (fun h => h)).trans HB1.out)
  have HF3 := Lib.hid (HF.out.trans F3 (fun _ h => h.elim))
  clear F3 hY
  go_wp2_with (first | (rw [zero32]) | (refine wpList_store_rowA rfl 31 (.tmp 11) (.tmp 34) rfl w3.heap.size (krow Y.1) rfl rfl 31 _ (heap_alloc2_old w3 _ _) (sz32' HY1.out) (by rw [ub_size, krow_size, HY1.out]) (krow_one _) ?_; intro w4 B4 F4; refine Hid.out ?_))
  refine Lib.hid ?_
  have G34 : Fr (fun _ => False) w3 w4 := (((Fr.refl (fun _ => False) w3).alloc _).alloc _).trans F4 (fun k h => .inr (by rw [h]; exact Nat.le_refl _))
  have HB4 := Lib.hid B4
  have HZ4 := Lib.hid ((F4.block (w3.heap.size + 1) (by simp) (fun h => by omega)).trans (heap_alloc2_new w3 _ _))
  have HG34 := Lib.hid G34
  clear B4 F4 G34
  (try simp only [Act.put, List.setIfInBounds_toArray, List.set_cons_zero, List.set_cons_succ])
  go_wp2_with (refine wpList_store_rowA rfl 31 (.tmp 12) (.tmp 35) rfl (w3.heap.size + 1) (krow Y.2.1) rfl rfl 31 _ HZ4.out (sz32' HY2.out) (by rw [ub_size, krow_size, HY2.out]) (krow_one _) ?_; intro w5 B5 F5; refine Hid.out ?_)
  refine Lib.hid ?_
  have G35 : Fr (fun _ => False) w3 w5 := HG34.out.trans F5 (fun k h => .inr (by rw [h]; omega))
  have HB5 := Lib.hid B5
  have HB45 := Lib.hid ((F5.block _ (lt_of_block HB4.out) (fun h => by omega)).trans HB4.out)
  have HB05 := Lib.hid ((G35.block _ (lt_of_block HB03.out) (fun h => h)).trans HB03.out)
  have HB15 := Lib.hid ((G35.block _ (lt_of_block HB13.out) (fun h => h)).trans HB13.out)
  have HF5 := Lib.hid (HF3.out.trans G35 (fun _ h => h.elim))
  clear B5 F5 G35
  (try simp only [Act.put, List.setIfInBounds_toArray, List.set_cons_zero, List.set_cons_succ])
  obtain ⟨b, hb⟩ : ∃ b, b = Y.2.2 := ⟨_, rfl⟩
  rw [← hb]
  have HVb := Lib.hid hb
  clear hb
  cases b
  · go_wp2_with fail
    go_ret
    refine ⟨?_, HF5.out⟩
    rw [HV.out, if_neg (by rw [← HVb.out]; simp)]; rfl
  · obtain ⟨q, hq⟩ : ∃ q, q = (Y.1 == old) := ⟨_, rfl⟩
    have y1 := fun w => neq_row HY1.out HO.out w
    rw [← hq] at y1
    have HVq := Lib.hid hq
    clear hq
    cases q
    · go_wp2_with (first | (refine wpList_load_row_gd rfl 31 (.tmp 11) rfl w3.heap.size rfl 31 (krow Y.1) (0, 0) _ HB45.out Tryd.underlying31 rfl (sz32' HY1.out) ?_) | (refine wpList_load_row_gd rfl 31 (.tmp 8) rfl w.heap.size rfl 31 (krow old) (0, 0) _ HB05.out Tryd.underlying31 rfl (sz32' HO.out) ?_))
      go_ret
      refine ⟨?_, HF5.out⟩
      rw [HV.out, if_neg (by rw [← HVq.out]; simp)]; rfl
    · obtain ⟨p, hp⟩ : ∃ p, p = (Y.2.1 == root) := ⟨_, rfl⟩
      have y2 := fun w => neq_row HY2.out HR.out w
      rw [← hp] at y2
      have HVp := Lib.hid hp
      clear hp
      cases p
      · go_wp2_with (first | (refine wpList_load_row_gd rfl 31 (.tmp 11) rfl w3.heap.size rfl 31 (krow Y.1) (0, 0) _ HB45.out Tryd.underlying31 rfl (sz32' HY1.out) ?_) | (refine wpList_load_row_gd rfl 31 (.tmp 8) rfl w.heap.size rfl 31 (krow old) (0, 0) _ HB05.out Tryd.underlying31 rfl (sz32' HO.out) ?_) | (refine wpList_load_row_gd rfl 31 (.tmp 12) rfl (w3.heap.size + 1) rfl 31 (krow Y.2.1) (0, 0) _ HB5.out Tryd.underlying31 rfl (sz32' HY2.out) ?_) | (refine wpList_load_row_gd rfl 31 (.tmp 9) rfl (w.heap.size + 1) rfl 31 (krow root) (0, 0) _ HB15.out Tryd.underlying31 rfl (sz32' HR.out) ?_))
        go_ret
        refine ⟨?_, HF5.out⟩
        rw [HV.out, if_neg (by rw [← HVp.out]; simp)]; rfl
      · go_wp2_with (first | (refine wpList_load_row_gd rfl 31 (.tmp 11) rfl w3.heap.size rfl 31 (krow Y.1) (0, 0) _ HB45.out Tryd.underlying31 rfl (sz32' HY1.out) ?_) | (refine wpList_load_row_gd rfl 31 (.tmp 8) rfl w.heap.size rfl 31 (krow old) (0, 0) _ HB05.out Tryd.underlying31 rfl (sz32' HO.out) ?_) | (refine wpList_load_row_gd rfl 31 (.tmp 12) rfl (w3.heap.size + 1) rfl 31 (krow Y.2.1) (0, 0) _ HB5.out Tryd.underlying31 rfl (sz32' HY2.out) ?_) | (refine wpList_load_row_gd rfl 31 (.tmp 9) rfl (w.heap.size + 1) rfl 31 (krow root) (0, 0) _ HB15.out Tryd.underlying31 rfl (sz32' HR.out) ?_))
        go_ret
        refine ⟨?_, HF5.out⟩
        rw [HV.out, if_pos ⟨HVb.out.symm, HVq.out.symm, HVp.out.symm⟩]; rfl
end Go.Proofs.YtjndkjgbplpfeaaDoor

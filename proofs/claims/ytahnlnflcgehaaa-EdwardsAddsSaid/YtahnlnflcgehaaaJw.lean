/-
  The law pair of layer 7, over what its callees answer.
-/
import Derived.Test.YtahnlnflcgehaaaJt
namespace Go.Proofs.Ytahnlnflcgehaaa
open Go.RowKit Pri
set_option linter.unusedVariables false
set_option linter.unusedSimpArgs false

/-- What 'make' makes. -/
theorem wpList_make_kn {P : Program} {ops : Array Oper} {rest : List Oper} {a : Act} {w0 w : World} {L : List Bk} {Q : Exit → Act → World → Prop} (K : Kn w0 L w) (t : Tmp) (ty ty2 : TypeId) (l c : Operand) (pos : String) (after : Array Edge) (z : Array Value) (n : Nat) (T : TypeId) {o : Oper}
    (ho : o = { dst := some t, op := .makeSlice ty l c, type := ty2, pos := pos, after := after, guard := none })
    (hz : ∀ w, (Instr.makeSlice ty (a.eval l) (a.eval c)).run P w = .ok (.slice (some ⟨w.heap.size, 0, none⟩) n n) (w.alloc (.cells z T))) (hn : z.size = n)
    (h : ∀ (g : Nat) (w' : World), Kn w0 (⟨g, n, z, T⟩ :: L) w' → wpList P ops Q rest (a.put (some t) (.slice (some ⟨g, 0, none⟩) n n)) w') : wpList P ops Q (o :: rest) a w := by
  subst ho
  refine wpList_plain rfl fun _ hK => ?_
  unfold Oper.wp execOp
  simp only [Sem.run_bind, Sem.run_pure, Result.andThen_ok, hz w]
  exact hK _ _ (h _ _ (K.new _ n z T rfl hn))
theorem results_kn_two {P : Program} {w0 w : World} {L : List Bk} {fn : Func} {p q : Tmp} {ty ty2 : TypeId} (K : Kn w0 L w) (h : fn.results = #[.cell p ty, .cell q ty2]) (tmps : Array Value) (i j g n g2 n2 : Nat) (cs cs2 : Array Value) (T T2 : TypeId) (hp : tmps.getD p undef = .pointer (some ⟨g, 0, none⟩)) (hq : tmps.getD q undef = .pointer (some ⟨g2, 0, none⟩))
    (d d2 : TypeDesc) (hu : P.underlying ty = some d) (hd : (match d with | .struct _ | .array _ _ => true | _ => false) = true) (hty : (P.info? ty).map (·.size) = some n) (hi : L[i]? = some ⟨g, n, cs, T⟩)
    (hu2 : P.underlying ty2 = some d2) (hd2 : (match d2 with | .struct _ | .array _ _ => true | _ => false) = true) (hty2 : (P.info? ty2).map (·.size) = some n2) (hj : L[j]? = some ⟨g2, n2, cs2, T2⟩) :
    (results fn tmps).run P w = .ok (.tuple #[.agg cs, .agg cs2]) w := by
  have hp' : tmps[p]?.getD undef = .pointer (some ⟨g, 0, none⟩) := by simpa using hp
  have hq' : tmps[q]?.getD undef = .pointer (some ⟨g2, 0, none⟩) := by simpa using hq
  simp [results, h, hp', hq', asAddr, run_loadVar_row w g T ty cs (0, 0) d (K.heap i hi) hu hd (by rw [hty, K.size i hi]), run_loadVar_row w g2 T2 ty2 cs2 (0, 0) d2 (K.heap j hj) hu2 hd2 (by rw [hty2, K.size j hj])]
theorem eval_put_ne {a : Act} {t s : Tmp} (v : Value) (h : t ≠ s) : (a.put (some t) v).eval (.tmp s) = a.eval (.tmp s) := by
  simp [Act.put, Act.eval, Array.getElem?_setIfInBounds, h]
theorem eval_put_same {a : Act} {t : Tmp} (v : Value) (h : t < a.tmps.size) : (a.put (some t) v).eval (.tmp t) = v := by
  simp [Act.put, Act.eval, Array.getElem?_setIfInBounds, h]
theorem put_comm {a : Act} {t s : Tmp} (v u : Value) (h : t ≠ s) : (a.put (some s) u).put (some t) v = (a.put (some t) v).put (some s) u := by
  simp only [Act.put]
  rw [Array.setIfInBounds_comm _ _ h]
/-- Two rows are handed back at once: two loads, two stores, in whatever order. -/
theorem wp_region_ret2 {P : Program} {id : Nat} {a : Act} {w w0 : World} {L : List Bk} {Q : Exit → Act → World → Prop} (K : Kn w0 L w) (hm : P.follows .mixedOrders = true) {o0 o1 o2 o3 : Oper}
    (h0 : Region.ready .any #[o0, o1, o2, o3] #[false, false, false, false] = [0, 1]) (h1 : Region.ready .any #[o0, o1, o2, o3] #[true, false, false, false] = [1, 2])
    (h2 : Region.ready .any #[o0, o1, o2, o3] #[false, true, false, false] = [0]) (h3 : Region.ready .any #[o0, o1, o2, o3] #[true, true, false, false] = [2])
    (h4 : Region.ready .any #[o0, o1, o2, o3] #[true, false, true, false] = [1]) (h5 : Region.ready .any #[o0, o1, o2, o3] #[true, true, true, false] = [3])
    (h6 : Region.ready .any #[o0, o1, o2, o3] #[true, true, true, true] = [])
    (g0 : o0.guard = none) (g1 : o1.guard = none) (g2 : o2.guard = none) (g3 : o3.guard = none)
    (t0 t1 s0 s1 q0 q1 : Tmp) (ty0 ty1 : TypeId) (e0 : o0.op = .load ty0 (.tmp s0)) (e1 : o1.op = .load ty1 (.tmp s1)) (e2 : o2.op = .store ty0 (.tmp q0) (.tmp t0)) (e3 : o3.op = .store ty1 (.tmp q1) (.tmp t1))
    (d0 : o0.dst = some t0) (d1 : o1.dst = some t1) (d2 : o2.dst = none) (d3 : o3.dst = none)
    (n01 : t0 ≠ t1) (n0 : t0 ≠ s1) (n1 : t1 ≠ s0) (n2 : t0 ≠ q0) (n3 : t0 ≠ q1) (n4 : t1 ≠ q0) (n5 : t1 ≠ q1) (z0 : t0 < a.tmps.size) (z1 : t1 < a.tmps.size)
    (i0 i1 j0 j1 : Nat) (ga na gb nb gc gd : Nat) (A B C D : Array Value) (Ta Tb Tc Td : TypeId) (x0 : a.eval (.tmp s0) = .pointer (some ⟨ga, 0, none⟩)) (x1 : a.eval (.tmp s1) = .pointer (some ⟨gb, 0, none⟩)) (y0 : a.eval (.tmp q0) = .pointer (some ⟨gc, 0, none⟩)) (y1 : a.eval (.tmp q1) = .pointer (some ⟨gd, 0, none⟩))
    (da db : TypeDesc) (ua : P.underlying ty0 = some da) (ra : (match da with | .struct _ | .array _ _ => true | _ => false) = true) (ub : P.underlying ty1 = some db) (rb : (match db with | .struct _ | .array _ _ => true | _ => false) = true)
    (wa : (P.info? ty0).map (·.size) = some na) (wb : (P.info? ty1).map (·.size) = some nb)
    (la : L[i0]? = some ⟨ga, na, A, Ta⟩) (lb : L[i1]? = some ⟨gb, nb, B, Tb⟩) (lc : L[j0]? = some ⟨gc, na, C, Tc⟩) (ld : L[j1]? = some ⟨gd, nb, D, Td⟩) (m01 : i1 ≠ j0) (m23 : j1 ≠ j0) (SA : Sz na A) (SB : Sz nb B)
    (h : ∀ w' : World, Kn w0 ((L.set j0 ⟨gc, na, A, Tc⟩).set j1 ⟨gd, nb, B, Td⟩) w' → Q .normal ((a.put (some t0) (.agg A)).put (some t1) (.agg B)) w') : (Code.region id #[o0, o1, o2, o3] true).wp P Q a w := by
  have wn : ∀ (o : Oper) (f : Nat → Option Bool), o.guard = none → Region.wanted o f = true := fun o f h => by simp [Region.wanted, h]
  have fin : ∀ (a2 : Act) (W : World), a2 = (a.put (some t0) (.agg A)).put (some t1) (.agg B) → Kn w0 ((L.set j0 ⟨gc, na, A, Tc⟩)) W → wpAny P .any #[o0, o1, o2, o3] Q 1 #[true, true, true, false] a2 W := by
    intro a2 W ea KW
    subst ea
    refine wpAny_ready h5 (by simp) (AllReady.cons (o := o3) rfl (fun K' hK => ?_) AllReady.nil)
    rw [if_pos (wn _ _ g3)]
    have hl : (L.set j0 ⟨gc, na, A, Tc⟩)[j1]? = some ⟨gd, nb, D, Td⟩ := by rw [List.getElem?_set_ne (fun e => m23 e.symm)]; exact ld
    have hg := KW.heap j1 hl
    refine wp_store_row ty1 (.tmp q1) (.tmp t1) e3 gd B (by rw [eval_put_ne _ n5, eval_put_ne _ n3]; exact y1) (eval_put_same _ (by simpa [Act.put] using z1)) Td D hg (by rw [wb, SB.1]) (by rw [KW.size j1 hl, SB.1]) SB.2 ?_
    refine hK _ _ (wpAny_done h6 ?_ _)
    rw [d3]
    exact h _ (KW.set j1 ⟨gd, nb, D, Td⟩ hl B SB.1 (Fr.sr (S := fun k => k = gd) (Fr.refl _ _) rfl _) (setRow_heap _ _ _ _ _ _ hg))
  have st0 : ∀ (f : Nat) (listed listed' : Array Bool) (a2 : Act) (W : World), listed.setIfInBounds 2 true = listed' → Region.ready .any #[o0, o1, o2, o3] listed = [2] → a2.eval (.tmp q0) = .pointer (some ⟨gc, 0, none⟩) → a2.eval (.tmp t0) = .agg A → Kn w0 L W → (∀ W' : World, Kn w0 (L.set j0 ⟨gc, na, A, Tc⟩) W' → wpAny P .any #[o0, o1, o2, o3] Q f listed' a2 W') → wpAny P .any #[o0, o1, o2, o3] Q (f + 1) listed a2 W := by
    intro f listed listed' a2 W hl hr p1 p2 KW hk
    refine wpAny_ready hr (by simp) (AllReady.cons (o := o2) rfl (fun K' hK => ?_) AllReady.nil)
    rw [if_pos (wn _ _ g2)]
    have hg := KW.heap j0 lc
    refine wp_store_row ty0 (.tmp q0) (.tmp t0) e2 gc A p1 p2 Tc C hg (by rw [wa, SA.1]) (by rw [KW.size j0 lc, SA.1]) SA.2 ?_
    refine hK _ _ ?_
    rw [hl, d2]
    exact hk _ (KW.set j0 ⟨gc, na, C, Tc⟩ lc A SA.1 (Fr.sr (S := fun k => k = gc) (Fr.refl _ _) rfl _) (setRow_heap _ _ _ _ _ _ hg))
  have KD : Kn w0 L { w with drawn := w.drawn + 1 } := K.call (Fr.refl _ w).drew
  refine wp_region_any hm ?_
  show wpAny P .any #[o0, o1, o2, o3] Q 4 #[false, false, false, false] a _
  refine wpAny_ready h0 (by simp) (AllReady.cons (o := o0) rfl (fun K' hK => ?_) (AllReady.cons (o := o1) rfl (fun K' hK => ?_) AllReady.nil))
  · rw [if_pos (wn _ _ g0)]
    refine wp_load_row ty0 (.tmp s0) e0 ga x0 Ta A (0, 0) da (KD.heap i0 la) ua ra (by rw [wa, KD.size i0 la]) (hK _ _ ?_)
    show wpAny P .any #[o0, o1, o2, o3] Q 3 #[true, false, false, false] _ _
    rw [d0]
    refine wpAny_ready h1 (by simp) (AllReady.cons (o := o1) rfl (fun K' hK => ?_) (AllReady.cons (o := o2) rfl (fun K' hK => ?_) AllReady.nil))
    · rw [if_pos (wn _ _ g1)]
      refine wp_load_row ty1 (.tmp s1) e1 gb (by rw [eval_put_ne _ n0]; exact x1) Tb B (0, 0) db (KD.heap i1 lb) ub rb (by rw [wb, KD.size i1 lb]) (hK _ _ ?_)
      rw [d1]
      refine st0 1 _ #[true, true, true, false] _ _ rfl h3 (by rw [eval_put_ne _ n4, eval_put_ne _ n2]; exact y0) (by rw [eval_put_ne _ (fun e => n01 e.symm)]; exact eval_put_same _ z0) KD (fun W' KW => fin _ _ rfl KW)
    · rw [if_pos (wn _ _ g2)]
      have hg := KD.heap j0 lc
      refine wp_store_row ty0 (.tmp q0) (.tmp t0) e2 gc A (by rw [eval_put_ne _ n2]; exact y0) (eval_put_same _ z0) Tc C hg (by rw [wa, SA.1]) (by rw [KD.size j0 lc, SA.1]) SA.2 (hK _ _ ?_)
      show wpAny P .any #[o0, o1, o2, o3] Q 2 #[true, false, true, false] _ _
      rw [d2]
      have KW := KD.set j0 ⟨gc, na, C, Tc⟩ lc A SA.1 (Fr.sr (S := fun k => k = gc) (Fr.refl _ _) rfl _) (setRow_heap _ _ _ _ _ _ hg)
      have hl : (L.set j0 ⟨gc, na, A, Tc⟩)[i1]? = some ⟨gb, nb, B, Tb⟩ := by rw [List.getElem?_set_ne (fun e => m01 e.symm)]; exact lb
      refine wpAny_ready h4 (by simp) (AllReady.cons (o := o1) rfl (fun K' hK => ?_) AllReady.nil)
      rw [if_pos (wn _ _ g1)]
      refine wp_load_row ty1 (.tmp s1) e1 gb (by show Act.eval (a.put (some t0) _) _ = _; rw [eval_put_ne _ n0]; exact x1) Tb B (0, 0) db (KW.heap i1 hl) ub rb (by rw [wb, KW.size i1 hl]) (hK _ _ ?_)
      rw [d1]
      exact fin _ _ rfl KW
  · rw [if_pos (wn _ _ g1)]
    refine wp_load_row ty1 (.tmp s1) e1 gb x1 Tb B (0, 0) db (KD.heap i1 lb) ub rb (by rw [wb, KD.size i1 lb]) (hK _ _ ?_)
    show wpAny P .any #[o0, o1, o2, o3] Q 3 #[false, true, false, false] _ _
    rw [d1]
    refine wpAny_ready h2 (by simp) (AllReady.cons (o := o0) rfl (fun K' hK => ?_) AllReady.nil)
    rw [if_pos (wn _ _ g0)]
    refine wp_load_row ty0 (.tmp s0) e0 ga (by rw [eval_put_ne _ n1]; exact x0) Ta A (0, 0) da (KD.heap i0 la) ua ra (by rw [wa, KD.size i0 la]) (hK _ _ ?_)
    rw [d0, put_comm _ _ n01]
    refine st0 1 _ #[true, true, true, false] _ _ rfl h3 (by rw [eval_put_ne _ n4, eval_put_ne _ n2]; exact y0) (by rw [eval_put_ne _ (fun e => n01 e.symm)]; exact eval_put_same _ z0) KD (fun W' KW => fin _ _ rfl KW)
set_option maxRecDepth 100000 in
set_option maxHeartbeats 3200000 in
theorem pair_even (s : Nat) (SN SZ : ByteArray) (N B P C Q A D R S : Array Value) (w : World)
    (BS : Ans Try.prog 73 #[] (.agg B))
    (TN : Ans Try.prog 60 #[.agg B, .agg N] (.agg P))
    (RB : Ans Try.prog 95 #[] (.agg C))
    (RT : Ans Try.prog 61 #[.agg C, .string SN] (.agg Q))
    (V1 : ∀ (W : World) (g : Nat), W.heap[g]? = some (.cells N 36 (0, 0)) → (convert 40 9 (.slice (some ⟨g, 0, none⟩) 32 32)).run Try.prog W = .ok (.string SN) W) (V2 : ∀ (W : World) (g : Nat), W.heap[g]? = some (.cells #[.int .u8 0, .int .u8 0, .int .u8 0, .int .u8 0, .int .u8 0, .int .u8 0, .int .u8 0, .int .u8 0, .int .u8 0, .int .u8 0, .int .u8 0, .int .u8 0, .int .u8 0, .int .u8 0, .int .u8 0, .int .u8 0, .int .u8 0, .int .u8 0, .int .u8 0, .int .u8 0, .int .u8 0, .int .u8 0, .int .u8 0, .int .u8 0, .int .u8 0, .int .u8 0, .int .u8 0, .int .u8 0, .int .u8 0, .int .u8 0, .int .u8 0, .int .u8 0] 5 (0, 0)) → (convert 40 9 (.slice (some ⟨g, 0, none⟩) 32 32)).run Try.prog W = .ok (.string SZ) W) (h2 : ((s : Int).tmod 2 == 1) = false) (hs : s < 256) (h3 : (s % 2 == 1) = false) (h4 : ((s : Int) % 2 == 1) = false)
    (sN : Sz 32 N) (sP : Sz 8 P) (sQ : Sz 48 Q) (sA : Sz 8 A) (sD : Sz 48 D) (sR : Sz 8 R) (sS : Sz 48 S) :
    Calls Try.prog 56 #[.agg N, .int .u8 (s : Int)] w fun e w' => e = .returned (.tuple #[.agg P, .agg Q]) ∧ Fr (fun _ => False) w w' := by
  have HV1 := Lib.hid V1
  have HV2 := Lib.hid V2
  clear V1 V2
  have hmk : ∀ w : World, (Instr.makeSlice 40 (.int .i64 32) (.int .i64 32)).run Try.prog w = .ok (.slice (some ⟨w.heap.size, 0, none⟩) 32 32) (w.alloc (.cells #[.int .u8 0, .int .u8 0, .int .u8 0, .int .u8 0, .int .u8 0, .int .u8 0, .int .u8 0, .int .u8 0, .int .u8 0, .int .u8 0, .int .u8 0, .int .u8 0, .int .u8 0, .int .u8 0, .int .u8 0, .int .u8 0, .int .u8 0, .int .u8 0, .int .u8 0, .int .u8 0, .int .u8 0, .int .u8 0, .int .u8 0, .int .u8 0, .int .u8 0, .int .u8 0, .int .u8 0, .int .u8 0, .int .u8 0, .int .u8 0, .int .u8 0, .int .u8 0] 5)) := fun _ => by kernel_rfl
  have HMK := Lib.hid hmk
  clear hmk
  have K := ((((Kn.start w).new (w.heap.size) 32 N 36 rfl sN.1).new (w.heap.size + 1) 8 #[.int .u64 0, .int .u64 0, .int .u64 0, .int .u64 0, .int .u64 0, .int .u64 0, .int .u64 0, .int .u64 0] 72 (by simp) rfl).new (w.heap.size + 1 + 1) 48 #[.int .i64 0, .int .i64 0, .int .i64 0, .int .i64 0, .int .i64 0, .int .i64 0, .int .i64 0, .int .i64 0, .int .i64 0, .int .i64 0, .int .i64 0, .int .i64 0, .int .i64 0, .int .i64 0, .int .i64 0, .int .i64 0, .int .i64 0, .int .i64 0, .int .i64 0, .int .i64 0, .int .i64 0, .int .i64 0, .int .i64 0, .int .i64 0, .int .i64 0, .int .i64 0, .int .i64 0, .int .i64 0, .int .i64 0, .int .i64 0, .int .i64 0, .int .i64 0, .int .i64 0, .int .i64 0, .int .i64 0, .int .i64 0, .int .i64 0, .int .i64 0, .int .i64 0, .int .i64 0, .int .i64 0, .int .i64 0, .int .i64 0, .int .i64 0, .int .i64 0, .int .i64 0, .int .i64 0, .int .i64 0] 74 (by simp) rfl)
  go_enter Try.func56, Try.ntmps56
  go_wp2_with fail
  refine wp_region_kn_tail K 7 [(6, 8, #[.int .u64 0, .int .u64 0, .int .u64 0, .int .u64 0, .int .u64 0, .int .u64 0, .int .u64 0, .int .u64 0], 72), (7, 48, #[.int .i64 0, .int .i64 0, .int .i64 0, .int .i64 0, .int .i64 0, .int .i64 0, .int .i64 0, .int .i64 0, .int .i64 0, .int .i64 0, .int .i64 0, .int .i64 0, .int .i64 0, .int .i64 0, .int .i64 0, .int .i64 0, .int .i64 0, .int .i64 0, .int .i64 0, .int .i64 0, .int .i64 0, .int .i64 0, .int .i64 0, .int .i64 0, .int .i64 0, .int .i64 0, .int .i64 0, .int .i64 0, .int .i64 0, .int .i64 0, .int .i64 0, .int .i64 0, .int .i64 0, .int .i64 0, .int .i64 0, .int .i64 0, .int .i64 0, .int .i64 0, .int .i64 0, .int .i64 0, .int .i64 0, .int .i64 0, .int .i64 0, .int .i64 0, .int .i64 0, .int .i64 0, .int .i64 0, .int .i64 0], 74)] (by kernel_rfl) (by kernel_rfl) (mk_two ⟨_, rfl, makes_alloc _ _ _ _ _ _ Try.alPt⟩ ⟨_, rfl, makes_alloc _ _ _ _ _ _ Try.alRp⟩) (sz_two rfl rfl) ?_
  apply Exists.intro
  refine ⟨?wk1, ?fin1⟩
  case wk1 =>
    intro γ
    have cv1 := fun y : Wg γ => HV1.out y.w _ (y.blk (K.heap 2 rfl))
    simp only [List.take_succ_cons, List.take_zero]
    repeat (any_goals (first | (focus (go_big_quiet_want; (first | ((with_reducible refine' quiet_load_kng K 36 (.tmp 2) rfl 2 _ _ _ _ rfl _ Try.underlying36 rfl Try.szBa _ _); rotate_left 2; (focus exact rfl))); simp only [Act.put, List.setIfInBounds_toArray, List.set_cons_zero, List.set_cons_succ]; go_big_quiet_on)) | go_big_quiet_step ((first | (go_at_call 73; with_reducible exact Calls.keepg (BS _)) | (go_at_call 60; with_reducible exact Calls.keepg (TN _)) | (go_at_call 95; with_reducible exact Calls.keepg (RB _)) | (go_at_call 61; with_reducible exact Calls.keepg (RT _)))) | quiet_step ((first | (go_at_call 73; with_reducible exact Calls.keepg (BS _)) | (go_at_call 60; with_reducible exact Calls.keepg (TN _)) | (go_at_call 95; with_reducible exact Calls.keepg (RB _)) | (go_at_call 61; with_reducible exact Calls.keepg (RT _))))))
    exact wpQuiet_nil rfl
  case fin1 =>
    intro gs wz Kz
    clear K
    have K := Kz
    clear Kz
    try simp only [mkAll, asObj, List.map_cons, List.map_nil, putAll, List.drop_succ_cons, List.drop_zero, List.length_cons, List.length_nil, Nat.zero_add, Nat.add_zero] at K ⊢
    try simp only [Act.put, List.setIfInBounds_toArray, List.set_cons_zero, List.set_cons_succ]
    generalize gs 0 = gz0 at *
    generalize gs 1 = gz1 at *
    go_wp2_with (first
      | (focus ((first | ((with_reducible refine' wpList_store_kn K rfl 72 (.tmp 6) _ rfl 1 _ _ _ _ _ rfl rfl Try.szPt _ _ _); rotate_left 2; (focus exact rfl)) | ((with_reducible refine' wpList_store_kn K rfl 74 (.tmp 7) _ rfl 0 _ _ _ _ _ rfl rfl Try.szRp _ _ _); rotate_left 2; (focus exact rfl))); (focus (with_reducible assumption)); intro wz Kz; clear K; have K := Kz; clear Kz; simp only [List.set_cons_zero, List.set_cons_succ] at K; try (simp only [Act.put, List.setIfInBounds_toArray, List.set_cons_zero, List.set_cons_succ]))))
    refine wp_region_ret2 K (by kernel_rfl) (by kernel_rfl) (by kernel_rfl) (by kernel_rfl) (by kernel_rfl) (by kernel_rfl) (by kernel_rfl) (by kernel_rfl) rfl rfl rfl rfl 45 46 6 7 4 5 72 74 rfl rfl rfl rfl rfl rfl rfl rfl (by decide) (by decide) (by decide) (by decide) (by decide) (by decide) (by decide) (by simp) (by simp) 1 0 3 2 _ 8 _ 48 _ _ P Q _ _ _ _ _ _ rfl rfl rfl rfl _ _ Try.underlying72 rfl Try.underlying74 rfl Try.szPt Try.szRp rfl rfl rfl rfl (by decide) (by decide) sP sQ ?_
    intro wz Kz
    clear K
    have K := Kz
    clear Kz
    simp only [List.set_cons_zero, List.set_cons_succ] at K
    simp only [Act.put, List.setIfInBounds_toArray, List.set_cons_zero, List.set_cons_succ]
    go_wp2_with fail
    refine bodyPost_ret (results_kn_two K rfl _ 3 2 _ _ _ _ _ _ _ _ rfl rfl _ _ Try.underlying72 rfl Try.szPt rfl Try.underlying74 rfl Try.szRp rfl) rfl ?_
    exact ⟨rfl, K.fr⟩
set_option maxRecDepth 100000 in
set_option maxHeartbeats 3200000 in
theorem pair_none (s : Nat) (SN SZ : ByteArray) (N B P C Q A D R S : Array Value) (w : World)
    (BS : Ans Try.prog 73 #[] (.agg B))
    (TN : Ans Try.prog 60 #[.agg B, .agg N] (.agg P))
    (RB : Ans Try.prog 95 #[] (.agg C))
    (RT : Ans Try.prog 61 #[.agg C, .string SN] (.agg Q))
    (DE : Ans Try.prog 70 #[.agg #[.int .u8 0, .int .u8 0, .int .u8 0, .int .u8 0, .int .u8 0, .int .u8 0, .int .u8 0, .int .u8 0, .int .u8 0, .int .u8 0, .int .u8 0, .int .u8 0, .int .u8 0, .int .u8 0, .int .u8 0, .int .u8 0, .int .u8 0, .int .u8 0, .int .u8 0, .int .u8 0, .int .u8 0, .int .u8 0, .int .u8 0, .int .u8 0, .int .u8 0, .int .u8 0, .int .u8 0, .int .u8 0, .int .u8 0, .int .u8 0, .int .u8 0, .int .u8 0]] (.tuple #[.agg A, .int .i64 15]))
    (RD : Ans Try.prog 71 #[.string SZ] (.tuple #[.agg D, .int .i64 15]))
    (V1 : ∀ (W : World) (g : Nat), W.heap[g]? = some (.cells N 36 (0, 0)) → (convert 40 9 (.slice (some ⟨g, 0, none⟩) 32 32)).run Try.prog W = .ok (.string SN) W) (V2 : ∀ (W : World) (g : Nat), W.heap[g]? = some (.cells #[.int .u8 0, .int .u8 0, .int .u8 0, .int .u8 0, .int .u8 0, .int .u8 0, .int .u8 0, .int .u8 0, .int .u8 0, .int .u8 0, .int .u8 0, .int .u8 0, .int .u8 0, .int .u8 0, .int .u8 0, .int .u8 0, .int .u8 0, .int .u8 0, .int .u8 0, .int .u8 0, .int .u8 0, .int .u8 0, .int .u8 0, .int .u8 0, .int .u8 0, .int .u8 0, .int .u8 0, .int .u8 0, .int .u8 0, .int .u8 0, .int .u8 0, .int .u8 0] 5 (0, 0)) → (convert 40 9 (.slice (some ⟨g, 0, none⟩) 32 32)).run Try.prog W = .ok (.string SZ) W) (h2 : ((s : Int).tmod 2 == 1) = true) (hs : s < 256) (h3 : (s % 2 == 1) = true) (h4 : ((s : Int) % 2 == 1) = true)
    (sN : Sz 32 N) (sP : Sz 8 P) (sQ : Sz 48 Q) (sA : Sz 8 A) (sD : Sz 48 D) (sR : Sz 8 R) (sS : Sz 48 S) :
    Calls Try.prog 56 #[.agg N, .int .u8 (s : Int)] w fun e w' => e = .returned (.tuple #[.agg P, .agg Q]) ∧ Fr (fun _ => False) w w' := by
  have HV1 := Lib.hid V1
  have HV2 := Lib.hid V2
  clear V1 V2
  have hmk : ∀ w : World, (Instr.makeSlice 40 (.int .i64 32) (.int .i64 32)).run Try.prog w = .ok (.slice (some ⟨w.heap.size, 0, none⟩) 32 32) (w.alloc (.cells #[.int .u8 0, .int .u8 0, .int .u8 0, .int .u8 0, .int .u8 0, .int .u8 0, .int .u8 0, .int .u8 0, .int .u8 0, .int .u8 0, .int .u8 0, .int .u8 0, .int .u8 0, .int .u8 0, .int .u8 0, .int .u8 0, .int .u8 0, .int .u8 0, .int .u8 0, .int .u8 0, .int .u8 0, .int .u8 0, .int .u8 0, .int .u8 0, .int .u8 0, .int .u8 0, .int .u8 0, .int .u8 0, .int .u8 0, .int .u8 0, .int .u8 0, .int .u8 0] 5)) := fun _ => by kernel_rfl
  have HMK := Lib.hid hmk
  clear hmk
  have K := ((((Kn.start w).new (w.heap.size) 32 N 36 rfl sN.1).new (w.heap.size + 1) 8 #[.int .u64 0, .int .u64 0, .int .u64 0, .int .u64 0, .int .u64 0, .int .u64 0, .int .u64 0, .int .u64 0] 72 (by simp) rfl).new (w.heap.size + 1 + 1) 48 #[.int .i64 0, .int .i64 0, .int .i64 0, .int .i64 0, .int .i64 0, .int .i64 0, .int .i64 0, .int .i64 0, .int .i64 0, .int .i64 0, .int .i64 0, .int .i64 0, .int .i64 0, .int .i64 0, .int .i64 0, .int .i64 0, .int .i64 0, .int .i64 0, .int .i64 0, .int .i64 0, .int .i64 0, .int .i64 0, .int .i64 0, .int .i64 0, .int .i64 0, .int .i64 0, .int .i64 0, .int .i64 0, .int .i64 0, .int .i64 0, .int .i64 0, .int .i64 0, .int .i64 0, .int .i64 0, .int .i64 0, .int .i64 0, .int .i64 0, .int .i64 0, .int .i64 0, .int .i64 0, .int .i64 0, .int .i64 0, .int .i64 0, .int .i64 0, .int .i64 0, .int .i64 0, .int .i64 0, .int .i64 0] 74 (by simp) rfl)
  go_enter Try.func56, Try.ntmps56
  go_wp2_with fail
  refine wp_region_kn_tail K 7 [(6, 8, #[.int .u64 0, .int .u64 0, .int .u64 0, .int .u64 0, .int .u64 0, .int .u64 0, .int .u64 0, .int .u64 0], 72), (7, 48, #[.int .i64 0, .int .i64 0, .int .i64 0, .int .i64 0, .int .i64 0, .int .i64 0, .int .i64 0, .int .i64 0, .int .i64 0, .int .i64 0, .int .i64 0, .int .i64 0, .int .i64 0, .int .i64 0, .int .i64 0, .int .i64 0, .int .i64 0, .int .i64 0, .int .i64 0, .int .i64 0, .int .i64 0, .int .i64 0, .int .i64 0, .int .i64 0, .int .i64 0, .int .i64 0, .int .i64 0, .int .i64 0, .int .i64 0, .int .i64 0, .int .i64 0, .int .i64 0, .int .i64 0, .int .i64 0, .int .i64 0, .int .i64 0, .int .i64 0, .int .i64 0, .int .i64 0, .int .i64 0, .int .i64 0, .int .i64 0, .int .i64 0, .int .i64 0, .int .i64 0, .int .i64 0, .int .i64 0, .int .i64 0], 74)] (by kernel_rfl) (by kernel_rfl) (mk_two ⟨_, rfl, makes_alloc _ _ _ _ _ _ Try.alPt⟩ ⟨_, rfl, makes_alloc _ _ _ _ _ _ Try.alRp⟩) (sz_two rfl rfl) ?_
  apply Exists.intro
  refine ⟨?wk1, ?fin1⟩
  case wk1 =>
    intro γ
    have cv1 := fun y : Wg γ => HV1.out y.w _ (y.blk (K.heap 2 rfl))
    simp only [List.take_succ_cons, List.take_zero]
    repeat (any_goals (first | (focus (go_big_quiet_want; (first | ((with_reducible refine' quiet_load_kng K 36 (.tmp 2) rfl 2 _ _ _ _ rfl _ Try.underlying36 rfl Try.szBa _ _); rotate_left 2; (focus exact rfl))); simp only [Act.put, List.setIfInBounds_toArray, List.set_cons_zero, List.set_cons_succ]; go_big_quiet_on)) | go_big_quiet_step ((first | (go_at_call 73; with_reducible exact Calls.keepg (BS _)) | (go_at_call 60; with_reducible exact Calls.keepg (TN _)) | (go_at_call 95; with_reducible exact Calls.keepg (RB _)) | (go_at_call 61; with_reducible exact Calls.keepg (RT _)))) | quiet_step ((first | (go_at_call 73; with_reducible exact Calls.keepg (BS _)) | (go_at_call 60; with_reducible exact Calls.keepg (TN _)) | (go_at_call 95; with_reducible exact Calls.keepg (RB _)) | (go_at_call 61; with_reducible exact Calls.keepg (RT _))))))
    exact wpQuiet_nil rfl
  case fin1 =>
    intro gs wz Kz
    clear K
    have K := Kz
    clear Kz
    try simp only [mkAll, asObj, List.map_cons, List.map_nil, putAll, List.drop_succ_cons, List.drop_zero, List.length_cons, List.length_nil, Nat.zero_add, Nat.add_zero] at K ⊢
    try simp only [Act.put, List.setIfInBounds_toArray, List.set_cons_zero, List.set_cons_succ]
    generalize gs 0 = gz0 at *
    generalize gs 1 = gz1 at *
    go_wp2_with (first
      | (focus ((first | ((with_reducible refine' wpList_store_kn K rfl 72 (.tmp 6) _ rfl 1 _ _ _ _ _ rfl rfl Try.szPt _ _ _); rotate_left 2; (focus exact rfl)) | ((with_reducible refine' wpList_store_kn K rfl 74 (.tmp 7) _ rfl 0 _ _ _ _ _ rfl rfl Try.szRp _ _ _); rotate_left 2; (focus exact rfl)) | ((with_reducible refine' wpList_store_kn K rfl 72 (.tmp 8) _ rfl 0 _ _ _ _ _ rfl rfl Try.szPt _ _ _); rotate_left 2; (focus exact rfl)) | ((with_reducible refine' wpList_store_kn K rfl 74 (.tmp 10) _ rfl 0 _ _ _ _ _ rfl rfl Try.szRp _ _ _); rotate_left 2; (focus exact rfl))); (focus (with_reducible assumption)); intro wz Kz; clear K; have K := Kz; clear Kz; simp only [List.set_cons_zero, List.set_cons_succ] at K; try (simp only [Act.put, List.setIfInBounds_toArray, List.set_cons_zero, List.set_cons_succ])))
      | ((with_reducible refine wpList_new_kn K 72 _ _ _ _ #[.int .u64 0, .int .u64 0, .int .u64 0, .int .u64 0, .int .u64 0, .int .u64 0, .int .u64 0, .int .u64 0] 8 rfl Try.alPt rfl ?_); intro gz wz Kz; clear K; have K := Kz; clear Kz; try (simp only [Act.put, List.setIfInBounds_toArray, List.set_cons_zero, List.set_cons_succ]))
      | ((with_reducible refine wpList_make_kn K _ _ _ _ _ _ _ #[.int .u8 0, .int .u8 0, .int .u8 0, .int .u8 0, .int .u8 0, .int .u8 0, .int .u8 0, .int .u8 0, .int .u8 0, .int .u8 0, .int .u8 0, .int .u8 0, .int .u8 0, .int .u8 0, .int .u8 0, .int .u8 0, .int .u8 0, .int .u8 0, .int .u8 0, .int .u8 0, .int .u8 0, .int .u8 0, .int .u8 0, .int .u8 0, .int .u8 0, .int .u8 0, .int .u8 0, .int .u8 0, .int .u8 0, .int .u8 0, .int .u8 0, .int .u8 0] 32 5 rfl ?hz rfl ?kk); (case hz => exact HMK.out); intro gy wz Kz; clear K; have K := Kz; clear Kz; have cz := HV2.out wz _ (K.heap 0 rfl); try (simp only [Act.put, List.setIfInBounds_toArray, List.set_cons_zero, List.set_cons_succ]))
      | ((with_reducible refine wpList_new_kn K 74 _ _ _ _ #[.int .i64 0, .int .i64 0, .int .i64 0, .int .i64 0, .int .i64 0, .int .i64 0, .int .i64 0, .int .i64 0, .int .i64 0, .int .i64 0, .int .i64 0, .int .i64 0, .int .i64 0, .int .i64 0, .int .i64 0, .int .i64 0, .int .i64 0, .int .i64 0, .int .i64 0, .int .i64 0, .int .i64 0, .int .i64 0, .int .i64 0, .int .i64 0, .int .i64 0, .int .i64 0, .int .i64 0, .int .i64 0, .int .i64 0, .int .i64 0, .int .i64 0, .int .i64 0, .int .i64 0, .int .i64 0, .int .i64 0, .int .i64 0, .int .i64 0, .int .i64 0, .int .i64 0, .int .i64 0, .int .i64 0, .int .i64 0, .int .i64 0, .int .i64 0, .int .i64 0, .int .i64 0, .int .i64 0, .int .i64 0] 48 rfl Try.alRp rfl ?_); intro gz10 wz Kz; clear K; have K := Kz; clear Kz; try (simp only [Act.put, List.setIfInBounds_toArray, List.set_cons_zero, List.set_cons_succ]))
      | (go_at_call 70; (with_reducible refine Calls.kn K (DE _) ?_); intro wz Kz; clear K; have K := Kz; clear Kz)
      | (go_at_call 71; (with_reducible refine Calls.kn K (RD _) ?_); intro wz Kz; clear K; have K := Kz; clear Kz))
    refine wp_region_ret2 K (by kernel_rfl) (by kernel_rfl) (by kernel_rfl) (by kernel_rfl) (by kernel_rfl) (by kernel_rfl) (by kernel_rfl) (by kernel_rfl) rfl rfl rfl rfl 45 46 6 7 4 5 72 74 rfl rfl rfl rfl rfl rfl rfl rfl (by decide) (by decide) (by decide) (by decide) (by decide) (by decide) (by decide) (by simp) (by simp) 4 3 6 5 _ 8 _ 48 _ _ P Q _ _ _ _ _ _ rfl rfl rfl rfl _ _ Try.underlying72 rfl Try.underlying74 rfl Try.szPt Try.szRp rfl rfl rfl rfl (by decide) (by decide) sP sQ ?_
    intro wz Kz
    clear K
    have K := Kz
    clear Kz
    simp only [List.set_cons_zero, List.set_cons_succ] at K
    simp only [Act.put, List.setIfInBounds_toArray, List.set_cons_zero, List.set_cons_succ]
    go_wp2_with fail
    refine bodyPost_ret (results_kn_two K rfl _ 6 5 _ _ _ _ _ _ _ _ rfl rfl _ _ Try.underlying72 rfl Try.szPt rfl Try.underlying74 rfl Try.szRp rfl) rfl ?_
    exact ⟨rfl, K.fr⟩
set_option maxRecDepth 100000 in
set_option maxHeartbeats 3200000 in
theorem pair_odd (s : Nat) (SN SZ : ByteArray) (N B P C Q A D R S : Array Value) (w : World)
    (BS : Ans Try.prog 73 #[] (.agg B))
    (TN : Ans Try.prog 60 #[.agg B, .agg N] (.agg P))
    (RB : Ans Try.prog 95 #[] (.agg C))
    (RT : Ans Try.prog 61 #[.agg C, .string SN] (.agg Q))
    (DE : Ans Try.prog 70 #[.agg #[.int .u8 0, .int .u8 0, .int .u8 0, .int .u8 0, .int .u8 0, .int .u8 0, .int .u8 0, .int .u8 0, .int .u8 0, .int .u8 0, .int .u8 0, .int .u8 0, .int .u8 0, .int .u8 0, .int .u8 0, .int .u8 0, .int .u8 0, .int .u8 0, .int .u8 0, .int .u8 0, .int .u8 0, .int .u8 0, .int .u8 0, .int .u8 0, .int .u8 0, .int .u8 0, .int .u8 0, .int .u8 0, .int .u8 0, .int .u8 0, .int .u8 0, .int .u8 0]] (.tuple #[.agg A, .int .i64 0]))
    (RD : Ans Try.prog 71 #[.string SZ] (.tuple #[.agg D, .int .i64 0]))
    (AD : Ans Try.prog 62 #[.agg P, .agg A] (.agg R))
    (RA : Ans Try.prog 63 #[.agg Q, .agg D] (.agg S))
    (V1 : ∀ (W : World) (g : Nat), W.heap[g]? = some (.cells N 36 (0, 0)) → (convert 40 9 (.slice (some ⟨g, 0, none⟩) 32 32)).run Try.prog W = .ok (.string SN) W) (V2 : ∀ (W : World) (g : Nat), W.heap[g]? = some (.cells #[.int .u8 0, .int .u8 0, .int .u8 0, .int .u8 0, .int .u8 0, .int .u8 0, .int .u8 0, .int .u8 0, .int .u8 0, .int .u8 0, .int .u8 0, .int .u8 0, .int .u8 0, .int .u8 0, .int .u8 0, .int .u8 0, .int .u8 0, .int .u8 0, .int .u8 0, .int .u8 0, .int .u8 0, .int .u8 0, .int .u8 0, .int .u8 0, .int .u8 0, .int .u8 0, .int .u8 0, .int .u8 0, .int .u8 0, .int .u8 0, .int .u8 0, .int .u8 0] 5 (0, 0)) → (convert 40 9 (.slice (some ⟨g, 0, none⟩) 32 32)).run Try.prog W = .ok (.string SZ) W) (h2 : ((s : Int).tmod 2 == 1) = true) (hs : s < 256) (h3 : (s % 2 == 1) = true) (h4 : ((s : Int) % 2 == 1) = true)
    (sN : Sz 32 N) (sP : Sz 8 P) (sQ : Sz 48 Q) (sA : Sz 8 A) (sD : Sz 48 D) (sR : Sz 8 R) (sS : Sz 48 S) :
    Calls Try.prog 56 #[.agg N, .int .u8 (s : Int)] w fun e w' => e = .returned (.tuple #[.agg R, .agg S]) ∧ Fr (fun _ => False) w w' := by
  have HV1 := Lib.hid V1
  have HV2 := Lib.hid V2
  clear V1 V2
  have hmk : ∀ w : World, (Instr.makeSlice 40 (.int .i64 32) (.int .i64 32)).run Try.prog w = .ok (.slice (some ⟨w.heap.size, 0, none⟩) 32 32) (w.alloc (.cells #[.int .u8 0, .int .u8 0, .int .u8 0, .int .u8 0, .int .u8 0, .int .u8 0, .int .u8 0, .int .u8 0, .int .u8 0, .int .u8 0, .int .u8 0, .int .u8 0, .int .u8 0, .int .u8 0, .int .u8 0, .int .u8 0, .int .u8 0, .int .u8 0, .int .u8 0, .int .u8 0, .int .u8 0, .int .u8 0, .int .u8 0, .int .u8 0, .int .u8 0, .int .u8 0, .int .u8 0, .int .u8 0, .int .u8 0, .int .u8 0, .int .u8 0, .int .u8 0] 5)) := fun _ => by kernel_rfl
  have HMK := Lib.hid hmk
  clear hmk
  have K := ((((Kn.start w).new (w.heap.size) 32 N 36 rfl sN.1).new (w.heap.size + 1) 8 #[.int .u64 0, .int .u64 0, .int .u64 0, .int .u64 0, .int .u64 0, .int .u64 0, .int .u64 0, .int .u64 0] 72 (by simp) rfl).new (w.heap.size + 1 + 1) 48 #[.int .i64 0, .int .i64 0, .int .i64 0, .int .i64 0, .int .i64 0, .int .i64 0, .int .i64 0, .int .i64 0, .int .i64 0, .int .i64 0, .int .i64 0, .int .i64 0, .int .i64 0, .int .i64 0, .int .i64 0, .int .i64 0, .int .i64 0, .int .i64 0, .int .i64 0, .int .i64 0, .int .i64 0, .int .i64 0, .int .i64 0, .int .i64 0, .int .i64 0, .int .i64 0, .int .i64 0, .int .i64 0, .int .i64 0, .int .i64 0, .int .i64 0, .int .i64 0, .int .i64 0, .int .i64 0, .int .i64 0, .int .i64 0, .int .i64 0, .int .i64 0, .int .i64 0, .int .i64 0, .int .i64 0, .int .i64 0, .int .i64 0, .int .i64 0, .int .i64 0, .int .i64 0, .int .i64 0, .int .i64 0] 74 (by simp) rfl)
  go_enter Try.func56, Try.ntmps56
  go_wp2_with fail
  refine wp_region_kn_tail K 7 [(6, 8, #[.int .u64 0, .int .u64 0, .int .u64 0, .int .u64 0, .int .u64 0, .int .u64 0, .int .u64 0, .int .u64 0], 72), (7, 48, #[.int .i64 0, .int .i64 0, .int .i64 0, .int .i64 0, .int .i64 0, .int .i64 0, .int .i64 0, .int .i64 0, .int .i64 0, .int .i64 0, .int .i64 0, .int .i64 0, .int .i64 0, .int .i64 0, .int .i64 0, .int .i64 0, .int .i64 0, .int .i64 0, .int .i64 0, .int .i64 0, .int .i64 0, .int .i64 0, .int .i64 0, .int .i64 0, .int .i64 0, .int .i64 0, .int .i64 0, .int .i64 0, .int .i64 0, .int .i64 0, .int .i64 0, .int .i64 0, .int .i64 0, .int .i64 0, .int .i64 0, .int .i64 0, .int .i64 0, .int .i64 0, .int .i64 0, .int .i64 0, .int .i64 0, .int .i64 0, .int .i64 0, .int .i64 0, .int .i64 0, .int .i64 0, .int .i64 0, .int .i64 0], 74)] (by kernel_rfl) (by kernel_rfl) (mk_two ⟨_, rfl, makes_alloc _ _ _ _ _ _ Try.alPt⟩ ⟨_, rfl, makes_alloc _ _ _ _ _ _ Try.alRp⟩) (sz_two rfl rfl) ?_
  apply Exists.intro
  refine ⟨?wk1, ?fin1⟩
  case wk1 =>
    intro γ
    have cv1 := fun y : Wg γ => HV1.out y.w _ (y.blk (K.heap 2 rfl))
    simp only [List.take_succ_cons, List.take_zero]
    repeat (any_goals (first | (focus (go_big_quiet_want; (first | ((with_reducible refine' quiet_load_kng K 36 (.tmp 2) rfl 2 _ _ _ _ rfl _ Try.underlying36 rfl Try.szBa _ _); rotate_left 2; (focus exact rfl))); simp only [Act.put, List.setIfInBounds_toArray, List.set_cons_zero, List.set_cons_succ]; go_big_quiet_on)) | go_big_quiet_step ((first | (go_at_call 73; with_reducible exact Calls.keepg (BS _)) | (go_at_call 60; with_reducible exact Calls.keepg (TN _)) | (go_at_call 95; with_reducible exact Calls.keepg (RB _)) | (go_at_call 61; with_reducible exact Calls.keepg (RT _)))) | quiet_step ((first | (go_at_call 73; with_reducible exact Calls.keepg (BS _)) | (go_at_call 60; with_reducible exact Calls.keepg (TN _)) | (go_at_call 95; with_reducible exact Calls.keepg (RB _)) | (go_at_call 61; with_reducible exact Calls.keepg (RT _))))))
    exact wpQuiet_nil rfl
  case fin1 =>
    intro gs wz Kz
    clear K
    have K := Kz
    clear Kz
    try simp only [mkAll, asObj, List.map_cons, List.map_nil, putAll, List.drop_succ_cons, List.drop_zero, List.length_cons, List.length_nil, Nat.zero_add, Nat.add_zero] at K ⊢
    try simp only [Act.put, List.setIfInBounds_toArray, List.set_cons_zero, List.set_cons_succ]
    generalize gs 0 = gz0 at *
    generalize gs 1 = gz1 at *
    go_wp2_with (first
      | (focus ((first | ((with_reducible refine' wpList_store_kn K rfl 72 (.tmp 6) _ rfl 1 _ _ _ _ _ rfl rfl Try.szPt _ _ _); rotate_left 2; (focus exact rfl)) | ((with_reducible refine' wpList_store_kn K rfl 74 (.tmp 7) _ rfl 0 _ _ _ _ _ rfl rfl Try.szRp _ _ _); rotate_left 2; (focus exact rfl)) | ((with_reducible refine' wpList_store_kn K rfl 72 (.tmp 8) _ rfl 0 _ _ _ _ _ rfl rfl Try.szPt _ _ _); rotate_left 2; (focus exact rfl)) | ((with_reducible refine' wpList_store_kn K rfl 74 (.tmp 10) _ rfl 0 _ _ _ _ _ rfl rfl Try.szRp _ _ _); rotate_left 2; (focus exact rfl))); (focus (with_reducible assumption)); intro wz Kz; clear K; have K := Kz; clear Kz; simp only [List.set_cons_zero, List.set_cons_succ] at K; try (simp only [Act.put, List.setIfInBounds_toArray, List.set_cons_zero, List.set_cons_succ])))
      | ((with_reducible refine wpList_new_kn K 72 _ _ _ _ #[.int .u64 0, .int .u64 0, .int .u64 0, .int .u64 0, .int .u64 0, .int .u64 0, .int .u64 0, .int .u64 0] 8 rfl Try.alPt rfl ?_); intro gz wz Kz; clear K; have K := Kz; clear Kz; try (simp only [Act.put, List.setIfInBounds_toArray, List.set_cons_zero, List.set_cons_succ]))
      | ((with_reducible refine wpList_make_kn K _ _ _ _ _ _ _ #[.int .u8 0, .int .u8 0, .int .u8 0, .int .u8 0, .int .u8 0, .int .u8 0, .int .u8 0, .int .u8 0, .int .u8 0, .int .u8 0, .int .u8 0, .int .u8 0, .int .u8 0, .int .u8 0, .int .u8 0, .int .u8 0, .int .u8 0, .int .u8 0, .int .u8 0, .int .u8 0, .int .u8 0, .int .u8 0, .int .u8 0, .int .u8 0, .int .u8 0, .int .u8 0, .int .u8 0, .int .u8 0, .int .u8 0, .int .u8 0, .int .u8 0, .int .u8 0] 32 5 rfl ?hz rfl ?kk); (case hz => exact HMK.out); intro gy wz Kz; clear K; have K := Kz; clear Kz; have cz := HV2.out wz _ (K.heap 0 rfl); try (simp only [Act.put, List.setIfInBounds_toArray, List.set_cons_zero, List.set_cons_succ]))
      | ((with_reducible refine wpList_new_kn K 74 _ _ _ _ #[.int .i64 0, .int .i64 0, .int .i64 0, .int .i64 0, .int .i64 0, .int .i64 0, .int .i64 0, .int .i64 0, .int .i64 0, .int .i64 0, .int .i64 0, .int .i64 0, .int .i64 0, .int .i64 0, .int .i64 0, .int .i64 0, .int .i64 0, .int .i64 0, .int .i64 0, .int .i64 0, .int .i64 0, .int .i64 0, .int .i64 0, .int .i64 0, .int .i64 0, .int .i64 0, .int .i64 0, .int .i64 0, .int .i64 0, .int .i64 0, .int .i64 0, .int .i64 0, .int .i64 0, .int .i64 0, .int .i64 0, .int .i64 0, .int .i64 0, .int .i64 0, .int .i64 0, .int .i64 0, .int .i64 0, .int .i64 0, .int .i64 0, .int .i64 0, .int .i64 0, .int .i64 0, .int .i64 0, .int .i64 0] 48 rfl Try.alRp rfl ?_); intro gz10 wz Kz; clear K; have K := Kz; clear Kz; try (simp only [Act.put, List.setIfInBounds_toArray, List.set_cons_zero, List.set_cons_succ]))
      | (go_at_call 70; (with_reducible refine Calls.kn K (DE _) ?_); intro wz Kz; clear K; have K := Kz; clear Kz)
      | (go_at_call 71; (with_reducible refine Calls.kn K (RD _) ?_); intro wz Kz; clear K; have K := Kz; clear Kz))
    clear cz
    refine wp_region_kn_tail K 6 [] (by kernel_rfl) (by kernel_rfl) mk_nil sz_nil ?_
    apply Exists.intro
    refine ⟨?wk6, ?fin6⟩
    case wk6 =>
      intro γ
  
      simp only [List.take_succ_cons, List.take_zero]
      repeat (any_goals (first | (focus (go_big_quiet_want; (first | ((with_reducible refine' quiet_load_kng K 72 (.tmp 6) rfl 4 _ _ _ _ rfl _ Try.underlying72 rfl Try.szPt _ _); rotate_left 2; (focus exact rfl)) | ((with_reducible refine' quiet_load_kng K 72 (.tmp 8) rfl 2 _ _ _ _ rfl _ Try.underlying72 rfl Try.szPt _ _); rotate_left 2; (focus exact rfl)) | ((with_reducible refine' quiet_load_kng K 74 (.tmp 7) rfl 3 _ _ _ _ rfl _ Try.underlying74 rfl Try.szRp _ _); rotate_left 2; (focus exact rfl)) | ((with_reducible refine' quiet_load_kng K 74 (.tmp 10) rfl 0 _ _ _ _ rfl _ Try.underlying74 rfl Try.szRp _ _); rotate_left 2; (focus exact rfl))); simp only [Act.put, List.setIfInBounds_toArray, List.set_cons_zero, List.set_cons_succ]; go_big_quiet_on)) | go_big_quiet_step ((first | (go_at_call 62; with_reducible exact Calls.keepg (AD _)) | (go_at_call 63; with_reducible exact Calls.keepg (RA _)))) | quiet_step ((first | (go_at_call 62; with_reducible exact Calls.keepg (AD _)) | (go_at_call 63; with_reducible exact Calls.keepg (RA _))))))
      exact wpQuiet_nil rfl
    case fin6 =>
      intro gs wz Kz
      clear K
      have K := Kz
      clear Kz
      try simp only [mkAll, asObj, List.map_cons, List.map_nil, putAll, List.drop_succ_cons, List.drop_zero, List.length_cons, List.length_nil, Nat.zero_add, Nat.add_zero] at K ⊢
      try simp only [Act.put, List.setIfInBounds_toArray, List.set_cons_zero, List.set_cons_succ]

      go_wp2_with (first
        | (focus ((first | ((with_reducible refine' wpList_store_kn K rfl 72 (.tmp 6) _ rfl 4 _ _ _ _ _ rfl rfl Try.szPt _ _ _); rotate_left 2; (focus exact rfl)) | ((with_reducible refine' wpList_store_kn K rfl 74 (.tmp 7) _ rfl 3 _ _ _ _ _ rfl rfl Try.szRp _ _ _); rotate_left 2; (focus exact rfl))); (focus (with_reducible assumption)); intro wz Kz; clear K; have K := Kz; clear Kz; simp only [List.set_cons_zero, List.set_cons_succ] at K; try (simp only [Act.put, List.setIfInBounds_toArray, List.set_cons_zero, List.set_cons_succ]))))
      refine wp_region_ret2 K (by kernel_rfl) (by kernel_rfl) (by kernel_rfl) (by kernel_rfl) (by kernel_rfl) (by kernel_rfl) (by kernel_rfl) (by kernel_rfl) rfl rfl rfl rfl 45 46 6 7 4 5 72 74 rfl rfl rfl rfl rfl rfl rfl rfl (by decide) (by decide) (by decide) (by decide) (by decide) (by decide) (by decide) (by simp) (by simp) 4 3 6 5 _ 8 _ 48 _ _ R S _ _ _ _ _ _ rfl rfl rfl rfl _ _ Try.underlying72 rfl Try.underlying74 rfl Try.szPt Try.szRp rfl rfl rfl rfl (by decide) (by decide) sR sS ?_
      intro wz Kz
      clear K
      have K := Kz
      clear Kz
      simp only [List.set_cons_zero, List.set_cons_succ] at K
      simp only [Act.put, List.setIfInBounds_toArray, List.set_cons_zero, List.set_cons_succ]
      go_wp2_with fail
      refine bodyPost_ret (results_kn_two K rfl _ 6 5 _ _ _ _ _ _ _ _ rfl rfl _ _ Try.underlying72 rfl Try.szPt rfl Try.underlying74 rfl Try.szRp rfl) rfl ?_
      exact ⟨rfl, K.fr⟩
end Go.Proofs.Ytahnlnflcgehaaa

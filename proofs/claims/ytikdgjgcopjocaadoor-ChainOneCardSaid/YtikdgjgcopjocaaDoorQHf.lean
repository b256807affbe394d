/-
  Do links stand on each other: the program's, a round.
  Do links stand on each other: the program's, whole.
  Do links stand on each other: the document's.
-/
import Derived.Test.YtikdgjgcopjocaaDoorQHe
namespace Go.Proofs.YtikdgjgcopjocaaDoor
open Go.RowKit
set_option linter.unusedVariables false
set_option linter.unusedSimpArgs false
set_option maxRecDepth 100000 in
theorem eql_row {x y : List UInt8} (hx : x.length = 32) (hy : y.length = 32) (w : World) : (binOp .eql 23 (.agg (krow x)) (.agg (krow y))).run Tryd.prog w = .ok (.bool (x == y)) w := by
  refine run_eql_bytes w 23 5 32 Tryd.underlying23 Tryd.underlying5 ?_ _ _ hx hy
  intro w2
  obtain ⟨i0, hi, hz⟩ := Option.map_eq_some_iff.1 Tryd.sizeB
  simp [sizeOf, typeInfo, hi, hz]
set_option maxRecDepth 100000 in
theorem neq_row {x y : List UInt8} (hx : x.length = 32) (hy : y.length = 32) (w : World) : (binOp .neq 23 (.agg (krow x)) (.agg (krow y))).run Tryd.prog w = .ok (.bool (!(x == y))) w := by
  have h := eql_row hx hy w
  simp only [binOp, Sem.run_bind] at h ⊢
  cases hr : (Op.equal 23 (.agg (krow x)) (.agg (krow y))).run Tryd.prog w with
  | ok b w2 =>
    rw [hr] at h
    simp only [Result.andThen_ok, Sem.run_pure, Result.ok.injEq, Value.bool.injEq] at h ⊢
    exact ⟨by rw [h.1], h.2⟩
  | halt b w2 => rw [hr] at h; simp [Result.andThen] at h
set_option maxRecDepth 100000 in
theorem quiet_load_cellsd {P : Program} {C : Act → Prop} {a : Act} {o : Oper} {W0 : World} (ty : TypeId) (x : Operand) (ho : o.op = .load ty x) (g q : Nat) (hx : a.eval x = .pointer (some ⟨g, q, none⟩)) (R : Array Value) (m : Nat)
    (d : TypeDesc) (hu : P.underlying ty = some d) (hd : d.isRow = true) (hty : (P.info? ty).map (·.size) = some m) (hc : ∀ z : Wd W0, ∀ (i : Nat) (u : Value), R[i]? = some u → z.w.cell? ⟨g, q + i, none⟩ = some u) (hm : R.size = m)
    (hk : C (a.put o.dst (.agg R))) : o.quiet P a (fun w' => ∃ y : Wd W0, w' = y.w) C :=
  ⟨.agg R, fun w' ⟨y, e⟩ => by
    subst e
    have hr := run_loadVar_mid (P := P) y.w g q ty R.toList d (fun j u hj => hc y j u (by rw [← hj, Array.getElem?_toList])) hu hd (by rw [hty, Array.length_toList, hm])
    rw [Array.toArray_toList] at hr
    unfold Oper.quietAt execOp
    simp only [ho, hx, Instr.loadAt, Instr.sureAddr, Sem.run_bind, Sem.run_pure, Result.andThen_ok, hr, Oper.quietUpon]
    exact ⟨trivial, trivial⟩, hk⟩
set_option maxRecDepth 100000 in
theorem wpList_load_kv {ops : Array Oper} {rest : List Oper} {o : Oper} {a : Act} {w : World} {Q : Exit → Act → World → Prop} (hgd : o.guard = none) (x : Operand) (ho : o.op = .load 23 x) (g q : Nat) (hx : a.eval x = .pointer (some ⟨g, q, none⟩)) (r : List UInt8) (hr : r.length = 32) (hc : ∀ (i : Nat) (u : Value), (krow r)[i]? = some u → w.cell? ⟨g, q + i, none⟩ = some u)
    (h : wpList Tryd.prog ops Q rest (a.put o.dst (.agg (krow r))) w) : wpList Tryd.prog ops Q (o :: rest) a w := by
  refine wpList_load_mid hgd 23 x ho g q hx (krow r).toList _ (fun j u hj => hc j u (by simpa using hj)) Tryd.underlying23 rfl (by rw [sz32, Array.length_toList, krow_size, hr]) ?_
  rw [Array.toArray_toList]; exact h
set_option maxRecDepth 100000 in
set_option maxHeartbeats 6400000 in
theorem chkl_bad {KK : Act → World → Prop} {Q : Exit → Act → World → Prop} {w : World} {n c b m rc lc k : Nat} {ida ra la : Option Addr} {id : List UInt8} {z : Int} {R L : List (List UInt8)} {ah : List UInt8} (hk : k < m) (hm : m ≤ 1000) (hRm : R.length = m) (hLm : L.length = m) (hah : ah.length = 32) (hid : Came w ida n c id) (hn6 : n ≤ 60000) (hb : w.heap[b]? = some (.cells (krow (Ck.prev L ah k)) 23 (0, 0))) (hK : Kv w ra R) (hKL : Kv w la L) (hE : Env w) (hg : Ck.good id z R L ah k = false) (fr : Array Value) (hn : fr.size = 39) (p0 : fr[0]? = some (.slice ida n c)) (p1 : fr[1]? = some (.int .i64 z)) (p3 : fr[3]? = some (.slice ra m rc)) (p7 : fr[7]? = some (.pointer (some ⟨b, 0, none⟩))) (p18 : fr[18]? = some (.slice la m lc)) (p19 : fr[19]? = some (.int .i64 (m : Int))) (p20 : fr[20]? = some (.int .i64 (k : Int)))
    (hQ : ∀ t' w', t'.size = 39 → t'[10]? = some (.int .i64 17) → Fr (fun _ => False) w w' → Q .ret ⟨t', []⟩ w') :
    Code.wp Tryd.prog (loopAt Tryd.f15 0) (Exit.then KK Q) ⟨fr, []⟩ w := by
  obtain ⟨r, hr⟩ : ∃ r, r = R.getD k [] := ⟨_, rfl⟩
  have hri : R[k]? = some r := by rw [hr, List.getD_eq_getElem?_getD, List.getElem?_eq_getElem (by omega)]; rfl
  have hr32 := hK.all r (List.mem_of_getElem? hri)
  obtain ⟨x, hx⟩ : ∃ x, x = L.getD k [] := ⟨_, rfl⟩
  have hxi : L[k]? = some x := by rw [hx, List.getD_eq_getElem?_getD, List.getElem?_eq_getElem (by omega)]; rfl
  have hx32 := hKL.all x (List.mem_of_getElem? hxi)
  obtain ⟨gr, or, rfl⟩ := hK.at (by omega)
  obtain ⟨gl, ol, rfl⟩ := hKL.at (by omega)
  have hcl := hK.cells hri
  have hcx := hKL.cells hxi
  have hp32 : (Ck.prev L ah k).length = 32 := by
    cases k with
    | zero => exact hah
    | succ j => show (L.getD j []).length = 32; rw [List.getD_eq_getElem?_getD, List.getElem?_eq_getElem (by omega)]; exact hKL.all _ (List.getElem_mem _)
  have hpn : Ck.prev L ah (k + 1) = x := hx.symm
  unfold Ck.good at hg
  rw [← hx, ← hr] at hg
  generalize Ck.prev L ah k = h0 at *
  obtain ⟨h1, hh1⟩ : ∃ h1, h1 = Ck.nx id z k r h0 := ⟨_, rfl⟩
  have hh1l : h1.length = 32 := by rw [hh1]; exact Ck.nx_len _ _ _ _ _
  have hep := Ck.ep_wrap z k
  rw [← Ck.w64] at hep
  have F0 := (Fr.refl (fun _ => False) w).alloc (.cells (ub 32 (fun _ => 0)) 23)
  have HNX := Lib.hid (fun (V : World) (F : Fr (fun _ => False) w V) => next_row ida n c id (wrap64 (z + (k : Int))) z k hep r h0 hr32 hp32 V (hid.ext F) hn6 (hE.ext F))
  rw [← hh1] at HNX hg
  have y1 : ∀ W : World, (binOp .neq 23 (.agg (krow x)) (.agg (krow h1))).run Tryd.prog W = .ok (.bool true) W := fun W => by rw [neq_row hx32 hh1l, hg]; rfl
  have q1 : (k : Int) < (m : Int) := by omega
  have q4 : (0 : Int) ≤ (k : Int) := Int.natCast_nonneg k
  have HW1 := Lib.hid (show wrap64 ((k : Int) + 1) = ((k + 1 : Nat) : Int) by rw [IntWalk.wrap64_in _ (by omega)]; omega)
  have HQ := Lib.hid hQ
  have HPN := Lib.hid hpn
  have HCL := Lib.hid hcl
  have HCX := Lib.hid hcx
  have HB := Lib.hid hb
  have H0 := Lib.hid hp32
  have H1 := Lib.hid hh1l
  have HX := Lib.hid hx32
  have HRL := Lib.hid hr32
  have HBL := Lib.hid (lt_of_block hb)
  clear hQ hcl hcx hb hp32 hh1l hr32 hx32 hep hh1 hri hxi hr hx hK hKL hid hn6 hE hah hRm hLm hm hg hpn F0
  obtain ⟨f, hff, rfl⟩ := frame_open hn
  have e0 := hff 0 _ p0
  have e1 := hff 1 _ p1
  have e3 := hff 3 _ p3
  have e7 := hff 7 _ p7
  have e18 := hff 18 _ p18
  have e19 := hff 19 _ p19
  have e20 := hff 20 _ p20
  clear hff hn p0 p1 p3 p7 p18 p19 p20
  rw [lit39, e0, e1, e3, e7, e18, e19, e20]
  clear e0 e1 e3 e7 e18 e19 e20
  conv => arg 2; whnf
  go_wp2_with (first | (focus ((refine wpList_load_kv rfl (.tmp 23) rfl gl (ol + k * 32) rfl x HX.out HCX.out ?_); simp only [Act.put, List.setIfInBounds_toArray, List.set_cons_zero, List.set_cons_succ])) | (focus (rw [zero32]; refine wpList_store_rowA rfl 23 (.tmp 12) (.tmp 24) rfl w.heap.size (krow x) rfl rfl 23 _ (heap_alloc_new w _) (sz32' HX.out) (by rw [ub_size, krow_size, HX.out]) (krow_one _) ?_; intro w2 B2 F2; simp only [Act.put, List.setIfInBounds_toArray, List.set_cons_zero, List.set_cons_succ]; refine Hid.out ?_)))
  have G2 : Fr (fun _ => False) w w2 := ((Fr.refl (fun _ => False) w).alloc (.cells (ub 32 (fun _ => 0)) 23)).trans F2 (fun i hi => .inr (by omega))
  have HB2 := Lib.hid ((G2.block _ HBL.out (fun h => h)).trans HB.out)
  have HG2 := Lib.hid G2
  have HL2 := Lib.hid B2
  clear G2 F2 B2
  generalize w.heap.size = bx at *
  refine Lib.hid ?_
  go_wp2_with fail
  have hc3 : ∀ u : Wd w2, ∀ (i : Nat) (y : Value), (krow r)[i]? = some y → u.w.cell? ⟨gr, or + k * 32 + i, none⟩ = some y := fun u i y hy => u.h.cellSome (p := ⟨gr, or + k * 32 + i, none⟩) (fun h => h) (HG2.out.cellSome (p := ⟨gr, or + k * 32 + i, none⟩) (fun h => h) (HCL.out i y hy))
  refine wp_region_keep (by kernel_rfl) (by kernel_rfl) ?_
  repeat (any_goals (first | (focus (go_big_quiet_want; (refine quiet_load_cellsd 23 (.tmp 32) rfl gr (or + k * 32) rfl (krow r) 32 _ Tryd.underlying23 rfl sz32 hc3 (by rw [krow_size]; exact HRL.out) ?_); simp only [Act.put, List.setIfInBounds_toArray, List.set_cons_zero, List.set_cons_succ]; go_big_quiet_on)) | (focus (go_big_quiet_want; (refine quiet_load_row 23 (.tmp 7) rfl b rfl 23 (krow h0) (0, 0) _ HB2.out Tryd.underlying23 rfl (sz32' H0.out) ?_); simp only [Act.put, List.setIfInBounds_toArray, List.set_cons_zero, List.set_cons_succ]; go_big_quiet_on)) | (focus (go_big_quiet_want; (refine quiet_load_row 23 (.tmp 12) rfl bx rfl 23 (krow x) (0, 0) _ HL2.out Tryd.underlying23 rfl (sz32' HX.out) ?_); simp only [Act.put, List.setIfInBounds_toArray, List.set_cons_zero, List.set_cons_succ]; go_big_quiet_on)) | go_big_quiet_step ((go_at_call 7; with_reducible exact Calls.keep (HNX.out _ (HG2.out.trans (Wd.h _) (fun _ h => h.elim))))) | quiet_step ((go_at_call 7; with_reducible exact Calls.keep (HNX.out _ (HG2.out.trans (Wd.h _) (fun _ h => h.elim)))))))
  refine wpQuiet_nil ?_
  intro _ hwz
  obtain ⟨u, rfl⟩ := hwz
  have hF := u.h
  generalize u.w = wx at *
  clear y1 hc3
  have H3 := Lib.hid (HG2.out.trans hF (fun _ h => h.elim))
  go_wp2_with fail
  exact HQ.out _ _ (by first | rfl | simp) rfl H3.out
set_option maxRecDepth 100000 in
set_option maxHeartbeats 6400000 in
theorem chkl_in {KK : Act → World → Prop} {Q : Exit → Act → World → Prop} {w : World} {n c b m rc lc k : Nat} {ida ra la : Option Addr} {id : List UInt8} {z : Int} {R L : List (List UInt8)} {ah : List UInt8} (hk : k < m) (hm : m ≤ 1000) (hRm : R.length = m) (hLm : L.length = m) (hah : ah.length = 32) (hid : Came w ida n c id) (hn6 : n ≤ 60000) (hb : w.heap[b]? = some (.cells (krow (Ck.prev L ah k)) 23 (0, 0))) (hK : Kv w ra R) (hKL : Kv w la L) (hE : Env w) (hg : Ck.good id z R L ah k = true) (fr : Array Value) (hn : fr.size = 39) (p0 : fr[0]? = some (.slice ida n c)) (p1 : fr[1]? = some (.int .i64 z)) (p3 : fr[3]? = some (.slice ra m rc)) (p7 : fr[7]? = some (.pointer (some ⟨b, 0, none⟩))) (p18 : fr[18]? = some (.slice la m lc)) (p19 : fr[19]? = some (.int .i64 (m : Int))) (p20 : fr[20]? = some (.int .i64 (k : Int)))
    (hQ : ∀ t' w', t'.size = 39 → t'[0]? = some (.slice ida n c) → t'[1]? = some (.int .i64 z) → t'[3]? = some (.slice ra m rc) → t'[7]? = some (.pointer (some ⟨b, 0, none⟩)) → t'[18]? = some (.slice la m lc) → t'[19]? = some (.int .i64 (m : Int)) → t'[20]? = some (.int .i64 (((k + 1 : Nat) : Int) : Int)) → w'.heap[b]? = some (.cells (krow (Ck.prev L ah (k + 1))) 23 (0, 0)) → Fr (fun i => i = b) w w' → KK ⟨t', []⟩ w') :
    Code.wp Tryd.prog (loopAt Tryd.f15 0) (Exit.then KK Q) ⟨fr, []⟩ w := by
  obtain ⟨r, hr⟩ : ∃ r, r = R.getD k [] := ⟨_, rfl⟩
  have hri : R[k]? = some r := by rw [hr, List.getD_eq_getElem?_getD, List.getElem?_eq_getElem (by omega)]; rfl
  have hr32 := hK.all r (List.mem_of_getElem? hri)
  obtain ⟨x, hx⟩ : ∃ x, x = L.getD k [] := ⟨_, rfl⟩
  have hxi : L[k]? = some x := by rw [hx, List.getD_eq_getElem?_getD, List.getElem?_eq_getElem (by omega)]; rfl
  have hx32 := hKL.all x (List.mem_of_getElem? hxi)
  obtain ⟨gr, or, rfl⟩ := hK.at (by omega)
  obtain ⟨gl, ol, rfl⟩ := hKL.at (by omega)
  have hcl := hK.cells hri
  have hcx := hKL.cells hxi
  have hp32 : (Ck.prev L ah k).length = 32 := by
    cases k with
    | zero => exact hah
    | succ j => show (L.getD j []).length = 32; rw [List.getD_eq_getElem?_getD, List.getElem?_eq_getElem (by omega)]; exact hKL.all _ (List.getElem_mem _)
  have hpn : Ck.prev L ah (k + 1) = x := hx.symm
  unfold Ck.good at hg
  rw [← hx, ← hr] at hg
  generalize Ck.prev L ah k = h0 at *
  obtain ⟨h1, hh1⟩ : ∃ h1, h1 = Ck.nx id z k r h0 := ⟨_, rfl⟩
  have hh1l : h1.length = 32 := by rw [hh1]; exact Ck.nx_len _ _ _ _ _
  have hep := Ck.ep_wrap z k
  rw [← Ck.w64] at hep
  have F0 := (Fr.refl (fun _ => False) w).alloc (.cells (ub 32 (fun _ => 0)) 23)
  have HNX := Lib.hid (fun (V : World) (F : Fr (fun _ => False) w V) => next_row ida n c id (wrap64 (z + (k : Int))) z k hep r h0 hr32 hp32 V (hid.ext F) hn6 (hE.ext F))
  rw [← hh1] at HNX hg
  have y1 : ∀ W : World, (binOp .neq 23 (.agg (krow x)) (.agg (krow h1))).run Tryd.prog W = .ok (.bool false) W := fun W => by rw [neq_row hx32 hh1l, hg]; rfl
  have q1 : (k : Int) < (m : Int) := by omega
  have q4 : (0 : Int) ≤ (k : Int) := Int.natCast_nonneg k
  have HW1 := Lib.hid (show wrap64 ((k : Int) + 1) = ((k + 1 : Nat) : Int) by rw [IntWalk.wrap64_in _ (by omega)]; omega)
  have HQ := Lib.hid hQ
  have HPN := Lib.hid hpn
  have HCL := Lib.hid hcl
  have HCX := Lib.hid hcx
  have HB := Lib.hid hb
  have H0 := Lib.hid hp32
  have H1 := Lib.hid hh1l
  have HX := Lib.hid hx32
  have HRL := Lib.hid hr32
  have HBL := Lib.hid (lt_of_block hb)
  clear hQ hcl hcx hb hp32 hh1l hr32 hx32 hep hh1 hri hxi hr hx hK hKL hid hn6 hE hah hRm hLm hm hg hpn F0
  obtain ⟨f, hff, rfl⟩ := frame_open hn
  have e0 := hff 0 _ p0
  have e1 := hff 1 _ p1
  have e3 := hff 3 _ p3
  have e7 := hff 7 _ p7
  have e18 := hff 18 _ p18
  have e19 := hff 19 _ p19
  have e20 := hff 20 _ p20
  clear hff hn p0 p1 p3 p7 p18 p19 p20
  rw [lit39, e0, e1, e3, e7, e18, e19, e20]
  clear e0 e1 e3 e7 e18 e19 e20
  conv => arg 2; whnf
  go_wp2_with (first | (focus ((refine wpList_load_kv rfl (.tmp 23) rfl gl (ol + k * 32) rfl x HX.out HCX.out ?_); simp only [Act.put, List.setIfInBounds_toArray, List.set_cons_zero, List.set_cons_succ])) | (focus (rw [zero32]; refine wpList_store_rowA rfl 23 (.tmp 12) (.tmp 24) rfl w.heap.size (krow x) rfl rfl 23 _ (heap_alloc_new w _) (sz32' HX.out) (by rw [ub_size, krow_size, HX.out]) (krow_one _) ?_; intro w2 B2 F2; simp only [Act.put, List.setIfInBounds_toArray, List.set_cons_zero, List.set_cons_succ]; refine Hid.out ?_)))
  have G2 : Fr (fun _ => False) w w2 := ((Fr.refl (fun _ => False) w).alloc (.cells (ub 32 (fun _ => 0)) 23)).trans F2 (fun i hi => .inr (by omega))
  have HB2 := Lib.hid ((G2.block _ HBL.out (fun h => h)).trans HB.out)
  have HG2 := Lib.hid G2
  have HL2 := Lib.hid B2
  clear G2 F2 B2
  generalize w.heap.size = bx at *
  refine Lib.hid ?_
  go_wp2_with fail
  have hc3 : ∀ u : Wd w2, ∀ (i : Nat) (y : Value), (krow r)[i]? = some y → u.w.cell? ⟨gr, or + k * 32 + i, none⟩ = some y := fun u i y hy => u.h.cellSome (p := ⟨gr, or + k * 32 + i, none⟩) (fun h => h) (HG2.out.cellSome (p := ⟨gr, or + k * 32 + i, none⟩) (fun h => h) (HCL.out i y hy))
  refine wp_region_keep (by kernel_rfl) (by kernel_rfl) ?_
  repeat (any_goals (first | (focus (go_big_quiet_want; (refine quiet_load_cellsd 23 (.tmp 32) rfl gr (or + k * 32) rfl (krow r) 32 _ Tryd.underlying23 rfl sz32 hc3 (by rw [krow_size]; exact HRL.out) ?_); simp only [Act.put, List.setIfInBounds_toArray, List.set_cons_zero, List.set_cons_succ]; go_big_quiet_on)) | (focus (go_big_quiet_want; (refine quiet_load_row 23 (.tmp 7) rfl b rfl 23 (krow h0) (0, 0) _ HB2.out Tryd.underlying23 rfl (sz32' H0.out) ?_); simp only [Act.put, List.setIfInBounds_toArray, List.set_cons_zero, List.set_cons_succ]; go_big_quiet_on)) | (focus (go_big_quiet_want; (refine quiet_load_row 23 (.tmp 12) rfl bx rfl 23 (krow x) (0, 0) _ HL2.out Tryd.underlying23 rfl (sz32' HX.out) ?_); simp only [Act.put, List.setIfInBounds_toArray, List.set_cons_zero, List.set_cons_succ]; go_big_quiet_on)) | go_big_quiet_step ((go_at_call 7; with_reducible exact Calls.keep (HNX.out _ (HG2.out.trans (Wd.h _) (fun _ h => h.elim))))) | quiet_step ((go_at_call 7; with_reducible exact Calls.keep (HNX.out _ (HG2.out.trans (Wd.h _) (fun _ h => h.elim)))))))
  refine wpQuiet_nil ?_
  intro _ hwz
  obtain ⟨u, rfl⟩ := hwz
  have hF := u.h
  generalize u.w = wx at *
  clear y1 hc3
  have hb3 := (hF.block _ (lt_of_block HB2.out) (fun h => h)).trans HB2.out
  have hl3 := (hF.block _ (lt_of_block HL2.out) (fun h => h)).trans HL2.out
  have G3 := Lib.hid (HG2.out.trans hF (fun _ h => h.elim))
  clear hF
  go_wp2_with (first | (focus ((refine wpList_load_row rfl 23 (.tmp 12) rfl bx rfl 23 (krow x) (0, 0) _ hl3 Tryd.underlying23 rfl (sz32' HX.out) ?_); simp only [Act.put, List.setIfInBounds_toArray, List.set_cons_zero, List.set_cons_succ])) | (focus (refine wpList_store_rowA rfl 23 (.tmp 7) (.tmp 37) rfl b (krow x) rfl rfl 23 _ hb3 (sz32' HX.out) (by rw [krow_size, krow_size, H0.out, HX.out]) (krow_one _) ?_; intro w4 B4 F4; simp only [Act.put, List.setIfInBounds_toArray, List.set_cons_zero, List.set_cons_succ]; refine Hid.out ?_)))
  have H4 := Lib.hid (And.intro B4 ((G3.out.mono (fun _ _ h => h.elim)).trans F4 (fun i hi => .inl hi)))
  clear B4 F4 hb3 hl3
  refine Lib.hid ?_
  go_wp2_with fail
  exact HQ.out _ _ (by first | rfl | simp) rfl rfl rfl rfl rfl rfl (congrArg (fun z => some (Value.int .i64 z)) HW1.out) (by rw [HPN.out]; exact H4.out.1) H4.out.2
end Go.Proofs.YtikdgjgcopjocaaDoor
namespace Go.Proofs.YtikdgjgcopjocaaDoor
open Go.RowKit
set_option linter.unusedVariables false
set_option linter.unusedSimpArgs false
set_option maxRecDepth 100000 in
set_option maxHeartbeats 6400000 in
theorem chkl_end {KK : Act → World → Prop} {Q : Exit → Act → World → Prop} {w : World} {n c b m rc lc : Nat} {ida ra la : Option Addr} {z : Int} (fr : Array Value) (hn : fr.size = 39) (p0 : fr[0]? = some (.slice ida n c)) (p1 : fr[1]? = some (.int .i64 z)) (p3 : fr[3]? = some (.slice ra m rc)) (p7 : fr[7]? = some (.pointer (some ⟨b, 0, none⟩))) (p18 : fr[18]? = some (.slice la m lc)) (p19 : fr[19]? = some (.int .i64 (m : Int))) (p20 : fr[20]? = some (.int .i64 (m : Int)))
    (hQ : ∀ t', t'.size = 39 → Q (.exit 0) ⟨t', []⟩ w) :
    Code.wp Tryd.prog (loopAt Tryd.f15 0) (Exit.then KK Q) ⟨fr, []⟩ w := by
  have q2 : ¬ ((m : Int) < (m : Int)) := by omega
  have q2b : ¬ (m < m) := by omega
  have HK := Lib.hid hQ
  clear hQ
  obtain ⟨f, hff, rfl⟩ := frame_open hn
  have e0 := hff 0 _ p0
  have e1 := hff 1 _ p1
  have e3 := hff 3 _ p3
  have e7 := hff 7 _ p7
  have e18 := hff 18 _ p18
  have e19 := hff 19 _ p19
  have e20 := hff 20 _ p20
  clear hff hn p0 p1 p3 p7 p18 p19 p20
  rw [lit39, e0, e1, e3, e7, e18, e19, e20]
  clear e0 e1 e3 e7 e18 e19 e20
  conv => arg 2; whnf
  go_wp2_with fail
  exact HK.out _ (by first | rfl | simp)
set_option maxRecDepth 100000 in
set_option maxHeartbeats 6400000 in
theorem chkl_loop {Q : Exit → Act → World → Prop} {w0 w : World} {n c b m rc lc : Nat} {ida ra la : Option Addr} {id : List UInt8} {z : Int} {R L : List (List UInt8)} {ah : List UInt8} (hm : m ≤ 1000) (hRm : R.length = m) (hLm : L.length = m) (hah : ah.length = 32) (F0 : Fr (fun _ => False) w0 w) (hb0 : w0.heap.size ≤ b) (hid : Came w0 ida n c id) (hn6 : n ≤ 60000) (hb : w.heap[b]? = some (.cells (krow ah) 23 (0, 0))) (hK : Kv w0 ra R) (hKL : Kv w0 la L) (hE : Env w0) (fr : Array Value) (hn : fr.size = 39) (p0 : fr[0]? = some (.slice ida n c)) (p1 : fr[1]? = some (.int .i64 z)) (p3 : fr[3]? = some (.slice ra m rc)) (p7 : fr[7]? = some (.pointer (some ⟨b, 0, none⟩))) (p18 : fr[18]? = some (.slice la m lc)) (p19 : fr[19]? = some (.int .i64 (m : Int))) (p20 : fr[20]? = some (.int .i64 (0 : Int)))
    (hQ : ∀ t' w', t'.size = 39 → Ck.chk id z R L ah = 0 → Fr (fun _ => False) w0 w' → Q (.exit 0) ⟨t', []⟩ w')
    (hQ2 : ∀ t' w', t'.size = 39 → t'[10]? = some (.int .i64 17) → Ck.chk id z R L ah = 17 → Fr (fun _ => False) w0 w' → Q .ret ⟨t', []⟩ w') :
    Code.wp Tryd.prog (.loop (loopAt Tryd.f15 0)) Q ⟨fr, []⟩ w := by
  refine wp_loop_up m (fun k t w' => t.size = 39 ∧ t[0]? = some (.slice ida n c) ∧ t[1]? = some (.int .i64 z) ∧ t[3]? = some (.slice ra m rc) ∧ t[7]? = some (.pointer (some ⟨b, 0, none⟩)) ∧ t[18]? = some (.slice la m lc) ∧ t[19]? = some (.int .i64 (m : Int)) ∧ t[20]? = some (.int .i64 (k : Int)) ∧ w'.heap[b]? = some (.cells (krow (Ck.prev L ah k)) 23 (0, 0)) ∧ (∀ j, j < k → Ck.good id z R L ah j = true) ∧ Fr (fun _ => False) w0 w') fr w ⟨hn, p0, p1, p3, p7, p18, p19, p20, hb, fun j hj => absurd hj (Nat.not_lt_zero j), F0⟩ ?_
  rintro k t w1 hk ⟨hn1, p0, p1, p3, p7, p18, p19, p20, hb1, hg1, F1⟩ KK hKK
  by_cases hlt : k < m
  · cases hgk : Ck.good id z R L ah k with
    | true =>
      exact chkl_in hlt hm hRm hLm hah (hid.ext F1) hn6 hb1 (hK.ext F1) (hKL.ext F1) (hE.ext F1) hgk t hn1 p0 p1 p3 p7 p18 p19 p20 (fun t' w' b0 b1 b2 b3 b4 b5 b6 b7 b8 b9 => hKK t' w' (by omega) ⟨b0, b1, b2, b3, b4, b5, b6, b7, b8, fun j hj => by
        rcases Nat.lt_or_ge j k with h | h
        · exact hg1 j h
        · have : j = k := by omega
          rw [this]; exact hgk, F1.trans b9 (fun i hi => .inr (by rw [hi]; exact hb0))⟩)
    | false =>
      exact chkl_bad hlt hm hRm hLm hah (hid.ext F1) hn6 hb1 (hK.ext F1) (hKL.ext F1) (hE.ext F1) hgk t hn1 p0 p1 p3 p7 p18 p19 p20 (fun t' w' b0 b1 b2 => hQ2 t' w' b0 b1 (Ck.chk_bad (by rw [hRm, hLm]) (by rw [hLm]; exact hlt) hgk) (F1.trans b2 (fun _ h => h.elim)))
  · have : k = m := by omega
    subst this
    exact chkl_end t hn1 p0 p1 p3 p7 p18 p19 p20 (fun t' b0 => hQ t' w1 b0 (Ck.chk_ok (by rw [hRm, hLm]) (fun j hj => hg1 j (by omega))) F1)
set_option maxRecDepth 100000 in
set_option maxHeartbeats 6400000 in
theorem chkl_any (ida : Option Addr) (n c : Nat) (id : List UInt8) (z : Int) (ah : List UInt8) (ra la : Option Addr) (rn rc ln lc : Nat) (R L : List (List UInt8)) (w : World) (hid : Came w ida n c id) (hn6 : n ≤ 60000) (hah : ah.length = 32) (hRn : R.length = rn) (hLn : L.length = ln) (hm : ln ≤ 1000) (hm2 : rn ≤ 1000) (hK : Kv w ra R) (hKL : Kv w la L) (hE : Env w) :
    Calls Tryd.prog 15 #[.slice ida n c, .int .i64 z, .agg (krow ah), .slice ra rn rc, .slice la ln lc] w fun e w' => e = .returned (.int .i64 (Ck.chk id z R L ah)) ∧ Fr (fun _ => False) w w' := by
  have F0 := (Fr.refl (fun _ => False) w).alloc (.cells (krow ah) 23)
  have HB := Lib.hid (heap_alloc_new w (.cells (krow ah) 23))
  have HF := Lib.hid F0
  by_cases hrl : rn = ln
  · subst hrl
    have b0 : ((rn : Int) == (rn : Int)) = true := beq_self_eq_true _
    have b1 : (rn == rn) = true := beq_self_eq_true _
    have HS := Lib.hid (And.intro hid (And.intro hn6 (And.intro hah (And.intro hRn (And.intro hLn (And.intro hm (And.intro hK (And.intro hKL hE))))))))
    clear hid hn6 hah hRn hLn hm hm2 hK hKL hE F0
    go_enter Tryd.func15, Tryd.ntmps15
    go_wp2_with fail
    refine chkl_loop (w0 := w) (b := w.heap.size) (R := R) (L := L) (ah := ah) (id := id) (z := z) HS.out.2.2.2.2.2.1 HS.out.2.2.2.1 HS.out.2.2.2.2.1 HS.out.2.2.1 HF.out (Nat.le_refl _) HS.out.1 HS.out.2.1 HB.out HS.out.2.2.2.2.2.2.1 HS.out.2.2.2.2.2.2.2.1 HS.out.2.2.2.2.2.2.2.2 _ (by first | rfl | simp) rfl rfl rfl rfl rfl rfl rfl ?_ ?_
    · intro t' w' hn hc F
      have HC := Lib.hid hc
      have HG := Lib.hid F
      clear hc F
      obtain ⟨f, hff, rfl⟩ := frame_open hn
      clear hff hn
      rw [lit39]
      go_wp2_with fail
      go_ret
      exact ⟨by rw [HC.out]; rfl, HG.out⟩
    · intro t' w' hn p10 hc F
      have HC := Lib.hid hc
      have HG := Lib.hid F
      clear hc F
      obtain ⟨f, hff, rfl⟩ := frame_open hn
      have e10 := hff 10 _ p10
      clear hff hn p10
      rw [lit39, e10]
      clear e10
      go_wp2_with fail
      go_ret
      exact ⟨by rw [HC.out]; rfl, HG.out⟩
  · have b0 : ((rn : Int) == (ln : Int)) = false := beq_eq_false_iff_ne.2 (by omega)
    have b1 : (rn == ln) = false := beq_eq_false_iff_ne.2 hrl
    have HC := Lib.hid (Ck.chk_one (id := id) (z := z) (a := ah) (show R.length ≠ L.length by rw [hRn, hLn]; exact hrl))
    clear hid hn6 hah hRn hLn hm hm2 hK hKL hE F0 hrl
    go_enter Tryd.func15, Tryd.ntmps15
    go_wp2_with fail
    go_ret
    exact ⟨by first | (rw [HC.out]; done) | (rw [HC.out]; rfl), HF.out⟩
end Go.Proofs.YtikdgjgcopjocaaDoor
namespace Go.Proofs.YtikdgjgcopjocaaDoor
open Go.RowKit
set_option linter.unusedVariables false
set_option linter.unusedSimpArgs false
set_option maxRecDepth 100000 in
theorem lit46 (f : Nat → Value) : ((List.range 46).map f).toArray = (f 0 :: f 1 :: f 2 :: f 3 :: f 4 :: f 5 :: f 6 :: f 7 :: f 8 :: f 9 :: f 10 :: f 11 :: f 12 :: f 13 :: f 14 :: f 15 :: f 16 :: f 17 :: f 18 :: f 19 :: f 20 :: f 21 :: f 22 :: f 23 :: f 24 :: f 25 :: f 26 :: f 27 :: f 28 :: f 29 :: f 30 :: f 31 :: f 32 :: f 33 :: f 34 :: f 35 :: f 36 :: f 37 :: f 38 :: f 39 :: f 40 :: f 41 :: f 42 :: f 43 :: f 44 :: f 45 :: []).toArray := by kernel_rfl
set_option maxRecDepth 100000 in
set_option maxHeartbeats 6400000 in
theorem rchk_bad {KK : Act → World → Prop} {Q : Exit → Act → World → Prop} {w : World} {m rc lc k : Nat} {ra la : Option Addr} {id : List UInt8} {z : Int} {R L : List (List UInt8)} {ah : List UInt8} (hk : k < m) (hm : m ≤ 1000) (hRm : R.length = m) (hLm : L.length = m) (hah : ah.length = 32) (hn6 : id.length ≤ 60000) (hR32 : Lg.All32 R) (hL32 : Lg.All32 L) (hK : Sv w ra R) (hKL : Sv w la L) (hE : REnv w) (hg : Ck.good id z R L ah k = false) (fr : Array Value) (hn : fr.size = 46) (p0 : fr[0]? = some (.string ⟨(id).toArray⟩)) (p1 : fr[1]? = some (.int .i64 z)) (p3 : fr[3]? = some (.slice ra m rc)) (p4 : fr[4]? = some (.slice la m lc)) (p11 : fr[11]? = some (.int .i64 (k : Int))) (p2 : fr[2]? = some (.string ⟨(Ck.prev L ah k).toArray⟩))
    (hQ : ∀ t' w', t'.size = 46 → t'[10]? = some (.int .i64 17) → Fr (fun _ => False) w w' → Q .ret ⟨t', []⟩ w') :
    Code.wp Tryd.prog (loopAt Tryd.f16 0) (Exit.then KK Q) ⟨fr, []⟩ w := by
  obtain ⟨r, hr⟩ : ∃ r, r = R.getD k [] := ⟨_, rfl⟩
  have hri : R[k]? = some r := by rw [hr, List.getD_eq_getElem?_getD, List.getElem?_eq_getElem (by omega)]; rfl
  have hr32 := hR32 r (List.mem_of_getElem? hri)
  obtain ⟨x, hx⟩ : ∃ x, x = L.getD k [] := ⟨_, rfl⟩
  have hxi : L[k]? = some x := by rw [hx, List.getD_eq_getElem?_getD, List.getElem?_eq_getElem (by omega)]; rfl
  have hx32 := hL32 x (List.mem_of_getElem? hxi)
  obtain ⟨gr, or, rfl⟩ := hK.at (by omega)
  obtain ⟨gl, ol, rfl⟩ := hKL.at (by omega)
  have hcr := hK.cell hri
  have hcx := hKL.cell hxi
  have hp32 : (Ck.prev L ah k).length = 32 := by
    cases k with
    | zero => exact hah
    | succ j => show (L.getD j []).length = 32; rw [List.getD_eq_getElem?_getD, List.getElem?_eq_getElem (by omega)]; exact hL32 _ (List.getElem_mem _)
  have hpn : Ck.prev L ah (k + 1) = x := hx.symm
  unfold Ck.good at hg
  rw [← hx, ← hr] at hg
  generalize Ck.prev L ah k = h0 at *
  obtain ⟨tx, htx⟩ : ∃ tx, tx = CH.text id (Ck.ep z k) r h0 := ⟨_, rfl⟩
  have htl : tx.length ≤ 1000000 := by rw [htx, CH.text_length]; omega
  obtain ⟨h1, hh1⟩ : ∃ h1, h1 = Ck.nx id z k r h0 := ⟨_, rfl⟩
  have hh1' : h1 = S2.sum tx := by rw [hh1, htx]; rfl
  obtain ⟨s, hs⟩ : ∃ s : Nat, IntKind.u64.wrap (IntKind.u64.wrap z + IntKind.u64.wrap (k : Int)) = (s : Int) := ⟨(IntKind.u64.wrap (IntKind.u64.wrap z + IntKind.u64.wrap (k : Int))).toNat, (Int.toNat_of_nonneg (Int.emod_nonneg _ (show (18446744073709551616 : Int) ≠ 0 by decide))).symm⟩
  have hep := Ck.ep_wrap2 z k
  rw [hs, ← Ck.w64] at hep
  have HTX := Lib.hid (fun (V : World) => rctext_any id r h0 (wrap64 (s : Int)) (Ck.ep z k) hep hn6 (by omega) (by omega) V)
  have HSU := Lib.hid (show ∀ (V : World) (F : Fr (fun _ => False) w V), Calls Tryd.prog 12 #[.string ⟨tx.toArray⟩] V fun e w' => e = .returned (.string ⟨h1.toArray⟩) ∧ Fr (fun _ => False) V w' from fun V F => by rw [hh1']; exact rsum_str tx htl V (hE.ext F))
  rw [← htx] at HTX
  have y1 : (x == h1) = false := by rw [hh1]; exact hg
  have q1 : (k : Int) < (m : Int) := by omega
  have q4 : (0 : Int) ≤ (k : Int) := Int.natCast_nonneg k
  have HW1 := Lib.hid (show wrap64 ((k : Int) + 1) = ((k + 1 : Nat) : Int) by rw [IntWalk.wrap64_in _ (by omega)]; omega)
  have HQ := Lib.hid hQ
  have HPN := Lib.hid hpn
  have HCR := Lib.hid hcr
  have HCX := Lib.hid hcx
  have E1 : Value.int .u64 (IntKind.u64.wrap (IntKind.u64.wrap z + IntKind.u64.wrap (k : Int))) = Value.int .u64 (s : Int) := by rw [hs]
  clear hQ hcr hcx hp32 hr32 hx32 hep hs hh1 hh1' htl htx hri hxi hr hx hK hKL hn6 hE hah hRm hLm hm hg hpn hR32 hL32
  obtain ⟨f, hff, rfl⟩ := frame_open hn
  have e0 := hff 0 _ p0
  have e1 := hff 1 _ p1
  have e3 := hff 3 _ p3
  have e4 := hff 4 _ p4
  have e11 := hff 11 _ p11
  have e2 := hff 2 _ p2
  clear hff hn p0 p1 p3 p4 p11 p2
  rw [lit46, e0, e1, e3, e4, e11, e2]
  clear e0 e1 e3 e4 e11 e2
  conv => arg 2; whnf
  go_wp2_with fail
  have kr : ∀ u : Wd w, u.w.cell? ⟨gr, or + k, none⟩ = some (.string ⟨r.toArray⟩) := fun u => u.h.cellSome (p := ⟨gr, or + k, none⟩) (fun h => h) HCR.out
  have kl : ∀ u : Wd w, u.w.cell? ⟨gl, ol + k, none⟩ = some (.string ⟨x.toArray⟩) := fun u => u.h.cellSome (p := ⟨gl, ol + k, none⟩) (fun h => h) HCX.out
  refine wp_region_keep (by kernel_rfl) (by kernel_rfl) ?_
  repeat (any_goals (first | go_big_quiet_step ((first | (go_at_call 8; with_reducible exact Calls.keep (HTX.out _)) | (go_at_call 12; exact Calls.keep (HSU.out _ (Wd.h _))))) | quiet_step ((first | (go_at_call 8; with_reducible exact Calls.keep (HTX.out _)) | (go_at_call 12; exact Calls.keep (HSU.out _ (Wd.h _)))))))
  refine wpQuiet_nil ?_
  intro _ hwz
  obtain ⟨u, rfl⟩ := hwz
  have hF := u.h
  have kx := kl u
  generalize u.w = wx at *
  have HF := Lib.hid hF
  clear y1 kr kl E1 hF
  go_wp2_with fail
  exact HQ.out _ _ (by first | rfl | simp) rfl HF.out
set_option maxRecDepth 100000 in
set_option maxHeartbeats 6400000 in
theorem rchk_in {KK : Act → World → Prop} {Q : Exit → Act → World → Prop} {w : World} {m rc lc k : Nat} {ra la : Option Addr} {id : List UInt8} {z : Int} {R L : List (List UInt8)} {ah : List UInt8} (hk : k < m) (hm : m ≤ 1000) (hRm : R.length = m) (hLm : L.length = m) (hah : ah.length = 32) (hn6 : id.length ≤ 60000) (hR32 : Lg.All32 R) (hL32 : Lg.All32 L) (hK : Sv w ra R) (hKL : Sv w la L) (hE : REnv w) (hg : Ck.good id z R L ah k = true) (fr : Array Value) (hn : fr.size = 46) (p0 : fr[0]? = some (.string ⟨(id).toArray⟩)) (p1 : fr[1]? = some (.int .i64 z)) (p3 : fr[3]? = some (.slice ra m rc)) (p4 : fr[4]? = some (.slice la m lc)) (p11 : fr[11]? = some (.int .i64 (k : Int))) (p2 : fr[2]? = some (.string ⟨(Ck.prev L ah k).toArray⟩))
    (hQ : ∀ t' w', t'.size = 46 → t'[0]? = some (.string ⟨(id).toArray⟩) → t'[1]? = some (.int .i64 z) → t'[3]? = some (.slice ra m rc) → t'[4]? = some (.slice la m lc) → t'[11]? = some (.int .i64 (((k + 1 : Nat) : Int) : Int)) → t'[2]? = some (.string ⟨(Ck.prev L ah (k + 1)).toArray⟩) → Fr (fun _ => False) w w' → KK ⟨t', []⟩ w') :
    Code.wp Tryd.prog (loopAt Tryd.f16 0) (Exit.then KK Q) ⟨fr, []⟩ w := by
  obtain ⟨r, hr⟩ : ∃ r, r = R.getD k [] := ⟨_, rfl⟩
  have hri : R[k]? = some r := by rw [hr, List.getD_eq_getElem?_getD, List.getElem?_eq_getElem (by omega)]; rfl
  have hr32 := hR32 r (List.mem_of_getElem? hri)
  obtain ⟨x, hx⟩ : ∃ x, x = L.getD k [] := ⟨_, rfl⟩
  have hxi : L[k]? = some x := by rw [hx, List.getD_eq_getElem?_getD, List.getElem?_eq_getElem (by omega)]; rfl
  have hx32 := hL32 x (List.mem_of_getElem? hxi)
  obtain ⟨gr, or, rfl⟩ := hK.at (by omega)
  obtain ⟨gl, ol, rfl⟩ := hKL.at (by omega)
  have hcr := hK.cell hri
  have hcx := hKL.cell hxi
  have hp32 : (Ck.prev L ah k).length = 32 := by
    cases k with
    | zero => exact hah
    | succ j => show (L.getD j []).length = 32; rw [List.getD_eq_getElem?_getD, List.getElem?_eq_getElem (by omega)]; exact hL32 _ (List.getElem_mem _)
  have hpn : Ck.prev L ah (k + 1) = x := hx.symm
  unfold Ck.good at hg
  rw [← hx, ← hr] at hg
  generalize Ck.prev L ah k = h0 at *
  obtain ⟨tx, htx⟩ : ∃ tx, tx = CH.text id (Ck.ep z k) r h0 := ⟨_, rfl⟩
  have htl : tx.length ≤ 1000000 := by rw [htx, CH.text_length]; omega
  obtain ⟨h1, hh1⟩ : ∃ h1, h1 = Ck.nx id z k r h0 := ⟨_, rfl⟩
  have hh1' : h1 = S2.sum tx := by rw [hh1, htx]; rfl
  obtain ⟨s, hs⟩ : ∃ s : Nat, IntKind.u64.wrap (IntKind.u64.wrap z + IntKind.u64.wrap (k : Int)) = (s : Int) := ⟨(IntKind.u64.wrap (IntKind.u64.wrap z + IntKind.u64.wrap (k : Int))).toNat, (Int.toNat_of_nonneg (Int.emod_nonneg _ (show (18446744073709551616 : Int) ≠ 0 by decide))).symm⟩
  have hep := Ck.ep_wrap2 z k
  rw [hs, ← Ck.w64] at hep
  have HTX := Lib.hid (fun (V : World) => rctext_any id r h0 (wrap64 (s : Int)) (Ck.ep z k) hep hn6 (by omega) (by omega) V)
  have HSU := Lib.hid (show ∀ (V : World) (F : Fr (fun _ => False) w V), Calls Tryd.prog 12 #[.string ⟨tx.toArray⟩] V fun e w' => e = .returned (.string ⟨h1.toArray⟩) ∧ Fr (fun _ => False) V w' from fun V F => by rw [hh1']; exact rsum_str tx htl V (hE.ext F))
  rw [← htx] at HTX
  have y1 : (x == h1) = true := by rw [hh1]; exact hg
  have q1 : (k : Int) < (m : Int) := by omega
  have q4 : (0 : Int) ≤ (k : Int) := Int.natCast_nonneg k
  have HW1 := Lib.hid (show wrap64 ((k : Int) + 1) = ((k + 1 : Nat) : Int) by rw [IntWalk.wrap64_in _ (by omega)]; omega)
  have HQ := Lib.hid hQ
  have HPN := Lib.hid hpn
  have HCR := Lib.hid hcr
  have HCX := Lib.hid hcx
  have E1 : Value.int .u64 (IntKind.u64.wrap (IntKind.u64.wrap z + IntKind.u64.wrap (k : Int))) = Value.int .u64 (s : Int) := by rw [hs]
  clear hQ hcr hcx hp32 hr32 hx32 hep hs hh1 hh1' htl htx hri hxi hr hx hK hKL hn6 hE hah hRm hLm hm hg hpn hR32 hL32
  obtain ⟨f, hff, rfl⟩ := frame_open hn
  have e0 := hff 0 _ p0
  have e1 := hff 1 _ p1
  have e3 := hff 3 _ p3
  have e4 := hff 4 _ p4
  have e11 := hff 11 _ p11
  have e2 := hff 2 _ p2
  clear hff hn p0 p1 p3 p4 p11 p2
  rw [lit46, e0, e1, e3, e4, e11, e2]
  clear e0 e1 e3 e4 e11 e2
  conv => arg 2; whnf
  go_wp2_with fail
  have kr : ∀ u : Wd w, u.w.cell? ⟨gr, or + k, none⟩ = some (.string ⟨r.toArray⟩) := fun u => u.h.cellSome (p := ⟨gr, or + k, none⟩) (fun h => h) HCR.out
  have kl : ∀ u : Wd w, u.w.cell? ⟨gl, ol + k, none⟩ = some (.string ⟨x.toArray⟩) := fun u => u.h.cellSome (p := ⟨gl, ol + k, none⟩) (fun h => h) HCX.out
  refine wp_region_keep (by kernel_rfl) (by kernel_rfl) ?_
  repeat (any_goals (first | go_big_quiet_step ((first | (go_at_call 8; with_reducible exact Calls.keep (HTX.out _)) | (go_at_call 12; exact Calls.keep (HSU.out _ (Wd.h _))))) | quiet_step ((first | (go_at_call 8; with_reducible exact Calls.keep (HTX.out _)) | (go_at_call 12; exact Calls.keep (HSU.out _ (Wd.h _)))))))
  refine wpQuiet_nil ?_
  intro _ hwz
  obtain ⟨u, rfl⟩ := hwz
  have hF := u.h
  have kx := kl u
  generalize u.w = wx at *
  have HF := Lib.hid hF
  clear y1 kr kl E1 hF
  go_wp2_with fail
  exact HQ.out _ _ (by first | rfl | simp) rfl rfl rfl rfl (congrArg (fun z => some (Value.int .i64 z)) HW1.out) (by rw [HPN.out]; rfl) HF.out
set_option maxRecDepth 100000 in
set_option maxHeartbeats 6400000 in
theorem rchk_end {KK : Act → World → Prop} {Q : Exit → Act → World → Prop} {w : World} {m rc lc : Nat} {ra la : Option Addr} {id a : List UInt8} {z : Int} (fr : Array Value) (hn : fr.size = 46) (p0 : fr[0]? = some (.string ⟨(id).toArray⟩)) (p1 : fr[1]? = some (.int .i64 z)) (p3 : fr[3]? = some (.slice ra m rc)) (p4 : fr[4]? = some (.slice la m lc)) (p11 : fr[11]? = some (.int .i64 (m : Int))) (p2 : fr[2]? = some (.string ⟨(a).toArray⟩))
    (hQ : ∀ t', t'.size = 46 → Q (.exit 0) ⟨t', []⟩ w) :
    Code.wp Tryd.prog (loopAt Tryd.f16 0) (Exit.then KK Q) ⟨fr, []⟩ w := by
  have q2 : ¬ ((m : Int) < (m : Int)) := by omega
  have q2b : ¬ (m < m) := by omega
  have HK := Lib.hid hQ
  clear hQ
  obtain ⟨f, hff, rfl⟩ := frame_open hn
  have e0 := hff 0 _ p0
  have e1 := hff 1 _ p1
  have e3 := hff 3 _ p3
  have e4 := hff 4 _ p4
  have e11 := hff 11 _ p11
  have e2 := hff 2 _ p2
  clear hff hn p0 p1 p3 p4 p11 p2
  rw [lit46, e0, e1, e3, e4, e11, e2]
  clear e0 e1 e3 e4 e11 e2
  conv => arg 2; whnf
  go_wp2_with fail
  exact HK.out _ (by first | rfl | simp)
set_option maxRecDepth 100000 in
set_option maxHeartbeats 6400000 in
theorem rchk_loop {Q : Exit → Act → World → Prop} {w : World} {m rc lc : Nat} {ra la : Option Addr} {id : List UInt8} {z : Int} {R L : List (List UInt8)} {ah : List UInt8} (hm : m ≤ 1000) (hRm : R.length = m) (hLm : L.length = m) (hah : ah.length = 32) (hn6 : id.length ≤ 60000) (hR32 : Lg.All32 R) (hL32 : Lg.All32 L) (hK : Sv w ra R) (hKL : Sv w la L) (hE : REnv w) (fr : Array Value) (hn : fr.size = 46) (p0 : fr[0]? = some (.string ⟨(id).toArray⟩)) (p1 : fr[1]? = some (.int .i64 z)) (p3 : fr[3]? = some (.slice ra m rc)) (p4 : fr[4]? = some (.slice la m lc)) (p11 : fr[11]? = some (.int .i64 (0 : Int))) (p2 : fr[2]? = some (.string ⟨(ah).toArray⟩))
    (hQ : ∀ t' w', t'.size = 46 → Ck.chk id z R L ah = 0 → Fr (fun _ => False) w w' → Q (.exit 0) ⟨t', []⟩ w')
    (hQ2 : ∀ t' w', t'.size = 46 → t'[10]? = some (.int .i64 17) → Ck.chk id z R L ah = 17 → Fr (fun _ => False) w w' → Q .ret ⟨t', []⟩ w') :
    Code.wp Tryd.prog (.loop (loopAt Tryd.f16 0)) Q ⟨fr, []⟩ w := by
  refine wp_loop_up m (fun k t w' => t.size = 46 ∧ t[0]? = some (.string ⟨(id).toArray⟩) ∧ t[1]? = some (.int .i64 z) ∧ t[3]? = some (.slice ra m rc) ∧ t[4]? = some (.slice la m lc) ∧ t[11]? = some (.int .i64 (k : Int)) ∧ t[2]? = some (.string ⟨(Ck.prev L ah k).toArray⟩) ∧ (∀ j, j < k → Ck.good id z R L ah j = true) ∧ Fr (fun _ => False) w w') fr w ⟨hn, p0, p1, p3, p4, p11, p2, fun j hj => absurd hj (Nat.not_lt_zero j), Fr.refl _ _⟩ ?_
  rintro k t w1 hk ⟨hn1, p0, p1, p3, p4, p11, p2, hg1, F1⟩ KK hKK
  by_cases hlt : k < m
  · cases hgk : Ck.good id z R L ah k with
    | true =>
      exact rchk_in hlt hm hRm hLm hah hn6 hR32 hL32 (hK.ext F1) (hKL.ext F1) (hE.ext F1) hgk t hn1 p0 p1 p3 p4 p11 p2 (fun t' w' b0 b1 b2 b3 b4 b5 b6 b7 => hKK t' w' (by omega) ⟨b0, b1, b2, b3, b4, b5, b6, fun j hj => by
        rcases Nat.lt_or_ge j k with h | h
        · exact hg1 j h
        · have : j = k := by omega
          rw [this]; exact hgk, F1.trans b7 (fun _ h => h.elim)⟩)
    | false =>
      exact rchk_bad hlt hm hRm hLm hah hn6 hR32 hL32 (hK.ext F1) (hKL.ext F1) (hE.ext F1) hgk t hn1 p0 p1 p3 p4 p11 p2 (fun t' w' b0 b1 b2 => hQ2 t' w' b0 b1 (Ck.chk_bad (by rw [hRm, hLm]) (by rw [hLm]; exact hlt) hgk) (F1.trans b2 (fun _ h => h.elim)))
  · have : k = m := by omega
    subst this
    exact rchk_end t hn1 p0 p1 p3 p4 p11 p2 (fun t' b0 => hQ t' w1 b0 (Ck.chk_ok (by rw [hRm, hLm]) (fun j hj => hg1 j (by omega))) F1)
set_option maxRecDepth 100000 in
set_option maxHeartbeats 6400000 in
theorem rchk_any (id : List UInt8) (z : Int) (ah : List UInt8) (ra la : Option Addr) (rn rc ln lc : Nat) (R L : List (List UInt8)) (w : World) (hn6 : id.length ≤ 60000) (hah : ah.length = 32) (hRn : R.length = rn) (hLn : L.length = ln) (hm : ln ≤ 1000) (hR32 : Lg.All32 R) (hL32 : Lg.All32 L) (hK : Sv w ra R) (hKL : Sv w la L) (hE : REnv w) :
    Calls Tryd.prog 16 #[.string ⟨id.toArray⟩, .int .i64 z, .string ⟨ah.toArray⟩, .slice ra rn rc, .slice la ln lc] w fun e w' => e = .returned (.int .i64 (Ck.chk id z R L ah)) ∧ Fr (fun _ => False) w w' := by
  by_cases hrl : rn = ln
  · subst hrl
    have b0 : ((rn : Int) == (rn : Int)) = true := beq_self_eq_true _
    have b1 : (rn == rn) = true := beq_self_eq_true _
    have HS := Lib.hid (And.intro hn6 (And.intro hah (And.intro hRn (And.intro hLn (And.intro hm (And.intro hR32 (And.intro hL32 (And.intro hK (And.intro hKL hE)))))))))
    clear hn6 hah hRn hLn hm hR32 hL32 hK hKL hE
    go_enter Tryd.func16, Tryd.ntmps16
    go_wp2_with fail
    refine rchk_loop (R := R) (L := L) (ah := ah) (id := id) (z := z) HS.out.2.2.2.2.1 HS.out.2.2.1 HS.out.2.2.2.1 HS.out.2.1 HS.out.1 HS.out.2.2.2.2.2.1 HS.out.2.2.2.2.2.2.1 HS.out.2.2.2.2.2.2.2.1 HS.out.2.2.2.2.2.2.2.2.1 HS.out.2.2.2.2.2.2.2.2.2 _ (by first | rfl | simp) rfl rfl rfl rfl rfl rfl ?_ ?_
    · intro t' w' hn hc F
      have HC := Lib.hid hc
      have HG := Lib.hid F
      clear hc F
      obtain ⟨f, hff, rfl⟩ := frame_open hn
      clear hff hn
      rw [lit46]
      go_wp2_with fail
      go_ret
      exact ⟨by rw [HC.out]; rfl, HG.out⟩
    · intro t' w' hn p10 hc F
      have HC := Lib.hid hc
      have HG := Lib.hid F
      clear hc F
      obtain ⟨f, hff, rfl⟩ := frame_open hn
      have e10 := hff 10 _ p10
      clear hff hn p10
      rw [lit46, e10]
      clear e10
      go_wp2_with fail
      go_ret
      exact ⟨by rw [HC.out]; rfl, HG.out⟩
  · have b0 : ((rn : Int) == (ln : Int)) = false := beq_eq_false_iff_ne.2 (by omega)
    have b1 : (rn == ln) = false := beq_eq_false_iff_ne.2 hrl
    have HC := Lib.hid (Ck.chk_one (id := id) (z := z) (a := ah) (show R.length ≠ L.length by rw [hRn, hLn]; exact hrl))
    clear hn6 hah hRn hLn hm hR32 hL32 hK hKL hE hrl
    go_enter Tryd.func16, Tryd.ntmps16
    go_wp2_with fail
    go_ret
    exact ⟨by first | (rw [HC.out]; done) | (rw [HC.out]; rfl), Fr.refl _ _⟩
end Go.Proofs.YtikdgjgcopjocaaDoor

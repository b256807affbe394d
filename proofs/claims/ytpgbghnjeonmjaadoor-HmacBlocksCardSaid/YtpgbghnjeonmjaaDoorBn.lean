/-
  The walk of the law HmacBlocks.
-/
import Derived.Test.YtpgbghnjeonmjaaDoorKy
import Derived.Test.YtpgbghnjeonmjaaDoorOz
import Derived.Test.YtpgbghnjeonmjaaDoorMarks
import Derived.Deep.RegionHeld3
namespace Go.Proofs.YtpgbghnjeonmjaaDoor
open Go.RowKit
set_option linter.unusedVariables false

theorem wp_own_zeros {w : World} {o : Oper} {a : Act} {K : Act → World → Prop} {Q : Exit → Act → World → Prop} (s x : Operand) (tn : TypeId) (kq kn : IntKind) (htn : Tryd.prog.underlying tn = some (.int kn))
    (ho : o.op = .call { callee := .builtin .append, args := #[s, x], argTypes := #[22, tn] }) (B : Nat) (v : Value) (l : List UInt8) (k : Nat) (hs : a.eval s = v) (hown : Own w B v l)
    (hx : a.eval x = .int kq (k : Int)) (hbytes : l.length + k ≤ 1000000) (hbase : B ≤ w.heap.size)
    (h : ∀ v2 w2, Own w2 B v2 (l ++ noughts2 k) → w.grownBy w2 v.ownBlock → (v2.ownBlock = v.ownBlock ∨ v2.ownBlock = some w.heap.size) → K (a.put o.dst v2) w2) : o.wp Tryd.prog a w K Q := by
  obtain ⟨v2, w2, hr, h2, h3, h4⟩ := run_own_zeros w B o.type tn kq kn htn v l k hown hbytes hbase
  unfold Oper.wp execOp
  simp only [ho, resolve, invoke, builtin, Sem.run_bind, Sem.run_pure, Result.andThen_ok, List.map_toArray, List.map_cons, List.map_nil, hs, hx, hr]
  exact h v2 w2 h2 h3 h4
theorem getD_noughts (x : List UInt8) (k j : Nat) : (x ++ noughts2 k).getD j 0 = x.getD j 0 := by
  rw [List.getD_eq_getElem?_getD, List.getD_eq_getElem?_getD, List.getElem?_append]
  split
  · rfl
  · rename_i h
    rw [List.getElem?_eq_none (l := x) (by omega)]
    simp [noughts2, List.getElem?_replicate]
    split <;> rfl
theorem HM.fill_long (x : List UInt8) (h : 64 < x.length) : HM.fill (S2.sum x) = HM.fill x := by
  unfold HM.fill
  have : (S2.sum x).length = 32 := rfl
  rw [if_neg (by omega), if_pos h]
theorem HM.blk_long (x : List UInt8) (h : 64 < x.length) : HM.blk (S2.sum x) = HM.blk x := by
  funext j; unfold HM.blk; rw [HM.fill_long x h]
theorem HM.blk_more (x : List UInt8) (k : Nat) (h : x.length + k ≤ 64) : HM.blk (x ++ noughts2 k) = HM.blk x := by
  funext j; unfold HM.blk HM.fill
  rw [if_neg (by simp [noughts2]; omega), if_neg (by omega), getD_noughts]
theorem HM.out_blk (x y m : List UInt8) (h : HM.blk x = HM.blk y) : HM.out x m = HM.out y m := by
  unfold HM.out HM.inn; rw [h]
set_option maxRecDepth 100000 in
set_option maxHeartbeats 3200000 in
theorem blocks_long (a1 a2 : Option Addr) (n1 n2 c1 c2 : Nat) (l1 l2 : List UInt8) (z : Int) (w : World) (h1 : Came w a1 n1 c1 l1) (h2 : Came w a2 n2 c2 l2) (hE : Env w) (hR : REnv w) (h64 : min n1 200 > 64) :
    Calls Tryd.prog 7 #[.slice a1 n1 c1, .int .i64 z, .slice a2 n2 c2] w fun e w' => e = .returned (.bool true) ∧ Fr (fun _ => False) w w' := by
  have k1 : n1 ≤ 9223372036854775807 := by have := h1.le; have := h1.mx; unfold maxLen at this; omega
  have k2 : n2 ≤ 9223372036854775807 := by have := h2.le; have := h2.mx; unfold maxLen at this; omega
  have d1 := h1.le
  have d2 : (c1 : Int) ≤ 9223372036854775807 := by have := h1.mx; unfold maxLen at this; omega
  have d3 := h2.le
  have d4 : (c2 : Int) ≤ 9223372036854775807 := by have := h2.mx; unfold maxLen at this; omega
  obtain ⟨q, hq⟩ : ∃ q, q = min n1 200 := ⟨_, rfl⟩
  have hq1 : (if (200 : Int) < (n1 : Int) then (200 : Int) else (n1 : Int)) = (q : Int) := by split <;> omega
  have hq2 : min (n1 : Int) 200 = (q : Int) := by omega
  have hq0 : (0 : Int) ≤ (q : Int) := by omega
  have hqc : (q : Int) ≤ (c1 : Int) := by omega
  have hq3 : q ≤ 200 := by omega
  obtain ⟨r, hr⟩ : ∃ r, r = min n2 200 := ⟨_, rfl⟩
  have hr1 : (if (200 : Int) < (n2 : Int) then (200 : Int) else (n2 : Int)) = (r : Int) := by split <;> omega
  have hr2 : min (n2 : Int) 200 = (r : Int) := by omega
  have hr0 : (0 : Int) ≤ (r : Int) := by omega
  have hrc : (r : Int) ≤ (c2 : Int) := by omega
  have hr3 : r ≤ 200 := by omega
  have C1 := h1.cut q (by omega) (Fr.refl _ w)
  have C2 := h2.cut r (by omega) (Fr.refl _ w)
  generalize l1.take q = x at C1
  generalize l2.take r = y at C2
  have hxl := C1.len
  have hyl := C2.len
  replace h64 : q > 64 := by omega
  have HX := Lib.hid hxl
  have HY := Lib.hid hyl
  clear hq hr hxl hyl h1 h2
  obtain ⟨M, hM⟩ : ∃ M, M = sumc (HM.out x y) := ⟨_, rfl⟩
  have eq1 : ∀ W : World, (binOp .eql 34 (.agg M) (.agg M)).run Tryd.prog W = .ok (.bool true) W := fun W => by
    rw [hM, eql_sumc (HM.out x y) (HM.out x y) W, beq_self_eq_true]
  have hgd := Tryd.guard32
  have hyl : [y].flatten.length ≤ 1000000000000000000 := by simp [HY.out]; omega
  have hyf : [y].flatten = y := by simp
  have HO : Hid (∀ (W : World) (ak : Option Addr) (nk ck bs : Nat) (K : List UInt8), HM.blk K = HM.blk x → K.length ≤ 1000 → Came W ak nk ck K → W.heap[bs]? = some (.cells #[.slice a2 r c2] 22 (0, 0)) → Fr (fun _ => False) w W →
      Calls Tryd.prog 20 #[.slice ak nk ck, .slice (some ⟨bs, 0, none⟩) 1 1] W fun e W' => e = .returned (.agg M) ∧ Fr (fun _ => False) W W') := Lib.hid (fun W ak nk ck bs K hK hl hC hb hF => by
    have hlen := hC.len
    refine (hof_any _ _ K nk ck [y] 1 1 _ hC (by omega) (parts1 hb (C2.grow hF (fun _ _ h => h))) rfl (by unfold maxLen; omega) hyl (hE.fr hF (fun h => h))).mono ?_
    rw [hyf, HM.out_blk K x y hK, ← hM]
    exact fun e W' h => h)
  have HMK := Lib.hid (fun (W : World) (hF : Fr (fun _ => False) w W) => marks_any W (hE.fr hF (fun h => h)))
  obtain ⟨s, hs⟩ : ∃ s, s = S2.sum x := ⟨_, rfl⟩
  have hs32 : s.length = 32 := by rw [hs]; exact sum_length x
  have HBL := Lib.hid (show HM.blk s = HM.blk x by rw [hs]; exact HM.blk_long x (by have := HX.out; omega))
  have HSUM : Hid (∀ W : World, Fr (fun _ => False) w W → Calls Tryd.prog 19 #[.string ⟨x.toArray⟩] W fun e w' => e = .returned (.string ⟨s.toArray⟩) ∧ Fr (fun _ => False) W w') := Lib.hid (fun W hF => by
    have := rsum_any ⟨x.toArray⟩ (by show x.toArray.size ≤ _; simp [HX.out]; omega) W (hR.fr hF (fun h => h) (fun h => h))
    rw [sb_mk, ← hs] at this
    exact this)
  have HS32 := Lib.hid hs32
  clear hs hM hyl hyf hs32
  have t64 : (64 : Int) < (q : Int) := by omega
  go_enter Tryd.func7, Tryd.ntmps7
  go_wp2_with fail
  go_quiet (fail)
  have F1 : Fr (fun _ => False) w (w.drewN nq) := (Fr.refl _ w).drewN nq
  generalize w.drewN nq = W1 at *
  have hcs : (convert 22 9 (.slice a1 q c1)).run Tryd.prog W1 = .ok (.string ⟨x.toArray⟩) W1 := by
    have := run_str (C1.grow F1 (fun _ _ h => h)).lies c1 9 Tryd.underlying9
    rwa [HX.out] at this
  go_wp2_with fail
  clear hcs
  with_reducible refine (HSUM.out W1 F1).mono ?_
  rintro e W2 ⟨rfl, F2⟩
  have G2 : Fr (fun _ => False) w W2 := F1.trans F2 (fun _ h => h.elim)
  go_wp2_with fail
  with_reducible refine (HMK.out _ G2).mono ?_
  rintro e W3 ⟨rfl, F3⟩
  have G3 : Fr (fun _ => False) w W3 := G2.trans F3 (fun _ h => h.elim)
  have kc := fun w : World => Lib.run_convert_string_bytes (P := Tryd.prog) w 9 22 5 ⟨s.toArray⟩ Tryd.underlying9 Tryd.underlying22 Tryd.underlying5
  clear F1 F2 G2 F3
  go_wp2_with fail
  with_reducible refine (HO.out _ _ _ _ _ x rfl (by have := HX.out; omega) (C1.grow (G3.alloc _) (fun _ _ h => h)) (heap_alloc_new W3 _) (G3.alloc _)).mono ?_
  rintro e W4 ⟨rfl, F4⟩
  have G4 : Fr (fun _ => False) w W4 := (G3.alloc _).trans F4 (fun _ h => h.elim)
  clear F4 G3
  go_wp2_with fail
  have F5 : Fr (fun _ => False) w ((Lib.bytesWorld W4 5 ⟨s.toArray⟩).alloc (.cells #[.slice a2 r c2] 22)) := (G4.trans (own_str_fr W4 ⟨s.toArray⟩) (fun _ h => h.elim)).alloc _
  have C5 := came_conv s (by have := HS32.out; omega) W4 _ rfl ((Fr.refl (fun _ => False) (Lib.bytesWorld W4 5 ⟨s.toArray⟩)).alloc (.cells #[.slice a2 r c2] 22))
  have H5 := heap_alloc_new (Lib.bytesWorld W4 5 ⟨s.toArray⟩) (.cells #[.slice a2 r c2] 22)
  simp only [bw_size] at H5
  with_reducible refine (HO.out _ _ _ _ _ s HBL.out (by have := HS32.out; omega) C5 H5 F5).mono ?_
  rintro e W6 ⟨rfl, F6⟩
  have G6 : Fr (fun _ => False) w W6 := F5.trans F6 (fun _ h => h.elim)
  clear C5 H5 F5 F6
  go_wp2
  go_ret
  exact ⟨rfl, G6⟩
set_option maxRecDepth 100000 in
set_option maxHeartbeats 3200000 in
theorem blocks_short (a1 a2 : Option Addr) (n1 n2 c1 c2 : Nat) (l1 l2 : List UInt8) (z : Int) (w : World) (h1 : Came w a1 n1 c1 l1) (h2 : Came w a2 n2 c2 l2) (hE : Env w) (hR : REnv w) (h64 : ¬ min n1 200 > 64) :
    Calls Tryd.prog 7 #[.slice a1 n1 c1, .int .i64 z, .slice a2 n2 c2] w fun e w' => e = .returned (.bool true) ∧ Fr (fun _ => False) w w' := by
  have k1 : n1 ≤ 9223372036854775807 := by have := h1.le; have := h1.mx; unfold maxLen at this; omega
  have k2 : n2 ≤ 9223372036854775807 := by have := h2.le; have := h2.mx; unfold maxLen at this; omega
  have d1 := h1.le
  have d2 : (c1 : Int) ≤ 9223372036854775807 := by have := h1.mx; unfold maxLen at this; omega
  have d3 := h2.le
  have d4 : (c2 : Int) ≤ 9223372036854775807 := by have := h2.mx; unfold maxLen at this; omega
  obtain ⟨q, hq⟩ : ∃ q, q = min n1 200 := ⟨_, rfl⟩
  have hq1 : (if (200 : Int) < (n1 : Int) then (200 : Int) else (n1 : Int)) = (q : Int) := by split <;> omega
  have hq2 : min (n1 : Int) 200 = (q : Int) := by omega
  have hq0 : (0 : Int) ≤ (q : Int) := by omega
  have hqc : (q : Int) ≤ (c1 : Int) := by omega
  have hq3 : q ≤ 200 := by omega
  obtain ⟨r, hr⟩ : ∃ r, r = min n2 200 := ⟨_, rfl⟩
  have hr1 : (if (200 : Int) < (n2 : Int) then (200 : Int) else (n2 : Int)) = (r : Int) := by split <;> omega
  have hr2 : min (n2 : Int) 200 = (r : Int) := by omega
  have hr0 : (0 : Int) ≤ (r : Int) := by omega
  have hrc : (r : Int) ≤ (c2 : Int) := by omega
  have hr3 : r ≤ 200 := by omega
  have C1 := h1.cut q (by omega) (Fr.refl _ w)
  have C2 := h2.cut r (by omega) (Fr.refl _ w)
  generalize l1.take q = x at C1
  generalize l2.take r = y at C2
  have hxl := C1.len
  have hyl := C2.len
  replace h64 : ¬ q > 64 := by omega
  have HX := Lib.hid hxl
  have HY := Lib.hid hyl
  clear hq hr hxl hyl h1 h2
  obtain ⟨M, hM⟩ : ∃ M, M = sumc (HM.out x y) := ⟨_, rfl⟩
  have eq1 : ∀ W : World, (binOp .eql 34 (.agg M) (.agg M)).run Tryd.prog W = .ok (.bool true) W := fun W => by
    rw [hM, eql_sumc (HM.out x y) (HM.out x y) W, beq_self_eq_true]
  have hgd := Tryd.guard32
  have hyl : [y].flatten.length ≤ 1000000000000000000 := by simp [HY.out]; omega
  have hyf : [y].flatten = y := by simp
  have HO : Hid (∀ (W : World) (ak : Option Addr) (nk ck bs : Nat) (K : List UInt8), HM.blk K = HM.blk x → K.length ≤ 1000 → Came W ak nk ck K → W.heap[bs]? = some (.cells #[.slice a2 r c2] 22 (0, 0)) → Fr (fun _ => False) w W →
      Calls Tryd.prog 20 #[.slice ak nk ck, .slice (some ⟨bs, 0, none⟩) 1 1] W fun e W' => e = .returned (.agg M) ∧ Fr (fun _ => False) W W') := Lib.hid (fun W ak nk ck bs K hK hl hC hb hF => by
    have hlen := hC.len
    refine (hof_any _ _ K nk ck [y] 1 1 _ hC (by omega) (parts1 hb (C2.grow hF (fun _ _ h => h))) rfl (by unfold maxLen; omega) hyl (hE.fr hF (fun h => h))).mono ?_
    rw [hyf, HM.out_blk K x y hK, ← hM]
    exact fun e W' h => h)
  have HMK := Lib.hid (fun (W : World) (hF : Fr (fun _ => False) w W) => marks_any W (hE.fr hF (fun h => h)))
  clear hM hyl hyf
  have t64 : ¬ ((64 : Int) < (q : Int)) := by omega
  obtain ⟨k, hk, hkl⟩ : ∃ k : Nat, (IntKind.u64.wrap z).tmod (65 - (q : Int)) = (k : Int) ∧ k + q ≤ 64 := by
    rw [IntKind.wrap_u64]
    have h1 : 0 ≤ z % 18446744073709551616 := Int.emod_nonneg _ (by decide)
    have h2 := Int.emod_nonneg (z % 18446744073709551616) (b := 65 - (q : Int)) (by omega)
    have h3 := Int.emod_lt_of_pos (z % 18446744073709551616) (b := 65 - (q : Int)) (by omega)
    refine ⟨((z % 18446744073709551616) % (65 - (q : Int))).toNat, ?_, by omega⟩
    rw [Int.tmod_eq_emod_of_nonneg h1]
    omega
  obtain ⟨d, hd⟩ : ∃ d : Nat, 65 - (q : Int) = (d : Int) := ⟨65 - q, by omega⟩
  rw [hd] at hk
  have hd1 : (1 : Int) ≤ (d : Int) := by omega
  have hd2 : (d : Int) ≤ 65 := by omega
  have w1 : IntKind.u64.wrap (d : Int) = (d : Int) := by rw [IntKind.wrap_u64]; omega
  have wd : IntKind.i64.wrap (d : Int) = (d : Int) := IntWalk.i64_in _ (by omega)
  have wk : IntKind.i64.wrap (k : Int) = (k : Int) := IntWalk.i64_in _ (by omega)
  have hne : ((d : Int) == 0) = false := by simp; omega
  have hne2 : ¬ ((d : Int) = 0) := by omega
  have hne3 : ¬ (d = 0) := by omega
  have k0 : (0 : Int) ≤ (k : Int) := by omega
  have k6 : (k : Int) ≤ 64 := by omega
  have HBL := Lib.hid (HM.blk_more x k (by have := HX.out; omega))
  go_enter Tryd.func7, Tryd.ntmps7
  go_wp2_with fail
  go_quiet (fail)
  have F1 : Fr (fun _ => False) w (w.drewN nq) := (Fr.refl _ w).drewN nq
  generalize w.drewN nq = W1 at *
  go_wp2_with fail
  have F0 := F1.drew.alloc (.cells #[] 5)
  have own0 : Own (W1.drew.alloc (.cells #[] 5)) W1.heap.size (.slice (some ⟨W1.heap.size, 0, none⟩) 0 0) [] := Or.inr ⟨W1.heap.size, 0, #[], (0, 0), rfl, Nat.le_refl _, heap_alloc_new W1.drew _, Or.inl rfl, Nat.le_refl _, Nat.zero_le _, rfl, rfl⟩
  have hsrc : Src Tryd.prog 1 22 (.slice a1 q c1) x.length (bv x) (W1.drew.alloc (.cells #[] 5)) := by
    have := ((C1.grow F0 (fun _ _ h => h)).lies).src c1
    rwa [HX.out] at this ⊢
  have hb1 : ([] : List UInt8).length + x.length ≤ 140737488355328 := by rw [HX.out]; simp; omega
  have hz1 : W1.heap.size ≤ (W1.drew.alloc (.cells #[] 5)).heap.size := by simp
  have hb2 : ([] ++ x : List UInt8).length + k ≤ 1000000 := by simp [HX.out]; omega
  go_region_held3 (fun _ => True) (exact trivial) ((first
    | (refine wp_own _ (.tmp 38) (.tmp 39) 22 rfl W1.heap.size (.slice (some ⟨W1.heap.size, 0, none⟩) 0 0) [] x rfl own0 (.slice a1 q c1) rfl hsrc hb1 hz1 ?_
       intro v2 w2 own2 hg2 hb3)
    | (refine wp_own_zeros (.tmp 40) (.tmp 48) 3 .i64 .i64 Tryd.underlying3 rfl W1.heap.size v2 ([] ++ x) k rfl own2 rfl hb2 (Nat.le_trans hz1 hg2.size) ?_
       intro v3 w3 own3 hg3 hb4)))
  have F2 : Fr (fun _ => False) w w2 := F0.trans (Fr.ofGrown hg2) (fun i hi => Or.inr (by have := Option.some.inj hi; simp at this; have := F1.size; omega))
  have F3 : Fr (fun _ => False) w w3 := F2.trans (Fr.ofGrown hg3) (fun i hi => Or.inr (by have := (own2.lt i hi).1; have := F1.size; omega))
  obtain ⟨a3, c3, rfl⟩ := own3.slice
  have C3 : Came w3 a3 ([] ++ x ++ noughts2 k).length c3 ([] ++ x ++ noughts2 k) := by
    obtain ⟨_, e2, e3, e4⟩ := own3.lies
    exact ⟨rfl, e2, e3, e4, fun e => by subst e; exact own3.nilAddr⟩
  rw [List.nil_append] at C3 ⊢
  have hl3 : (x ++ noughts2 k).length ≤ 1000 := by rw [List.length_append, nl]; have := HX.out; omega
  have HBL2 := HBL.out
  generalize x ++ noughts2 k = xk at *
  have HC3 := Lib.hid C3
  have HF3 := Lib.hid F3
  have HL3 := Lib.hid hl3
  have HBL3 := Lib.hid HBL2
  clear own0 own2 own3 hsrc hg2 hg3 hb1 hb2 hb3 hb4 hz1 F0 F2 F3 C3 hk hd hd1 hd2 w1 wd wk hne hne2 hne3 k0 k6 hl3 HBL HBL2
  go_wp2_with fail
  with_reducible refine (HMK.out _ HF3.out).mono ?_
  rintro e W4 ⟨rfl, F4⟩
  have G4 : Fr (fun _ => False) w W4 := HF3.out.trans F4 (fun _ h => h.elim)
  go_wp2_with fail
  with_reducible refine (HO.out _ _ _ _ _ x rfl (by have := HX.out; omega) (C1.grow (G4.alloc _) (fun _ _ h => h)) (heap_alloc_new W4 _) (G4.alloc _)).mono ?_
  rintro e W5 ⟨rfl, F5⟩
  have G5 : Fr (fun _ => False) w W5 := (G4.alloc _).trans F5 (fun _ h => h.elim)
  have C5 := (HC3.out.grow F4 (fun _ _ h => h)).grow ((Fr.alloc (Fr.refl (fun _ => False) W4) (.cells #[.slice a2 r c2] 22)).trans F5 (fun _ h => h.elim)) (fun _ _ h => h)
  have HC5 := Lib.hid C5
  clear C5 F4 F5 G4
  go_wp2_with fail
  with_reducible refine (HO.out _ _ _ _ _ xk HBL3.out HL3.out (HC5.out.grow (Fr.alloc (Fr.refl (fun _ => False) W5) _) (fun _ _ h => h)) (heap_alloc_new W5 _) (G5.alloc _)).mono ?_
  rintro e W6 ⟨rfl, F6⟩
  have G6 : Fr (fun _ => False) w W6 := (G5.alloc _).trans F6 (fun _ h => h.elim)
  clear F6 G5
  go_wp2
  go_ret
  exact ⟨rfl, G6⟩

theorem blocks_any (a1 a2 : Option Addr) (n1 n2 c1 c2 : Nat) (l1 l2 : List UInt8) (z : Int) (w : World) (h1 : Came w a1 n1 c1 l1) (h2 : Came w a2 n2 c2 l2) (hE : Env w) (hR : REnv w) :
    Calls Tryd.prog 7 #[.slice a1 n1 c1, .int .i64 z, .slice a2 n2 c2] w fun e w' => e = .returned (.bool true) ∧ Fr (fun _ => False) w w' := by
  by_cases h : min n1 200 > 64
  · exact blocks_long a1 a2 n1 n2 c1 c2 l1 l2 z w h1 h2 hE hR h
  · exact blocks_short a1 a2 n1 n2 c1 c2 l1 l2 z w h1 h2 hE hR h
end Go.Proofs.YtpgbghnjeonmjaaDoor

/-
  Put, as what it does to a part.
-/
import Derived.Test.YtkigdgkklninoaaWd
namespace Go.Proofs.Ytkigdgkklninoaa
open Go.RowKit
set_option linter.unusedVariables false
set_option linter.unusedSimpArgs false
theorem wpList_value {P : Program} {ops : Array Oper} {rest : List Oper} {o : Oper} {a : Act} {w : World} {Q : Exit → Act → World → Prop} (hgd : o.guard = none) {w' : World} {v : Value} (hr : (execOp a.eval o).run P w = .ok (.value v) w') (h : wpList P ops Q rest (a.put o.dst v) w') : wpList P ops Q (o :: rest) a w := by
  refine wpList_plain hgd fun _ hK => ?_
  unfold Oper.wp
  rw [hr]
  exact hK _ _ h
theorem wpList_buildSlice {P : Program} {ops : Array Oper} {rest : List Oper} {o : Oper} {a : Act} {w : World} {Q : Exit → Act → World → Prop} (hgd : o.guard = none) (t : TypeId) (m : Nat) (parts : Array (Nat × Operand)) (ho : o.op = .buildSlice t m parts) (vs : Array (Nat × Value)) (hvs : (parts.map fun (p : Nat × Operand) => (p.1, a.eval p.2)) = vs) {w' : World} {v : Value} (hr : (Instr.buildSlice t m vs).run P w = .ok v w') (h : wpList P ops Q rest (a.put o.dst v) w') : wpList P ops Q (o :: rest) a w := by
  refine wpList_value hgd (v := v) (w' := w') ?_ h
  unfold execOp
  simp only [ho, hvs, Sem.run_bind, Result.andThen_ok, Sem.run_pure, hr]
def cutOf (s : ByteArray) (L : List (ByteArray × ByteArray)) : List (ByteArray × ByteArray) := match L.findIdx? (nm s) with
  | some k => L.eraseIdx k
  | none => L
def putL (sz : Nat) (s t : ByteArray) (L : List (ByteArray × ByteArray)) : List (ByteArray × ByteArray) := (if (cutOf s L).length = sz then (cutOf s L).eraseIdx 0 else cutOf s L) ++ [(s, t)]
theorem cutOf_len (s : ByteArray) (L : List (ByteArray × ByteArray)) : (cutOf s L).length ≤ L.length := by
  unfold cutOf
  split
  · exact List.length_eraseIdx_le _ _
  · exact Nat.le_refl _
theorem Pt.form {w : World} {base pb off : Nat} {cur : Array Value} {v : Value} {L : List (ByteArray × ByteArray)} {h m : Int} (p : Pt w base pb off cur v L h m) : ∃ a c, v = .slice a L.length c := by
  rcases p.own.2 with ⟨rfl, h0⟩ | ⟨g, cap, gc, rfl, _⟩
  · exact ⟨none, 0, by rw [h0]⟩
  · exact ⟨_, _, rfl⟩
theorem mkE (a b : ByteArray) (w : World) : (Instr.buildSlice 57 1 #[(0, .agg #[.string a, .string b])]).run Try.prog w = .ok (.slice (some ⟨w.heap.size, 0, none⟩) 1 1) (w.alloc (.cells #[.string a, .string b] 54)) := by kernel_rfl
theorem srcE (a b : ByteArray) (W : World) : Src Try.prog 2 57 (.slice (some ⟨W.heap.size, 0, none⟩) 1 1) 1 [.string a, .string b] (W.alloc (.cells #[.string a, .string b] 54)) :=
  Src.ofSlice _ Try.underlying57 ⟨W.heap.size, 0, none⟩ 1 1 _ rfl (fun j u hj => by
    rw [Addr.add_mid, Nat.zero_add, cell_of_block (heap_alloc_new W _), ← Array.getElem?_toList]; exact hj) (fun u hu => by
    simp only [List.mem_cons, List.not_mem_nil, or_false] at hu
    rcases hu with rfl | rfl <;> rfl)
theorem pb_app {w w5 : World} {o x : Obj} {v : Value} {pb : Nat} (hb : w.heap[pb]? = some x) (G : (w.alloc o).grownBy w5 v.ownBlock) (h : v.ownBlock ≠ some pb) : w5.heap[pb]? = some x :=
  (G.block pb (by have := lt_of_block hb; simp; omega) (fun e => h e.symm)).trans ((Below.heap_alloc _ _ _ (lt_of_block hb)).trans hb)
theorem own_succ {W : World} {base : Nat} {e : TypeId} {size : Nat} {v : Value} {k : Nat} {xs : List Value} (h : W.ownsRow base e size v (k + 1) xs) : ∃ g cap, v = .slice (some ⟨g, 0, none⟩) (k + 1) cap := by
  rcases h.2 with ⟨_, h0⟩ | ⟨g, cap, _, rfl, _⟩
  · omega
  · exact ⟨g, cap, rfl⟩
theorem put_fin {X w5 : World} {o : Obj} {base pb off : Nat} {curX : Array Value} {vX v3 : Value} {LX : List (ByteArray × ByteArray)} {h m : Int} {s t : ByteArray} {n9 : Nat} (HPX : Pt X base pb off curX vX LX h m) (hn9 : LX.length = n9) (O5 : w5.ownsRow base 54 2 v3 (n9 + 1) (ec LX ++ [.string s, .string t])) (G5 : (X.alloc o).grownBy w5 vX.ownBlock) (B5 : v3.ownBlock = vX.ownBlock ∨ v3.ownBlock = some (X.alloc o).heap.size) :
    Pt (w5.setCell ⟨pb, off, none⟩ v3) base pb off (curX.setIfInBounds off v3) v3 (LX ++ [(s, t)]) h m ∧ (v3.ownBlock = vX.ownBlock ∨ ∃ k, v3.ownBlock = some k ∧ X.heap.size ≤ k) ∧ Fr (fun b => b = pb ∨ vX.ownBlock = some b) X (w5.setCell ⟨pb, off, none⟩ v3) := by
  subst hn9
  have hb5 := pb_app HPX.blk G5 HPX.apart
  have S := Fr.setCell (S := fun b => b = pb) (Fr.refl _ w5) (p := ⟨pb, off, none⟩) (Or.inl rfl) v3
  have hpl := lt_of_block HPX.blk
  have ha : v3.ownBlock ≠ some pb := by
    rcases B5 with e | e
    · rw [e]; exact HPX.apart
    · rw [e]; intro e2; have := Option.some.inj e2; simp at this; omega
  have F1 : Fr (fun b => vX.ownBlock = some b) X w5 := ((Fr.refl (fun b => vX.ownBlock = some b) X).alloc o).trans (Fr.ofGrown G5) (fun _ h => .inl h)
  refine ⟨HPX.turn (block_setCell hb5 off v3) (S.own (by rw [ec_app, List.length_append]; exact O5) (fun k e h => ha (by rw [e, h]))) ha, ?_, (F1.mono (fun _ _ h => .inr h)).trans S (fun _ h => .inl (.inl h))⟩
  rcases B5 with e | e
  · exact .inl e
  · exact .inr ⟨_, e, by simp⟩
theorem set_self {cur : Array Value} {off : Nat} {v : Value} (h : cur[off]? = some v) : cur.setIfInBounds off v = cur := by
  apply Array.ext_getElem?
  intro j
  rw [Array.getElem?_setIfInBounds]
  split
  · rename_i e
    subst e
    rw [if_pos (Array.getElem?_eq_some_iff.1 h).1, h]
  · rfl
theorem set_set {cur : Array Value} {off : Nat} (v u : Value) : (cur.setIfInBounds off v).setIfInBounds off u = cur.setIfInBounds off u := by
  apply Array.ext_getElem?
  intro j
  simp only [Array.getElem?_setIfInBounds, Array.size_setIfInBounds]
  split <;> rfl
theorem take_any (w : World) (base pb off : Nat) (cur : Array Value) (v : Value) (L : List (ByteArray × ByteArray)) (h m : Int) (p : Pt w base pb off cur v L h m) (s : ByteArray) : Calls Try.prog 18 #[.pointer (some ⟨pb, off, none⟩), .string s] w fun e w' => ∃ R v', e = .returned (.tuple R) ∧ Pt w' base pb off (cur.setIfInBounds off v') v' (cutOf s L) h m ∧ v'.ownBlock = v.ownBlock ∧ Fr (fun b => b = pb ∨ v.ownBlock = some b) w w' := by
  cases hf : L.findIdx? (nm s) with
  | none =>
    have hc : cutOf s L = L := by unfold cutOf; rw [hf]
    rw [hc]
    refine (take_none w base pb off cur v L h m p s (fun j x hj hx => ?_)).mono ?_
    · rw [List.findIdx?_eq_none_iff] at hf
      exact hf x (List.mem_of_getElem? hx)
    · rintro e w' ⟨rfl, F⟩
      refine ⟨_, v, rfl, ?_, rfl, F.mono (fun _ _ h => h.elim)⟩
      rw [set_self p.kept]
      exact p.fr F (fun h => h) (fun _ _ h => h)
  | some k =>
    have hc : cutOf s L = L.eraseIdx k := by unfold cutOf; rw [hf]
    rw [hc]
    obtain ⟨hk, h1, h2⟩ := List.findIdx?_eq_some_iff_getElem.1 hf
    refine (take_some w base pb off cur v L h m p s k L[k] (List.getElem?_eq_getElem hk) h1 (fun j x hj hx => ?_)).mono ?_
    · have := h2 j hj
      rw [List.getElem?_eq_getElem (by omega)] at hx
      rw [← Option.some.inj hx]
      simpa using this
    · rintro e w' ⟨rfl, v', P, hv, F⟩
      exact ⟨_, v', rfl, P, hv, F⟩
set_option maxRecDepth 100000 in
set_option maxHeartbeats 6400000 in
theorem put_any (cb pb n i sz : Nat) (hi : i < n) {base : Nat} {cur : Array Value} {v : Value} {L : List (ByteArray × ByteArray)} {h m : Int} (w : World) (hc : CB w cb pb n (sz : Int)) (hp : Pt w base pb (i * 3) cur v L h m) (hcp : cb ≠ pb) (hcv : v.ownBlock ≠ some cb) (hbs : base ≤ w.heap.size) (hlen : L.length ≤ 1000) (hsz : 1 ≤ sz) (s t : ByteArray) : Calls Try.prog 10 #[.pointer (some ⟨cb, 0, none⟩), .int .i64 (i : Int), .string s, .string t] w fun e w' => e = .returned (.int .i64 0) ∧ ∃ v', Pt w' base pb (i * 3) (cur.setIfInBounds (i * 3) v') v' (putL sz s t L) h m ∧ (v'.ownBlock = v.ownBlock ∨ ∃ k, v'.ownBlock = some k ∧ w.heap.size ≤ k) ∧ Fr (fun b => b = pb ∨ v.ownBlock = some b) w w' := by
  have HP := Lib.hid (part_any cb pb n i (sz : Int) hi w hc)
  have HTK := Lib.hid (take_any w base pb (i * 3) cur v L h m hp s)
  obtain ⟨ti, zv, t1, t2, t3, t4, t5⟩ := eInfo
  have HT := Lib.hid (And.intro t1 (And.intro t2 (And.intro t3 (And.intro t4 t5))))
  have HL := Lib.hid (Nat.le_trans (cutOf_len s L) hlen)
  have HC := Lib.hid hc
  have HNC := Lib.hid (show ∀ b, b = pb ∨ v.ownBlock = some b → b ≠ cb from fun b hb e => by subst e; exact hb.elim hcp hcv)
  have HB := Lib.hid hbs
  have HSZ := Lib.hid hsz
  clear hi hc hp hcp hcv hbs hlen hsz t1 t2 t3 t4 t5
  go_enter Try.func10, Try.ntmps10
  go_wp2_with fail
  refine HP.out.mono ?_
  rintro e w1 ⟨rfl, rfl⟩
  go_wp2_with fail
  refine HTK.out.mono ?_
  rintro e w2 ⟨R, v1, rfl, P2, hv1, F2⟩
  obtain ⟨a1, c1, rfl⟩ := P2.form
  have HP2 := Lib.hid P2
  have HV1 := Lib.hid hv1
  have HF2 := Lib.hid F2
  have HC2 := Lib.hid (HC.out.fr F2 (fun e => HNC.out cb e rfl))
  have hpl : putL sz s t L = (if (cutOf s L).length = sz then (cutOf s L).eraseIdx 0 else cutOf s L) ++ [(s, t)] := rfl
  have HPL := Lib.hid hpl
  clear P2 hv1 F2 hpl
  generalize cutOf s L = L1 at *
  have HSET := Lib.hid (fun u : Value => (set_set (cur := cur) (off := i * 3) (.slice a1 L1.length c1) u))
  generalize cur.setIfInBounds (i * 3) (.slice a1 L1.length c1) = cur1 at *
  have x1 : ∀ y : Wd w2, y.w.cell? ⟨pb, i * 3, none⟩ = some (.slice a1 L1.length c1) := fun y => (HP2.out.fr y.h (fun h => h) (fun _ _ h => h)).c.1
  have x2 : ∀ y : Wd w2, y.w.cell? ⟨cb, 1, none⟩ = some (.int .i64 (sz : Int)) := fun y => (HC2.out.fr y.h (fun h => h)).c.2
  by_cases hfull : L1.length = sz
  · have t1 : ((L1.length : Int) == (sz : Int)) = true := by rw [hfull]; exact beq_self_eq_true _
    have HFL := Lib.hid hfull
    clear hfull
    go_wp2_with fail
    refine wp_region_keep (by kernel_rfl) (by kernel_rfl) ?_
    repeat (any_goals (first | go_big_quiet_step (fail) | quiet_step (fail)))
    refine wpQuiet_nil ?_
    intro _ hwz
    obtain ⟨y, rfl⟩ := hwz
    have HPY := Lib.hid (HP2.out.fr y.h (fun h => h) (fun _ _ h => h))
    have HFY := Lib.hid (HF2.out.trans y.h (fun _ h => h.elim))
    obtain ⟨r0, _, _, f0⟩ := HPY.out.c
    have f00 := f0 (i * 3)
    clear x1 x2 t1 f0
    have hpos : 0 < L1.length := by have := HFL.out; have := HSZ.out; omega
    obtain ⟨g, gc, rfl, hbg, hg, hnc, hcm, hcs, htk⟩ : ∃ g gc, a1 = some ⟨g, 0, none⟩ ∧ base ≤ g ∧ y.w.heap[g]? = some (.cells gc 54 (0, 0)) ∧ L1.length ≤ c1 ∧ c1 ≤ maxLen ∧ gc.size = c1 * 2 ∧ gc.toList.take (L1.length * 2) = ec L1 := by
      rcases HPY.out.own.2 with ⟨_, h0⟩ | ⟨g, cap, gc, e, hbg, hg, hnc, hcm, hcs, htk⟩
      · omega
      · injection e with e1 e2 e3
        subst e1 e3
        exact ⟨g, gc, rfl, hbg, hg, hnc, hcm, hcs, htk⟩
    have HD := Lib.hid (delete_any g L1.length c1 0 0 1 rfl rfl L1 rfl gc hpos hnc hcm hcs htk y.w hg)
    have HG := Lib.hid (And.intro hbg (And.intro hnc hcm))
    have hpg : pb ≠ g := fun e => HPY.out.apart (by rw [e]; rfl)
    have HPG := Lib.hid hpg
    clear hbg hg hnc hcm hcs htk hpg hpos
    go_wp2_with fail
    refine HD.out.mono ?_
    rintro e w3 ⟨rfl, gc3, hg3, hs3, ht3, F3⟩
    have hb3 := (F3.block pb (lt_of_block HPY.out.blk) (fun e => HPG.out e)).trans HPY.out.blk
    have k3 : w3.cell? ⟨pb, i * 3, none⟩ = some _ := (cell_of_block hb3 _).trans HPY.out.kept
    have f3 := free_of_block hb3 (i * 3)
    have S4 := Fr.setCell (S := fun b => b = pb) (Fr.refl _ w3) (p := ⟨pb, i * 3, none⟩) (Or.inl rfl) (.slice (some ⟨g, 0, none⟩) (L1.length - 1) c1)
    have hle : (L1.eraseIdx 0).length = L1.length - 1 := by rw [List.length_eraseIdx, if_pos (by have := HFL.out; have := HSZ.out; omega)]
    have hlt0 : L1.length - 1 ≤ c1 := by have := HG.out.2.1; omega
    have P4 := HPY.out.turn (L' := L1.eraseIdx 0) (block_setCell hb3 (i * 3) (.slice (some ⟨g, 0, none⟩) (L1.length - 1) c1)) ⟨ec_len _, .inr ⟨g, c1, gc3, by rw [hle], HG.out.1, (S4.block g (lt_of_block hg3) (fun e => HPG.out e.symm)).trans hg3, by rw [hle]; exact hlt0, HG.out.2.2, hs3, by rw [hle]; exact ht3⟩⟩ (by simp [Value.ownBlock]; exact fun e => HPG.out e.symm)
    obtain ⟨W4, hW4⟩ : ∃ W4, W4 = w3.setCell ⟨pb, i * 3, none⟩ (.slice (some ⟨g, 0, none⟩) (L1.length - 1) c1) := ⟨_, rfl⟩
    rw [← hW4] at P4 S4
    have HW4 := Lib.hid hW4
    have hp9 : HPL.out = HPL.out := rfl
    have FA : Fr (fun b => b = pb ∨ v.ownBlock = some b) w W4 := (HFY.out.trans F3 (fun b e => .inl (.inr (by rw [← HV1.out, e]; rfl)))).trans S4 (fun b e => .inl (.inl e))
    have HFA := Lib.hid FA
    have r4 := P4.c.1
    have O4 := P4.own
    rw [hle] at O4
    have HO4 := Lib.hid O4
    have HP4 := Lib.hid P4
    have HLE := Lib.hid hle
    have HMX := Lib.hid (show L1.length - 1 + 1 ≤ maxLen by have := HL.out; unfold maxLen; omega)
    have HBY := Lib.hid (show (L1.length - 1 + 1) * 32 ≤ 140737488355328 by have := HL.out; omega)
    have HBS := Lib.hid (show base ≤ (W4.alloc (.cells #[.string s, .string t] 54)).heap.size by have := FA.size; have := HB.out; simp; omega)
    clear O4 hb3 S4 P4 hW4 FA hg3 hs3 ht3 F3 hle hlt0 hp9 r0 f00
    go_wp2_with (first | (rw [← HW4.out]) | (at_builtin; refine Hid.out ?_))
    refine Lib.hid ?_
    refine wpList_app _ rfl (.tmp 40) (.tmp 44) 57 57 rfl base 54 ti zv 2 32 Try.underlying57 HT.out.1 HT.out.2.1 HT.out.2.2.1 HT.out.2.2.2.1 HT.out.2.2.2.2 (by decide) (.slice (some ⟨g, 0, none⟩) (L1.length - 1) c1) (L1.length - 1) (ec (L1.eraseIdx 0)) rfl (HO4.out.alloc _) _ rfl 1 [.string s, .string t] (srcE s t _) HMX.out HBY.out HBS.out ?_
    intro v3 w5 O5 G5 B5
    obtain ⟨g9, c9, rfl⟩ := own_succ O5
    have hb5 := pb_app HP4.out.blk G5 HP4.out.apart
    have k5 := (cell_of_block hb5 _).trans HP4.out.kept
    have f5 := free_of_block hb5 (i * 3)
    have HO5 := Lib.hid (And.intro O5 (And.intro G5 B5))
    clear O5 G5 B5 hb5
    (try simp only [Act.put, List.setIfInBounds_toArray, List.set_cons_zero, List.set_cons_succ])
    go_wp2_with fail
    go_ret
    obtain ⟨O5, G5, B5⟩ := HO5.out
    obtain ⟨P6, B6, F6⟩ := put_fin HP4.out HLE.out O5 G5 B5
    rw [set_set, HSET.out] at P6
    rw [HPL.out, if_pos HFL.out]
    refine ⟨rfl, _, P6, ?_, HFA.out.trans F6 (fun b e => ?_)⟩
    · rcases B6 with e | ⟨k, e, hk⟩
      · exact .inl (e.trans HV1.out)
      · exact .inr ⟨k, e, Nat.le_trans HFA.out.size hk⟩
    · rcases e with e | e
      · exact .inl (.inl e)
      · exact .inl (.inr (by rw [← HV1.out]; exact e))
  · have t1 : ((L1.length : Int) == (sz : Int)) = false := beq_eq_false_iff_ne.2 (by omega)
    have HFL := Lib.hid hfull
    clear hfull
    go_wp2_with fail
    refine wp_region_keep (by kernel_rfl) (by kernel_rfl) ?_
    repeat (any_goals (first | go_big_quiet_step (fail) | quiet_step (fail)))
    refine wpQuiet_nil ?_
    intro _ hwz
    obtain ⟨y, rfl⟩ := hwz
    have HPY := Lib.hid (HP2.out.fr y.h (fun h => h) (fun _ _ h => h))
    have HFY := Lib.hid (HF2.out.trans y.h (fun _ h => h.elim))
    obtain ⟨r0, _, _, f0⟩ := HPY.out.c
    have f00 := f0 (i * 3)
    clear x1 x2 t1 f0
    have HMX := Lib.hid (show L1.length + 1 ≤ maxLen by have := HL.out; unfold maxLen; omega)
    have HBY := Lib.hid (show (L1.length + 1) * 32 ≤ 140737488355328 by have := HL.out; omega)
    have HBS := Lib.hid (show base ≤ (y.w.alloc (.cells #[.string s, .string t] 54)).heap.size by have := HFY.out.size; have := HB.out; simp; omega)
    go_wp2_with ((at_builtin; refine Hid.out ?_))
    refine Lib.hid ?_
    refine wpList_app _ rfl (.tmp 40) (.tmp 44) 57 57 rfl base 54 ti zv 2 32 Try.underlying57 HT.out.1 HT.out.2.1 HT.out.2.2.1 HT.out.2.2.2.1 HT.out.2.2.2.2 (by decide) (.slice a1 (L1.length) c1) (L1.length) (ec (L1)) rfl (HPY.out.own.alloc _) _ rfl 1 [.string s, .string t] (srcE s t _) HMX.out HBY.out HBS.out ?_
    intro v3 w5 O5 G5 B5
    obtain ⟨g9, c9, rfl⟩ := own_succ O5
    have hb5 := pb_app HPY.out.blk G5 HPY.out.apart
    have k5 := (cell_of_block hb5 _).trans HPY.out.kept
    have f5 := free_of_block hb5 (i * 3)
    have HO5 := Lib.hid (And.intro O5 (And.intro G5 B5))
    clear O5 G5 B5 hb5
    (try simp only [Act.put, List.setIfInBounds_toArray, List.set_cons_zero, List.set_cons_succ])
    go_wp2_with fail
    go_ret
    obtain ⟨O5, G5, B5⟩ := HO5.out
    obtain ⟨P6, B6, F6⟩ := put_fin HPY.out rfl O5 G5 B5
    rw [HSET.out] at P6
    rw [HPL.out, if_neg HFL.out]
    refine ⟨rfl, _, P6, ?_, HFY.out.trans F6 (fun b e => ?_)⟩
    · rcases B6 with e | ⟨k, e, hk⟩
      · exact .inl (e.trans HV1.out)
      · exact .inr ⟨k, e, Nat.le_trans HFY.out.size hk⟩
    · rcases e with e | e
      · exact .inl (.inl e)
      · exact .inl (.inr (by rw [← HV1.out]; exact e))
end Go.Proofs.Ytkigdgkklninoaa

/-
  slices.Delete of one; Remove.
-/
import Derived.Test.YtcpapielklplcaaAf
namespace Go.Proofs.Ytcpapielklplcaa
open Go.RowKit
set_option linter.unusedVariables false
set_option linter.unusedSimpArgs false

section
variable {P : Program} (w : World)
/-- An append onto a row with room, in place. -/
theorem run_app_room (t tx ty e : TypeId) (i : TypeInfo) (size : Nat) (ht : P.underlying t = some (.slice e)) (hi : P.info? e = some i) (hsize : i.size = size) (g n cap : Nat) (cur : Array Value) (hg : w.heap[g]? = some (.cells cur e (0, 0))) (hcs : cur.size = cap * size)
    (x : Value) (m : Nat) (news : List Value) (hsrc : Src P size tx x m news w) (hroom : n + m ≤ cap) :
    (Builtin.append_ #[t, tx] ty #[.slice (some ⟨g, 0, none⟩) n cap, x]).run P w = .ok (.slice (some ⟨g, 0, none⟩) (n + m) cap) (w.setRow g (cur.toList.take (n * size) ++ news ++ cur.toList.drop (n * size + news.length)).toArray) := by
  subst hsize
  have hl := hsrc.newsLen
  have hfit : n * i.size + news.length ≤ cur.size := by rw [hl, hcs, ← Nat.add_mul]; exact Nat.mul_le_mul_right _ hroom
  have hf := hsrc.cells
  have hst := run_storeCells_at P g (n * i.size) e news 0 cur w hg (by simpa using hfit) hsrc.one
  simp only [Nat.add_zero] at hst
  rcases hsrc.kind with ⟨e2, hk⟩ | hk <;>
    simp [Builtin.append_, run_underlying ht, run_underlying hk, sizeOf, typeInfo, hi, hsrc.len, hroom, hf, Addr.add_lit, hst]
theorem wpList_app_room {ops : Array Oper} {rest : List Oper} {o : Oper} {a : Act} {Q : Exit → Act → World → Prop} (hgd : o.guard = none) (s x : Operand) (t tx : TypeId)
    (ho : o.op = .call { callee := .builtin .append, args := #[s, x], argTypes := #[t, tx] }) (e : TypeId) (i : TypeInfo) (size : Nat) (ht : P.underlying t = some (.slice e)) (hi : P.info? e = some i) (hsize : i.size = size) (g n cap : Nat) (cur : Array Value) (hg : w.heap[g]? = some (.cells cur e (0, 0))) (hcs : cur.size = cap * size)
    (hs : a.eval s = .slice (some ⟨g, 0, none⟩) n cap) (xv : Value) (hx : a.eval x = xv) (m : Nat) (news : List Value) (hsrc : Src P size tx xv m news w) (hroom : n + m ≤ cap)
    (h : wpList P ops Q rest (a.put o.dst (.slice (some ⟨g, 0, none⟩) (n + m) cap)) (w.setRow g (cur.toList.take (n * size) ++ news ++ cur.toList.drop (n * size + news.length)).toArray)) : wpList P ops Q (o :: rest) a w := by
  refine wpList_plain hgd fun _ hK => ?_
  have hr := run_app_room (P := P) w t tx o.type e i size ht hi hsize g n cap cur hg hcs xv m news hsrc hroom
  unfold Oper.wp execOp
  simp only [ho, resolve, invoke, builtin, Sem.run_bind, Sem.run_pure, Result.andThen_ok, List.map_toArray, List.map_cons, List.map_nil, hs, hx, hr]
  exact hK _ _ h
/-- 'clear' of one element of three cells. -/
theorem run_clear_three (t e ty : TypeId) (z z1 z2 z3 : Value) (ht : P.underlying t = some (.slice e)) (hv : ∀ w, (zeroValue e).run P w = .ok z w) (hz : z.cells = #[z1, z2, z3]) (h1 : z1.oneCell' = true) (h2 : z2.oneCell' = true) (h3 : z3.oneCell' = true) (g o c : Nat) (cur : Array Value) (hg : w.heap[g]? = some (.cells cur e (0, 0))) (ho : o + 3 ≤ cur.size) :
    (Builtin.clear_ #[t] ty #[.slice (some ⟨g, o, none⟩) 1 c]).run P w = .ok (.tuple #[]) (w.setRow g (cur.toList.take o ++ [z1, z2, z3] ++ cur.toList.drop (o + 3)).toArray) := by
  have hzc : (Builtin.zeroCells z.cells 1).toList = [z1, z2, z3] := by
    rw [hz]
    unfold Builtin.zeroCells
    rw [Array.toList_map, Array.toList_range]
    rfl
  have hst := run_storeCells_at P g o e [z1, z2, z3] 0 cur w hg (by simpa using ho) (by
    intro v hv'
    simp only [List.mem_cons, List.not_mem_nil, or_false] at hv'
    rcases hv' with rfl | rfl | rfl
    · exact h1
    · exact h2
    · exact h3)
  simp only [Nat.add_zero, List.length_cons, List.length_nil] at hst
  simp [Builtin.clear_, run_underlying ht, hv, hzc, hst]
end
theorem era_cells (L : List Mb) (k : Nat) : mc (L.take k) ++ mc (L.drop (k + 1)) = mc (L.eraseIdx k) := by
  rw [← mc_app, List.eraseIdx_eq_take_drop_succ]
set_option maxRecDepth 100000 in
set_option maxHeartbeats 1600000 in
theorem delete_any (g n cap k : Nat) (i j : Int) (hi : i = (k : Int)) (hj : j = (k : Int) + 1) (L : List Mb) (hn : L.length = n) (cur : Array Value) (hk : k < n) (hnc : n ≤ cap) (hcm : cap ≤ maxLen) (hcs : cur.size = cap * 3) (ht : cur.toList.take (n * 3) = mc L) (w : World) (hg : w.heap[g]? = some (.cells cur 43 (0, 0))) :
    Calls Try.prog 12 #[.slice (some ⟨g, 0, none⟩) n cap, .int .i64 i, .int .i64 j] w fun e w' => e = .returned (.slice (some ⟨g, 0, none⟩) (n - 1) cap) ∧ ∃ cur', w'.heap[g]? = some (.cells cur' 43 (0, 0)) ∧ cur'.size = cap * 3 ∧ cur'.toList.take ((n - 1) * 3) = mc (L.eraseIdx k) ∧ Fr (fun b => b = g) w w' := by
  subst hi hj
  obtain ⟨ti, z, t1, t2, t3, t4, t5⟩ := mInfo
  have HT := Lib.hid (And.intro t1 t3)
  clear t1 t2 t3 t4 t5
  -- what moves up
  have hmid : ∀ W : World, Fr (fun _ => False) w W → Src Try.prog 3 36 (.slice (if cap = k + 1 then some ⟨g, 0, none⟩ else some ⟨g, (k + 1) * 3, none⟩) (n - (k + 1)) (cap - (k + 1))) (n - (k + 1)) (mc (L.drop (k + 1))) W := fun W F => by
    have hb := (F.block g (lt_of_block hg) (fun h => h)).trans hg
    by_cases hc : cap = k + 1
    · have h0 : L.drop (k + 1) = [] := List.drop_eq_nil_iff.2 (by omega)
      rw [h0, if_pos hc, show n - (k + 1) = 0 by omega]
      exact Src.ofSlice W Try.underlying36 ⟨g, 0, none⟩ 0 _ [] rfl (fun j u hu => by simp at hu) (fun u hu => by cases hu)
    · rw [if_neg hc]
      refine Src.ofSlice W Try.underlying36 ⟨g, (k + 1) * 3, none⟩ _ _ _ (by rw [mc_len, List.length_drop, hn]) (fun j u hu => ?_) (mc_one _)
      have hlen := (List.getElem?_eq_some_iff.1 hu).1
      rw [mc_len, List.length_drop, hn] at hlen
      rw [Addr.add_lit, cell_of_block hb, ← Array.getElem?_toList]
      rw [← mc_drop, ← ht, List.getElem?_drop, List.getElem?_take_of_lt (by omega)] at hu
      exact hu
  have HM := Lib.hid hmid
  have hnl : (mc (L.drop (k + 1))).length = (n - (k + 1)) * 3 := by rw [mc_len, List.length_drop, hn]
  obtain ⟨c1, hc1⟩ : ∃ c1, c1 = (cur.toList.take (k * 3) ++ mc (L.drop (k + 1)) ++ cur.toList.drop (k * 3 + (mc (L.drop (k + 1))).length)).toArray := ⟨_, rfl⟩
  have hs1 : c1.size = cap * 3 := by
    rw [hc1]
    simp only [List.size_toArray, List.length_append, List.length_take, List.length_drop, Array.length_toList, hnl, hcs]
    omega
  have ht1 : c1.toList.take ((n - 1) * 3) = mc (L.eraseIdx k) := by
    have e0 : cur.toList.take (k * 3) = mc (L.take k) := by
      rw [← mc_take, ← ht, List.take_take, Nat.min_eq_left (by omega)]
    rw [hc1, e0, ← era_cells]
    exact List.take_left' (by rw [List.length_append, hnl, mc_len, List.length_take, hn]; omega)
  obtain ⟨c2, hc2⟩ : ∃ c2, c2 = (c1.toList.take ((n - 1) * 3) ++ [Value.string ⟨#[]⟩, .int .i64 0, .int .i64 0] ++ c1.toList.drop ((n - 1) * 3 + 3)).toArray := ⟨_, rfl⟩
  have hs2 : c2.size = cap * 3 := by
    rw [hc2]
    simp only [List.size_toArray, List.length_append, List.length_take, List.length_drop, Array.length_toList, List.length_cons, List.length_nil, hs1]
    omega
  have ht2 : c2.toList.take ((n - 1) * 3) = mc (L.eraseIdx k) := by
    rw [hc2, List.append_assoc, ht1]
    have : (mc (L.eraseIdx k)).length = (n - 1) * 3 := by rw [mc_len, List.length_eraseIdx, if_pos (by omega), hn]
    exact List.take_left' this
  have hcl : ∀ (W : World) (c ty : Nat), W.heap[g]? = some (.cells c1 43 (0, 0)) → (Builtin.clear_ #[36] ty #[.slice (some ⟨g, (n - 1) * 3, none⟩) 1 c]).run Try.prog W = .ok (.tuple #[]) (W.setRow g c2) := fun W c ty hW => by
    rw [hc2]
    exact run_clear_three W 36 43 ty (.agg #[.string ⟨#[]⟩, .int .i64 0, .int .i64 0]) _ _ _ Try.underlying36 (fun w => by kernel_rfl) rfl rfl rfl rfl g _ c c1 hW (by rw [hs1]; omega)
  have HCL := Lib.hid hcl
  have HC1 := Lib.hid hc1
  have HS2 := Lib.hid hs2
  have HT2 := Lib.hid ht2
  have HG := Lib.hid hg
  have HN := Lib.hid hn
  have HCS := Lib.hid hcs
  have q0 : ((k : Int) == (k : Int) + 1) = false := beq_eq_false_iff_ne.2 (by omega)
  have w1 : wrap64 ((k : Int) + 1) = (k : Int) + 1 := IntWalk.wrap64_in _ (by simp only [maxLen] at hcm; omega)
  have hm2 := hcm
  simp only [maxLen] at hm2
  clear hcl hc1 hs2 ht2 hg hn hcs hmid hnl hs1 ht1 hc2 ht hcm
  go_enter Try.func12, Try.ntmps12
  go_wp2_with fail
  refine Ks.wp_region_mono (fun b => b = g) (sg 0 6 ++ ((6, true) :: (sg 7 1 ++ []))) (by kernel_rfl) (by kernel_rfl) ?_
  refine Ks.Wk.seg 0 6 (by kernel_rfl) (by kernel_rfl) ?_
  apply Exists.intro
  refine ⟨?wk1, ?fin1⟩
  case wk1 =>
    intro γ
    simp only [List.drop_succ_cons, List.drop_zero, List.take_succ_cons, List.take_zero]
    repeat (any_goals (first | go_big_quiet_step (fail) | quiet_step (fail)))
    exact wpQuiet_nil rfl
  case fin1 =>
  (try simp only [Act.put, List.setIfInBounds_toArray, List.set_cons_zero, List.set_cons_succ])
  refine Ks.Wk.one rfl (fun W1 hx1 => ?_)
  refine wpList_app_room W1 rfl (.tmp 22) (.tmp 25) 36 36 rfl 43 ti 3 Try.underlying36 HT.out.1 HT.out.2 g k cap cur ((hx1.block g (lt_of_block HG.out) (fun h => h)).trans HG.out) HCS.out rfl _ rfl (n - (k + 1)) (mc (L.drop (k + 1))) (HM.out W1 hx1) (by omega) ?_
  have hb1 : W1.heap[g]? = some (.cells cur 43 (0, 0)) := (hx1.block g (lt_of_block HG.out) (fun h => h)).trans HG.out
  have hr1 := setRow_heap W1 g cur c1 43 (0, 0) hb1
  rw [← HC1.out]
  refine ⟨rfl, (Fr.refl (fun b => b = g) W1).sr rfl c1, ?_⟩
  (try simp only [Act.put, List.setIfInBounds_toArray, List.set_cons_zero, List.set_cons_succ])
  refine Ks.Wk.seg 7 1 (by kernel_rfl) (by kernel_rfl) ?_
  apply Exists.intro
  refine ⟨?wk2, ?fin2⟩
  case wk2 =>
    intro γ
    simp only [List.drop_succ_cons, List.drop_zero, List.take_succ_cons, List.take_zero]
    repeat (any_goals (first | go_big_quiet_step (fail) | quiet_step (fail)))
    exact wpQuiet_nil rfl
  case fin2 =>
  (try simp only [Act.put, List.setIfInBounds_toArray, List.set_cons_zero, List.set_cons_succ])
  intro W2 hx2
  have hb2 : W2.heap[g]? = some (.cells c1 43 (0, 0)) := (hx2.block g (lt_of_block hr1) (fun h => h)).trans hr1
  have F2 := Lib.hid ((hx1.mono (T := fun b => b = g) (fun _ _ h => h.elim)).trans (((Fr.refl (fun b => b = g) W1).sr rfl c1).trans (hx2.mono (T := fun b => b = g) (fun _ _ h => h.elim)) (fun _ h => .inl h)) (fun _ h => .inl h))
  have HB2 := Lib.hid hb2
  have e1 : k + (n - (k + 1)) = n - 1 := by omega
  have q2 : ((n - 1 : Nat) : Int) ≤ (n : Int) := by omega
  have hz : (n - 1 : Nat) ≠ cap := by omega
  have hcl := HCL.out W2 (cap - (n - 1))
  have hcl2 : ∀ ty : Nat, (Builtin.clear_ #[36] ty #[.slice (some ⟨g, (n - 1) * 3, none⟩) 1 (cap - (n - 1))]).run Try.prog W2 = .ok (.tuple #[]) (W2.setRow g c2) := fun ty => hcl ty hb2
  have hn1 : n - (n - 1) = 1 := by omega
  rw [e1]
  clear hcl hb1 hr1 hx1 hx2 hb2
  go_wp2_with fail
  all_goals
    go_ret
    exact ⟨rfl, c2, setRow_heap W2 g c1 c2 43 (0, 0) HB2.out, by (first | exact HS2.out | (have := HS2.out; omega)), HT2.out, F2.out.trans ((Fr.refl (fun b => b = g) W2).sr rfl c2) (fun _ h => .inl h)⟩
/-- What Remove leaves. -/
def RemPost (base ps : Nat) (now : Int) (v : Value) (L : List Mb) (s : ByteArray) (w : World) (e : Ending) (w' : World) : Prop := ∃ er v' L', e = .returned (.int .i64 er) ∧ Sd w' base ps now v' L' ∧ (L' = L ∨ ∃ k m, L[k]? = some m ∧ m.id.toList = s.toList ∧ L' = L.eraseIdx k) ∧ v'.ownBlock = v.ownBlock ∧ Fr (fun k => k = ps ∨ v.ownBlock = some k) w w'
set_option maxRecDepth 100000 in
set_option maxHeartbeats 1600000 in
theorem rem_any (ps base : Nat) (now : Int) (v : Value) (L : List Mb) (s : ByteArray) (w : World) (h : Sd w base ps now v L) (hl : L.length ≤ 1000) : Calls Try.prog 7 #[.pointer (some ⟨ps, 0, none⟩), .string s] w (RemPost base ps now v L s w) := by
  have HS := Lib.hid h
  have HL := Lib.hid hl
  obtain ⟨a9, c9, rfl⟩ := mr_form h.own
  clear h hl
  go_enter Try.func7, Try.ntmps7
  go_wp2_with fail
  refine (find_any ps now _ L s base w HS.out HL.out).mono ?_
  rintro e w1 ⟨⟨k, b, rfl, hk, hb⟩, F1⟩
  have HS1 := Lib.hid (HS.out.ext F1)
  have HF1 := Lib.hid F1
  have HBB := Lib.hid hb
  clear F1 hk hb
  cases b with
  | false =>
    go_wp2_with fail
    go_ret
    exact ⟨10, _, L, rfl, HS1.out, .inl rfl, rfl, HF1.out.mono (fun _ _ h => h.elim)⟩
  | true =>
    obtain ⟨m, hm, hid⟩ := HBB.out rfl
    have hkl := (List.getElem?_eq_some_iff.1 hm).1
    have hkm : k ≤ 1000 := by have := HL.out; omega
    rcases HS1.out.own.2 with ⟨_, h0⟩ | ⟨g, c, cur, ev, hbg, hg, hnc, hcm, hcs, ht⟩
    · omega
    obtain ⟨rfl, rfl⟩ : a9 = some ⟨g, 0, none⟩ ∧ c9 = c := by simpa using ev
    obtain ⟨_, c1, _⟩ := HS1.out.blk.c
    have w1e : wrap64 ((k : Int) + 1) = (k : Int) + 1 := IntWalk.wrap64_in _ (by omega)
    have HD := Lib.hid (delete_any g L.length c9 k (k : Int) ((k : Int) + 1) rfl rfl L rfl cur hkl hnc hcm hcs ht w1 hg)
    have HM := Lib.hid (And.intro hm (And.intro hid (And.intro hkl (And.intro hnc (And.intro hcm hbg)))))
    have HN := Lib.hid (show g ≠ ps from fun e => HS.out.ne (by rw [e]; rfl))
    clear hm hid hkl hg hnc hcm hcs ht hbg ev
    go_wp2_with fail
    refine HD.out.mono ?_
    rintro e w2 ⟨rfl, cur', hg', hcs', ht', F2⟩
    have HB2 := Lib.hid (HS1.out.blk.fr F2 (fun e => HN.out e.symm))
    obtain ⟨_, c1', _, f1'⟩ := HB2.out.c
    have HX := Lib.hid (And.intro hg' (And.intro hcs' ht'))
    have HF2 := Lib.hid F2
    clear hg' hcs' ht' F2 c1
    go_wp2_with fail
    go_ret
    obtain ⟨hm, hid, hkl, hnc, hcm, hbg⟩ := HM.out
    obtain ⟨hg', hcs', ht'⟩ := HX.out
    have FS : Fr (fun k => k = ps) w2 (w2.setCell ⟨ps, 1, none⟩ (.slice (some ⟨g, 0, none⟩) (L.length - 1) c9)) := Fr.setCell (S := fun k => k = ps) (Fr.refl _ w2) (Or.inl rfl) _
    have hel : (L.eraseIdx k).length = L.length - 1 := by rw [List.length_eraseIdx, if_pos hkl]
    refine ⟨0, _, _, rfl, ⟨HB2.out.set1 _, ?_, fun e => HN.out (by simpa [Value.ownBlock] using e), HS.out.b⟩, .inr ⟨k, m, hm, hid, rfl⟩, rfl, ?_⟩
    · show World.ownsRow _ _ _ _ _ _ _
      rw [hel]
      exact ⟨by rw [mc_len, hel], .inr ⟨g, c9, cur', rfl, hbg, (FS.block g (lt_of_block hg') HN.out).trans hg', by omega, hcm, hcs', ht'⟩⟩
    · exact ((HF1.out.mono (T := fun k => k = ps ∨ (Value.slice (some ⟨g, 0, none⟩) L.length c9).ownBlock = some k) (fun _ _ h => h.elim)).trans HF2.out (fun k h => .inl (.inr (by simp [Value.ownBlock, h])))).trans FS (fun _ h => .inl (.inl h))
end Go.Proofs.Ytcpapielklplcaa

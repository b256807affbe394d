/-
  slices.Insert of one more, ahead of others: in place; into a new row.
-/
import Derived.Test.YtcpapielklplcaaAd
namespace Go.Proofs.Ytcpapielklplcaa
open Go.RowKit
set_option linter.unusedVariables false
set_option linter.unusedSimpArgs false
theorem m3_len (x : Mb) : (m3 x).length = 3 := rfl
set_option maxRecDepth 100000 in
set_option maxHeartbeats 1600000 in
theorem ins_room (gv g c i : Nat) (x : Mb) (L : List Mb) (base : Nat) (w : World) (cur : Array Value) (hi : i < L.length) (hl : L.length ≤ 1000) (hr : L.length + 1 ≤ c) (hcm : c ≤ maxLen) (hb : base ≤ g) (hg : w.heap[g]? = some (.cells cur 43 (0, 0))) (hcs : cur.size = c * 3) (ht : cur.toList.take (L.length * 3) = mc L) (hv : VB w gv x) (hne : gv ≠ g) : Calls Try.prog 10 #[.slice (some ⟨g, 0, none⟩) L.length c, .int .i64 (i : Int), .slice (some ⟨gv, 0, none⟩) 1 1] w (InsPost base (.slice (some ⟨g, 0, none⟩) L.length c) L i x w) := by
  have hdl : (mc (L.drop i)).length = (L.length - i) * 3 := by rw [mc_len, List.length_drop]
  have hcl : cur.toList.length = c * 3 := by rw [Array.length_toList, hcs]
  have hd0 : (cur.toList.drop (i * 3)).take ((L.length - i) * 3) = mc (L.drop i) := by
    rw [← mc_drop, ← ht, List.drop_take, show L.length * 3 - i * 3 = (L.length - i) * 3 by omega]
  obtain ⟨C1, hC1⟩ : ∃ C1, C1 = (cur.toList.take ((i + 1) * 3) ++ mc (L.drop i) ++ cur.toList.drop ((i + 1) * 3 + (mc (L.drop i)).length)).toArray := ⟨_, rfl⟩
  have hl1 : C1.toList.length = c * 3 := by rw [hC1, lay_len _ _ _ (by rw [hdl, hcl]; omega), hcl]
  have hf1 : C1.toList.take (i * 3) = mc (L.take i) := by
    rw [hC1, lay_front _ _ _ _ (by rw [hcl]; omega) (by omega), ← mc_take, ← ht, List.take_take, Nat.min_eq_left (by omega)]
  have hm1 : (C1.toList.drop (i * 3 + (m3 x).length)).take (mc (L.drop i)).length = mc (L.drop i) := by
    rw [hC1, m3_len, show i * 3 + 3 = (i + 1) * 3 by omega]
    exact lay_mid _ _ _ (by rw [hdl, hcl]; omega)
  obtain ⟨C2, hC2⟩ : ∃ C2, C2 = (C1.toList.take (i * 3) ++ m3 x ++ C1.toList.drop (i * 3 + (m3 x).length)).toArray := ⟨_, rfl⟩
  have hl2 : C2.toList.length = c * 3 := by rw [hC2, lay_len _ _ _ (by rw [m3_len, hl1]; omega), hl1]
  have ht2 : C2.toList.take ((L.length + 1) * 3) = mc (ins L i x) := by
    have h := lay_more C1.toList (m3 x) (mc (L.drop i)) (i * 3) (by rw [m3_len, hdl, hl1]; omega) hm1
    rw [hC2, mc_ins, ← hf1, ← h, m3_len, hdl, show i * 3 + 3 + (L.length - i) * 3 = (L.length + 1) * 3 by omega]
  have hov : ∀ lb cb, (callFunc 18 #[.slice (some ⟨gv, 0, none⟩) 1 1, .slice (some ⟨g, (i + 1) * 3, none⟩) lb cb]).run Try.prog w = .ok (.value (.bool false)) w := fun lb cb => by
    rw [run_callFunc_extern Try.func18 (by kernel_rfl) (by kernel_rfl) (by kernel_rfl) (e := Extern.SlicesOverlaps.overlaps #[36, 36] #[4]) (by kernel_rfl),
      Lib.run_overlaps_apart w 36 4 43 Try.underlying36 3 (fun w => by kernel_rfl) ⟨gv, 0, none⟩ ⟨g, (i + 1) * 3, none⟩ 1 1 lb cb hne 43 43 3 cur.size (by simp [World.shape?, hv]) (by simp [World.shape?, hg]) (by omega) (free_of_block hv 0) (free_of_block hv 3)]
    rfl
  have hcp1 : ∀ (W : World) (ty : TypeId) (dc sc : Nat), W.heap[g]? = some (.cells cur 43 (0, 0)) → (Builtin.copy_ #[36, 36] ty #[.slice (some ⟨g, (i + 1) * 3, none⟩) (L.length - i) dc, .slice (some ⟨g, i * 3, none⟩) (L.length + 1 - i) sc]).run Try.prog W = .ok (goInt (Nat.min (L.length + 1 - i) (L.length - i))) (W.setRow g C1) := fun W ty dc sc hW => by
    rw [hC1]
    refine run_copy_rows W _ _ ty 43 3 g ((i + 1) * 3) _ dc ⟨g, i * 3, none⟩ _ sc cur 43 _ Try.underlying36 szM hW ?_ ?_ ?_ (mc_one _)
    · rw [hdl, show Nat.min (L.length + 1 - i) (L.length - i) = L.length - i by simp only [Nat.min_def]; split <;> omega]
    · intro j v hj
      have hjl := (List.getElem?_eq_some_iff.1 hj).1
      rw [← hd0, List.getElem?_take_of_lt (by omega), List.getElem?_drop] at hj
      rw [Addr.add_lit, cell_of_block hW, ← Array.getElem?_toList]; exact hj
    · rw [hdl, ← Array.length_toList, hcl]; omega
  have hcp2 : ∀ (W : World) (ty : TypeId) (dc : Nat), W.heap[g]? = some (.cells C1 43 (0, 0)) → VB W gv x → (Builtin.copy_ #[36, 36] ty #[.slice (some ⟨g, i * 3, none⟩) (L.length + 1 - i) dc, .slice (some ⟨gv, 0, none⟩) 1 1]).run Try.prog W = .ok (goInt (Nat.min 1 (L.length + 1 - i))) (W.setRow g C2) := fun W ty dc hW hV => by
    rw [hC2]
    refine run_copy_rows W _ _ ty 43 3 g (i * 3) _ dc ⟨gv, 0, none⟩ _ 1 C1 43 _ Try.underlying36 szM hW ?_ ?_ ?_ (m3_one _)
    · rw [m3_len, show Nat.min 1 (L.length + 1 - i) = 1 by simp only [Nat.min_def]; split <;> omega]
    · intro j v hj
      rw [Addr.add_mid, Nat.zero_add, cell_of_block hV, ← Array.getElem?_toList]; exact hj
    · rw [m3_len, ← Array.length_toList, hl1]; omega
  have H1 := Lib.hid hcp1
  have H2 := Lib.hid hcp2
  have HG := Lib.hid hg
  have HV := Lib.hid hv
  have HT := Lib.hid ht2
  have HC := Lib.hid hl2
  have HB := Lib.hid hb
  have HN := Lib.hid hne
  have HM := Lib.hid hcm
  have HI := Lib.hid hi
  have q1 : ¬ ((i : Int) = (L.length : Int)) := by omega
  have q2 : ¬ ((c : Int) < (L.length : Int) + 1) := by omega
  have q3 : ¬ (c = i) := by omega
  have q4 : ¬ (c = i + 1) := by omega
  have q5 : (i : Int) ≤ (L.length : Int) := by omega
  have hm2 := hcm
  simp only [maxLen] at hm2
  clear hcp1 hcp2 hg hv ht2 hl2 hb hne hcm ht hcs hdl hcl hd0 hl1 hf1 hm1 hC1 hC2
  go_enter Try.func10, Try.ntmps10
  go_wp2_with (simp only [hov])
  clear hov
  refine Ks.wp_region_mono (fun b => b = g) (sg 0 8 ++ ((8, true) :: [])) (by kernel_rfl) (by kernel_rfl) ?_
  refine Ks.Wk.seg 0 8 (by kernel_rfl) (by kernel_rfl) ?_
  apply Exists.intro
  refine ⟨?wk1, ?fin1⟩
  case wk1 =>
    intro γ
    simp only [List.drop_succ_cons, List.drop_zero, List.take_succ_cons, List.take_zero]
    repeat (any_goals (first | go_big_quiet_step (fail) | quiet_step (fail)))
    exact wpQuiet_nil rfl
  case fin1 =>
  (try simp only [Act.put, List.setIfInBounds_toArray, List.set_cons_zero, List.set_cons_succ])
  refine Ks.Wk.one rfl (fun W1 hx1 => ?_)
  have hb1 : W1.heap[g]? = some (.cells cur 43 (0, 0)) := (hx1.block g (lt_of_block HG.out) (fun h => h)).trans HG.out
  refine wpList_copy_run W1 rfl (.tmp 73) (.tmp 76) 36 36 rfl _ _ rfl rfl (H1.out W1 _ _ _ hb1) ?_
  have hr1 := setRow_heap W1 g cur C1 43 (0, 0) hb1
  have hv1 : VB (W1.setRow g C1) gv x := (setRow_other W1 g gv C1 HN.out).trans ((hx1.block gv (lt_of_block HV.out) (fun h => h)).trans HV.out)
  refine ⟨rfl, (Fr.refl (fun b => b = g) W1).sr rfl C1, ?_⟩
  (try simp only [Act.put, List.setIfInBounds_toArray, List.set_cons_zero, List.set_cons_succ])
  intro W2 hx2
  have hb2 : W2.heap[g]? = some (.cells C1 43 (0, 0)) := (hx2.block g (lt_of_block hr1) (fun h => h)).trans hr1
  have hv2 : VB W2 gv x := (hx2.block gv (lt_of_block hv1) (fun h => h)).trans hv1
  have F2 := Lib.hid ((hx1.mono (T := fun b => b = g) (fun _ _ h => h.elim)).trans (((Fr.refl (fun b => b = g) W1).sr rfl C1).trans (hx2.mono (T := fun b => b = g) (fun _ _ h => h.elim)) (fun _ h => .inl h)) (fun _ h => .inl h))
  have HB2 := Lib.hid hb2
  have HV2 := Lib.hid hv2
  clear hb1 hr1 hv1 hx1 hx2 hb2 hv2
  have hcp := fun ty => H2.out W2 ty (c - i) HB2.out HV2.out
  go_wp2_with fail
  go_ret
  refine ⟨_, rfl, ?_, .inl rfl, (F2.out.trans ((Fr.refl (fun b => b = g) W2).sr rfl C2) (fun _ h => .inl h)).mono (fun k _ h => by simp [Value.ownBlock, h])⟩
  have hlen := ins_len L i x (Nat.le_of_lt HI.out)
  show World.ownsRow _ _ _ _ _ _ _
  rw [hlen]
  exact ⟨by rw [mc_len, hlen], .inr ⟨g, c, C2, rfl, HB.out, setRow_heap W2 g C1 C2 43 (0, 0) HB2.out, hr, HM.out, by rw [← Array.length_toList]; exact HC.out, HT.out⟩⟩
end Go.Proofs.Ytcpapielklplcaa

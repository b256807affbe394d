/-
  slices.Insert of one more, ahead of others, into a new row.
-/
import Derived.Test.YtcpapielklplcaaAe
namespace Go.Proofs.Ytcpapielklplcaa
open Go.RowKit
set_option linter.unusedVariables false
set_option linter.unusedSimpArgs false
theorem stop_app {P : Program} {w : World} {ops : Array Oper} {rest : List Oper} {o : Oper} {a : Act} {Q : Exit → Act → World → Prop} (s x : Operand) (t tn : TypeId) (ho : o.op = .call { callee := .builtin .append, args := #[s, x], argTypes := #[t, tn] }) (h : Hid (wpList P ops Q (o :: rest) a w)) : wpList P ops Q (o :: rest) a w := h.out
set_option maxRecDepth 100000 in
set_option maxHeartbeats 1600000 in
theorem ins_grow (gv g c i : Nat) (x : Mb) (L : List Mb) (base : Nat) (w : World) (cur : Array Value) (hi : i < L.length) (hl : L.length ≤ 1000) (hc : c = L.length) (hb : base ≤ w.heap.size) (hg : w.heap[g]? = some (.cells cur 43 (0, 0))) (ht : cur.toList.take (L.length * 3) = mc L) (hv : VB w gv x) : Calls Try.prog 10 #[.slice (some ⟨g, 0, none⟩) L.length c, .int .i64 (i : Int), .slice (some ⟨gv, 0, none⟩) 1 1] w (InsPost base (.slice (some ⟨g, 0, none⟩) L.length c) L i x w) := by
  subst hc
  obtain ⟨ti, zv, t1, t2, t3, t4, t5⟩ := mInfo
  have hdl : (mc (L.drop i)).length = (L.length - i) * 3 := by rw [mc_len, List.length_drop]
  have htl : (mc (L.take i)).length = i * 3 := by rw [mc_len, List.length_take, Nat.min_eq_left (by omega)]
  have hd0 : (cur.toList.drop (i * 3)).take ((L.length - i) * 3) = mc (L.drop i) := by
    rw [← mc_drop, ← ht, List.drop_take, show L.length * 3 - i * 3 = (L.length - i) * 3 by omega]
  obtain ⟨G, hG⟩ : ∃ G, G = grownCap w (L.length + 1) L.length 43 := ⟨_, rfl⟩
  have hGe : L.length + 1 ≤ G := by rw [hG]; exact grownCap_ge _ _ _ _
  have hGm : G ≤ maxLen := by rw [hG]; exact grownCap_le_maxLen _ _ _ _ (by unfold maxLen; omega)
  obtain ⟨C1, hC1⟩ : ∃ C1, C1 = (mc (L.take i)).toArray ++ Builtin.zeroCells zv.cells (L.length + 1 - i) ++ Builtin.zeroCells zv.cells (G - (L.length + 1)) := ⟨_, rfl⟩
  have hl1 : C1.toList.length = G * 3 := by
    rw [Array.length_toList, hC1]
    simp only [Array.size_append, List.size_toArray, size_zeroCells, t5, htl]
    omega
  have hf1 : C1.toList.take (i * 3) = mc (L.take i) := by
    rw [hC1, Array.toList_append, Array.toList_append, List.append_assoc]
    exact List.take_left' htl
  obtain ⟨C2, hC2⟩ : ∃ C2, C2 = (C1.toList.take (i * 3) ++ m3 x ++ C1.toList.drop (i * 3 + (m3 x).length)).toArray := ⟨_, rfl⟩
  have hl2 : C2.toList.length = G * 3 := by rw [hC2, lay_len _ _ _ (by rw [m3_len, hl1]; omega), hl1]
  have hf2 : C2.toList.take ((i + 1) * 3) = mc (L.take i) ++ m3 x := by
    have h := lay_take C1.toList (m3 x) (i * 3) (by rw [m3_len, hl1]; omega)
    rw [m3_len, show i * 3 + 3 = (i + 1) * 3 by omega, hf1] at h
    rw [hC2, m3_len, show i * 3 + 3 = (i + 1) * 3 by omega, hf1]; exact h
  obtain ⟨C3, hC3⟩ : ∃ C3, C3 = (C2.toList.take ((i + 1) * 3) ++ mc (L.drop i) ++ C2.toList.drop ((i + 1) * 3 + (mc (L.drop i)).length)).toArray := ⟨_, rfl⟩
  have hl3 : C3.toList.length = G * 3 := by rw [hC3, lay_len _ _ _ (by rw [hdl, hl2]; omega), hl2]
  have ht3 : C3.toList.take ((L.length + 1) * 3) = mc (ins L i x) := by
    have h := lay_take C2.toList (mc (L.drop i)) ((i + 1) * 3) (by rw [hdl, hl2]; omega)
    rw [hdl, show (i + 1) * 3 + (L.length - i) * 3 = (L.length + 1) * 3 by omega, hf2] at h
    rw [hC3, mc_ins, hdl, show (i + 1) * 3 + (L.length - i) * 3 = (L.length + 1) * 3 by omega, hf2]
    exact h
  obtain ⟨W1, hW1⟩ : ∃ W1, W1 = w.drew.alloc (.cells C1 43) := ⟨_, rfl⟩
  obtain ⟨g2, hg2⟩ : ∃ g2, g2 = w.heap.size := ⟨_, rfl⟩
  have hap : ∀ (ty : TypeId) (X : Int), X = ((L.length + 1 - i : Nat) : Int) → (Builtin.append_ #[36, 3] ty #[.slice (some ⟨g, 0, none⟩) i L.length, .int .i64 X]).run Try.prog w = .ok (.slice (some ⟨g2, 0, none⟩) (L.length + 1) G) W1 := fun ty X hX => by
    have h := run_app_zeros (P := Try.prog) w 36 3 ty 43 ti zv .i64 Try.underlying36 Try.underlying3 t1 t2 g i L.length (mc (L.take i)) (by rw [htl, t3]) (fun j u hj => by
      have hjl := (List.getElem?_eq_some_iff.1 hj).1
      rw [← mc_take, ← ht, List.getElem?_take_of_lt (by omega), List.getElem?_take_of_lt (by omega)] at hj
      rw [Addr.add_mid, Nat.zero_add, cell_of_block hg, ← Array.getElem?_toList]; exact hj) (L.length + 1 - i) X hX (by omega) (by omega) (by omega) (by omega) (by rw [t4]; omega)
    rw [show i + (L.length + 1 - i) = L.length + 1 by omega, ← hG, ← hC1, ← hW1, ← hg2] at h
    exact h
  have hb1 : W1.heap[g2]? = some (.cells C1 43 (0, 0)) := by rw [hW1, hg2]; exact heap_alloc_new w.drew _
  have F1 : Fr (fun _ => False) w W1 := by rw [hW1]; exact (Fr.refl _ w).drew.alloc _
  have hv1 : VB W1 gv x := (F1.block gv (lt_of_block hv) (fun h => h)).trans hv
  have hgg1 : W1.heap[g]? = some (.cells cur 43 (0, 0)) := (F1.block g (lt_of_block hg) (fun h => h)).trans hg
  have n1 : g ≠ g2 := by have := lt_of_block hg; omega
  have hcp1 : ∀ (ty : TypeId) (dc : Nat), (Builtin.copy_ #[36, 36] ty #[.slice (some ⟨g2, i * 3, none⟩) (L.length + 1 - i) dc, .slice (some ⟨gv, 0, none⟩) 1 1]).run Try.prog W1 = .ok (goInt (Nat.min 1 (L.length + 1 - i))) (W1.setRow g2 C2) := fun ty dc => by
    rw [hC2]
    refine run_copy_rows W1 _ _ ty 43 3 g2 (i * 3) _ dc ⟨gv, 0, none⟩ _ 1 C1 43 _ Try.underlying36 szM hb1 ?_ ?_ ?_ (m3_one _)
    · rw [m3_len, show Nat.min 1 (L.length + 1 - i) = 1 by simp only [Nat.min_def]; split <;> omega]
    · intro j v hj
      rw [Addr.add_mid, Nat.zero_add, cell_of_block hv1, ← Array.getElem?_toList]; exact hj
    · rw [m3_len, ← Array.length_toList, hl1]; omega
  obtain ⟨W2, hW2⟩ : ∃ W2, W2 = W1.setRow g2 C2 := ⟨_, rfl⟩
  have hb2 : W2.heap[g2]? = some (.cells C2 43 (0, 0)) := by rw [hW2]; exact setRow_heap W1 g2 C1 C2 43 (0, 0) hb1
  have hgg2 : W2.heap[g]? = some (.cells cur 43 (0, 0)) := by rw [hW2]; exact (setRow_other W1 g2 g C2 n1).trans hgg1
  have F2 : Fr (fun b => b = g2) w W2 := by rw [hW2]; exact (F1.mono (fun _ _ h => h.elim)).trans ((Fr.refl (fun b => b = g2) W1).sr rfl C2) (fun _ h => .inl h)
  rw [← hW2] at hcp1
  have hcp2 : ∀ (W : World) (ty : TypeId) (dc sc : Nat), W.heap[g2]? = some (.cells C2 43 (0, 0)) → W.heap[g]? = some (.cells cur 43 (0, 0)) → (Builtin.copy_ #[36, 36] ty #[.slice (some ⟨g2, (i + 1) * 3, none⟩) (L.length - i) dc, .slice (some ⟨g, i * 3, none⟩) (L.length - i) sc]).run Try.prog W = .ok (goInt (Nat.min (L.length - i) (L.length - i))) (W.setRow g2 C3) := fun W ty dc sc hW hV => by
    rw [hC3]
    refine run_copy_rows W _ _ ty 43 3 g2 ((i + 1) * 3) _ dc ⟨g, i * 3, none⟩ _ sc C2 43 _ Try.underlying36 szM hW ?_ ?_ ?_ (mc_one _)
    · rw [hdl, show Nat.min (L.length - i) (L.length - i) = L.length - i by simp only [Nat.min_def]; split <;> omega]
    · intro j v hj
      have hjl := (List.getElem?_eq_some_iff.1 hj).1
      rw [← hd0, List.getElem?_take_of_lt (by omega), List.getElem?_drop] at hj
      rw [Addr.add_lit, cell_of_block hV, ← Array.getElem?_toList]; exact hj
    · rw [hdl, ← Array.length_toList, hl2]; omega
  have HAP := Lib.hid hap
  have H2 := Lib.hid hcp2
  have HB2 := Lib.hid hb2
  have HG2 := Lib.hid hgg2
  have HF2 := Lib.hid F2
  have HT := Lib.hid ht3
  have HC := Lib.hid hl3
  have HB := Lib.hid hb
  have HE := Lib.hid hg2
  have HM := Lib.hid hGm
  have HI := Lib.hid hi
  have q1 : ¬ ((i : Int) = (L.length : Int)) := by omega
  have q2 : (L.length : Int) < (L.length : Int) + 1 := by omega
  have q3 : ¬ (L.length = i) := by omega
  have q4 : ¬ (G = i) := by omega
  have q5 : (i : Int) ≤ (L.length : Int) := by omega
  have q6 : ¬ (G = i + 1) := by omega
  have hm2 := hGm
  simp only [maxLen] at hm2
  clear hap hcp2 hg hv ht3 hl3 hb hGm ht hdl htl hd0 hl1 hf1 hl2 hf2 hC1 hC2 hC3 hG hW1 hW2 hb1 hv1 hgg1 hb2 hgg2 F1 F2 t1 t2 t3 t4 t5 hg2 n1
  go_enter Try.func10, Try.ntmps10
  go_wp2_with (at_builtin; refine stop_app (.tmp 34) (.tmp 39) 36 3 rfl ?_)
  refine Lib.hid ?_
  refine Lib.wpList_append_run _ rfl (.tmp 34) (.tmp 39) 36 3 rfl _ _ rfl rfl _ _ (HAP.out _ _ ?hx) ?_
  case hx => omega
  (try simp only [Act.put, List.setIfInBounds_toArray, List.set_cons_zero, List.set_cons_succ])
  go_wp2_with fail
  refine Ks.wp_region_mono (fun b => b = g2) (sg 0 8 ++ ((8, true) :: [])) (by kernel_rfl) (by kernel_rfl) ?_
  refine Ks.Wk.seg 0 8 (by kernel_rfl) (by kernel_rfl) ?_
  apply Exists.intro
  refine ⟨?wk1, ?fin1⟩
  case wk1 =>
    intro γ
    simp only [List.drop_succ_cons, List.drop_zero, List.take_succ_cons, List.take_zero]
    repeat (any_goals (first | go_big_quiet_step (fail) | quiet_step (fail)))
    exact wpQuiet_nil rfl
  case fin1 =>
  (try simp only [Act.put, List.setIfInBounds_toArray, List.set_cons_zero, List.set_cons_succ])
  refine Ks.Wk.one rfl (fun W3 hx1 => ?_)
  have hb3 : W3.heap[g2]? = some (.cells C2 43 (0, 0)) := (hx1.block g2 (lt_of_block HB2.out) (fun h => h)).trans HB2.out
  have hg3 : W3.heap[g]? = some (.cells cur 43 (0, 0)) := (hx1.block g (lt_of_block HG2.out) (fun h => h)).trans HG2.out
  refine wpList_copy_run W3 rfl (.tmp 50) (.tmp 53) 36 36 rfl _ _ rfl rfl (H2.out W3 _ _ _ hb3 hg3) ?_
  have hr1 := setRow_heap W3 g2 C2 C3 43 (0, 0) hb3
  refine ⟨rfl, (Fr.refl (fun b => b = g2) W3).sr rfl C3, ?_⟩
  (try simp only [Act.put, List.setIfInBounds_toArray, List.set_cons_zero, List.set_cons_succ])
  intro W4 hx2
  have hb4 := Lib.hid ((hx2.block g2 (lt_of_block hr1) (fun h => h)).trans hr1)
  have F4 := Lib.hid (HF2.out.trans ((hx1.mono (T := fun b => b = g2) (fun _ _ h => h.elim)).trans (((Fr.refl (fun b => b = g2) W3).sr rfl C3).trans (hx2.mono (T := fun b => b = g2) (fun _ _ h => h.elim)) (fun _ h => .inl h)) (fun _ h => .inl h)) (fun _ h => .inl h))
  clear hb3 hg3 hr1 hx1 hx2
  go_wp2_with fail
  go_ret
  have hlt := Nat.le_of_eq HE.out.symm
  refine ⟨_, rfl, ?_, .inr ⟨g2, rfl, hlt⟩, F4.out.mono (fun k hk h => absurd hk (by omega))⟩
  have hlen := ins_len L i x (Nat.le_of_lt HI.out)
  show World.ownsRow _ _ _ _ _ _ _
  rw [hlen]
  exact ⟨by rw [mc_len, hlen], .inr ⟨g2, G, C3, rfl, Nat.le_trans HB.out hlt, hb4.out, hGe, HM.out, by rw [← Array.length_toList]; exact HC.out, HT.out⟩⟩
theorem ins_any (gv i : Nat) (x : Mb) (v : Value) (L : List Mb) (base : Nat) (w : World) (own : MR w base v L) (hi : i ≤ L.length) (hl : L.length ≤ 1000) (hb : base ≤ w.heap.size) (hv : VB w gv x) (hne : v.ownBlock ≠ some gv) : Calls Try.prog 10 #[v, .int .i64 (i : Int), .slice (some ⟨gv, 0, none⟩) 1 1] w (InsPost base v L i x w) := by
  rcases own.2 with ⟨rfl, h0⟩ | ⟨g, c, cur, rfl, hbg, hg, hnc, hcm, hcs, ht⟩
  · obtain rfl : L = [] := List.eq_nil_of_length_eq_zero h0
    obtain rfl : i = 0 := by simpa using hi
    exact ins_none gv x base w hv hb
  · by_cases hin : i = L.length
    · subst hin
      exact ins_end gv g c x L base w own hl hv hb
    by_cases hr : L.length + 1 ≤ c
    · exact ins_room gv g c i x L base w cur (by omega) hl hr hcm hbg hg hcs ht hv (fun e => hne (by rw [e]; rfl))
    · exact ins_grow gv g c i x L base w cur (by omega) hl (by omega) hb hg ht hv
end Go.Proofs.Ytcpapielklplcaa

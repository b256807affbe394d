/-
  Crash: the loop over what waits.
-/
import Derived.Test.YtgladedjgjhlaaaTq
namespace Go.Proofs.Ytgladedjgjhlaaa
open Go.RowKit
set_option linter.unusedVariables false
set_option linter.unusedSimpArgs false
/-- What is kept. -/
def keepOf {α : Type} : List α → List Bool → List α
  | p :: ws, b :: ks => if b then p :: keepOf ws ks else keepOf ws ks
  | _, _ => []
theorem keepOf_nil {α : Type} (ks : List Bool) : keepOf ([] : List α) ks = [] := by cases ks <;> rfl
theorem keepOf_yes {α : Type} : ∀ (ws : List α) (ks : List Bool) (k : Nat) (p : α), ws[k]? = some p → ks[k]? = some true → keepOf (ws.take (k + 1)) ks = keepOf (ws.take k) ks ++ [p]
  | [], ks, k, p, h, _ => by simp at h
  | q :: ws, [], k, p, _, h => by simp at h
  | q :: ws, b :: ks, 0, p, h, h2 => by
    obtain rfl : q = p := by simpa using h
    obtain rfl : b = true := by simpa using h2
    simp [keepOf, keepOf_nil]
  | q :: ws, b :: ks, k + 1, p, h, h2 => by
    have ih := keepOf_yes ws ks k p (by simpa using h) (by simpa using h2)
    simp only [List.take_succ_cons, keepOf]
    cases b <;> simp [ih]
theorem keepOf_no {α : Type} : ∀ (ws : List α) (ks : List Bool) (k : Nat), ¬ (ks[k]? = some true) → keepOf (ws.take (k + 1)) ks = keepOf (ws.take k) ks
  | [], ks, k, _ => by simp
  | q :: ws, [], k, _ => by cases k <;> simp [keepOf]
  | q :: ws, b :: ks, 0, h2 => by
    have : b = false := by simpa using h2
    subst this
    simp [keepOf, keepOf_nil]
  | q :: ws, b :: ks, k + 1, h2 => by
    have ih := keepOf_no ws ks k (by simpa using h2)
    simp only [List.take_succ_cons, keepOf]
    cases b <;> simp [ih]
theorem lay_app (L : Nat → Nat → UInt8) (l : List (Nat × (Nat → UInt8))) (p : Nat × (Nat → UInt8)) : lay L (l ++ [p]) = bset (lay L l) p.1 p.2 := by simp [lay]
/-- A list of bools, in blocks that are not touched. -/
def KB (w : World) (kv : Value) (ks : List Bool) (S : Nat → Prop) : Prop := ∃ a cap, kv = .slice a ks.length cap ∧ ∀ j b, ks[j]? = some b → ∃ g o, a = some ⟨g, o, none⟩ ∧ ¬ S g ∧ g < w.heap.size ∧ w.cell? ⟨g, o + j, none⟩ = some (.bool b)
theorem cell_fr {S : Nat → Prop} {w w' : World} (hF : Fr S w w') {g o : Nat} (hg : g < w.heap.size) (hS : ¬ S g) : w'.cell? ⟨g, o, none⟩ = w.cell? ⟨g, o, none⟩ := by
  unfold World.cell?
  rw [hF.block g hg hS]
theorem KB.fr {w w' : World} {kv : Value} {ks : List Bool} {S S' : Nat → Prop} (h : KB w kv ks S) (hF : Fr S' w w') (hS : ∀ k, S' k → S k) : KB w' kv ks S := by
  obtain ⟨a, cap, e, hc⟩ := h
  refine ⟨a, cap, e, fun j b hj => ?_⟩
  obtain ⟨g, o, e1, e2, e3, e4⟩ := hc j b hj
  exact ⟨g, o, e1, e2, Nat.lt_of_lt_of_le e3 hF.size, by rw [cell_fr hF e3 (fun hh => e2 (hS g hh))]; exact e4⟩
set_option maxRecDepth 100000 in
theorem lit56 (f : Nat → Value) : ((List.range 56).map f).toArray = (f 0 :: f 1 :: f 2 :: f 3 :: f 4 :: f 5 :: f 6 :: f 7 :: f 8 :: f 9 :: f 10 :: f 11 :: f 12 :: f 13 :: f 14 :: f 15 :: f 16 :: f 17 :: f 18 :: f 19 :: f 20 :: f 21 :: f 22 :: f 23 :: f 24 :: f 25 :: f 26 :: f 27 :: f 28 :: f 29 :: f 30 :: f 31 :: f 32 :: f 33 :: f 34 :: f 35 :: f 36 :: f 37 :: f 38 :: f 39 :: f 40 :: f 41 :: f 42 :: f 43 :: f 44 :: f 45 :: f 46 :: f 47 :: f 48 :: f 49 :: f 50 :: f 51 :: f 52 :: f 53 :: f 54 :: f 55 :: []).toArray := by kernel_rfl
set_option maxRecDepth 100000 in
set_option maxHeartbeats 6400000 in
theorem crash_loop {Q : Exit → Act → World → Prop} {w : World} {d bn bl n : Nat} {N L : Nat → Nat → UInt8} {ws : List (Nat × (Nat → UInt8))} {wv : Value} {wr ar : Int} {dn : Bool} {base : Nat} (h : DA w d bn bl n N L ws wv wr ar dn base) (hm : ws.length < 1000000000000) {kv : Value} {ks : List Bool} (hkb : KB w kv ks (fun k => k = d ∨ k = bn ∨ k = bl)) (t : Array Value) (hn : t.size = 56)
    (p0 : t[0]? = some (.pointer (some ⟨d, 0, none⟩))) (p1 : t[1]? = some kv) (p16 : t[11]? = some wv) (p17 : t[12]? = some (.int .i64 (ws.length : Int))) (p18 : t[13]? = some (.int .i64 0))
    (hexit : ∀ t' w', t'.size = 56 → t'[0]? = some (.pointer (some ⟨d, 0, none⟩)) → DA w' d bn bl n N (lay L (keepOf ws ks)) ws wv wr ar dn base → Fr (fun k => k = bl) w w' → Q (.exit 0) ⟨t', []⟩ w') :
    Code.wp Try.prog (.loop (loopAt Try.f16 0)) Q ⟨t, []⟩ w := by
  refine wp_loop_up ws.length (fun k t w' => t.size = 56 ∧ t[0]? = some (.pointer (some ⟨d, 0, none⟩)) ∧ t[1]? = some kv ∧ t[11]? = some wv ∧ t[12]? = some (.int .i64 (ws.length : Int)) ∧ t[13]? = some (.int .i64 (k : Int)) ∧ DA w' d bn bl n N (lay L (keepOf (ws.take k) ks)) ws wv wr ar dn base ∧ Fr (fun k => k = bl) w w') t w ⟨hn, p0, p1, p16, p17, p18, by simpa [keepOf_nil, lay] using h, Fr.refl _ _⟩ ?_
  clear hn p0 p1 p16 p17 p18 t
  rintro k t w1 hk ⟨hn, p0, p1, p16, p17, p18, D, F1⟩ K hK
  obtain ⟨f, hff, rfl⟩ := frame_open hn
  have e0 := hff 0 _ p0
  have e1 := hff 1 _ p1
  have e16 := hff 11 _ p16
  have e17 := hff 12 _ p17
  have e18 := hff 13 _ p18
  clear hff hn p0 p1 p16 p17 p18
  rw [lit56, e0, e1, e16, e17, e18]
  clear e0 e1 e16 e17 e18
  conv => arg 2; whnf
  have HE := Lib.hid hexit
  have HK := Lib.hid hK
  clear hexit hK
  have w4 : wrap64 ((k : Int) + 1) = (k : Int) + 1 := IntWalk.wrap64_in _ (by omega)
  have v4 : IntKind.i64.wrap ((k : Int) + 1) = (k : Int) + 1 := IntWalk.i64_in _ (by omega)
  by_cases hlt : k < ws.length
  · have q3 : (k : Int) < (ws.length : Int) := by omega
    have q4 : (0 : Int) ≤ (k : Int) := by omega
    obtain ⟨p, hp⟩ : ∃ p, ws[k]? = some p := ⟨_, List.getElem?_eq_getElem hlt⟩
    rcases D.own.2 with ⟨e, h0⟩ | ⟨g, cap, cur, e, hb, hg, hcap, hmax, hcs, hcur⟩
    · omega
    have rg := own_range (base := base) (cap := cap) hg hcur k p hp
    have hpn : p.1 < n := D.hw p (List.mem_of_getElem? hp)
    have hn8 := D.hn
    have hkb1 := hkb.fr F1 (fun _ e => Or.inr (Or.inr e))
    have nb : ∀ j, w1.heap.size ≤ j → ¬ (j = bl) := fun j hj e => by have := lt_of_block D.las; omega
    have hyes := fun hh => keepOf_yes ws ks k p hp hh
    have hno := keepOf_no ws ks k
    obtain ⟨i, b⟩ := p
    have sW : Sz 129 (wrow i b) := ⟨wrow_size _ _, wrow_all _ _⟩
    have hh := wrow_head i b
    have hpt := wrow_part i b
    have szr : (Try.prog.info? 108).map (·.size) = some (wrow i b).toList.length := by rw [Array.length_toList, wrow_size]; exact Try.szW
    have i0 : (0 : Int) ≤ (i : Int) := by omega
    have i1 : (i : Int) < (n : Int) := by have : i < n := hpn; omega
    have HY := Lib.hid hyes
    have HN := Lib.hid hno
    have Hc := Lib.hid hcur
    have HD := Lib.hid D
    have HF := Lib.hid F1
    have sZ : Sz 129 Try.zeroCells108 := by rw [Try.zW]; exact ⟨wrow_size _ _, wrow_all _ _⟩
    have K1 := (Kn.start w1).new (w1.heap.size) 129 Try.zeroCells108 108 rfl sZ.1
    have sB : Sz 128 (ub 128 b) := ⟨ub_size _ _, ub_one _ _⟩
    have hset := bk_set n (lay L (keepOf (ws.take k) ks)) i hpn b
    generalize hWW : wrow i b = W at *
    generalize hBB : ub 128 b = B at *
    have Hset := Lib.hid hset
    obtain ⟨ka, kcap, ek, hkc⟩ := hkb1
    clear hp hyes hno hcur D F1 hb hcap hmax hcs h hk hWW hBB hset hkb
    subst e
    subst ek
    by_cases hl : k < ks.length
    · obtain ⟨c, hc⟩ : ∃ c, ks[k]? = some c := ⟨_, List.getElem?_eq_getElem hl⟩
      obtain ⟨gk, ok, eka, nS, hgk, hcell⟩ := hkc k c hc
      subst eka
      have t1 : (k : Int) < (ks.length : Int) := by omega
      have Hck := Lib.hid (show ∀ W : World, Fr (fun _ => False) w1 W → W.cell? ⟨gk, ok + k, none⟩ = some (.bool c) from fun W hF => by rw [cell_fr hF hgk (fun h => h)]; exact hcell)
      have Hc2 := Lib.hid hc
      have Hkc := Lib.hid hkc
      clear hcell hkc nS hc
      cases c with
      | false =>
        go_wp2_with (first | (focus ((with_reducible refine wpList_load_mid ?a0 108 (.tmp 16) ?a1 g (k * 129) ?a2 W.toList _ rg Try.underlying108 ?a4 szr ?a3); (case a0 => rfl); (case a4 => rfl); (case a1 => rfl); (case a2 => rfl); (simp only [Act.put, List.setIfInBounds_toArray, List.set_cons_zero, List.set_cons_succ]; simp only [Array.toArray_toList]))) | (focus (((with_reducible refine' wpList_store_kn K1 rfl 108 (.tmp 5) _ rfl 0 _ _ _ _ _ rfl rfl Try.szW _ _ _); rotate_left 2; (focus exact rfl)); (focus (with_reducible assumption)); intro wz Kz; clear K1; have K1 := Kz; clear Kz; simp only [List.set_cons_zero] at K1; have ck := Hck.out _ K1.fr; try (simp only [Act.put, List.setIfInBounds_toArray, List.set_cons_zero, List.set_cons_succ]))))
        exact HK.out _ _ hlt ⟨rfl, rfl, rfl, rfl, rfl, by simp, by rw [HN.out (by rw [Hc2.out]; simp)]; exact HD.out.fr K1.fr (fun _ _ h => h), HF.out.trans K1.fr (fun _ h => h.elim)⟩
      | true =>
        go_wp2_with (first | (focus ((with_reducible refine wpList_load_mid ?b0 108 (.tmp 16) ?b1 g (k * 129) ?b2 W.toList _ rg Try.underlying108 ?b4 szr ?b3); (case b0 => rfl); (case b4 => rfl); (case b1 => rfl); (case b2 => rfl); (simp only [Act.put, List.setIfInBounds_toArray, List.set_cons_zero, List.set_cons_succ]; simp only [Array.toArray_toList]))) | (focus (((with_reducible refine' wpList_store_kn K1 rfl 108 (.tmp 5) _ rfl 0 _ _ _ _ _ rfl rfl Try.szW _ _ _); rotate_left 2; (focus exact rfl)); (focus (with_reducible assumption)); intro wz Kz; clear K1; have K1 := Kz; clear Kz; simp only [List.set_cons_zero] at K1; have ck := Hck.out _ K1.fr; try (simp only [Act.put, List.setIfInBounds_toArray, List.set_cons_zero, List.set_cons_succ]))))
        have hd2 := (K1.fr.block _ (lt_of_block HD.out.blk) (fun h => h)).trans HD.out.blk
        have hb2 := (K1.fr.block _ (lt_of_block HD.out.las) (fun h => h)).trans HD.out.las
        have hv2 := K1.heap 0 rfl
        have nG : ¬ (w1.heap.size = bl) := nb _ (Nat.le_refl _)
        have nd : ¬ (d = bl) := HD.out.d2
        refine Ks.wp_region_mono (fun k => k = bl) (sg 0 9 ++ ((9, true) :: [])) (by kernel_rfl) (by kernel_rfl) ?_
        refine Ks.Wk.seg 0 9 (by kernel_rfl) (by kernel_rfl) ?_
        apply Exists.intro
        refine ⟨?wk0, ?fin0⟩
        case wk0 =>
          intro γ
          have c1 : ∀ y : Ks.Ws γ, y.w.cell? ⟨d, 1, none⟩ = some (.slice (some ⟨bl, 0, none⟩) n n) := fun y => by rw [cell_of_block (y.blk hd2 nd)]; rfl
          have cg : ∀ y : Ks.Ws γ, y.w.cell? ⟨w1.heap.size, 0, none⟩ = some (.int .i64 (i : Int)) := fun y => by rw [cell_of_block (y.blk hv2 nG)]; exact hh
          simp only [List.drop_succ_cons, List.drop_zero, List.take_succ_cons, List.take_zero]
          repeat (any_goals (first | (focus (go_big_quiet_want; (refine' Ks.quiet_load_pts 30 (.tmp 34) rfl w1.heap.size 1 128 W B 108 (0, 0) rfl hv2 nG _ Try.underlying30 rfl Try.szBk hpt sB.1 _); simp only [Act.put, List.setIfInBounds_toArray, List.set_cons_zero, List.set_cons_succ]; go_big_quiet_on)) | go_big_quiet_step (fail) | quiet_step (fail)))
          exact wpQuiet_nil rfl
        case fin0 =>
        (try simp only [Act.put, List.setIfInBounds_toArray, List.set_cons_zero, List.set_cons_succ])
        refine Ks.Wk.one rfl (fun w3 X3 => ?_)
        have b3 := (X3.block _ (lt_of_block hb2) (fun h => h)).trans hb2
        refine wpList_store_part rfl 30 (.tmp 36) (.tmp 35) rfl bl (i * 128) B rfl rfl (by rw [sB.1]; exact Try.szBk) sB.2 30 _ b3 (by rw [sB.1, bk_size]; omega) (fun w5 B5 F5 => ⟨rfl, F5, ?_⟩)
        rw [sB.1, Nat.mul_comm, Hset.out] at B5
        simp only [Act.put, List.setIfInBounds_toArray, List.set_cons_zero, List.set_cons_succ]
        intro w6 X6
        have B6 := (X6.block _ (lt_of_block B5) (fun h => h)).trans B5
        have F6 : Fr (fun k => k = bl) w1 w6 := (((K1.fr.trans X3 (fun _ h => h.elim)).mono (fun _ _ h => h.elim)).trans F5 (fun _ h => .inl h)).trans X6 (fun _ h => h.elim)
        clear K1 hd2 hb2 hv2 X3 b3 B5 F5 X6
        go_wp2_with fail
        exact HK.out _ _ hlt ⟨rfl, rfl, rfl, rfl, rfl, by simp, by rw [HY.out Hc2.out, lay_app]; exact da_las HD.out B6 F6, HF.out.trans F6 (fun _ h => .inl h)⟩
    · have t1 : ¬ ((k : Int) < (ks.length : Int)) := by omega
      have t2 : decide ((k : Int) < (ks.length : Int)) = false := by simpa using t1
      have Hkc := Lib.hid hkc
      clear hkc
      go_wp2_with (first | (focus ((with_reducible refine wpList_load_mid ?c0 108 (.tmp 16) ?c1 g (k * 129) ?c2 W.toList _ rg Try.underlying108 ?c4 szr ?c3); (case c0 => rfl); (case c4 => rfl); (case c1 => rfl); (case c2 => rfl); (simp only [Act.put, List.setIfInBounds_toArray, List.set_cons_zero, List.set_cons_succ]; simp only [Array.toArray_toList]))) | (focus (((with_reducible refine' wpList_store_kn K1 rfl 108 (.tmp 5) _ rfl 0 _ _ _ _ _ rfl rfl Try.szW _ _ _); rotate_left 2; (focus exact rfl)); (focus (with_reducible assumption)); intro wz Kz; clear K1; have K1 := Kz; clear Kz; simp only [List.set_cons_zero] at K1; try (simp only [Act.put, List.setIfInBounds_toArray, List.set_cons_zero, List.set_cons_succ]))))
      exact HK.out _ _ hlt ⟨rfl, rfl, rfl, rfl, rfl, by simp, by rw [HN.out (by rw [List.getElem?_eq_none (by omega)]; simp)]; exact HD.out.fr K1.fr (fun _ _ h => h), HF.out.trans K1.fr (fun _ h => h.elim)⟩
  · obtain rfl : k = ws.length := by omega
    rw [List.take_length] at D
    have HD := Lib.hid D
    have HF := Lib.hid F1
    have HQ := Lib.hid hkb
    clear D F1 h hkb
    go_wp2_with fail
    exact HE.out _ _ rfl rfl HD.out HF.out
end Go.Proofs.Ytgladedjgjhlaaa

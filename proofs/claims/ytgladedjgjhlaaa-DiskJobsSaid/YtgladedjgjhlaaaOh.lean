/-
  DocCrash.
-/
import Derived.Test.YtgladedjgjhlaaaOe
namespace Go.Proofs.Ytgladedjgjhlaaa
open Go.RowKit
set_option linter.unusedVariables false
set_option linter.unusedSimpArgs false
set_option maxRecDepth 100000 in
set_option maxHeartbeats 6400000 in
theorem rcrash_loop {Q : Exit → Act → World → Prop} {w : World} {d bl n : Nat} {L : Nat → Nat → UInt8} {ws : List (Nat × (Nat → UInt8))} {wv : Value} {wr ar : Int} {dn : Bool} {base : Nat} (h : DB w d bl n L ws wv wr ar dn base) (hm : ws.length < 1000000000000) {kv : Value} {ks : List Bool} (hkb : KB w kv ks (fun k => k = d ∨ k = bl)) (t : Array Value) (hn : t.size = 54)
    (p0 : t[0]? = some (.pointer (some ⟨d, 0, none⟩))) (p1 : t[1]? = some kv) (p4 : t[4]? = some (.int .i64 0))
    (hexit : ∀ t' w', t'.size = 54 → t'[0]? = some (.pointer (some ⟨d, 0, none⟩)) → DB w' d bl n (lay L (keepOf ws ks)) ws wv wr ar dn base → Fr (fun k => k = bl) w w' → Q (.exit 0) ⟨t', []⟩ w') :
    Code.wp Try.prog (.loop (loopAt Try.f29 0)) Q ⟨t, []⟩ w := by
  obtain ⟨a, cap, rfl⟩ := own_slice h.own
  refine wp_loop_up ws.length (fun k t w' => t.size = 54 ∧ t[0]? = some (.pointer (some ⟨d, 0, none⟩)) ∧ t[1]? = some kv ∧ t[4]? = some (.int .i64 (k : Int)) ∧ DB w' d bl n (lay L (keepOf (ws.take k) ks)) ws (.slice a ws.length cap) wr ar dn base ∧ Fr (fun k => k = bl) w w') t w ⟨hn, p0, p1, p4, by simpa [keepOf_nil, lay] using h, Fr.refl _ _⟩ ?_
  clear hn p0 p1 p4 t h
  rintro k t w1 hk ⟨hn, p0, p1, p4, D, F1⟩ K hK
  obtain ⟨f, hff, rfl⟩ := frame_open hn
  have e0 := hff 0 _ p0
  have e1 := hff 1 _ p1
  have e4 := hff 4 _ p4
  clear hff hn p0 p1 p4
  rw [lit54, e0, e1, e4]
  clear e0 e1 e4
  conv => arg 2; whnf
  have HE := Lib.hid hexit
  have HK := Lib.hid hK
  have HD := Lib.hid D
  have HF := Lib.hid F1
  have hkb1 := hkb.fr F1 (fun _ e => Or.inr e)
  clear hexit hK F1 hkb
  have c1 : w1.cell? ⟨d, 1, none⟩ = some (.slice a ws.length cap) := D.c 1 rfl
  have w4 : wrap64 ((k : Int) + 1) = (k : Int) + 1 := IntWalk.wrap64_in _ (by omega)
  have v4 : IntKind.i64.wrap ((k : Int) + 1) = (k : Int) + 1 := IntWalk.i64_in _ (by omega)
  by_cases hlt : k < ws.length
  · have q3 : (k : Int) < (ws.length : Int) := by omega
    have q4 : (0 : Int) ≤ (k : Int) := by omega
    obtain ⟨p, hp⟩ : ∃ p, ws[k]? = some p := ⟨_, List.getElem?_eq_getElem hlt⟩
    rcases D.own.2 with ⟨e, h0⟩ | ⟨g, cap2, cur, e, hb, hg, hcap, hmax, hcs, hcur⟩
    · omega
    have e2 : a = some ⟨g, 0, none⟩ := by injection e
    subst e2
    have hpn : p.1 < n := D.hw p (List.mem_of_getElem? hp)
    have hn8 := D.hn
    have HY := Lib.hid (fun hh => keepOf_yes ws ks k p hp hh)
    have HN := Lib.hid (keepOf_no ws ks k)
    obtain ⟨i, b⟩ := p
    have hh : cur[k * 129]? = some (.int .i64 (i : Int)) := by
      have := own_cell hcur k (i, b) hp 0 (.int .i64 (i : Int)) rfl
      simpa using this
    have hpt : Part cur (k * 129 + 1) (ub 128 b) := fun j u hj => by
      have := own_cell hcur k (i, b) hp (1 + j) u (by have := wrow_part i b j u hj; simpa using this)
      rw [Nat.add_assoc]; exact this
    have i0 : (0 : Int) ≤ (i : Int) := by omega
    have i1 : (i : Int) < (n : Int) := by have : i < n := hpn; omega
    have sB : Sz 128 (ub 128 b) := ⟨ub_size _ _, ub_one _ _⟩
    have hset := bk_set n (lay L (keepOf (ws.take k) ks)) i hpn b
    generalize hBB : ub 128 b = B at *
    have Hset := Lib.hid hset
    have Hc := Lib.hid hcur
    obtain ⟨ka, kcap, ek, hkc⟩ := hkb1
    clear hp hcur D hb hcap hmax hcs hk hBB hset e
    subst ek
    by_cases hl : k < ks.length
    · obtain ⟨c, hc⟩ : ∃ c, ks[k]? = some c := ⟨_, List.getElem?_eq_getElem hl⟩
      obtain ⟨gk, ok, eka, nS, hgk, ck⟩ := hkc k c hc
      subst eka
      have t1 : (k : Int) < (ks.length : Int) := by omega
      have Hc2 := Lib.hid hc
      have Hkc := Lib.hid hkc
      clear hkc nS hc
      cases c with
      | false =>
        go_wp2_with fail
        exact HK.out _ _ hlt ⟨rfl, rfl, rfl, by simp, by rw [HN.out (by rw [Hc2.out]; simp)]; exact HD.out, HF.out⟩
      | true =>
        go_wp2_with fail
        clear c1
        have hd2 := HD.out.blk
        have hb2 := HD.out.las
        have nd : ¬ (d = bl) := HD.out.d2
        have ng : ¬ (g = bl) := fun e => HD.out.o3 (by rw [e]; rfl)
        refine Ks.wp_region_mono (fun k => k = bl) (sg 0 21 ++ ((21, true) :: [])) (by kernel_rfl) (by kernel_rfl) ?_
        refine Ks.Wk.seg 0 21 (by kernel_rfl) (by kernel_rfl) ?_
        apply Exists.intro
        refine ⟨?wk0, ?fin0⟩
        case wk0 =>
          intro γ
          have x0 : ∀ y : Ks.Ws γ, y.w.cell? ⟨d, 0, none⟩ = some (.slice (some ⟨bl, 0, none⟩) n n) := fun y => by rw [cell_of_block (y.blk hd2 nd)]; rfl
          have x1 : ∀ y : Ks.Ws γ, y.w.cell? ⟨d, 1, none⟩ = some (.slice (some ⟨g, 0, none⟩) ws.length cap) := fun y => by rw [cell_of_block (y.blk hd2 nd)]; rfl
          have xg : ∀ y : Ks.Ws γ, y.w.cell? ⟨g, k * 129, none⟩ = some (.int .i64 (i : Int)) := fun y => by rw [cell_of_block (y.blk hg ng)]; exact hh
          simp only [List.drop_succ_cons, List.drop_zero, List.take_succ_cons, List.take_zero]
          repeat (any_goals (first | (focus (go_big_quiet_want; (refine' Ks.quiet_load_pts 29 (.tmp 42) rfl g (k * 129 + 1) 128 cur B 110 (0, 0) rfl hg ng _ Try.underlying29 rfl Try.szRb hpt sB.1 _); simp only [Act.put, List.setIfInBounds_toArray, List.set_cons_zero, List.set_cons_succ]; go_big_quiet_on)) | go_big_quiet_step (fail) | quiet_step (fail)))
          exact wpQuiet_nil rfl
        case fin0 =>
        (try simp only [Act.put, List.setIfInBounds_toArray, List.set_cons_zero, List.set_cons_succ])
        refine Ks.Wk.one rfl (fun w3 X3 => ?_)
        have b3 := (X3.block _ (lt_of_block hb2) (fun h => h)).trans hb2
        refine wpList_store_part rfl 29 (.tmp 44) (.tmp 43) rfl bl (i * 128) B rfl rfl (by rw [sB.1]; exact Try.szRb) sB.2 29 _ b3 (by rw [sB.1, bk_size]; omega) (fun w5 B5 F5 => ⟨rfl, F5, ?_⟩)
        rw [sB.1, Nat.mul_comm, Hset.out] at B5
        simp only [Act.put, List.setIfInBounds_toArray, List.set_cons_zero, List.set_cons_succ]
        intro w6 X6
        have B6 := (X6.block _ (lt_of_block B5) (fun h => h)).trans B5
        have F6 : Fr (fun k => k = bl) w1 w6 := ((X3.mono (fun _ _ h => h.elim)).trans F5 (fun _ h => .inl h)).trans X6 (fun _ h => h.elim)
        clear hd2 hb2 X3 b3 B5 F5 X6
        go_wp2_with fail
        exact HK.out _ _ hlt ⟨rfl, rfl, rfl, by simp, by rw [HY.out Hc2.out, lay_app]; exact db_las HD.out B6 F6, HF.out.trans F6 (fun _ h => .inl h)⟩
    · have t1 : ¬ ((k : Int) < (ks.length : Int)) := by omega
      have t2 : decide ((k : Int) < (ks.length : Int)) = false := by simpa using t1
      have Hkc := Lib.hid hkc
      clear hkc
      go_wp2_with fail
      exact HK.out _ _ hlt ⟨rfl, rfl, rfl, by simp, by rw [HN.out (by rw [List.getElem?_eq_none (by omega)]; simp)]; exact HD.out, HF.out⟩
  · obtain rfl : k = ws.length := by omega
    rw [List.take_length] at D
    have HD2 := Lib.hid D
    have HQ := Lib.hid hkb1
    clear D hkb1
    go_wp2_with fail
    exact HE.out _ _ rfl rfl HD2.out HF.out
set_option maxRecDepth 100000 in
set_option maxHeartbeats 6400000 in
theorem rcrash_any {w : World} {d bl n : Nat} {L : Nat → Nat → UInt8} {ws : List (Nat × (Nat → UInt8))} {wv : Value} {wr ar : Int} {dn : Bool} {base : Nat} (h : DB w d bl n L ws wv wr ar dn base) (hm : ws.length < 1000000000000) {kv : Value} {ks : List Bool} (hkb : KB w kv ks (fun k => k = d ∨ k = bl)) :
    Calls Try.prog 29 #[(.pointer (some ⟨d, 0, none⟩)), kv] w fun e w' => e = .returned (.tuple #[]) ∧ DB w' d bl n (lay L (keepOf ws ks)) [] (.slice none 0 0) wr 0 false base ∧ Fr (fun k => k = d ∨ k = bl) w w' := by
  have HH := Lib.hid h
  have HM := Lib.hid hm
  have HB := Lib.hid hkb
  clear h hm hkb
  go_enter Try.func29, Try.ntmps29
  go_wp2_with fail
  refine rcrash_loop HH.out HM.out HB.out _ rfl rfl rfl rfl ?_
  intro t w2 hn p0 D F
  obtain ⟨f, hff, rfl⟩ := frame_open hn
  have e0 := hff 0 _ p0
  clear hff hn p0
  rw [lit54, e0]
  clear e0
  have hd2 := D.blk
  have HD := Lib.hid D
  clear D
  have szs : (Try.prog.info? 49).map (·.size) = some 1 := by kernel_rfl
  have szi : (Try.prog.info? 3).map (·.size) = some 1 := by kernel_rfl
  have szb : (Try.prog.info? 4).map (·.size) = some 1 := by kernel_rfl
  go_wp2_with (first | (focus ((with_reducible refine wpList_store_one ?p0 49 (.tmp 49) (.const (.slice none 0 0)) ?p1 d 1 ?p2 (.slice none 0 0) ?p3 ?p4 ?p5 szs 51 _ hd2 ?p6 ?p7); (case p0 => rfl); (case p1 => rfl); (case p2 => rfl); (case p3 => rfl); (case p4 => rfl); (case p5 => rfl); (case p6 => simp [rcells]); intro w11 hw11 Fw11; (simp only [Act.put, List.setIfInBounds_toArray, List.set_cons_zero, List.set_cons_succ]); have De1 : w11.heap[d]? = some (.cells (rcells bl n (.slice none 0 0) wr ar dn) 51 (0, 0)) := hw11; clear hw11 hd2)) | (focus ((with_reducible refine wpList_store_one ?q0 4 (.tmp 51) (.const (.bool false)) ?q1 d 4 ?q2 (.bool false) ?q3 ?q4 ?q5 szb 51 _ De1 ?q6 ?q7); (case q0 => rfl); (case q1 => rfl); (case q2 => rfl); (case q3 => rfl); (case q4 => rfl); (case q5 => rfl); (case q6 => simp [rcells]); intro w12 hw12 Fw12; (simp only [Act.put, List.setIfInBounds_toArray, List.set_cons_zero, List.set_cons_succ]); have De2 : w12.heap[d]? = some (.cells (rcells bl n (.slice none 0 0) wr ar false) 51 (0, 0)) := hw12; clear hw12 De1)) | (focus ((with_reducible refine wpList_store_one ?r0 3 (.tmp 53) (.const (.int .i64 0)) ?r1 d 3 ?r2 (.int .i64 0) ?r3 ?r4 ?r5 szi 51 _ De2 ?r6 ?r7); (case r0 => rfl); (case r1 => rfl); (case r2 => rfl); (case r3 => rfl); (case r4 => rfl); (case r5 => rfl); (case r6 => simp [rcells]); intro w13 hw13 Fw13; (simp only [Act.put, List.setIfInBounds_toArray, List.set_cons_zero, List.set_cons_succ]); have De3 : w13.heap[d]? = some (.cells (rcells bl n (.slice none 0 0) wr 0 false) 51 (0, 0)) := hw13; clear hw13 De2)))
  have Fd := (Fw11.trans Fw12 (fun _ e => .inl e)).trans Fw13 (fun _ e => .inl e)
  refine bodyPost_end (results_none rfl _ _ _) rfl ?_
  exact ⟨rfl, db_end HD.out De3 Fd, (F.mono (fun _ _ e => .inr e)).trans Fd (fun _ e => .inl (.inl e))⟩
end Go.Proofs.Ytgladedjgjhlaaa

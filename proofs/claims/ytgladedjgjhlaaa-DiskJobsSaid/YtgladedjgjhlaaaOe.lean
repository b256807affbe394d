/-
  DocSync, DocCrash.
-/
import Derived.Test.YtgladedjgjhlaaaOd
namespace Go.Proofs.Ytgladedjgjhlaaa
open Go.RowKit
set_option linter.unusedVariables false
set_option linter.unusedSimpArgs false
theorem own_cell {ws : List (Nat × (Nat → UInt8))} {cur : Array Value} (hx : cur.toList.take (ws.length * 129) = wcells ws) (k : Nat) (p : Nat × (Nat → UInt8)) (hk : ws[k]? = some p) (j : Nat) (u : Value) (hj : (wrow p.1 p.2).toList[j]? = some u) : cur[k * 129 + j]? = some u := by
  have hl : j < (wrow p.1 p.2).toList.length := (List.getElem?_eq_some_iff.1 hj).1
  have hkl : k < ws.length := (List.getElem?_eq_some_iff.1 hk).1
  rw [Array.length_toList, wrow_size] at hl
  have h := wcells_at ws k p hk j u hj
  rw [← Array.getElem?_toList, ← h, ← hx, List.getElem?_take_of_lt (by omega)]
theorem db_las {w w' : World} {d bl n : Nat} {L : Nat → Nat → UInt8} {ws : List (Nat × (Nat → UInt8))} {wv : Value} {wr ar : Int} {dn : Bool} {L' : Nat → Nat → UInt8} {base : Nat} (h : DB w d bl n L ws wv wr ar dn base) (hb : w'.heap[bl]? = some (.cells (bk n L') 29 (0, 0))) (hF : Fr (fun k => k = bl) w w') : DB w' d bl n L' ws wv wr ar dn base :=
  ⟨(hF.block d (lt_of_block h.blk) h.d2).trans h.blk, hb, own_fr h.own hF (fun k hk e => h.o3 (by rw [hk, e])), h.d2, h.o1, h.o3, h.b1, h.b3, h.hn, h.hw⟩
theorem db_end {w w' : World} {d bl n : Nat} {L : Nat → Nat → UInt8} {ws : List (Nat × (Nat → UInt8))} {wv : Value} {wr ar : Int} {dn : Bool} {ar' : Int} {dn' : Bool} {base : Nat} (h : DB w d bl n L ws wv wr ar dn base) (h1 : w'.heap[d]? = some (.cells (rcells bl n (.slice none 0 0) wr ar' dn') 51 (0, 0))) (hF : Fr (fun k => k = d) w w') : DB w' d bl n L [] (.slice none 0 0) wr ar' dn' base :=
  ⟨h1, (hF.block bl (lt_of_block h.las) (fun e => h.d2 e.symm)).trans h.las, World.ownsRow_nil _ _ _ _, h.d2, by simp [Value.ownBlock], by simp [Value.ownBlock], h.b1, h.b3, h.hn, fun p hp => by simp at hp⟩
set_option maxRecDepth 100000 in
theorem lit41 (f : Nat → Value) : ((List.range 41).map f).toArray = (f 0 :: f 1 :: f 2 :: f 3 :: f 4 :: f 5 :: f 6 :: f 7 :: f 8 :: f 9 :: f 10 :: f 11 :: f 12 :: f 13 :: f 14 :: f 15 :: f 16 :: f 17 :: f 18 :: f 19 :: f 20 :: f 21 :: f 22 :: f 23 :: f 24 :: f 25 :: f 26 :: f 27 :: f 28 :: f 29 :: f 30 :: f 31 :: f 32 :: f 33 :: f 34 :: f 35 :: f 36 :: f 37 :: f 38 :: f 39 :: f 40 :: []).toArray := by kernel_rfl
set_option maxRecDepth 100000 in
theorem lit54 (f : Nat → Value) : ((List.range 54).map f).toArray = (f 0 :: f 1 :: f 2 :: f 3 :: f 4 :: f 5 :: f 6 :: f 7 :: f 8 :: f 9 :: f 10 :: f 11 :: f 12 :: f 13 :: f 14 :: f 15 :: f 16 :: f 17 :: f 18 :: f 19 :: f 20 :: f 21 :: f 22 :: f 23 :: f 24 :: f 25 :: f 26 :: f 27 :: f 28 :: f 29 :: f 30 :: f 31 :: f 32 :: f 33 :: f 34 :: f 35 :: f 36 :: f 37 :: f 38 :: f 39 :: f 40 :: f 41 :: f 42 :: f 43 :: f 44 :: f 45 :: f 46 :: f 47 :: f 48 :: f 49 :: f 50 :: f 51 :: f 52 :: f 53 :: []).toArray := by kernel_rfl
set_option maxRecDepth 100000 in
set_option maxHeartbeats 6400000 in
theorem rsync_loop {Q : Exit → Act → World → Prop} {w : World} {d bl n : Nat} {L : Nat → Nat → UInt8} {ws : List (Nat × (Nat → UInt8))} {wv : Value} {wr ar : Int} {dn : Bool} {base : Nat} (h : DB w d bl n L ws wv wr ar dn base) (hm : ws.length < 1000000000000) (t : Array Value) (hn : t.size = 41)
    (p0 : t[0]? = some (.pointer (some ⟨d, 0, none⟩))) (p2 : t[2]? = some (.int .i64 0)) (p3 : t[3]? = some (.int .i64 0))
    (hexit : ∀ t' w', t'.size = 41 → t'[0]? = some (.pointer (some ⟨d, 0, none⟩)) → t'[2]? = some (.int .i64 0) → DB w' d bl n (lay L ws) ws wv wr ar dn base → Fr (fun k => k = bl) w w' → Q (.exit 0) ⟨t', []⟩ w') :
    Code.wp Try.prog (.loop (loopAt Try.f28 0)) Q ⟨t, []⟩ w := by
  obtain ⟨a, cap, rfl⟩ := own_slice h.own
  refine wp_loop_up ws.length (fun k t w' => t.size = 41 ∧ t[0]? = some (.pointer (some ⟨d, 0, none⟩)) ∧ t[2]? = some (.int .i64 0) ∧ t[3]? = some (.int .i64 (k : Int)) ∧ DB w' d bl n (lay L (ws.take k)) ws (.slice a ws.length cap) wr ar dn base ∧ Fr (fun k => k = bl) w w') t w ⟨hn, p0, p2, p3, h, Fr.refl _ _⟩ ?_
  clear hn p0 p2 p3 t h
  rintro k t w1 hk ⟨hn, p0, p2, p3, D, F1⟩ K hK
  obtain ⟨f, hff, rfl⟩ := frame_open hn
  have e0 := hff 0 _ p0
  have e2 := hff 2 _ p2
  have e3 := hff 3 _ p3
  clear hff hn p0 p2 p3
  rw [lit41, e0, e2, e3]
  clear e0 e2 e3
  conv => arg 2; whnf
  have HE := Lib.hid hexit
  have HK := Lib.hid hK
  have HD := Lib.hid D
  have HF := Lib.hid F1
  clear hexit hK F1
  have c1 : w1.cell? ⟨d, 1, none⟩ = some (.slice a ws.length cap) := D.c 1 rfl
  have w4 : wrap64 ((k : Int) + 1) = (k : Int) + 1 := IntWalk.wrap64_in _ (by omega)
  have v4 : IntKind.i64.wrap ((k : Int) + 1) = (k : Int) + 1 := IntWalk.i64_in _ (by omega)
  by_cases hlt : k < ws.length
  · have q3 : (k : Int) < (ws.length : Int) := by omega
    have q4 : (0 : Int) ≤ (k : Int) := by omega
    obtain ⟨p, hp⟩ : ∃ p, ws[k]? = some p := ⟨_, List.getElem?_eq_getElem hlt⟩
    rcases D.own.2 with ⟨e, h0⟩ | ⟨g, cap2, cur, e, hb, hg, hcap, hmax, hcs, hcur⟩
    · omega
    have e2 : a = some ⟨g, 0, none⟩ := by injection e
    subst e2
    have hpn : p.1 < n := D.hw p (List.mem_of_getElem? hp)
    have hn8 := D.hn
    have Hs := Lib.hid (lay_take L ws k p hp)
    obtain ⟨i, b⟩ := p
    have hh : cur[k * 129]? = some (.int .i64 (i : Int)) := by
      have := own_cell hcur k (i, b) hp 0 (.int .i64 (i : Int)) rfl
      simpa using this
    have hpt : Part cur (k * 129 + 1) (ub 128 b) := fun j u hj => by
      have := own_cell hcur k (i, b) hp (1 + j) u (by have := wrow_part i b j u hj; simpa using this)
      rw [Nat.add_assoc]; exact this
    have i0 : (0 : Int) ≤ (i : Int) := by omega
    have i1 : (i : Int) < (n : Int) := by have : i < n := hpn; omega
    have sB : Sz 128 (ub 128 b) := ⟨ub_size _ _, ub_one _ _⟩
    have hset := bk_set n (lay L (ws.take k)) i hpn b
    generalize hBB : ub 128 b = B at *
    have Hset := Lib.hid hset
    have Hc := Lib.hid hcur
    clear hp hcur D hb hcap hmax hcs hk hBB hset e
    go_wp2_with fail
    clear c1
    have hd2 := HD.out.blk
    have hb2 := HD.out.las
    have nd : ¬ (d = bl) := HD.out.d2
    have ng : ¬ (g = bl) := fun e => HD.out.o3 (by rw [e]; rfl)
    refine Ks.wp_region_mono (fun k => k = bl) (sg 0 21 ++ ((21, true) :: [])) (by kernel_rfl) (by kernel_rfl) ?_
    refine Ks.Wk.seg 0 21 (by kernel_rfl) (by kernel_rfl) ?_
    apply Exists.intro
    refine ⟨?wk0, ?fin0⟩
    case wk0 =>
      intro γ
      have x0 : ∀ y : Ks.Ws γ, y.w.cell? ⟨d, 0, none⟩ = some (.slice (some ⟨bl, 0, none⟩) n n) := fun y => by rw [cell_of_block (y.blk hd2 nd)]; rfl
      have x1 : ∀ y : Ks.Ws γ, y.w.cell? ⟨d, 1, none⟩ = some (.slice (some ⟨g, 0, none⟩) ws.length cap) := fun y => by rw [cell_of_block (y.blk hd2 nd)]; rfl
      have xg : ∀ y : Ks.Ws γ, y.w.cell? ⟨g, k * 129, none⟩ = some (.int .i64 (i : Int)) := fun y => by rw [cell_of_block (y.blk hg ng)]; exact hh
      simp only [List.drop_succ_cons, List.drop_zero, List.take_succ_cons, List.take_zero]
      repeat (any_goals (first | (focus (go_big_quiet_want; (refine' Ks.quiet_load_pts 29 (.tmp 35) rfl g (k * 129 + 1) 128 cur B 110 (0, 0) rfl hg ng _ Try.underlying29 rfl Try.szRb hpt sB.1 _); simp only [Act.put, List.setIfInBounds_toArray, List.set_cons_zero, List.set_cons_succ]; go_big_quiet_on)) | go_big_quiet_step (fail) | quiet_step (fail)))
      exact wpQuiet_nil rfl
    case fin0 =>
    (try simp only [Act.put, List.setIfInBounds_toArray, List.set_cons_zero, List.set_cons_succ])
    refine Ks.Wk.one rfl (fun w3 X3 => ?_)
    have b3 := (X3.block _ (lt_of_block hb2) (fun h => h)).trans hb2
    refine wpList_store_part rfl 29 (.tmp 37) (.tmp 36) rfl bl (i * 128) B rfl rfl (by rw [sB.1]; exact Try.szRb) sB.2 29 _ b3 (by rw [sB.1, bk_size]; omega) (fun w5 B5 F5 => ⟨rfl, F5, ?_⟩)
    rw [sB.1, Nat.mul_comm, Hset.out] at B5
    simp only [Act.put, List.setIfInBounds_toArray, List.set_cons_zero, List.set_cons_succ]
    intro w6 X6
    have B6 := (X6.block _ (lt_of_block B5) (fun h => h)).trans B5
    have F6 : Fr (fun k => k = bl) w1 w6 := ((X3.mono (fun _ _ h => h.elim)).trans F5 (fun _ h => .inl h)).trans X6 (fun _ h => h.elim)
    clear hd2 hb2 X3 b3 B5 F5 X6
    go_wp2_with fail
    exact HK.out _ _ hlt ⟨rfl, rfl, rfl, by simp, by rw [Hs.out]; exact db_las HD.out B6 F6, HF.out.trans F6 (fun _ h => .inl h)⟩
  · obtain rfl : k = ws.length := by omega
    rw [List.take_length] at D
    have HD2 := Lib.hid D
    clear D
    go_wp2_with fail
    exact HE.out _ _ rfl rfl rfl HD2.out HF.out
set_option maxRecDepth 100000 in
set_option maxHeartbeats 6400000 in
theorem rsync_any {w : World} {d bl n : Nat} {L : Nat → Nat → UInt8} {ws : List (Nat × (Nat → UInt8))} {wv : Value} {wr ar : Int} {base : Nat} (h : DB w d bl n L ws wv wr ar false base) (hm : ws.length < 1000000000000) :
    Calls Try.prog 28 #[(.pointer (some ⟨d, 0, none⟩))] w fun e w' => e = .returned (.int .i64 0) ∧ DB w' d bl n (lay L ws) [] (.slice none 0 0) wr ar false base ∧ Fr (fun k => k = d ∨ k = bl) w w' := by
  have c4 : w.cell? ⟨d, 4, none⟩ = some (.bool false) := h.c 4 rfl
  have HH := Lib.hid h
  have HM := Lib.hid hm
  clear h hm
  go_enter Try.func28, Try.ntmps28
  go_wp2_with fail
  refine rsync_loop HH.out HM.out _ rfl rfl rfl rfl ?_
  intro t w2 hn p0 p2 D F
  obtain ⟨f, hff, rfl⟩ := frame_open hn
  have e0 := hff 0 _ p0
  have e2 := hff 2 _ p2
  clear hff hn p0 p2
  rw [lit41, e0, e2]
  clear e0 e2
  have hd2 := D.blk
  have HD := Lib.hid D
  clear D c4
  have szs : (Try.prog.info? 49).map (·.size) = some 1 := by kernel_rfl
  go_wp2_with (focus ((with_reducible refine wpList_store_one ?p0 49 (.tmp 40) (.const (.slice none 0 0)) ?p1 d 1 ?p2 (.slice none 0 0) ?p3 ?p4 ?p5 szs 51 _ hd2 ?p6 ?p7); (case p0 => rfl); (case p1 => rfl); (case p2 => rfl); (case p3 => rfl); (case p4 => rfl); (case p5 => rfl); (case p6 => simp [rcells]); intro w3 h3 F3; (simp only [Act.put, List.setIfInBounds_toArray, List.set_cons_zero, List.set_cons_succ])))
  go_ret
  exact ⟨rfl, db_end HD.out h3 F3, (F.mono (fun _ _ e => .inr e)).trans F3 (fun _ e => .inl (.inl e))⟩
theorem rsync_down {w : World} {d bl n : Nat} {L : Nat → Nat → UInt8} {ws : List (Nat × (Nat → UInt8))} {wv : Value} {wr ar : Int} {base : Nat} (h : DB w d bl n L ws wv wr ar true base) :
    Calls Try.prog 28 #[(.pointer (some ⟨d, 0, none⟩))] w fun e w' => e = .returned (.int .i64 13) ∧ Fr (fun _ => False) w w' := by
  have c4 : w.cell? ⟨d, 4, none⟩ = some (.bool true) := h.c 4 rfl
  clear h
  go_enter Try.func28, Try.ntmps28
  go_wp2_with fail
  go_ret
  exact ⟨rfl, Fr.refl _ _⟩
end Go.Proofs.Ytgladedjgjhlaaa

/-
  Sync: the loop over what waits.
-/
import Derived.Test.YtgladedjgjhlaaaTe
import Derived.Test.YtgladedjgjhlaaaTp
namespace Go.Proofs.Ytgladedjgjhlaaa
open Go.RowKit
set_option linter.unusedVariables false
set_option linter.unusedSimpArgs false
theorem Ks.quiet_load_pts {P : Program} {C : Act → Prop} {a : Act} {o : Oper} {S : Nat → Prop} {W0 : World} {γ : Ks.Gs S W0} (ty : TypeId) (x : Operand) (ho : o.op = .load ty x) (g q m : Nat) (cs R : Array Value) (T : TypeId) (fr : Nat × Nat) (hx : a.eval x = .pointer (some ⟨g, q, none⟩))
    (hg : W0.heap[g]? = some (.cells cs T fr)) (hS : ¬ S g) (d : TypeDesc) (hu : P.underlying ty = some d) (hd : d.isRow = true) (hty : (P.info? ty).map (·.size) = some m) (hp : Part cs q R) (hm : R.size = m)
    (hk : C (a.put o.dst (.agg R))) : o.quiet P a (fun w' => ∃ y : Ks.Ws γ, w' = y.w) C :=
  ⟨.agg R, fun w' ⟨y, e⟩ => by
    subst e
    have hr := run_load_pt (P := P) (y.blk hg hS) ty d hu hd hty hp hm
    unfold Oper.quietAt execOp
    simp only [ho, hx, Sem.run_bind, hr, Result.andThen_ok, Sem.run_pure, Oper.quietUpon]
    exact ⟨trivial, trivial⟩, hk⟩
theorem wcells_at : ∀ (ws : List (Nat × (Nat → UInt8))) (k : Nat) (p : Nat × (Nat → UInt8)), ws[k]? = some p → ∀ (j : Nat) (u : Value), (wrow p.1 p.2).toList[j]? = some u → (wcells ws)[k * 129 + j]? = some u
  | [], k, p, h, j, u, hj => by simp at h
  | q :: ws, 0, p, h, j, u, hj => by
    obtain rfl : q = p := by simpa using h
    have hl : j < (wrow q.1 q.2).toList.length := (List.getElem?_eq_some_iff.1 hj).1
    rw [show wcells (q :: ws) = (wrow q.1 q.2).toList ++ wcells ws by simp [wcells, wrow], List.getElem?_append_left (by omega)]
    rw [show 0 * 129 + j = j by omega]; exact hj
  | q :: ws, k + 1, p, h, j, u, hj => by
    have e : (wrow q.1 q.2).toList.length = 129 := by rw [Array.length_toList, wrow_size]
    rw [show wcells (q :: ws) = (wrow q.1 q.2).toList ++ wcells ws by simp [wcells, wrow], List.getElem?_append_right (by omega), e, show (k + 1) * 129 + j - 129 = k * 129 + j by omega]
    exact wcells_at ws k p (by simpa using h) j u hj
/-- What waits lies at its place. -/
theorem own_range {w : World} {base : Nat} {T : TypeId} {ws : List (Nat × (Nat → UInt8))} {g cap : Nat} {cur : Array Value} (hg : w.heap[g]? = some (.cells cur T (0, 0))) (hx : cur.toList.take (ws.length * 129) = wcells ws) (k : Nat) (p : Nat × (Nat → UInt8)) (hk : ws[k]? = some p) :
    w.rangeAt g (k * 129) (wrow p.1 p.2).toList := fun j u hj => by
  have hl : j < (wrow p.1 p.2).toList.length := (List.getElem?_eq_some_iff.1 hj).1
  have hkl : k < ws.length := (List.getElem?_eq_some_iff.1 hk).1
  rw [Array.length_toList, wrow_size] at hl
  have h := wcells_at ws k p hk j u hj
  rw [cell_of_block hg, ← Array.getElem?_toList, ← h, ← hx, List.getElem?_take_of_lt (by omega)]
theorem wrow_part (i : Nat) (b : Nat → UInt8) : Part (wrow i b) 1 (ub 128 b) := fun j u hj => by
  have : (ub 128 b).toList[j]? = some u := by simpa using hj
  simp [wrow, Nat.add_comm 1 j, this]
theorem wrow_head (i : Nat) (b : Nat → UInt8) : (wrow i b)[0]? = some (.int .i64 (i : Int)) := by simp [wrow]
theorem wrow_all (i : Nat) (b : Nat → UInt8) : (wrow i b).all (·.oneCell') = true := Array.all_eq_true_iff_forall_mem.2 (fun v hv => wrow_one i b v (by simpa using hv))
/-- What is laid, one behind the other. -/
def lay (L : Nat → Nat → UInt8) (ws : List (Nat × (Nat → UInt8))) : Nat → Nat → UInt8 := ws.foldl (fun f p => bset f p.1 p.2) L
theorem lay_take (L : Nat → Nat → UInt8) (ws : List (Nat × (Nat → UInt8))) (k : Nat) (p : Nat × (Nat → UInt8)) (h : ws[k]? = some p) : lay L (ws.take (k + 1)) = bset (lay L (ws.take k)) p.1 p.2 := by
  have : ws.take (k + 1) = ws.take k ++ [p] := by rw [List.take_add_one, h]; rfl
  rw [this]; simp [lay]
set_option maxRecDepth 100000 in
theorem Try.zW : Try.zeroCells108 = wrow 0 (fun _ => 0) := by kernel_rfl
theorem Try.szW : (Try.prog.info? 108).map (·.size) = some 129 := by kernel_rfl
/-- A store into what lasts. -/
theorem da_las {w w' : World} {d bn bl n : Nat} {N L L' : Nat → Nat → UInt8} {ws : List (Nat × (Nat → UInt8))} {wv : Value} {wr ar : Int} {dn : Bool} {base : Nat} (h : DA w d bn bl n N L ws wv wr ar dn base) (hb : w'.heap[bl]? = some (.cells (bk n L') 30 (0, 0))) (hF : Fr (fun k => k = bl) w w') : DA w' d bn bl n N L' ws wv wr ar dn base :=
  ⟨(hF.block d (lt_of_block h.blk) h.d2).trans h.blk, (hF.block bn (lt_of_block h.now) h.d3).trans h.now, hb, own_fr h.own hF (fun k hk e => h.o3 (by rw [hk, e])), h.d1, h.d2, h.d3, h.o1, h.o2, h.o3, h.b1, h.b2, h.b3, h.hn, h.hw⟩
set_option maxRecDepth 100000 in
theorem lit35 (f : Nat → Value) : ((List.range 35).map f).toArray = (f 0 :: f 1 :: f 2 :: f 3 :: f 4 :: f 5 :: f 6 :: f 7 :: f 8 :: f 9 :: f 10 :: f 11 :: f 12 :: f 13 :: f 14 :: f 15 :: f 16 :: f 17 :: f 18 :: f 19 :: f 20 :: f 21 :: f 22 :: f 23 :: f 24 :: f 25 :: f 26 :: f 27 :: f 28 :: f 29 :: f 30 :: f 31 :: f 32 :: f 33 :: f 34 :: []).toArray := by kernel_rfl
set_option maxRecDepth 100000 in
set_option maxHeartbeats 3200000 in
theorem sync_loop {Q : Exit → Act → World → Prop} {w : World} {d bn bl n : Nat} {N L : Nat → Nat → UInt8} {ws : List (Nat × (Nat → UInt8))} {wv : Value} {wr ar : Int} {base : Nat} (h : DA w d bn bl n N L ws wv wr ar false base) (hm : ws.length < 1000000000000) (t : Array Value) (hn : t.size = 35)
    (p0 : t[0]? = some (.pointer (some ⟨d, 0, none⟩))) (p2 : t[2]? = some (.int .i64 0)) (p16 : t[16]? = some wv) (p17 : t[17]? = some (.int .i64 (ws.length : Int))) (p18 : t[18]? = some (.int .i64 0))
    (hexit : ∀ t' w', t'.size = 35 → t'[0]? = some (.pointer (some ⟨d, 0, none⟩)) → t'[2]? = some (.int .i64 0) → DA w' d bn bl n N (lay L ws) ws wv wr ar false base → Fr (fun k => k = bl) w w' → Q (.exit 1) ⟨t', []⟩ w') :
    Code.wp Try.prog (.loop (loopAt Try.f20 0)) Q ⟨t, []⟩ w := by
  refine wp_loop_up ws.length (fun k t w' => t.size = 35 ∧ t[0]? = some (.pointer (some ⟨d, 0, none⟩)) ∧ t[2]? = some (.int .i64 0) ∧ t[16]? = some wv ∧ t[17]? = some (.int .i64 (ws.length : Int)) ∧ t[18]? = some (.int .i64 (k : Int)) ∧ DA w' d bn bl n N (lay L (ws.take k)) ws wv wr ar false base ∧ Fr (fun k => k = bl) w w') t w ⟨hn, p0, p2, p16, p17, p18, h, Fr.refl _ _⟩ ?_
  clear hn p0 p2 p16 p17 p18 t
  rintro k t w1 hk ⟨hn, p0, p2, p16, p17, p18, D, F1⟩ K hK
  obtain ⟨f, hff, rfl⟩ := frame_open hn
  have e0 := hff 0 _ p0
  have e2 := hff 2 _ p2
  have e16 := hff 16 _ p16
  have e17 := hff 17 _ p17
  have e18 := hff 18 _ p18
  clear hff hn p0 p2 p16 p17 p18
  rw [lit35, e0, e2, e16, e17, e18]
  clear e0 e2 e16 e17 e18
  conv => arg 2; whnf
  have HE := Lib.hid hexit
  have HK := Lib.hid hK
  clear hexit hK
  have w4 : wrap64 ((k : Int) + 1) = (k : Int) + 1 := IntWalk.wrap64_in _ (by omega)
  have v4 : IntKind.i64.wrap ((k : Int) + 1) = (k : Int) + 1 := IntWalk.i64_in _ (by omega)
  by_cases hlt : k < ws.length
  · have q3 : (k : Int) < (ws.length : Int) := by omega
    have q4 : (0 : Int) ≤ (k : Int) := by omega
    obtain ⟨p, hp⟩ : ∃ p, ws[k]? = some p := ⟨_, List.getElem?_eq_getElem hlt⟩
    rcases D.own.2 with ⟨e, h0⟩ | ⟨g, cap, cur, e, hb, hg, hcap, hmax, hcs, hcur⟩
    · omega
    have rg := own_range (base := base) (cap := cap) hg hcur k p hp
    have hpn : p.1 < n := D.hw p (List.mem_of_getElem? hp)
    have hn8 := D.hn
    have hstep := lay_take L ws k p hp
    have nb : ∀ j, w1.heap.size ≤ j → ¬ (j = bl) := fun j hj e => by have := lt_of_block D.las; omega
    obtain ⟨i, b⟩ := p
    have sW : Sz 129 (wrow i b) := ⟨wrow_size _ _, wrow_all _ _⟩
    have hh := wrow_head i b
    have hpt := wrow_part i b
    have szr : (Try.prog.info? 108).map (·.size) = some (wrow i b).toList.length := by rw [Array.length_toList, wrow_size]; exact Try.szW
    have i0 : (0 : Int) ≤ (i : Int) := by omega
    have i1 : (i : Int) < (n : Int) := by have : i < n := hpn; omega
    have Hp := Lib.hid hp
    have Hs := Lib.hid hstep
    have Hc := Lib.hid hcur
    have HD := Lib.hid D
    have HF := Lib.hid F1
    have sZ : Sz 129 Try.zeroCells108 := by rw [Try.zW]; exact ⟨wrow_size _ _, wrow_all _ _⟩
    have K1 := (Kn.start w1).new (w1.heap.size) 129 Try.zeroCells108 108 rfl sZ.1
    have D0 := D
    have sB : Sz 128 (ub 128 b) := ⟨ub_size _ _, ub_one _ _⟩
    have hset := bk_set n (lay L (ws.take k)) i hpn b
    generalize hWW : wrow i b = W at *
    generalize hBB : ub 128 b = B at *
    have Hset := Lib.hid hset
    clear hp hstep hcur D F1 hb hcap hmax hcs h hk hWW hBB hset
    subst e
    go_wp2_with (first | (focus ((with_reducible refine wpList_load_mid ?h0 108 (.tmp 20) ?h1 g (k * 129) ?h2 W.toList _ rg Try.underlying108 ?h4 szr ?h3); (case h0 => rfl); (case h4 => rfl); (case h1 => rfl); (case h2 => rfl); (simp only [Act.put, List.setIfInBounds_toArray, List.set_cons_zero, List.set_cons_succ]; simp only [Array.toArray_toList]))) | (focus (((with_reducible refine' wpList_store_kn K1 rfl 108 (.tmp 4) _ rfl 0 _ _ _ _ _ rfl rfl Try.szW _ _ _); rotate_left 2; (focus exact rfl)); (focus (with_reducible assumption)); intro wz Kz; clear K1; have K1 := Kz; clear Kz; simp only [List.set_cons_zero] at K1; try (simp only [Act.put, List.setIfInBounds_toArray, List.set_cons_zero, List.set_cons_succ]))))
    have hd2 := (K1.fr.block _ (lt_of_block D0.blk) (fun h => h)).trans D0.blk
    have hb2 := (K1.fr.block _ (lt_of_block D0.las) (fun h => h)).trans D0.las
    have hv2 := K1.heap 0 rfl
    have nG : ¬ (w1.heap.size = bl) := nb _ (Nat.le_refl _)
    have nd : ¬ (d = bl) := D0.d2
    have HD0 := Lib.hid D0
    clear D0
    refine Ks.wp_region_mono (fun k => k = bl) (sg 0 9 ++ ((9, true) :: [])) (by kernel_rfl) (by kernel_rfl) ?_
    refine Ks.Wk.seg 0 9 (by kernel_rfl) (by kernel_rfl) ?_
    apply Exists.intro
    refine ⟨?wk0, ?fin0⟩
    case wk0 =>
      intro γ
      have c1 : ∀ y : Ks.Ws γ, y.w.cell? ⟨d, 1, none⟩ = some (.slice (some ⟨bl, 0, none⟩) n n) := fun y => by rw [cell_of_block (y.blk hd2 nd)]; rfl
      have cg : ∀ y : Ks.Ws γ, y.w.cell? ⟨w1.heap.size, 0, none⟩ = some (.int .i64 (i : Int)) := fun y => by rw [cell_of_block (y.blk hv2 nG)]; exact hh
      simp only [List.drop_succ_cons, List.drop_zero, List.take_succ_cons, List.take_zero]
      repeat (any_goals (first | (focus (go_big_quiet_want; (refine' Ks.quiet_load_pts 30 (.tmp 28) rfl w1.heap.size 1 128 W B 108 (0, 0) rfl hv2 nG _ Try.underlying30 rfl Try.szBk hpt sB.1 _); simp only [Act.put, List.setIfInBounds_toArray, List.set_cons_zero, List.set_cons_succ]; go_big_quiet_on)) | go_big_quiet_step (fail) | quiet_step (fail)))
      exact wpQuiet_nil rfl
    case fin0 =>
    (try simp only [Act.put, List.setIfInBounds_toArray, List.set_cons_zero, List.set_cons_succ])
    refine Ks.Wk.one rfl (fun w3 X3 => ?_)
    have b3 := (X3.block _ (lt_of_block hb2) (fun h => h)).trans hb2
    refine wpList_store_part rfl 30 (.tmp 30) (.tmp 29) rfl bl (i * 128) B rfl rfl (by rw [sB.1]; exact Try.szBk) sB.2 30 _ b3 (by rw [sB.1, bk_size]; omega) (fun w5 B5 F5 => ⟨rfl, F5, ?_⟩)
    rw [sB.1, Nat.mul_comm, Hset.out] at B5
    simp only [Act.put, List.setIfInBounds_toArray, List.set_cons_zero, List.set_cons_succ]
    intro w6 X6
    have B6 := (X6.block _ (lt_of_block B5) (fun h => h)).trans B5
    have F6 : Fr (fun k => k = bl) w1 w6 := (((K1.fr.trans X3 (fun _ h => h.elim)).mono (fun _ _ h => h.elim)).trans F5 (fun _ h => .inl h)).trans X6 (fun _ h => h.elim)
    clear K1 hd2 hb2 hv2 X3 b3 B5 F5 X6
    go_wp2_with fail
    exact HK.out _ _ hlt ⟨rfl, rfl, rfl, rfl, rfl, by simp, by rw [Hs.out]; exact da_las HD.out B6 F6, HF.out.trans F6 (fun _ h => .inl h)⟩
  · obtain rfl : k = ws.length := by omega
    rw [List.take_length] at D
    have HD := Lib.hid D
    have HF := Lib.hid F1
    clear D F1 h
    go_wp2_with fail
    exact HE.out _ _ rfl rfl rfl HD.out HF.out
end Go.Proofs.Ytgladedjgjhlaaa

/-
  Get, as what it does to a part; one step of a part.
-/
import Derived.Test.YtkigdgkklninoaaWe
import Derived.Test.YtkigdgkklninoaaKz
namespace Go.Proofs.Ytkigdgkklninoaa
open Go.RowKit
set_option linter.unusedVariables false
set_option linter.unusedSimpArgs false
theorem wpList_store_one {P : Program} {ops : Array Oper} {rest : List Oper} {o : Oper} {a : Act} {w : World} {Q : Exit → Act → World → Prop} (hgd : o.guard = none) (ty : TypeId) (x y : Operand) (ho : o.op = .store ty x y)
    (g off : Nat) (hx : a.eval x = .pointer (some ⟨g, off, none⟩)) (u : Value) (hy : a.eval y = u) (hu : u.cells = #[u]) (h1 : u.oneCell' = true) (hi : (P.info? ty).map (·.size) = some 1)
    (t : TypeId) (cs : Array Value) (hg : w.heap[g]? = some (.cells cs t (0, 0))) (hoff : off < cs.size)
    (h : ∀ w2 : World, w2.heap[g]? = some (.cells (cs.setIfInBounds off u) t (0, 0)) → Fr (fun i => i = g) w w2 → wpList P ops Q rest (a.put o.dst undef) w2) : wpList P ops Q (o :: rest) a w := by
  refine wpList_plain hgd fun _ hK => ?_
  have hst := run_storeCells_at P g off t [u] 0 cs w hg (by simp; omega) (by simpa using h1)
  have e : (cs.toList.take (off + 0) ++ [u] ++ cs.toList.drop (off + 0 + 1)).toArray = cs.setIfInBounds off u := by
    apply Array.toList_inj.1
    rw [Array.toList_setIfInBounds, List.set_eq_take_append_cons_drop, if_pos (by simpa using hoff)]
    simp
  have key := h (w.setRow g (cs.setIfInBounds off u)) (setRow_heap _ _ _ _ _ _ hg) (Fr.setRow' (S := fun i => i = g) (Fr.refl _ w) rfl _)
  simp only [List.length_cons, List.length_nil] at hst
  rw [e] at hst
  cases hq : P.info? ty with
  | none => simp [hq] at hi
  | some i =>
    have hs : i.size = 1 := by simpa [hq] using hi
    unfold Oper.wp execOp
    simp only [ho, hx, hy, Instr.storeAt, Instr.sureAddr, Sem.run_bind, Sem.run_pure, Result.andThen_ok]
    have hrun : (storeVar ty ⟨g, off, none⟩ u).run P w = .ok () (w.setRow g (cs.setIfInBounds off u)) := by
      simp [storeVar, sizeOf, typeInfo, hq, hu, hs]
      simpa using hst
    rw [hrun]
    exact hK _ _ key
theorem own_shape {w : World} {base : Nat} {e : TypeId} {size : Nat} {v : Value} {n : Nat} {xs : List Value} (h : w.ownsRow base e size v n xs) : v.cells = #[v] ∧ v.oneCell' = true := by
  rcases h.2 with ⟨e, _⟩ | ⟨g, cap, cur, e, _⟩
  · rw [e]; exact ⟨rfl, rfl⟩
  · rw [e]; exact ⟨rfl, rfl⟩

/-- One step of a part: what it is then, and that nothing else has turned. -/
structure Step (w w' : World) (base pb off : Nat) (cur : Array Value) (v : Value) (cur' : Array Value) (v' : Value) (L' : List (ByteArray × ByteArray)) (h' m' : Int) : Prop where
  pt : Pt w' base pb off cur' v' L' h' m'
  sz : cur'.size = cur.size
  other : ∀ j, j < off ∨ off + 3 ≤ j → cur'[j]? = cur[j]?
  own : v'.ownBlock = v.ownBlock ∨ ∃ k, v'.ownBlock = some k ∧ w.heap.size ≤ k
  fr : Fr (fun b => b = pb ∨ v.ownBlock = some b) w w'
theorem put_step (cb pb n i sz : Nat) (hi : i < n) {base : Nat} {cur : Array Value} {v : Value} {L : List (ByteArray × ByteArray)} {h m : Int} (w : World) (hc : CB w cb pb n (sz : Int)) (hp : Pt w base pb (i * 3) cur v L h m) (hcp : cb ≠ pb) (hcv : v.ownBlock ≠ some cb) (hbs : base ≤ w.heap.size) (hlen : L.length ≤ 1000) (hsz : 1 ≤ sz) (s t : ByteArray) : Calls Try.prog 10 #[.pointer (some ⟨cb, 0, none⟩), .int .i64 (i : Int), .string s, .string t] w fun e w' => e = .returned (.int .i64 0) ∧ ∃ cur' v', Step w w' base pb (i * 3) cur v cur' v' (putL sz s t L) h m := by
  refine (put_any cb pb n i sz hi w hc hp hcp hcv hbs hlen hsz s t).mono ?_
  rintro e w' ⟨rfl, v', P, hv, F⟩
  exact ⟨rfl, _, v', P, by simp, fun j hj => by rw [Array.getElem?_setIfInBounds, if_neg (by omega)], hv, F⟩
theorem drop_step (cb pb n i : Nat) (size : Int) (hi : i < n) {base : Nat} {cur : Array Value} {v : Value} {L : List (ByteArray × ByteArray)} {h m : Int} (w : World) (hc : CB w cb pb n size) (hp : Pt w base pb (i * 3) cur v L h m) : Calls Try.prog 11 #[.pointer (some ⟨cb, 0, none⟩), .int .i64 (i : Int)] w fun e w' => e = .returned (.int .i64 0) ∧ ∃ cur' v', (v' = .slice none 0 0) ∧ Step w w' base pb (i * 3) cur .nilFunc cur' v' [] h m := by
  refine (drop_any cb pb n i size hi w hc hp).mono ?_
  rintro e w' ⟨rfl, P, F⟩
  exact ⟨rfl, _, _, rfl, P, by simp, fun j hj => by rw [Array.getElem?_setIfInBounds, if_neg (by omega)], .inl (by simp [Value.ownBlock]), F.mono (fun _ _ h => .inl h)⟩
theorem set_one {cur : Array Value} {off j : Nat} {u v : Value} (h : cur[off]? = some u) (hj : off ≠ j) : (cur.setIfInBounds j v)[off]? = some u := by
  rw [Array.getElem?_setIfInBounds, if_neg (by omega)]; exact h
theorem set_here {cur : Array Value} {j : Nat} {v : Value} (h : j < cur.size) : (cur.setIfInBounds j v)[j]? = some v := by
  rw [Array.getElem?_setIfInBounds, if_pos rfl, if_pos h]
set_option maxRecDepth 100000 in
set_option maxHeartbeats 6400000 in
theorem get_none (cb pb n i : Nat) (size : Int) (hi : i < n) {base : Nat} {cur : Array Value} {v : Value} {L : List (ByteArray × ByteArray)} {h m : Int} (w : World) (hc : CB w cb pb n size) (hp : Pt w base pb (i * 3) cur v L h m) (m0 : 0 ≤ m) (m1 : m ≤ 1000000) (s : ByteArray) (hno : ∀ j x, j < L.length → L[j]? = some x → nm s x = false) : Calls Try.prog 7 #[.pointer (some ⟨cb, 0, none⟩), .int .i64 (i : Int), .string s] w fun e w' => e = .returned (.tuple #[.string ⟨#[]⟩, .bool false]) ∧ ∃ cur' v', Step w w' base pb (i * 3) cur v cur' v' L h (m + 1) := by
  have HP := Lib.hid (part_any cb pb n i size hi w hc)
  have HTK := Lib.hid (take_none w base pb (i * 3) cur v L h m hp s hno)
  have HQ := Lib.hid hp
  have w1 : wrap64 (m + 1) = m + 1 := IntWalk.wrap64_in _ (by omega)
  have W1 := Lib.hid w1
  clear hc hp hno hi w1
  go_enter Try.func7, Try.ntmps7
  go_wp2_with fail
  refine HP.out.mono ?_
  rintro e w1 ⟨rfl, rfl⟩
  go_wp2_with fail
  refine HTK.out.mono ?_
  rintro e w2 ⟨rfl, F2⟩
  have F3 := F2.alloc (.cells #[.string ⟨#[]⟩, .string ⟨#[]⟩] 54)
  have P3 := HQ.out.fr F3 (fun h => h) (fun _ _ h => h)
  obtain ⟨_, _, c2, f2⟩ := P3.c
  have f22 := f2 (i * 3 + 2)
  have HP3 := Lib.hid P3
  have HF3 := Lib.hid F3
  clear F2 P3 f2 F3
  go_wp2_with fail
  go_returns
  have hl := HP3.out.lt
  refine ⟨rfl, _, v, ⟨block_setCell HP3.out.blk _ _, set_one HP3.out.kept (by omega), set_one HP3.out.hits (by omega), set_here hl, ?_, HP3.out.apart⟩, by simp, fun j hj => by rw [Array.getElem?_setIfInBounds, if_neg (by omega)], .inl rfl, ?_⟩
  · exact (Fr.setCell (S := fun b => b = pb) (Fr.refl _ _) (p := ⟨pb, i * 3 + 2, none⟩) (Or.inl rfl) _).own HP3.out.own (fun k e h => HP3.out.apart (by rw [e, h]))
  · exact (HF3.out.mono (fun _ _ h => h.elim)).trans (Fr.setCell (S := fun b => b = pb) (Fr.refl _ _) (p := ⟨pb, i * 3 + 2, none⟩) (Or.inl rfl) _) (fun _ h => .inl (.inl h))
set_option maxRecDepth 100000 in
set_option maxHeartbeats 6400000 in
theorem get_some (cb pb n i : Nat) (size : Int) (hi : i < n) {base : Nat} {cur : Array Value} {v : Value} {L : List (ByteArray × ByteArray)} {h m : Int} (w : World) (hc : CB w cb pb n size) (hp : Pt w base pb (i * 3) cur v L h m) (hbs : base ≤ w.heap.size) (hlen : L.length ≤ 1000) (m0 : 0 ≤ h) (m1 : h ≤ 1000000) (s : ByteArray) (k : Nat) (x : ByteArray × ByteArray) (hk : L[k]? = some x) (hx : nm s x = true) (hno : ∀ j x, j < k → L[j]? = some x → nm s x = false) : Calls Try.prog 7 #[.pointer (some ⟨cb, 0, none⟩), .int .i64 (i : Int), .string s] w fun e w' => e = .returned (.tuple #[.string x.2, .bool true]) ∧ ∃ cur' v', Step w w' base pb (i * 3) cur v cur' v' (L.eraseIdx k ++ [x]) (h + 1) m := by
  have HP := Lib.hid (part_any cb pb n i size hi w hc)
  have HTK := Lib.hid (take_some w base pb (i * 3) cur v L h m hp s k x hk hx hno)
  have HQ := Lib.hid hp
  have w1 : wrap64 (h + 1) = h + 1 := IntWalk.wrap64_in _ (by omega)
  have W1 := Lib.hid w1
  have hkl := (List.getElem?_eq_some_iff.1 hk).1
  have hle : (L.eraseIdx k).length = L.length - 1 := by rw [List.length_eraseIdx, if_pos hkl]
  have HL := Lib.hid (show (L.eraseIdx k).length ≤ 1000 by omega)
  obtain ⟨ti, zv, t1, t2, t3, t4, t5⟩ := eInfo
  have HT := Lib.hid (And.intro t1 (And.intro t2 (And.intro t3 (And.intro t4 t5))))
  have HB := Lib.hid hbs
  clear hc hp hno hi w1 hk hx hkl hle t1 t2 t3 t4 t5 hbs
  generalize L.eraseIdx k = L1 at *
  go_enter Try.func7, Try.ntmps7
  go_wp2_with fail
  refine HP.out.mono ?_
  rintro e w1 ⟨rfl, rfl⟩
  go_wp2_with fail
  refine HTK.out.mono ?_
  rintro e w2 ⟨rfl, v1, P2, hv1, F2⟩
  have hE := heap_alloc_new w2 (.cells #[.string x.1, .string x.2] 54)
  have F3 := (Fr.refl (fun _ => False) w2).alloc (.cells #[.string x.1, .string x.2] 54)
  have P3 := P2.fr F3 (fun h => h) (fun _ _ h => h)
  have hpE : pb ≠ w2.heap.size := by have := lt_of_block P2.blk; omega
  have hvE : v1.ownBlock ≠ some w2.heap.size := fun e => by have := (P2.own.lt _ e).2; omega
  obtain ⟨W3, hW3⟩ : ∃ W3, W3 = w2.alloc (.cells #[.string x.1, .string x.2] 54) := ⟨_, rfl⟩
  rw [← hW3] at hE F3 P3
  obtain ⟨c0, c1, c2, f2⟩ := P3.c
  have f22 := f2 (i * 3 + 1)
  have hl := P3.lt
  have S4 := Fr.setCell (S := fun b => b = pb) (Fr.refl _ W3) (p := ⟨pb, i * 3 + 1, none⟩) (Or.inl rfl) (.int .i64 (h + 1))
  obtain ⟨W4, hW4⟩ : ∃ W4, W4 = W3.setCell ⟨pb, i * 3 + 1, none⟩ (.int .i64 (h + 1)) := ⟨_, rfl⟩
  have P4 : Pt W4 base pb (i * 3) ((cur.setIfInBounds (i * 3) v1).setIfInBounds (i * 3 + 1) (.int .i64 (h + 1))) v1 L1 (h + 1) m := by
    rw [← hW4] at S4
    refine ⟨?_, set_one P3.kept (by omega), set_here (by omega), set_one P3.miss (by omega), S4.own P3.own (fun k e h => P3.apart (by rw [e, h])), P3.apart⟩
    rw [hW4]
    exact block_setCell P3.blk _ _
  rw [← hW4] at S4
  have hE4 := (S4.block w2.heap.size (lt_of_block hE) (fun e => hpE e.symm)).trans hE
  have HP4 := Lib.hid P4
  have HE4 := Lib.hid hE4
  have F4 : Fr (fun b => b = pb ∨ v.ownBlock = some b) w W4 := (F2.trans F3 (fun _ h => h.elim)).trans S4 (fun b e => .inl (.inl e))
  have HF4 := Lib.hid F4
  have HV1 := Lib.hid hv1
  have HPE := Lib.hid (And.intro hpE hvE)
  have HW3 := Lib.hid hW3
  have HW4 := Lib.hid hW4
  clear F2 P2 hv1 F3 P3 hE S4 P4 hE4 F4 hpE hvE hW4 hW3 f2 c0 c2 hl
  go_wp2_with (first | (rw [← HW3.out]) | (rw [← HW4.out]))
  generalize w2.heap.size = E at *
  clear c1 f22
  have nP : ¬ (v1.ownBlock = some pb) := HP4.out.apart
  have nE : ¬ (v1.ownBlock = some E) := HPE.out.2
  have hbk := HP4.out.blk
  have hek := HE4.out
  refine Kz.wp_region_mono (fun k => v1.ownBlock = some k) 10 (sg 0 6 ++ ((6, true) :: (7, true) :: (8, true) :: (9, true) :: (10, true) :: [])) (by kernel_rfl) (by kernel_rfl) ?_
  refine Kz.Wk.seg 0 6 (by kernel_rfl) (by kernel_rfl) ?_
  apply Exists.intro
  refine ⟨?wk1, ?fin1⟩
  case wk1 =>
    intro γ
    have d0 : ∀ y : Ks.Ws γ, y.w.cell? ⟨pb, i * 3, none⟩ = some v1 := fun y => (cell_of_block (y.blk hbk nP) _).trans HP4.out.kept
    simp only [List.drop_succ_cons, List.drop_zero, List.take_succ_cons, List.take_zero]
    repeat (any_goals (first | (focus (go_big_quiet_want; (refine' Ks.quiet_load_rows 54 (.tmp 9) rfl E rfl _ _ _ _ hek nE Try.underlying54 rfl (by rw [szE]; rfl) _); simp only [Act.put, List.setIfInBounds_toArray, List.set_cons_zero, List.set_cons_succ]; go_big_quiet_on)) | go_big_quiet_step (fail) | quiet_step (fail)))
    exact wpQuiet_nil rfl
  case fin1 =>
  (try simp only [Act.put, List.setIfInBounds_toArray, List.set_cons_zero, List.set_cons_succ])
  refine Kz.Wk.one rfl (fun w6 X6 => ?_)
  refine wpList_buildSlice rfl 57 1 _ rfl #[(0, .agg #[.string x.1, .string x.2])] (by first | kernel_rfl | rfl | simp [Act.eval]) (mkE _ _ w6) ⟨rfl, fun _ => (Fr.refl _ w6).alloc _, ?_⟩
  (try simp only [Act.put, List.setIfInBounds_toArray, List.set_cons_zero, List.set_cons_succ])
  refine Kz.Wk.one rfl (fun w7 X7 => ?_)
  have X67 : Fr (fun _ => False) W4 w7 := (X6.alloc _).trans X7 (fun _ h => h.elim)
  have P7 := HP4.out.fr X67 (fun h => h) (fun _ _ h => h)
  have hsrc : Src Try.prog 2 57 (.slice (some ⟨w6.heap.size, 0, none⟩) 1 1) 1 [.string x.1, .string x.2] w7 :=
    Src.ofSlice _ Try.underlying57 ⟨w6.heap.size, 0, none⟩ 1 1 _ rfl (fun j u hj => by
      rw [Addr.add_mid, Nat.zero_add, cell_of_block ((X7.block _ (by simp) (fun h => h)).trans (heap_alloc_new w6 _)), ← Array.getElem?_toList]; exact hj) (fun u hu => by
      simp only [List.mem_cons, List.not_mem_nil, or_false] at hu
      rcases hu with rfl | rfl <;> rfl)
  have hb7 : base ≤ w7.heap.size := by have := X67.size; have := HF4.out.size; have := HB.out; omega
  refine wpList_app _ rfl (.tmp 42) (.tmp 44) 57 57 rfl base 54 ti zv 2 32 Try.underlying57 HT.out.1 HT.out.2.1 HT.out.2.2.1 HT.out.2.2.2.1 HT.out.2.2.2.2 (by decide) v1 L1.length (ec L1) rfl P7.own _ rfl 1 [.string x.1, .string x.2] hsrc (by have := HL.out; unfold maxLen; omega) (by have := HL.out; omega) hb7 (fun v3 w9 O9 G9 G9x => ⟨rfl, fun _ => Fr.ofGrown G9, ?_⟩)
  have F79 := Fr.ofGrown G9
  (try simp only [Act.put, List.setIfInBounds_toArray, List.set_cons_zero, List.set_cons_succ])
  refine Kz.Wk.one rfl (fun wa Xa => ?_)
  go_wp2_with fail
  refine ⟨Fr.refl _ _, ?_⟩
  refine Kz.Wk.one rfl (fun wb Xb => ?_)
  go_wp2_with fail
  refine ⟨Fr.refl _ _, ?_⟩
  refine Kz.Wk.one rfl (fun wc Xc => ?_)
  have X9c : Fr (fun _ => False) w9 wc := Ex.tr (Ex.tr Xa Xb) Xc
  have F4c : Fr (fun k => v1.ownBlock = some k) W4 wc := (X67.mono (fun _ _ h => h.elim)).trans (F79.trans X9c (fun _ h => h.elim)) (fun _ h => .inl h)
  have hbc := (F4c.block pb (lt_of_block hbk) nP).trans hbk
  have szs : (Try.prog.info? 57).map (·.size) = some 1 := by kernel_rfl
  refine wpList_store_one rfl 57 (.tmp 47) (.tmp 45) rfl pb (i * 3) rfl v3 rfl (own_shape O9).1 (own_shape O9).2 szs 59 _ hbc (by have := HP4.out.lt; omega) (fun wd Dd Fd => ⟨rfl, fun hne => absurd rfl hne, ?_⟩)
  (try simp only [Act.put, List.setIfInBounds_toArray, List.set_cons_zero, List.set_cons_succ])
  intro we Xe
  have hEc := (F4c.block E (lt_of_block hek) nE).trans hek
  have hEe : we.heap[E]? = _ := (Xe.block E (by have := lt_of_block hEc; have := Fd.size; omega) (fun h => h)).trans ((Fd.block E (lt_of_block hEc) (fun e => HPE.out.1 e.symm)).trans hEc)
  have r1 : we.cell? ⟨E, 1, none⟩ = some (.string x.2) := (cell_of_block hEe 1).trans rfl
  have hn3 : v3.ownBlock ≠ some pb := by
    rcases G9x with e | e
    · rw [e]; exact nP
    · rw [e]; intro e2; have := Option.some.inj e2; have := lt_of_block P7.blk; omega
  have F9e : Fr (fun b => b = pb) w9 we := (X9c.mono (fun _ _ h => h.elim)).trans (Fd.trans (Xe.mono (T := fun b => b = pb) (fun _ _ h => h.elim)) (fun _ h => .inl h)) (fun _ h => .inl h)
  have O10 : we.ownsRow base 54 2 v3 (L1 ++ [x]).length (ec (L1 ++ [x])) := F9e.own (by rw [ec_app, List.length_append]; exact O9) (fun k e h => hn3 (by rw [e, h]))
  have hbe : we.heap[pb]? = _ := (Xe.block pb (by have := lt_of_block hbc; have := Fd.size; omega) (fun h => h)).trans Dd
  have P10 := HP4.out.turn hbe O10 hn3
  have FE : Fr (fun b => b = pb ∨ v.ownBlock = some b) w we := HF4.out.trans ((F4c.mono (T := fun b => b = pb ∨ v1.ownBlock = some b) (fun _ _ h => .inr h)).trans ((Fd.mono (T := fun b => b = pb ∨ v1.ownBlock = some b) (fun _ _ h => .inl h)).trans (Xe.mono (T := fun _ => False) (fun _ _ h => h.elim)) (fun _ h => h.elim)) (fun _ h => .inl h)) (fun b e => .inl (by rw [← HV1.out]; exact e))
  have HP10 := Lib.hid P10
  have HFE := Lib.hid FE
  have HG := Lib.hid G9x
  have HS := Lib.hid (show w.heap.size ≤ w7.heap.size from by have := X67.size; have := HF4.out.size; omega)
  clear P10 FE O10 hbe F9e hn3 hEe hEc hbc F4c X9c O9 G9 F79 hsrc hb7 P7 X67 X6 X7 Xa Xb Xc Xe Dd Fd hbk hek nP nE G9x
  go_wp2_with fail
  go_returns
  refine ⟨rfl, _, v3, HP10.out, by simp, fun j hj => by simp only [Array.getElem?_setIfInBounds]; rw [if_neg (by omega), if_neg (by omega), if_neg (by omega)], ?_, HFE.out⟩
  rcases HG.out with e | e
  · exact .inl (e.trans HV1.out)
  · exact .inr ⟨_, e, HS.out⟩
end Go.Proofs.Ytkigdgkklninoaa

/-
  The walk of CommitChecks.
-/
import Derived.Test.YtbpblheaiancaaaDoorEa
namespace Go.Proofs.YtbpblheaiancaaaDoor
open Go.RowKit
set_option linter.unusedVariables false
set_option linter.unusedSimpArgs false

theorem neq_ub (f g : Nat → UInt8) (x y : List UInt8) (hx : x = (List.range 32).map f) (hy : y = (List.range 32).map g) (w : World) : (binOp .neq 22 (.agg (ub 32 f)) (.agg (ub 32 g))).run Tryd.prog w = .ok (.bool (!(x == y))) w := by
  have h := eql_ub f g x y hx hy w
  rw [run_eql_struct] at h
  rw [run_neq_struct]
  revert h
  cases (Op.equalIn 10000 22 (.agg (ub 32 f)) (.agg (ub 32 g))).run Tryd.prog w with
  | ok b w2 =>
    intro h
    simp only [Result.andThen_ok] at h ⊢
    injection h with h1 h2
    injection h1 with h1
    rw [h1, h2]
  | halt a b => intro h; simp [Result.andThen] at h
/-- 32 bytes of a string are copied into a row; the rest is told. -/
theorem wpList_copy_strF {ops : Array Oper} {rest : List Oper} {o : Oper} {a : Act} {w0 w : World} {L : List Bk} {Q : Exit → Act → World → Prop} (K : Kn w0 L w) (hgd : o.guard = none) (d s : Operand)
    (ho : o.op = .call { callee := .builtin .copy, args := #[d, s], argTypes := #[23, 9] }) (i g : Nat) (cur : Array Value) (T : TypeId) (X : List UInt8) (hX : X.length = 32) (hd : a.eval d = .slice (some ⟨g, 0, none⟩) 32 32) (hs : a.eval s = .string ⟨X.toArray⟩)
    (hi : L[i]? = some ⟨g, 32, cur, T⟩)
    (h : ∀ w', Kn w0 (L.set i ⟨g, 32, (bv X).toArray, T⟩) w' → Fr (fun k => k = g) w w' → wpList Tryd.prog ops Q rest (a.put o.dst (goInt (⟨X.toArray⟩ : ByteArray).size)) w') : wpList Tryd.prog ops Q (o :: rest) a w := by
  have hg := K.heap i hi
  have hn := K.size i hi
  have hsz : (⟨X.toArray⟩ : ByteArray).size = 32 := by show X.toArray.size = 32; simpa using hX
  refine wpList_plain hgd fun Kk hK => ?_
  have hrun := Lib.run_copy_row_string (P := Tryd.prog) w 23 9 o.type 5 g 0 32 32 ⟨X.toArray⟩ cur T Tryd.underlying23 Tryd.sizeB hg (by omega) (by omega)
  unfold Oper.wp
  simp [execOp, ho, resolve, invoke, builtin, hd, hs, hrun, Result.andThen]
  have e2 : (Lib.byteCells X ++ List.drop (⟨X.toArray⟩ : ByteArray).size cur.toList).toArray = (bv X).toArray := by
    rw [hsz, List.drop_eq_nil_of_le (by simp; omega), List.append_nil]
    rfl
  rw [e2]
  have hF : Fr (fun k => k = g) w (w.setRow g (bv X).toArray) := Fr.sr (S := fun k => k = g) (Fr.refl _ _) rfl _
  exact hK _ _ (h _ (K.set i ⟨g, 32, cur, T⟩ hi (bv X).toArray (by simp [bv, hX]) hF (setRow_heap _ _ _ _ _ _ hg)) hF)
set_option maxRecDepth 100000 in
set_option maxHeartbeats 800000 in
theorem value_new (f : Nat → UInt8) (z : Int) (a : Option Addr) (n c q : Nat) (l : List UInt8) (w : World) (h : Came w a n c l) (hq : q = min n 200) :
    Calls Tryd.prog 10 #[.agg (wh f z a n c)] w fun e w' => ∃ a' c', e = .returned (.slice a' q c') ∧ Came w' a' q c' (l.take q) ∧ (∀ k, inBlk a' k → w.heap.size ≤ k) ∧ Fr (fun _ => False) w w' := by
  have k1 : n ≤ 9223372036854775807 := by have := h.le; have := h.mx; unfold maxLen at this; omega
  have d1 := h.le
  have d2 : (c : Int) ≤ 9223372036854775807 := by have := h.mx; unfold maxLen at this; omega
  have hq1 : (if (200 : Int) < (n : Int) then (200 : Int) else (n : Int)) = (q : Int) := by split <;> omega
  have hq2 : min (n : Int) 200 = (q : Int) := by omega
  have hq0 : (0 : Int) ≤ (q : Int) := by omega
  have hqc : (q : Int) ≤ (c : Int) := by omega
  have hq3 : q ≤ 200 := by omega
  have C0 := h.cut q (by omega) (Fr.refl _ w)
  generalize l.take q = x at C0 ⊢
  have hxl := C0.len
  have hv := wh_val f z a n c
  generalize wh f z a n c = S at *
  have F0 := ((Fr.refl (fun _ => False) w).alloc (.cells S 25)).alloc (.cells #[] 5)
  have hc33 : ((w.alloc (.cells S 25)).alloc (.cells #[] 5)).cell? ⟨w.heap.size, 33, none⟩ = some (.slice a n c) := by
    rw [cell_of_block (heap_alloc2_old w (.cells S 25) (.cells #[] 5))]; exact hv
  have own0 : Own ((w.alloc (.cells S 25)).alloc (.cells #[] 5)) w.heap.size (.slice (some ⟨w.heap.size + 1, 0, none⟩) 0 0) [] := Or.inr ⟨w.heap.size + 1, 0, #[], (0, 0), rfl, by omega, heap_alloc2_new w _ _, Or.inl rfl, Nat.le_refl _, Nat.zero_le _, rfl, rfl⟩
  have hsrc : Src Tryd.prog 1 23 (.slice a q c) x.length (bv x) ((w.alloc (.cells S 25)).alloc (.cells #[] 5)) := by
    have := (C0.lies.grow F0).src c
    rw [hxl] at this ⊢
    exact this
  have hb1 : ([] : List UInt8).length + x.length ≤ 140737488355328 := by rw [hxl]; simp; omega
  have hz1 : w.heap.size ≤ ((w.alloc (.cells S 25)).alloc (.cells #[] 5)).heap.size := by simp; omega
  have HX := Lib.hid hxl
  clear hxl hq hv h
  go_enter Tryd.func10, Tryd.ntmps10
  go_wp2_with (at_builtin; refine wpList_own _ rfl (.tmp 3) (.tmp 10) 23 rfl w.heap.size (.slice (some ⟨w.heap.size + 1, 0, none⟩) 0 0) [] x rfl own0 (.slice a q c) rfl hsrc hb1 hz1 ?k)
  case k =>
  intro v2 w2 own2 hg2 hb2
  have F2 : Fr (fun _ => False) w w2 := F0.trans (Fr.ofGrown hg2) (fun i hi => Or.inr (by have := Option.some.inj hi; simp at this; omega))
  obtain ⟨a2, c2, rfl⟩ := own2.slice
  have C2 : Came w2 a2 x.length c2 x := by
    obtain ⟨_, e2, e3, e4⟩ := own2.lies
    exact ⟨rfl, e2, e3, e4, fun e => by subst e; exact own2.nilAddr⟩
  rw [HX.out] at C2
  have hnew : ∀ k, inBlk a2 k → w.heap.size ≤ k := by
    rintro k ⟨ad, e1, e2⟩
    rcases own2 with ⟨e, _⟩ | ⟨g, cap, cur, fz, e, hB, _⟩
    · injection e with e3
      rw [e1] at e3
      cases e3
    · injection e with e3
      rw [e1] at e3
      obtain rfl := Option.some.inj e3
      exact e2 ▸ hB
  go_wp2_with fail
  go_ret
  refine ⟨a2, c2, ?_, C2, hnew, F2⟩
  rw [← HX.out]
  rfl
set_option maxRecDepth 100000 in
set_option maxHeartbeats 12800000 in
theorem cchecks_any (fb fo fi : Nat → UInt8) (z : Int) (u : Nat) (hu : IntKind.u64.wrap z = (u : Int)) (a : Option Addr) (n c : Nat) (l : List UInt8) (w : World) (h : Came w a n c l) (hE : Env w) (hR : REnv w) :
    Calls Tryd.prog 4 #[.agg (ub 32 fb), .agg (ub 32 fo), .agg (wh fi z a n c)] w fun e w' => e = .returned (.bool true) ∧ Fr (fun _ => False) w w' := by
  obtain ⟨q, hq⟩ : ∃ q, q = min n 200 := ⟨_, rfl⟩
  have hq3 : q ≤ 200 := by omega
  have hxl : (l.take q).length = q := by rw [List.length_take, h.len]; omega
  have hvl := fun (W : World) (hC : Came W a n c l) => value_new fi z a n c q l W hC hq
  obtain ⟨x, hx⟩ : ∃ x, x = l.take q := ⟨_, rfl⟩
  rw [← hx] at hxl hvl
  have p0 : Part (wh fi z a n c) 0 (ub 32 fi) := Part.left _ _
  have hcz := wh_int fi z a n c
  have hsw := wh_size fi z a n c
  generalize wh fi z a n c = S at *
  obtain ⟨kl, hkl⟩ : ∃ kl, kl = (List.range 32).map fo := ⟨_, rfl⟩
  obtain ⟨il, hil⟩ : ∃ il, il = (List.range 32).map fi := ⟨_, rfl⟩
  have kl32 : kl.length = 32 := by rw [hkl]; simp
  have il32 : il.length = 32 := by rw [hil]; simp
  have hbd := fun (W : World) (b : Option Addr) (d : Nat) (hC : Came W b q d x) (hE : Env W) => bind_any fo fi z u hu b q d x W hC (by omega) hE
  have hbo := fun (W : World) (hR : REnv W) => rbound_any kl il x z u hu (by omega) (by omega) (by omega) W hR
  have hrt := fun (W : World) (hR : REnv W) => rtexts_any kl il x z u hu (by omega) (by omega) (by omega) W hR
  rw [HM.of_eq] at hbo
  rw [← hkl, ← hil] at hbd
  obtain ⟨X, hX⟩ : ∃ X, X = HM.out kl (CM.mb il u x) := ⟨_, rfl⟩
  obtain ⟨T1, hT1⟩ : ∃ T1, T1 = HM.inn kl (CM.mb il u x) := ⟨_, rfl⟩
  have hct := fun (W : World) (b : Option Addr) (d : Nat) (hC : Came W b q d x) (hE : Env W) => ctexts_any fo fi z u hu b q d x W hC (by omega) hE kl il T1 X hkl hil hT1 hX
  have hXb : X.length ≤ 1000 := by rw [hX]; simp [HM.out, HM.xor_length, sum_length]
  rw [← hX] at hbd hbo
  rw [← hX, ← hT1] at hrt
  have hsm := fun (W : World) (hR : REnv W) => rsum_any ⟨X.toArray⟩ (by show X.toArray.size ≤ _; simp; omega) W hR
  rw [show sb ⟨X.toArray⟩ = X by simp [sb]] at hsm
  obtain ⟨XL, hXL⟩ : ∃ XL, XL = S2.sum X := ⟨_, rfl⟩
  have hXl : XL.length = 32 := by rw [hXL]; exact sum_length _
  have hXc : (bv XL).toArray = ub 32 (fun j => XL.getD j 0) := by rw [hXL]; exact sumc_bv X
  rw [← hXL] at hbo hsm
  have HX := Lib.hid hxl
  have HKL := Lib.hid hkl
  have HIL := Lib.hid hil
  have HK32 := Lib.hid kl32
  have HI32 := Lib.hid il32
  have HXL := Lib.hid hXL
  have HXl := Lib.hid hXl
  have HXc := Lib.hid hXc
  have HBD := Lib.hid hbd
  have HBO := Lib.hid hbo
  have HRT := Lib.hid hrt
  have HCT := Lib.hid hct
  have HSM := Lib.hid hsm
  have HVL := Lib.hid hvl
  clear hxl hkl hil kl32 il32 hXL hXl hXc hbd hbo hrt hct hsm hvl hX hT1 hXb hx hq hu
  obtain ⟨s, hs⟩ : ∃ s : Nat, s = (fb 0).toNat := ⟨_, rfl⟩
  have hsb : s < 256 := by rw [hs]; exact (fb 0).toNat_lt
  have hf0 : (ub 32 fb)[0]? = some (.int .u8 (s : Int)) := by rw [ub_get 32 fb 0 (by omega), hs]
  clear hs
  have K := (((Kn.start w).new (w.heap.size) 32 (ub 32 fb) 22 rfl (ub_size _ _)).new (w.heap.size + 1) 32 (ub 32 fo) 22 (by simp) (ub_size _ _)).new (w.heap.size + 1 + 1) 34 S 25 (by simp) hsw
  go_enter Tryd.func4, Tryd.ntmps4
  go_wp2_with (((with_reducible refine' wpList_load_kn K rfl 25 (.tmp 5) rfl 0 _ _ _ _ rfl _ Tryd.underlying25 rfl Tryd.szWh _ _); rotate_left 2; (focus exact rfl)))
  refine (HVL.out _ (h.grow K.fr (fun _ _ h => h))).mono ?_
  rintro e w2 ⟨a3, c3, rfl, C2, N2, G2⟩
  have N3 : ∀ k, inBlk a3 k → ¬ (k = w.heap.size) := fun k hk e => by have := N2 k hk; simp at this; omega
  clear N2
  have K2 := K.call G2
  clear K
  have K := K2
  clear K2 G2
  have LK := row_lies (K.heap 1 rfl) HKL.out
  have LI : Lies w2 (some ⟨w.heap.size + 1 + 1, 0, none⟩) il := Or.inr ⟨_, 0, rfl, fun j hj => by
    rw [cell_of_block (K.heap 0 rfl)]
    refine p0 j _ ?_
    rw [ub_get 32 _ j (by have := HI32.out; omega)]
    simp [HIL.out]⟩
  have cv0 : ∀ y : Wd w2, (convert 23 9 (.slice (some ⟨w.heap.size + 1, 0, none⟩) 32 32)).run Tryd.prog y.w = .ok (.string ⟨kl.toArray⟩) y.w := fun y => by
      have := run_str (LK.grow y.h) 32 9 Tryd.underlying9
      rwa [HK32.out] at this
  have cv1 : ∀ y : Wd w2, (convert 23 9 (.slice (some ⟨w.heap.size + 1 + 1, 0, none⟩) 32 32)).run Tryd.prog y.w = .ok (.string ⟨il.toArray⟩) y.w := fun y => by
      have := run_str (LI.grow y.h) 32 9 Tryd.underlying9
      rwa [HI32.out] at this
  have cvx : ∀ y : Wd w2, (convert 23 9 (.slice a3 q c3)).run Tryd.prog y.w = .ok (.string ⟨x.toArray⟩) y.w := fun y => (C2.grow y.h (fun _ _ h => h)).str2
  have hcd : ∀ y : Wd w2, y.w.cell? ⟨w.heap.size + 1 + 1, 32, none⟩ = some (.int .i64 z) := fun y => K.celld y 0 rfl 32 hcz
  have hbo := fun y : Wd w2 => HBO.out y.w (hR.fr (Ex.tr K.fr y.h) (fun h => h) (fun h => h))
  go_wp2_with fail
  refine wp_region_keep (by kernel_rfl) (by kernel_rfl) ?_
  repeat (any_goals (first | go_big_quiet_step ((first | (go_at_call 14; with_reducible exact Calls.keep (hbo _)))) | quiet_step ((first | (go_at_call 14; with_reducible exact Calls.keep (hbo _))))))
  refine wpQuiet_nil ?_
  intro _ hwz
  obtain ⟨y, rfl⟩ := hwz
  have K2 := K.call y.h
  have C3 := C2.grow y.h (fun _ _ h => h)
  clear K cv0 cv1 cvx hcd hbo LK LI C2
  have K := K2
  clear K2
  generalize y.w = w5 at *
  clear y
  have hb0 := K.cell 2 rfl 0 hf0
  have z0 : (0 : Int) ≤ (s : Int) := by omega
  by_cases hpar : s % 2 = 0
  · have e1 : ((s : Int).tmod 2 == 0) = true := by rw [Int.tmod_eq_emod_of_nonneg z0]; simp; omega
    have e2 : (s % 2 == 0) = true := by simpa using hpar
    have e3 : ((s : Int) % 2 == 0) = true := by simp; omega
    have w1 : IntKind.u8.wrap ((s : Int).tmod 2) = (s : Int).tmod 2 := by rw [Int.tmod_eq_emod_of_nonneg z0, IntKind.wrap_u8]; omega
    clear hpar
    go_upto_region 5 with (refine wpList_copy_strF K rfl (.tmp 28) (.tmp 29) rfl 2 _ _ _ XL HXl.out rfl rfl rfl ?_; intro wv K6 F6; clear K; have K := K6; clear K6; simp only [List.set_cons_zero, List.set_cons_succ] at K; try (simp only [Act.put, List.setIfInBounds_toArray, List.set_cons_zero, List.set_cons_succ]))
    rw [HXc.out] at K
    have Cv : Came wv a3 q c3 x := ⟨C3.len, C3.le, C3.mx, C3.lies.fr F6 N3, C3.nil⟩
    obtain ⟨bl, hbl⟩ : ∃ bl, bl = (List.range 32).map (fun j => XL.getD j 0) := ⟨_, rfl⟩
    have hq : XL = bl := by rw [hbl]; exact (map_getD32 XL HXl.out).symm
    have HBL := Lib.hid hbl
    obtain ⟨g, hg⟩ : ∃ g : Nat → UInt8, g = fun j => XL.getD j 0 := ⟨_, rfl⟩
    rw [← hg] at K HBL
    clear C3 F6 N3 hb0 e1 e2 e3 w1 hbl hg
    · as_aux_lemma =>
      have NE : ∀ W : World, (binOp .neq 22 (.agg (sumc X)) (.agg (ub 32 g))).run Tryd.prog W = .ok (.bool false) W := fun W => by
        rw [sumc_ub, neq_ub _ g XL bl (by rw [← HXL.out]; exact (map_getD32 XL HXl.out).symm) HBL.out, str_eq XL bl hq]; rfl
      have eqb : (bl == XL) = true := str_eq bl XL hq.symm
      have HBl := Lib.hid (show bl.length = 32 by rw [HBL.out]; simp)
      clear hq
      have hck := check_good z a3 q c3 (ub 32 g) (ub 32 fo) (ub 32 fi) (sumc X) wv (fun W hF => HBD.out W a3 c3 (Cv.grow hF (fun _ _ h => h)) (hE.fr (Ex.tr K.fr hF) (fun h => h))) NE ⟨ub_size _ _, ub_one _ _⟩ ⟨ub_size _ _, ub_one _ _⟩ ⟨ub_size _ _, ub_one _ _⟩ ⟨sumv_size _, sumv_one _⟩
      clear NE
      have hcA := K.cell 0 rfl 32 hcz
      go_wp2_with (first | ((with_reducible refine' wpList_load_kn K rfl 22 (.tmp 3) rfl 2 _ _ _ _ rfl _ Tryd.underlying22 rfl Tryd.szBa _ _); rotate_left 2; (focus exact rfl)) | ((with_reducible refine' wpList_load_kn K rfl 22 (.tmp 4) rfl 1 _ _ _ _ rfl _ Tryd.underlying22 rfl Tryd.szBa _ _); rotate_left 2; (focus exact rfl)) | ((with_reducible refine' wpList_load_pt K rfl 22 (.tmp 33) rfl 0 _ _ 0 32 _ _ _ rfl _ Tryd.underlying22 rfl Tryd.szBa _ p0 (ub_size _ _) _); rotate_left 2; (focus exact rfl)))
      refine hck.mono ?_
      clear hck
      rintro e w6 ⟨rfl, F6⟩
      have K6 := K.call F6
      have C6 := Cv.grow F6 (fun _ _ h => h)
      clear K Cv hcA
      have K := K6
      clear K6 F6
      have hcA := K.cell 0 rfl 32 hcz
      have htx := HCT.out w6 a3 c3 C6 (hE.fr K.fr (fun h => h))
      go_wp2_with (first | ((with_reducible refine' wpList_load_kn K rfl 22 (.tmp 4) rfl 1 _ _ _ _ rfl _ Tryd.underlying22 rfl Tryd.szBa _ _); rotate_left 2; (focus exact rfl)) | ((with_reducible refine' wpList_load_pt K rfl 22 (.tmp 40) rfl 0 _ _ 0 32 _ _ _ rfl _ Tryd.underlying22 rfl Tryd.szBa _ p0 (ub_size _ _) _); rotate_left 2; (focus exact rfl)))
      refine htx.mono ?_
      clear htx
      rintro e w7 ⟨bT, aT, cT, aU, cU, rfl, BT, DT, DU, F7⟩
      have K7 := K.call F7
      have C7 := C6.grow F7 (fun _ _ h => h)
      clear K C6 hcA
      have K := K7
      clear K7 F7
      have LK := row_lies (K.heap 1 rfl) HKL.out
      have LI : Lies w7 (some ⟨w.heap.size + 1 + 1, 0, none⟩) il := Or.inr ⟨_, 0, rfl, fun j hj => by
        rw [cell_of_block (K.heap 0 rfl)]
        refine p0 j _ ?_
        rw [ub_get 32 _ j (by have := HI32.out; omega)]
        simp [HIL.out]⟩
      go_wp2_with fail
      refine wp_region_mono (sg 0 9 ++ ((9, true) :: (sg 10 1 ++ []))) (by kernel_rfl) (by kernel_rfl) ?_
      refine Wk.seg 0 9 (by kernel_rfl) (by kernel_rfl) ?_
      apply Exists.intro
      refine ⟨?wk0, ?fin0⟩
      case wk0 =>
        intro γ
        have hcg : ∀ y : Wg γ, y.w.cell? ⟨w.heap.size + 1 + 1, 32, none⟩ = some (.int .i64 z) := fun y => K.cellg y 0 rfl 32 hcz
        have cvx : ∀ y : Wg γ, (convert 23 9 (.slice a3 q c3)).run Tryd.prog y.w = .ok (.string ⟨x.toArray⟩) y.w := fun y => (C7.grow y.h (fun _ _ h => h)).str2
        have cvk : ∀ y : Wg γ, (convert 23 9 (.slice (some ⟨w.heap.size + 1, 0, none⟩) 32 32)).run Tryd.prog y.w = .ok (.string ⟨kl.toArray⟩) y.w := fun y => by
          have := run_str (LK.grow y.h) 32 9 Tryd.underlying9
          rwa [HK32.out] at this
        have cvi : ∀ y : Wg γ, (convert 23 9 (.slice (some ⟨w.heap.size + 1 + 1, 0, none⟩) 32 32)).run Tryd.prog y.w = .ok (.string ⟨il.toArray⟩) y.w := fun y => by
          have := run_str (LI.grow y.h) 32 9 Tryd.underlying9
          rwa [HI32.out] at this
        simp only [List.drop_succ_cons, List.drop_zero, List.take_succ_cons, List.take_zero]
        repeat (any_goals (first | go_big_quiet_step (fail) | quiet_step (fail)))
        exact wpQuiet_nil rfl
      case fin0 =>
      (try simp only [Act.put, List.setIfInBounds_toArray, List.set_cons_zero, List.set_cons_succ])
      refine Wk.call rfl rfl 17 #[.string ⟨kl.toArray⟩, .string ⟨il.toArray⟩, .int .i64 z, .string ⟨x.toArray⟩] (fun W => by kernel_rfl) (fun v W => ∃ b, v = .slice (some ⟨b, 0, none⟩) 2 2 ∧ W.heap[b]? = some (.cells #[.string ⟨T1.toArray⟩, .string ⟨X.toArray⟩] 9 (0, 0))) (fun W hx => (HRT.out W (hR.fr (Ex.tr K.fr hx) (fun h => h) (fun h => h))).mono ?_) ?_
      · rintro e W' ⟨b, rfl, hb, F⟩
        exact ⟨_, rfl, F, b, rfl, hb⟩
      rintro v w8 X8 ⟨bR, rfl, BR⟩
      simp only [List.getElem_toArray, List.getElem_cons_succ, List.getElem_cons_zero, Act.put, List.setIfInBounds_toArray, List.set_cons_zero, List.set_cons_succ]
      refine Wk.seg 10 1 (by kernel_rfl) (by kernel_rfl) ?_
      apply Exists.intro
      refine ⟨?wk10, ?fin10⟩
      case wk10 =>
        intro γ
        simp only [List.drop_succ_cons, List.drop_zero, List.take_succ_cons, List.take_zero]
        repeat (any_goals (first | go_big_quiet_step (fail) | quiet_step (fail)))
        exact wpQuiet_nil rfl
      case fin10 =>
      (try simp only [Act.put, List.setIfInBounds_toArray, List.set_cons_zero, List.set_cons_succ])
      intro w9 X9
      have X7 := Ex.tr X8 X9
      have K9 := K.call X7
      have BT9 := (X7.block _ (lt_of_block BT) (fun h => h)).trans BT
      have BR9 := (X9.block _ (lt_of_block BR) (fun h => h)).trans BR
      have DT9 := DT.grow X7 (fun _ _ h => h)
      have DU9 := DU.grow X7 (fun _ _ h => h)
      clear K LK LI C7 BT BR DT DU X8 X9 X7
      have K := K9
      clear K9
      have LB := row_lies (K.heap 2 rfl) HBL.out
      go_wp2_with fail
      refine (binds_any _ (hE.fr K.fr (fun h => h))).mono ?_
      rintro e wA ⟨rfl, FA⟩
      have KA := K.call FA
      have BTA := (FA.block _ (lt_of_block BT9) (fun h => h)).trans BT9
      have BRA := (FA.block _ (lt_of_block BR9) (fun h => h)).trans BR9
      have DTA := DT9.grow FA (fun _ _ h => h)
      have DUA := DU9.grow FA (fun _ _ h => h)
      have LBA := LB.grow FA
      clear K BT9 BR9 DT9 DU9 LB FA
      have K := KA
      clear KA
      have cvb : (convert 23 9 (.slice (some ⟨w.heap.size, 0, none⟩) 32 32)).run Tryd.prog wA = .ok (.string ⟨bl.toArray⟩) wA := by
        have := run_str LBA 32 9 Tryd.underlying9
        rwa [HBl.out] at this
      go_wp2_with fail
      have ct0 : ∀ y : Wd wA, y.w.cell? ⟨bT, 0, none⟩ = some (.slice aT T1.length cT) := fun y => by rw [cell_of_block ((y.h.block _ (lt_of_block BTA) (fun h => h)).trans BTA)]; rfl
      have ct1 : ∀ y : Wd wA, y.w.cell? ⟨bT, 1, none⟩ = some (.slice aU X.length cU) := fun y => by rw [cell_of_block ((y.h.block _ (lt_of_block BTA) (fun h => h)).trans BTA)]; rfl
      have cr0 : ∀ y : Wd wA, y.w.cell? ⟨bR, 0, none⟩ = some (.string ⟨T1.toArray⟩) := fun y => by rw [cell_of_block ((y.h.block _ (lt_of_block BRA) (fun h => h)).trans BRA)]; rfl
      have cr1 : ∀ y : Wd wA, y.w.cell? ⟨bR, 1, none⟩ = some (.string ⟨X.toArray⟩) := fun y => by rw [cell_of_block ((y.h.block _ (lt_of_block BRA) (fun h => h)).trans BRA)]; rfl
      have cs0 : ∀ y : Wd wA, (convert 23 9 (.slice aT T1.length cT)).run Tryd.prog y.w = .ok (.string ⟨T1.toArray⟩) y.w := fun y => (DTA.grow y.h (fun _ _ h => h)).str2
      have cs1 : ∀ y : Wd wA, (convert 23 9 (.slice aU X.length cU)).run Tryd.prog y.w = .ok (.string ⟨X.toArray⟩) y.w := fun y => (DUA.grow y.h (fun _ _ h => h)).str2
      have hsm := fun y : Wd wA => HSM.out y.w (hR.fr (Ex.tr K.fr y.h) (fun h => h) (fun h => h))
      refine wp_region_keep (by kernel_rfl) (by kernel_rfl) ?_
      repeat (any_goals (first | go_big_quiet_step ((first | (go_at_call 18; with_reducible exact Calls.keep (hsm _)))) | quiet_step ((first | (go_at_call 18; with_reducible exact Calls.keep (hsm _))))))
      refine wpQuiet_nil ?_
      intro _ hwz
      obtain ⟨y, rfl⟩ := hwz
      go_wp2_with fail
      go_ret
      exact ⟨rfl, Ex.tr K.fr y.h⟩
  · have e1 : ((s : Int).tmod 2 == 0) = false := by rw [Int.tmod_eq_emod_of_nonneg z0]; simp; omega
    have e2 : (s % 2 == 0) = false := by simpa using hpar
    have e3 : ((s : Int) % 2 == 0) = false := by simp; omega
    clear hpar
    go_upto_region 5 with fail
    obtain ⟨bl, hbl⟩ : ∃ bl, bl = (List.range 32).map fb := ⟨_, rfl⟩
    have HBL := Lib.hid hbl
    have Cv := C3
    obtain ⟨g, hg⟩ : ∃ g : Nat → UInt8, g = fb := ⟨_, rfl⟩
    rw [← hg] at K HBL
    clear C3 N3 hb0 e1 e2 e3 hbl hf0 hg
    generalize w5 = wv at *
    by_cases hq : XL = bl
    · as_aux_lemma =>
      have NE : ∀ W : World, (binOp .neq 22 (.agg (sumc X)) (.agg (ub 32 g))).run Tryd.prog W = .ok (.bool false) W := fun W => by
        rw [sumc_ub, neq_ub _ g XL bl (by rw [← HXL.out]; exact (map_getD32 XL HXl.out).symm) HBL.out, str_eq XL bl hq]; rfl
      have eqb : (bl == XL) = true := str_eq bl XL hq.symm
      have HBl := Lib.hid (show bl.length = 32 by rw [HBL.out]; simp)
      clear hq
      have hck := check_good z a3 q c3 (ub 32 g) (ub 32 fo) (ub 32 fi) (sumc X) wv (fun W hF => HBD.out W a3 c3 (Cv.grow hF (fun _ _ h => h)) (hE.fr (Ex.tr K.fr hF) (fun h => h))) NE ⟨ub_size _ _, ub_one _ _⟩ ⟨ub_size _ _, ub_one _ _⟩ ⟨ub_size _ _, ub_one _ _⟩ ⟨sumv_size _, sumv_one _⟩
      clear NE
      have hcA := K.cell 0 rfl 32 hcz
      go_wp2_with (first | ((with_reducible refine' wpList_load_kn K rfl 22 (.tmp 3) rfl 2 _ _ _ _ rfl _ Tryd.underlying22 rfl Tryd.szBa _ _); rotate_left 2; (focus exact rfl)) | ((with_reducible refine' wpList_load_kn K rfl 22 (.tmp 4) rfl 1 _ _ _ _ rfl _ Tryd.underlying22 rfl Tryd.szBa _ _); rotate_left 2; (focus exact rfl)) | ((with_reducible refine' wpList_load_pt K rfl 22 (.tmp 33) rfl 0 _ _ 0 32 _ _ _ rfl _ Tryd.underlying22 rfl Tryd.szBa _ p0 (ub_size _ _) _); rotate_left 2; (focus exact rfl)))
      refine hck.mono ?_
      clear hck
      rintro e w6 ⟨rfl, F6⟩
      have K6 := K.call F6
      have C6 := Cv.grow F6 (fun _ _ h => h)
      clear K Cv hcA
      have K := K6
      clear K6 F6
      have hcA := K.cell 0 rfl 32 hcz
      have htx := HCT.out w6 a3 c3 C6 (hE.fr K.fr (fun h => h))
      go_wp2_with (first | ((with_reducible refine' wpList_load_kn K rfl 22 (.tmp 4) rfl 1 _ _ _ _ rfl _ Tryd.underlying22 rfl Tryd.szBa _ _); rotate_left 2; (focus exact rfl)) | ((with_reducible refine' wpList_load_pt K rfl 22 (.tmp 40) rfl 0 _ _ 0 32 _ _ _ rfl _ Tryd.underlying22 rfl Tryd.szBa _ p0 (ub_size _ _) _); rotate_left 2; (focus exact rfl)))
      refine htx.mono ?_
      clear htx
      rintro e w7 ⟨bT, aT, cT, aU, cU, rfl, BT, DT, DU, F7⟩
      have K7 := K.call F7
      have C7 := C6.grow F7 (fun _ _ h => h)
      clear K C6 hcA
      have K := K7
      clear K7 F7
      have LK := row_lies (K.heap 1 rfl) HKL.out
      have LI : Lies w7 (some ⟨w.heap.size + 1 + 1, 0, none⟩) il := Or.inr ⟨_, 0, rfl, fun j hj => by
        rw [cell_of_block (K.heap 0 rfl)]
        refine p0 j _ ?_
        rw [ub_get 32 _ j (by have := HI32.out; omega)]
        simp [HIL.out]⟩
      go_wp2_with fail
      refine wp_region_mono (sg 0 9 ++ ((9, true) :: (sg 10 1 ++ []))) (by kernel_rfl) (by kernel_rfl) ?_
      refine Wk.seg 0 9 (by kernel_rfl) (by kernel_rfl) ?_
      apply Exists.intro
      refine ⟨?wk0, ?fin0⟩
      case wk0 =>
        intro γ
        have hcg : ∀ y : Wg γ, y.w.cell? ⟨w.heap.size + 1 + 1, 32, none⟩ = some (.int .i64 z) := fun y => K.cellg y 0 rfl 32 hcz
        have cvx : ∀ y : Wg γ, (convert 23 9 (.slice a3 q c3)).run Tryd.prog y.w = .ok (.string ⟨x.toArray⟩) y.w := fun y => (C7.grow y.h (fun _ _ h => h)).str2
        have cvk : ∀ y : Wg γ, (convert 23 9 (.slice (some ⟨w.heap.size + 1, 0, none⟩) 32 32)).run Tryd.prog y.w = .ok (.string ⟨kl.toArray⟩) y.w := fun y => by
          have := run_str (LK.grow y.h) 32 9 Tryd.underlying9
          rwa [HK32.out] at this
        have cvi : ∀ y : Wg γ, (convert 23 9 (.slice (some ⟨w.heap.size + 1 + 1, 0, none⟩) 32 32)).run Tryd.prog y.w = .ok (.string ⟨il.toArray⟩) y.w := fun y => by
          have := run_str (LI.grow y.h) 32 9 Tryd.underlying9
          rwa [HI32.out] at this
        simp only [List.drop_succ_cons, List.drop_zero, List.take_succ_cons, List.take_zero]
        repeat (any_goals (first | go_big_quiet_step (fail) | quiet_step (fail)))
        exact wpQuiet_nil rfl
      case fin0 =>
      (try simp only [Act.put, List.setIfInBounds_toArray, List.set_cons_zero, List.set_cons_succ])
      refine Wk.call rfl rfl 17 #[.string ⟨kl.toArray⟩, .string ⟨il.toArray⟩, .int .i64 z, .string ⟨x.toArray⟩] (fun W => by kernel_rfl) (fun v W => ∃ b, v = .slice (some ⟨b, 0, none⟩) 2 2 ∧ W.heap[b]? = some (.cells #[.string ⟨T1.toArray⟩, .string ⟨X.toArray⟩] 9 (0, 0))) (fun W hx => (HRT.out W (hR.fr (Ex.tr K.fr hx) (fun h => h) (fun h => h))).mono ?_) ?_
      · rintro e W' ⟨b, rfl, hb, F⟩
        exact ⟨_, rfl, F, b, rfl, hb⟩
      rintro v w8 X8 ⟨bR, rfl, BR⟩
      simp only [List.getElem_toArray, List.getElem_cons_succ, List.getElem_cons_zero, Act.put, List.setIfInBounds_toArray, List.set_cons_zero, List.set_cons_succ]
      refine Wk.seg 10 1 (by kernel_rfl) (by kernel_rfl) ?_
      apply Exists.intro
      refine ⟨?wk10, ?fin10⟩
      case wk10 =>
        intro γ
        simp only [List.drop_succ_cons, List.drop_zero, List.take_succ_cons, List.take_zero]
        repeat (any_goals (first | go_big_quiet_step (fail) | quiet_step (fail)))
        exact wpQuiet_nil rfl
      case fin10 =>
      (try simp only [Act.put, List.setIfInBounds_toArray, List.set_cons_zero, List.set_cons_succ])
      intro w9 X9
      have X7 := Ex.tr X8 X9
      have K9 := K.call X7
      have BT9 := (X7.block _ (lt_of_block BT) (fun h => h)).trans BT
      have BR9 := (X9.block _ (lt_of_block BR) (fun h => h)).trans BR
      have DT9 := DT.grow X7 (fun _ _ h => h)
      have DU9 := DU.grow X7 (fun _ _ h => h)
      clear K LK LI C7 BT BR DT DU X8 X9 X7
      have K := K9
      clear K9
      have LB := row_lies (K.heap 2 rfl) HBL.out
      go_wp2_with fail
      refine (binds_any _ (hE.fr K.fr (fun h => h))).mono ?_
      rintro e wA ⟨rfl, FA⟩
      have KA := K.call FA
      have BTA := (FA.block _ (lt_of_block BT9) (fun h => h)).trans BT9
      have BRA := (FA.block _ (lt_of_block BR9) (fun h => h)).trans BR9
      have DTA := DT9.grow FA (fun _ _ h => h)
      have DUA := DU9.grow FA (fun _ _ h => h)
      have LBA := LB.grow FA
      clear K BT9 BR9 DT9 DU9 LB FA
      have K := KA
      clear KA
      have cvb : (convert 23 9 (.slice (some ⟨w.heap.size, 0, none⟩) 32 32)).run Tryd.prog wA = .ok (.string ⟨bl.toArray⟩) wA := by
        have := run_str LBA 32 9 Tryd.underlying9
        rwa [HBl.out] at this
      go_wp2_with fail
      have ct0 : ∀ y : Wd wA, y.w.cell? ⟨bT, 0, none⟩ = some (.slice aT T1.length cT) := fun y => by rw [cell_of_block ((y.h.block _ (lt_of_block BTA) (fun h => h)).trans BTA)]; rfl
      have ct1 : ∀ y : Wd wA, y.w.cell? ⟨bT, 1, none⟩ = some (.slice aU X.length cU) := fun y => by rw [cell_of_block ((y.h.block _ (lt_of_block BTA) (fun h => h)).trans BTA)]; rfl
      have cr0 : ∀ y : Wd wA, y.w.cell? ⟨bR, 0, none⟩ = some (.string ⟨T1.toArray⟩) := fun y => by rw [cell_of_block ((y.h.block _ (lt_of_block BRA) (fun h => h)).trans BRA)]; rfl
      have cr1 : ∀ y : Wd wA, y.w.cell? ⟨bR, 1, none⟩ = some (.string ⟨X.toArray⟩) := fun y => by rw [cell_of_block ((y.h.block _ (lt_of_block BRA) (fun h => h)).trans BRA)]; rfl
      have cs0 : ∀ y : Wd wA, (convert 23 9 (.slice aT T1.length cT)).run Tryd.prog y.w = .ok (.string ⟨T1.toArray⟩) y.w := fun y => (DTA.grow y.h (fun _ _ h => h)).str2
      have cs1 : ∀ y : Wd wA, (convert 23 9 (.slice aU X.length cU)).run Tryd.prog y.w = .ok (.string ⟨X.toArray⟩) y.w := fun y => (DUA.grow y.h (fun _ _ h => h)).str2
      have hsm := fun y : Wd wA => HSM.out y.w (hR.fr (Ex.tr K.fr y.h) (fun h => h) (fun h => h))
      refine wp_region_keep (by kernel_rfl) (by kernel_rfl) ?_
      repeat (any_goals (first | go_big_quiet_step ((first | (go_at_call 18; with_reducible exact Calls.keep (hsm _)))) | quiet_step ((first | (go_at_call 18; with_reducible exact Calls.keep (hsm _))))))
      refine wpQuiet_nil ?_
      intro _ hwz
      obtain ⟨y, rfl⟩ := hwz
      go_wp2_with fail
      go_ret
      exact ⟨rfl, Ex.tr K.fr y.h⟩
    · as_aux_lemma =>
      have NE : ∀ W : World, (binOp .neq 22 (.agg (sumc X)) (.agg (ub 32 g))).run Tryd.prog W = .ok (.bool true) W := fun W => by
        rw [sumc_ub, neq_ub _ g XL bl (by rw [← HXL.out]; exact (map_getD32 XL HXl.out).symm) HBL.out, str_ne XL bl hq]; rfl
      have eqb : (bl == XL) = false := str_ne bl XL (fun h => hq h.symm)
      have HBl := Lib.hid (show bl.length = 32 by rw [HBL.out]; simp)
      clear hq
      have hck := check_bad z a3 q c3 (ub 32 g) (ub 32 fo) (ub 32 fi) (sumc X) wv (fun W hF => HBD.out W a3 c3 (Cv.grow hF (fun _ _ h => h)) (hE.fr (Ex.tr K.fr hF) (fun h => h))) NE ⟨ub_size _ _, ub_one _ _⟩ ⟨ub_size _ _, ub_one _ _⟩ ⟨ub_size _ _, ub_one _ _⟩ ⟨sumv_size _, sumv_one _⟩
      clear NE
      have hcA := K.cell 0 rfl 32 hcz
      go_wp2_with (first | ((with_reducible refine' wpList_load_kn K rfl 22 (.tmp 3) rfl 2 _ _ _ _ rfl _ Tryd.underlying22 rfl Tryd.szBa _ _); rotate_left 2; (focus exact rfl)) | ((with_reducible refine' wpList_load_kn K rfl 22 (.tmp 4) rfl 1 _ _ _ _ rfl _ Tryd.underlying22 rfl Tryd.szBa _ _); rotate_left 2; (focus exact rfl)) | ((with_reducible refine' wpList_load_pt K rfl 22 (.tmp 33) rfl 0 _ _ 0 32 _ _ _ rfl _ Tryd.underlying22 rfl Tryd.szBa _ p0 (ub_size _ _) _); rotate_left 2; (focus exact rfl)))
      refine hck.mono ?_
      clear hck
      rintro e w6 ⟨rfl, F6⟩
      have K6 := K.call F6
      have C6 := Cv.grow F6 (fun _ _ h => h)
      clear K Cv hcA
      have K := K6
      clear K6 F6
      have hcA := K.cell 0 rfl 32 hcz
      have htx := HCT.out w6 a3 c3 C6 (hE.fr K.fr (fun h => h))
      go_wp2_with (first | ((with_reducible refine' wpList_load_kn K rfl 22 (.tmp 4) rfl 1 _ _ _ _ rfl _ Tryd.underlying22 rfl Tryd.szBa _ _); rotate_left 2; (focus exact rfl)) | ((with_reducible refine' wpList_load_pt K rfl 22 (.tmp 40) rfl 0 _ _ 0 32 _ _ _ rfl _ Tryd.underlying22 rfl Tryd.szBa _ p0 (ub_size _ _) _); rotate_left 2; (focus exact rfl)))
      refine htx.mono ?_
      clear htx
      rintro e w7 ⟨bT, aT, cT, aU, cU, rfl, BT, DT, DU, F7⟩
      have K7 := K.call F7
      have C7 := C6.grow F7 (fun _ _ h => h)
      clear K C6 hcA
      have K := K7
      clear K7 F7
      have LK := row_lies (K.heap 1 rfl) HKL.out
      have LI : Lies w7 (some ⟨w.heap.size + 1 + 1, 0, none⟩) il := Or.inr ⟨_, 0, rfl, fun j hj => by
        rw [cell_of_block (K.heap 0 rfl)]
        refine p0 j _ ?_
        rw [ub_get 32 _ j (by have := HI32.out; omega)]
        simp [HIL.out]⟩
      go_wp2_with fail
      refine wp_region_mono (sg 0 9 ++ ((9, true) :: (sg 10 1 ++ []))) (by kernel_rfl) (by kernel_rfl) ?_
      refine Wk.seg 0 9 (by kernel_rfl) (by kernel_rfl) ?_
      apply Exists.intro
      refine ⟨?wk0, ?fin0⟩
      case wk0 =>
        intro γ
        have hcg : ∀ y : Wg γ, y.w.cell? ⟨w.heap.size + 1 + 1, 32, none⟩ = some (.int .i64 z) := fun y => K.cellg y 0 rfl 32 hcz
        have cvx : ∀ y : Wg γ, (convert 23 9 (.slice a3 q c3)).run Tryd.prog y.w = .ok (.string ⟨x.toArray⟩) y.w := fun y => (C7.grow y.h (fun _ _ h => h)).str2
        have cvk : ∀ y : Wg γ, (convert 23 9 (.slice (some ⟨w.heap.size + 1, 0, none⟩) 32 32)).run Tryd.prog y.w = .ok (.string ⟨kl.toArray⟩) y.w := fun y => by
          have := run_str (LK.grow y.h) 32 9 Tryd.underlying9
          rwa [HK32.out] at this
        have cvi : ∀ y : Wg γ, (convert 23 9 (.slice (some ⟨w.heap.size + 1 + 1, 0, none⟩) 32 32)).run Tryd.prog y.w = .ok (.string ⟨il.toArray⟩) y.w := fun y => by
          have := run_str (LI.grow y.h) 32 9 Tryd.underlying9
          rwa [HI32.out] at this
        simp only [List.drop_succ_cons, List.drop_zero, List.take_succ_cons, List.take_zero]
        repeat (any_goals (first | go_big_quiet_step (fail) | quiet_step (fail)))
        exact wpQuiet_nil rfl
      case fin0 =>
      (try simp only [Act.put, List.setIfInBounds_toArray, List.set_cons_zero, List.set_cons_succ])
      refine Wk.call rfl rfl 17 #[.string ⟨kl.toArray⟩, .string ⟨il.toArray⟩, .int .i64 z, .string ⟨x.toArray⟩] (fun W => by kernel_rfl) (fun v W => ∃ b, v = .slice (some ⟨b, 0, none⟩) 2 2 ∧ W.heap[b]? = some (.cells #[.string ⟨T1.toArray⟩, .string ⟨X.toArray⟩] 9 (0, 0))) (fun W hx => (HRT.out W (hR.fr (Ex.tr K.fr hx) (fun h => h) (fun h => h))).mono ?_) ?_
      · rintro e W' ⟨b, rfl, hb, F⟩
        exact ⟨_, rfl, F, b, rfl, hb⟩
      rintro v w8 X8 ⟨bR, rfl, BR⟩
      simp only [List.getElem_toArray, List.getElem_cons_succ, List.getElem_cons_zero, Act.put, List.setIfInBounds_toArray, List.set_cons_zero, List.set_cons_succ]
      refine Wk.seg 10 1 (by kernel_rfl) (by kernel_rfl) ?_
      apply Exists.intro
      refine ⟨?wk10, ?fin10⟩
      case wk10 =>
        intro γ
        simp only [List.drop_succ_cons, List.drop_zero, List.take_succ_cons, List.take_zero]
        repeat (any_goals (first | go_big_quiet_step (fail) | quiet_step (fail)))
        exact wpQuiet_nil rfl
      case fin10 =>
      (try simp only [Act.put, List.setIfInBounds_toArray, List.set_cons_zero, List.set_cons_succ])
      intro w9 X9
      have X7 := Ex.tr X8 X9
      have K9 := K.call X7
      have BT9 := (X7.block _ (lt_of_block BT) (fun h => h)).trans BT
      have BR9 := (X9.block _ (lt_of_block BR) (fun h => h)).trans BR
      have DT9 := DT.grow X7 (fun _ _ h => h)
      have DU9 := DU.grow X7 (fun _ _ h => h)
      clear K LK LI C7 BT BR DT DU X8 X9 X7
      have K := K9
      clear K9
      have LB := row_lies (K.heap 2 rfl) HBL.out
      go_wp2_with fail
      refine (binds_any _ (hE.fr K.fr (fun h => h))).mono ?_
      rintro e wA ⟨rfl, FA⟩
      have KA := K.call FA
      have BTA := (FA.block _ (lt_of_block BT9) (fun h => h)).trans BT9
      have BRA := (FA.block _ (lt_of_block BR9) (fun h => h)).trans BR9
      have DTA := DT9.grow FA (fun _ _ h => h)
      have DUA := DU9.grow FA (fun _ _ h => h)
      have LBA := LB.grow FA
      clear K BT9 BR9 DT9 DU9 LB FA
      have K := KA
      clear KA
      have cvb : (convert 23 9 (.slice (some ⟨w.heap.size, 0, none⟩) 32 32)).run Tryd.prog wA = .ok (.string ⟨bl.toArray⟩) wA := by
        have := run_str LBA 32 9 Tryd.underlying9
        rwa [HBl.out] at this
      go_wp2_with fail
      have ct0 : ∀ y : Wd wA, y.w.cell? ⟨bT, 0, none⟩ = some (.slice aT T1.length cT) := fun y => by rw [cell_of_block ((y.h.block _ (lt_of_block BTA) (fun h => h)).trans BTA)]; rfl
      have ct1 : ∀ y : Wd wA, y.w.cell? ⟨bT, 1, none⟩ = some (.slice aU X.length cU) := fun y => by rw [cell_of_block ((y.h.block _ (lt_of_block BTA) (fun h => h)).trans BTA)]; rfl
      have cr0 : ∀ y : Wd wA, y.w.cell? ⟨bR, 0, none⟩ = some (.string ⟨T1.toArray⟩) := fun y => by rw [cell_of_block ((y.h.block _ (lt_of_block BRA) (fun h => h)).trans BRA)]; rfl
      have cr1 : ∀ y : Wd wA, y.w.cell? ⟨bR, 1, none⟩ = some (.string ⟨X.toArray⟩) := fun y => by rw [cell_of_block ((y.h.block _ (lt_of_block BRA) (fun h => h)).trans BRA)]; rfl
      have cs0 : ∀ y : Wd wA, (convert 23 9 (.slice aT T1.length cT)).run Tryd.prog y.w = .ok (.string ⟨T1.toArray⟩) y.w := fun y => (DTA.grow y.h (fun _ _ h => h)).str2
      have cs1 : ∀ y : Wd wA, (convert 23 9 (.slice aU X.length cU)).run Tryd.prog y.w = .ok (.string ⟨X.toArray⟩) y.w := fun y => (DUA.grow y.h (fun _ _ h => h)).str2
      have hsm := fun y : Wd wA => HSM.out y.w (hR.fr (Ex.tr K.fr y.h) (fun h => h) (fun h => h))
      refine wp_region_keep (by kernel_rfl) (by kernel_rfl) ?_
      repeat (any_goals (first | go_big_quiet_step ((first | (go_at_call 18; with_reducible exact Calls.keep (hsm _)))) | quiet_step ((first | (go_at_call 18; with_reducible exact Calls.keep (hsm _))))))
      refine wpQuiet_nil ?_
      intro _ hwz
      obtain ⟨y, rfl⟩ := hwz
      go_wp2_with fail
      go_ret
      exact ⟨rfl, Ex.tr K.fr y.h⟩
end Go.Proofs.YtbpblheaiancaaaDoor

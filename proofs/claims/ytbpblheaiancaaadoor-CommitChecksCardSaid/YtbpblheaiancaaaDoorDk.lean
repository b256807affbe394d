/-
  The walk of ChainMakes.
-/
import Derived.Test.YtbpblheaiancaaaDoorQK
import Derived.Test.YtbpblheaiancaaaDoorQJ
import Derived.Test.YtbpblheaiancaaaDoorQC
import Derived.Test.YtbpblheaiancaaaDoorQI
namespace Go.Proofs.YtbpblheaiancaaaDoor
open Go.RowKit
set_option linter.unusedVariables false
set_option linter.unusedSimpArgs false

theorem Kn.one {w0 w : World} (F : Fr (fun _ => False) w0 w) (g n : Nat) (cs : Array Value) (T : TypeId) (hg : w0.heap.size ≤ g) (hb : w.heap[g]? = some (.cells cs T (0, 0))) (hn : cs.size = n) : Kn w0 [⟨g, n, cs, T⟩] w := by
  refine ⟨F, fun i b h => ?_, fun i j x y hi hj _ => ?_⟩
  · rcases i with _ | i
    · obtain rfl := Option.some.inj h
      exact ⟨hg, hb, hn⟩
    · simp at h
  · rcases i with _ | i <;> rcases j with _ | j <;> simp_all
set_option maxRecDepth 100000 in
set_option maxHeartbeats 6400000 in
theorem chmakes_any (a : Option Addr) (n c : Nat) (l : List UInt8) (z : Int) (u : Nat) (hu : IntKind.u64.wrap z = (u : Int)) (f0 f1 : Nat → UInt8) (w : World) (h : Came w a n c l) (hE : Env w) (hR : REnv w) :
    Calls Tryd.prog 6 #[.slice a n c, .int .i64 z, .agg (ub 32 f0 ++ ub 32 f1)] w fun e w' => e = .returned (.bool true) ∧ Fr (fun _ => False) w w' := by
  have k1 : n ≤ 9223372036854775807 := by have := h.le; have := h.mx; unfold maxLen at this; omega
  have d1 := h.le
  have d2 : (c : Int) ≤ 9223372036854775807 := by have := h.mx; unfold maxLen at this; omega
  obtain ⟨q, hq⟩ : ∃ q, q = min n 300 := ⟨_, rfl⟩
  have hq1 : (if (300 : Int) < (n : Int) then (300 : Int) else (n : Int)) = (q : Int) := by split <;> omega
  have hq2 : min (n : Int) 300 = (q : Int) := by omega
  have hq0 : (0 : Int) ≤ (q : Int) := by omega
  have hqc : (q : Int) ≤ (c : Int) := by omega
  have hq3 : q ≤ 300 := by omega
  have C0 := h.cut q (by omega) (Fr.refl _ w)
  generalize l.take q = x at C0
  have hxl := C0.len
  have p0 : Part (ub 32 f0 ++ ub 32 f1) 0 (ub 32 f0) := Part.left _ _
  have p1 : Part (ub 32 f0 ++ ub 32 f1) 32 (ub 32 f1) := Part.right _ _ 0 32 _ (ub_size _ _) (Part.whole _)
  have hps : (ub 32 f0 ++ ub 32 f1).size = 64 := by rw [Array.size_append, ub_size, ub_size]
  generalize ub 32 f0 ++ ub 32 f1 = S at *
  have F0 := ((Fr.refl (fun _ => False) w).alloc (.cells S 41)).alloc (.cells #[] 5)
  have B0 := heap_alloc2_old w (.cells S 41) (.cells #[] 5)
  have own0 : Own ((w.alloc (.cells S 41)).alloc (.cells #[] 5)) w.heap.size (.slice (some ⟨w.heap.size + 1, 0, none⟩) 0 0) [] := Or.inr ⟨w.heap.size + 1, 0, #[], (0, 0), rfl, by omega, heap_alloc2_new w _ _, Or.inl rfl, Nat.le_refl _, Nat.zero_le _, rfl, rfl⟩
  have hsrc : Src Tryd.prog 1 23 (.slice a q c) x.length (bv x) ((w.alloc (.cells S 41)).alloc (.cells #[] 5)) := by
    have := (C0.lies.grow F0).src c
    rw [hxl] at this ⊢
    exact this
  have hb1 : ([] : List UInt8).length + x.length ≤ 140737488355328 := by rw [hxl]; simp; omega
  have hz1 : w.heap.size ≤ ((w.alloc (.cells S 41)).alloc (.cells #[] 5)).heap.size := by simp; omega
  have HX := Lib.hid hxl
  have HU := Lib.hid hu
  have HP := Lib.hid hps
  clear hxl hq hu h hps
  go_enter Tryd.func6, Tryd.ntmps6
  go_wp2_with (at_builtin; refine wpList_own _ rfl (.tmp 11) (.tmp 16) 23 rfl w.heap.size (.slice (some ⟨w.heap.size + 1, 0, none⟩) 0 0) [] x rfl own0 (.slice a q c) rfl hsrc hb1 hz1 ?k)
  case k =>
  intro v2 w2 own2 hg2 hb2
  have F2 : Fr (fun _ => False) w w2 := F0.trans (Fr.ofGrown hg2) (fun i hi => Or.inr (by have := Option.some.inj hi; simp at this; omega))
  have B2 : w2.heap[w.heap.size]? = some (.cells S 41 (0, 0)) := ((Fr.ofGrown hg2).block _ (by simp; omega) (fun hi => by have := Option.some.inj hi; simp at this)).trans B0
  obtain ⟨a2, c2, rfl⟩ := own2.slice
  have C2 : Came w2 a2 x.length c2 x := by
    obtain ⟨_, e2, e3, e4⟩ := own2.lies
    exact ⟨rfl, e2, e3, e4, fun e => by subst e; exact own2.nilAddr⟩
  have hst2 := C2.str2
  rw [HX.out] at C2 hst2
  have hl2 : (([] : List UInt8) ++ x).length = q := HX.out
  replace hl2 : x.length = q := hl2
  (try rw [hl2])
  clear own0 hsrc hb1 hz1 own2 hg2 hb2 C0 hq1 hq2 F0 B0 hl2
  go_wp2_with fail
  refine (cfirst_any a2 q c2 x w2 C2 (by omega) (hE.fr F2 (fun h => h))).mono ?_
  rintro e w3 ⟨rfl, F3⟩
  have hone : (sumc (4 :: x)).all (·.oneCell') = true := sumv_one _
  have hsz : (#[.int .u8 0, .int .u8 0, .int .u8 0, .int .u8 0, .int .u8 0, .int .u8 0, .int .u8 0, .int .u8 0, .int .u8 0, .int .u8 0, .int .u8 0, .int .u8 0, .int .u8 0, .int .u8 0, .int .u8 0, .int .u8 0, .int .u8 0, .int .u8 0, .int .u8 0, .int .u8 0, .int .u8 0, .int .u8 0, .int .u8 0, .int .u8 0, .int .u8 0, .int .u8 0, .int .u8 0, .int .u8 0, .int .u8 0, .int .u8 0, .int .u8 0, .int .u8 0] : Array Value).size = (sumc (4 :: x)).size := (sumv_size _).symm
  clear hst2
  go_wp2_with (with_reducible refine wpList_store_rowA rfl 22 (.tmp 8) (.tmp 21) rfl w3.heap.size (sumc (4 :: x)) rfl rfl 22 _ (heap_alloc_new w3 _) Tryd.sizeC hsz hone ?k4)
  case k4 =>
  intro w4 B84 hG4
  have F24 : Fr (fun _ => False) w2 w4 := F3.trans (((Fr.refl (fun _ => False) w3).alloc _).trans hG4 (fun i hi => Or.inr (by omega))) (fun _ h => h.elim)
  have F4 : Fr (fun _ => False) w w4 := F2.trans F24 (fun _ h => h.elim)
  have B4 := (F24.block _ (lt_of_block B2) (fun h => h)).trans B2
  have C4 := C2.grow F24 (fun _ _ h => h)
  have L84 := sumc_lies B84
  generalize w3.heap.size = b8 at *
  have K := Kn.one F4 w.heap.size 64 S 41 (Nat.le_refl _) B4 HP.out
  clear hone hsz hG4 F24 F3 F2 B2 C2 B84
  go_wp2_with (first | ((with_reducible refine' wpList_load_pt K rfl 22 (.tmp 24) rfl 0 _ _ 0 32 _ _ _ rfl _ Tryd.underlying22 rfl Tryd.szBa _ p0 (ub_size _ _) _); rotate_left 2; (focus exact rfl)) | ((with_reducible refine' wpList_load_pt K rfl 22 (.tmp 26) rfl 0 _ _ 32 32 _ _ _ rfl _ Tryd.underlying22 rfl Tryd.szBa _ p1 (ub_size _ _) _); rotate_left 2; (focus exact rfl)))
  obtain ⟨k0, hk0⟩ : ∃ k0, k0 = (List.range 32).map f0 := ⟨_, rfl⟩
  obtain ⟨k1', hk1⟩ : ∃ k1', k1' = (List.range 32).map f1 := ⟨_, rfl⟩
  have hl0 : k0.length = 32 := by rw [hk0]; simp
  have hl1 : k1'.length = 32 := by rw [hk1]; simp
  have hct := fun (W : World) (hC : Came W a2 q c2 x) => ctext_any a2 q c2 x z u HU.out f0 f1 W hC (by omega)
  have hrt := fun (W : World) => rctext_any x k0 k1' z u HU.out (by have := HX.out; omega) (by omega) (by omega) W
  have hnx := fun (W : World) (hC : Came W a2 q c2 x) (hE : Env W) => next_any a2 q c2 x z u HU.out f0 f1 W hC (by omega) hE
  rw [← hk0, ← hk1] at hct hnx
  obtain ⟨TT, hTT⟩ : ∃ TT, TT = CH.text x u k0 k1' := ⟨_, rfl⟩
  rw [← hTT] at hct hrt hnx
  have HTL := Lib.hid (show TT.length ≤ 1000 by rw [hTT, CH.text_length, hl0, hl1]; have := HX.out; omega)
  have HK0 := Lib.hid hk0
  have HK1 := Lib.hid hk1
  have HL0 := Lib.hid hl0
  have HL1 := Lib.hid hl1
  clear hTT hk0 hk1 hl0 hl1
  refine (hnx w4 C4 (hE.fr F4 (fun h => h))).mono ?_
  rintro e w5 ⟨rfl, F5⟩
  have hone9 : (sumc TT).all (·.oneCell') = true := sumv_one _
  have hsz9 : (#[.int .u8 0, .int .u8 0, .int .u8 0, .int .u8 0, .int .u8 0, .int .u8 0, .int .u8 0, .int .u8 0, .int .u8 0, .int .u8 0, .int .u8 0, .int .u8 0, .int .u8 0, .int .u8 0, .int .u8 0, .int .u8 0, .int .u8 0, .int .u8 0, .int .u8 0, .int .u8 0, .int .u8 0, .int .u8 0, .int .u8 0, .int .u8 0, .int .u8 0, .int .u8 0, .int .u8 0, .int .u8 0, .int .u8 0, .int .u8 0, .int .u8 0, .int .u8 0] : Array Value).size = (sumc TT).size := (sumv_size _).symm
  go_wp2_with (with_reducible refine wpList_store_rowA rfl 22 (.tmp 9) (.tmp 28) rfl w5.heap.size (sumc TT) rfl rfl 22 _ (heap_alloc_new w5 _) Tryd.sizeC hsz9 hone9 ?k6)
  case k6 =>
  intro w6 B96 hG6
  have F46 : Fr (fun _ => False) w4 w6 := F5.trans (((Fr.refl (fun _ => False) w5).alloc _).trans hG6 (fun i hi => Or.inr (by omega))) (fun _ h => h.elim)
  have F6 : Fr (fun _ => False) w w6 := F4.trans F46 (fun _ h => h.elim)
  have C6 := C4.grow F46 (fun _ _ h => h)
  have L86 := L84.grow F46
  have L96 := sumc_lies B96
  have B6 := (F46.block _ (lt_of_block B4) (fun h => h)).trans B4
  generalize w5.heap.size = b9 at *
  have J0 : Lies w6 (some ⟨w.heap.size, 0, none⟩) k0 := Or.inr ⟨_, 0, rfl, fun j hj => by
    rw [cell_of_block B6]
    refine p0 j _ ?_
    rw [ub_get 32 _ j (by have := HL0.out; omega)]
    simp [HK0.out]⟩
  have J1 : Lies w6 (some ⟨w.heap.size, 32, none⟩) k1' := Or.inr ⟨_, 32, rfl, fun j hj => by
    rw [cell_of_block B6]
    refine p1 j _ ?_
    rw [ub_get 32 _ j (by have := HL1.out; omega)]
    simp [HK1.out]⟩
  have K6 := K.call F46
  clear K
  have K := K6
  clear K6 hone9 hsz9 hG6 F46 F5 F4 B4 C4 L84 B96 B6
  have cv0 : ∀ y : Wd w6, (convert 23 9 (.slice (some ⟨w.heap.size, 0, none⟩) 32 32)).run Tryd.prog y.w = .ok (.string ⟨k0.toArray⟩) y.w := fun y => by
    have := run_str (J0.grow y.h) 32 9 Tryd.underlying9
    rwa [HL0.out] at this
  have cv1 : ∀ y : Wd w6, (convert 23 9 (.slice (some ⟨w.heap.size, 32, none⟩) 32 32)).run Tryd.prog y.w = .ok (.string ⟨k1'.toArray⟩) y.w := fun y => by
    have := run_str (J1.grow y.h) 32 9 Tryd.underlying9
    rwa [HL1.out] at this
  go_wp2_with fail
  refine wp_region_keep (by kernel_rfl) (by kernel_rfl) ?_
  repeat (any_goals (first | go_big_quiet_step ((first | (go_at_call 22; with_reducible exact Calls.keep (hrt _)))) | quiet_step ((first | (go_at_call 22; with_reducible exact Calls.keep (hrt _))))))
  refine wpQuiet_nil ?_
  intro _ hwz
  obtain ⟨y, rfl⟩ := hwz
  have F7 : Fr (fun _ => False) w y.w := F6.trans y.h (fun _ h => h.elim)
  have C7 := C6.grow y.h (fun _ _ h => h)
  have L87 := L86.grow y.h
  have L97 := L96.grow y.h
  have K7 := K.call y.h
  clear K cv0 cv1
  have K := K7
  clear K7 C6 L86 L96 J0 J1 F6
  generalize y.w = w7 at *
  clear y
  go_wp2_with fail
  obtain ⟨Y, hY⟩ : ∃ Y, Y = S2.sum (4 :: x) := ⟨_, rfl⟩
  obtain ⟨V, hV⟩ : ∃ V, V = S2.sum TT := ⟨_, rfl⟩
  have hfs := fun (W : World) (hR : REnv W) => rfirst_any x (by have := HX.out; omega) W hR
  have hsu := fun (W : World) (hR : REnv W) => rsum_any ⟨TT.toArray⟩ (by have := HTL.out; show TT.toArray.size ≤ _; simp; omega) W hR
  rw [show sb ⟨TT.toArray⟩ = TT by simp [sb], ← hV] at hsu
  rw [← hY] at hfs L87
  rw [← hV] at L97
  have HYL := Lib.hid (show Y.length = 32 by rw [hY]; rfl)
  have HVL := Lib.hid (show V.length = 32 by rw [hV]; rfl)
  clear hY hV
  refine wp_region_mono ((0, true) :: (sg 1 4 ++ ((5, true) :: (sg 6 9 ++ (sg 17 1 ++ ((15, true) :: (sg 16 1 ++ (sg 18 6 ++ ((24, true) :: (sg 25 9 ++ [])))))))))) (by kernel_rfl) (by kernel_rfl) ?_
  refine Wk.call rfl rfl 23 #[] (fun W => by kernel_rfl) (fun v W => v = .bool true) (fun W hx => (chains_any W (hE.fr (Ex.tr F7 hx) (fun h => h)) (hR.fr (Ex.tr F7 hx) (fun h => h) (fun h => h))).mono ?_) ?_
  · rintro e W' ⟨rfl, F⟩
    exact ⟨_, rfl, F, rfl⟩
  rintro v w8 X8 rfl
  simp only [Act.put, List.setIfInBounds_toArray, List.set_cons_zero, List.set_cons_succ]
  have F8 : Fr (fun _ => False) w w8 := Ex.tr F7 X8
  have C8 := C7.grow X8 (fun _ _ h => h)
  have L88 := L87.grow X8
  have L98 := L97.grow X8
  have K8 := K.call X8
  clear K
  have K := K8
  clear K8 C7 L87 L97
  refine Wk.seg 1 4 (by kernel_rfl) (by kernel_rfl) ?_
  apply Exists.intro
  refine ⟨?wk1, ?fin1⟩
  case wk1 =>
    intro γ
    have cv8 : ∀ y : Wg γ, (convert 23 9 (.slice (some ⟨b8, 0, none⟩) 32 32)).run Tryd.prog y.w = .ok (.string ⟨Y.toArray⟩) y.w := fun y => by
      have := run_str (L88.grow y.h) 32 9 Tryd.underlying9
      rwa [HYL.out] at this
    simp only [List.drop_succ_cons, List.drop_zero, List.take_succ_cons, List.take_zero]
    repeat (any_goals (first | go_big_quiet_step (fail) | quiet_step (fail)))
    exact wpQuiet_nil rfl
  case fin1 =>
  (try simp only [Act.put, List.setIfInBounds_toArray, List.set_cons_zero, List.set_cons_succ])
  refine Wk.call rfl rfl 24 #[.string ⟨x.toArray⟩] (fun W => by kernel_rfl) (fun v W => v = .string ⟨Y.toArray⟩) (fun W hx => (hfs W (hR.fr (Ex.tr F8 hx) (fun h => h) (fun h => h))).mono ?_) ?_
  · rintro e W' ⟨rfl, F⟩
    exact ⟨_, rfl, F, rfl⟩
  rintro v w9 X9 rfl
  simp only [Act.put, List.setIfInBounds_toArray, List.set_cons_zero, List.set_cons_succ]
  have F9 : Fr (fun _ => False) w w9 := Ex.tr F8 X9
  have C9 := C8.grow X9 (fun _ _ h => h)
  have L89 := L88.grow X9
  have L99 := L98.grow X9
  have K9 := K.call X9
  clear K
  have K := K9
  clear K9 C8 L88 L98
  refine Wk.seg 6 9 (by kernel_rfl) (by kernel_rfl) ?_
  apply Exists.intro
  refine ⟨?wk6, ?fin6⟩
  case wk6 =>
    intro γ
    simp only [List.drop_succ_cons, List.drop_zero, List.take_succ_cons, List.take_zero]
    repeat (any_goals (first | (focus (go_big_quiet_want; (first | ((with_reducible refine' quiet_load_ptg K 22 (.tmp 49) rfl 0 _ _ 0 32 _ _ _ rfl _ Tryd.underlying22 rfl Tryd.szBa _ p0 (ub_size _ _) _); rotate_left 2; (focus exact rfl)) | ((with_reducible refine' quiet_load_ptg K 22 (.tmp 51) rfl 0 _ _ 32 32 _ _ _ rfl _ Tryd.underlying22 rfl Tryd.szBa _ p1 (ub_size _ _) _); rotate_left 2; (focus exact rfl))); simp only [Act.put, List.setIfInBounds_toArray, List.set_cons_zero, List.set_cons_succ]; go_big_quiet_on)) | go_big_quiet_step (fail) | quiet_step (fail)))
    exact wpQuiet_nil rfl
  case fin6 =>
  (try simp only [Act.put, List.setIfInBounds_toArray, List.set_cons_zero, List.set_cons_succ])
  refine Wk.seg 17 1 (by kernel_rfl) (by kernel_rfl) ?_
  apply Exists.intro
  refine ⟨?wk17, ?fin17⟩
  case wk17 =>
    intro γ
    simp only [List.drop_succ_cons, List.drop_zero, List.take_succ_cons, List.take_zero]
    repeat (any_goals (first | go_big_quiet_step (fail) | quiet_step (fail)))
    exact wpQuiet_nil rfl
  case fin17 =>
  (try simp only [Act.put, List.setIfInBounds_toArray, List.set_cons_zero, List.set_cons_succ])
  refine Wk.call rfl rfl 25 #[.slice a2 q c2, .int .i64 z, .agg (ub 32 f0), .agg (ub 32 f1)] (fun W => by kernel_rfl) (fun v W => ∃ a' c', v = .slice a' TT.length c' ∧ Came W a' TT.length c' TT) (fun W hx => (hct W (C9.grow hx (fun _ _ h => h))).mono ?_) ?_
  · rintro e W' ⟨a', c', rfl, hC, F⟩
    exact ⟨_, rfl, F, a', c', rfl, hC⟩
  rintro v wA XA ⟨aT, cT, rfl, CT⟩
  simp only [Act.put, List.setIfInBounds_toArray, List.set_cons_zero, List.set_cons_succ]
  have FA : Fr (fun _ => False) w wA := Ex.tr F9 XA
  have CA := C9.grow XA (fun _ _ h => h)
  have L8A := L89.grow XA
  have L9A := L99.grow XA
  have KA := K.call XA
  clear K
  have K := KA
  clear KA C9 L89 L99
  refine Wk.seg 16 1 (by kernel_rfl) (by kernel_rfl) ?_
  apply Exists.intro
  refine ⟨?wk16, ?fin16⟩
  case wk16 =>
    intro γ
    have cvT : ∀ y : Wg γ, (convert 23 9 (.slice aT TT.length cT)).run Tryd.prog y.w = .ok (.string ⟨TT.toArray⟩) y.w := fun y => (CT.grow y.h (fun _ _ h => h)).str2
    simp only [List.drop_succ_cons, List.drop_zero, List.take_succ_cons, List.take_zero]
    repeat (any_goals (first | go_big_quiet_step (fail) | quiet_step (fail)))
    exact wpQuiet_nil rfl
  case fin16 =>
  (try simp only [Act.put, List.setIfInBounds_toArray, List.set_cons_zero, List.set_cons_succ])
  refine Wk.seg 18 6 (by kernel_rfl) (by kernel_rfl) ?_
  apply Exists.intro
  refine ⟨?wk18, ?fin18⟩
  case wk18 =>
    intro γ
    have cv9 : ∀ y : Wg γ, (convert 23 9 (.slice (some ⟨b9, 0, none⟩) 32 32)).run Tryd.prog y.w = .ok (.string ⟨V.toArray⟩) y.w := fun y => by
      have := run_str (L9A.grow y.h) 32 9 Tryd.underlying9
      rwa [HVL.out] at this
    simp only [List.drop_succ_cons, List.drop_zero, List.take_succ_cons, List.take_zero]
    repeat (any_goals (first | go_big_quiet_step (fail) | quiet_step (fail)))
    exact wpQuiet_nil rfl
  case fin18 =>
  (try simp only [Act.put, List.setIfInBounds_toArray, List.set_cons_zero, List.set_cons_succ])
  refine Wk.call rfl rfl 18 #[.string ⟨TT.toArray⟩] (fun W => by kernel_rfl) (fun v W => v = .string ⟨V.toArray⟩) (fun W hx => (hsu W (hR.fr (Ex.tr FA hx) (fun h => h) (fun h => h))).mono ?_) ?_
  · rintro e W' ⟨rfl, F⟩
    exact ⟨_, rfl, F, rfl⟩
  rintro v wB XB rfl
  simp only [Act.put, List.setIfInBounds_toArray, List.set_cons_zero, List.set_cons_succ]
  have FB : Fr (fun _ => False) w wB := Ex.tr FA XB
  have CB := CA.grow XB (fun _ _ h => h)
  have L8B := L8A.grow XB
  have L9B := L9A.grow XB
  have KB := K.call XB
  clear K
  have K := KB
  clear KB CA L8A L9A
  refine Wk.seg 25 9 (by kernel_rfl) (by kernel_rfl) ?_
  apply Exists.intro
  refine ⟨?wk25, ?fin25⟩
  case wk25 =>
    intro γ
    have cvX : ∀ y : Wg γ, (convert 23 9 (.slice a2 q c2)).run Tryd.prog y.w = .ok (.string ⟨x.toArray⟩) y.w := fun y => (CB.grow y.h (fun _ _ h => h)).str2
    simp only [List.drop_succ_cons, List.drop_zero, List.take_succ_cons, List.take_zero]
    repeat (any_goals (first | go_big_quiet_step (fail) | quiet_step (fail)))
    exact wpQuiet_nil rfl
  case fin25 =>
  (try simp only [Act.put, List.setIfInBounds_toArray, List.set_cons_zero, List.set_cons_succ])
  intro wE XE
  go_wp2_with fail
  go_ret
  exact ⟨rfl, Ex.tr FB XE⟩
end Go.Proofs.YtbpblheaiancaaaDoor

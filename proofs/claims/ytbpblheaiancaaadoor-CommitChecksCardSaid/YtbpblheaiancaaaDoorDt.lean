/-
  The walk of CommitMakes.
-/
import Derived.Test.YtbpblheaiancaaaDoorDs
import Derived.Test.YtbpblheaiancaaaDoorQJ
import Derived.Test.YtbpblheaiancaaaDoorDk
namespace Go.Proofs.YtbpblheaiancaaaDoor
open Go.RowKit
set_option linter.unusedVariables false
set_option linter.unusedSimpArgs false

theorem Tryd.szWh : (Tryd.prog.info? 25).map (·.size) = some 34 := by kernel_rfl
theorem map_getD32 (l : List UInt8) (h : l.length = 32) : (List.range 32).map (fun j => l.getD j 0) = l := by
  apply List.ext_getElem
  · simp [h]
  · intro i h1 h2
    simp [List.getD, List.getElem?_eq_getElem h2]
theorem row_lies {w : World} {b : Nat} {f : Nat → UInt8} {t : TypeId} {fr : Nat × Nat} (h : w.heap[b]? = some (.cells (ub 32 f) t fr)) {k : List UInt8} (hk : k = (List.range 32).map f) : Lies w (some ⟨b, 0, none⟩) k := by
  refine ub_lies h (by rw [hk]; simp) (fun j hj => ?_)
  rw [hk] at hj ⊢
  simp at hj
  simp [List.getD, hj]
theorem Kn.join {w0 w1 w2 : World} {L M : List Bk} (h : Kn w0 L w1) (k : Kn w1 M w2) : Kn w0 (M ++ L) w2 := by
  have lt : ∀ (i : Nat) (b : Bk), L[i]? = some b → b.g < w1.heap.size := fun i b hb => lt_of_block (h.blk i b hb).2.1
  refine ⟨h.fr.trans k.fr (fun _ h => h.elim), fun i b hb => ?_, fun i j x y hi hj e => ?_⟩
  · by_cases hl : i < M.length
    · rw [List.getElem?_append_left hl] at hb
      exact ⟨Nat.le_trans h.fr.size (k.blk i b hb).1, (k.blk i b hb).2⟩
    · rw [List.getElem?_append_right (by omega)] at hb
      exact ⟨(h.blk _ b hb).1, k.fr.kp (h.blk _ b hb).2.1, (h.blk _ b hb).2.2⟩
  · by_cases hl : i < M.length <;> by_cases hm : j < M.length
    · rw [List.getElem?_append_left hl] at hi
      rw [List.getElem?_append_left hm] at hj
      exact k.two i j x y hi hj e
    · rw [List.getElem?_append_left hl] at hi
      rw [List.getElem?_append_right (by omega)] at hj
      have := lt _ _ hj; have := (k.blk i x hi).1; omega
    · rw [List.getElem?_append_right (by omega)] at hi
      rw [List.getElem?_append_left hm] at hj
      have := lt _ _ hi; have := (k.blk j y hj).1; omega
    · rw [List.getElem?_append_right (by omega)] at hi hj
      have := h.two _ _ x y hi hj e
      omega
set_option maxRecDepth 100000 in
set_option maxHeartbeats 6400000 in
theorem cmakes_any (fk fi : Nat → UInt8) (z : Int) (u : Nat) (hu : IntKind.u64.wrap z = (u : Int)) (a : Option Addr) (n c : Nat) (l : List UInt8) (w : World) (h : Came w a n c l) (hE : Env w) (hR : REnv w) :
    Calls Tryd.prog 3 #[.agg (ub 32 fk), .agg (wh fi z a n c)] w fun e w' => e = .returned (.bool true) ∧ Fr (fun _ => False) w w' := by
  obtain ⟨q, hq⟩ : ∃ q, q = min n 200 := ⟨_, rfl⟩
  have hq3 : q ≤ 200 := by omega
  have hxl : (l.take q).length = q := by rw [List.length_take, h.len]; omega
  have hvl := fun (W : World) (hC : Came W a n c l) => value_any fi z a n c q l W hC hq
  obtain ⟨x, hx⟩ : ∃ x, x = l.take q := ⟨_, rfl⟩
  rw [← hx] at hxl hvl
  have p0 : Part (wh fi z a n c) 0 (ub 32 fi) := Part.left _ _
  have hcz := wh_int fi z a n c
  have hsw := wh_size fi z a n c
  generalize wh fi z a n c = S at *
  obtain ⟨kl, hkl⟩ : ∃ kl, kl = (List.range 32).map fk := ⟨_, rfl⟩
  obtain ⟨il, hil⟩ : ∃ il, il = (List.range 32).map fi := ⟨_, rfl⟩
  have kl32 : kl.length = 32 := by rw [hkl]; simp
  have il32 : il.length = 32 := by rw [hil]; simp
  obtain ⟨OL, hOL⟩ : ∃ OL, OL = S2.sum (HM.out kl (CM.mo il u)) := ⟨_, rfl⟩
  have OL32 : OL.length = 32 := by rw [hOL]; exact sum_length _
  obtain ⟨oo, hoo⟩ : ∃ oo : Nat → UInt8, oo = fun j => OL.getD j 0 := ⟨_, rfl⟩
  have hol : (List.range 32).map oo = OL := by rw [hoo]; exact map_getD32 OL OL32
  have hO : sumc (HM.out ((List.range 32).map fk) (CM.mo ((List.range 32).map fi) u)) = ub 32 oo := by rw [← hkl, ← hil, sumc_ub, ← hOL, hoo]
  have hmk := fun (W : World) (b : Option Addr) (d : Nat) (hC : Came W b q d x) (hE : Env W) => make_any fk fi z u hu b q d x W hC (by omega) hE oo hO
  have hbd := fun (W : World) (b : Option Addr) (d : Nat) (hC : Came W b q d x) (hE : Env W) => bind_any oo fi z u hu b q d x W hC (by omega) hE
  rw [hol, ← hil] at hmk hbd
  have hop := fun (W : World) (hR : REnv W) => ropen_any kl il z u hu (by omega) (by omega) W hR
  have hbo := fun (W : World) (hR : REnv W) => rbound_any OL il x z u hu (by omega) (by omega) (by omega) W hR
  rw [HM.of_eq, ← hOL] at hop
  rw [HM.of_eq] at hbo
  obtain ⟨X, hX⟩ : ∃ X, X = HM.out OL (CM.mb il u x) := ⟨_, rfl⟩
  rw [← hX] at hmk hbd hbo
  obtain ⟨BL, hBL⟩ : ∃ BL, BL = S2.sum X := ⟨_, rfl⟩
  rw [← hBL] at hbo
  have hck := fun (W : World) (b : Option Addr) (d : Nat) (hC : Came W b q d x) (hE : Env W) => check_good z b q d (sumc X) (ub 32 oo) (ub 32 fi) (sumc X) W (fun W' hF => hbd W' b d (hC.grow hF (fun _ _ h => h)) (hE.fr hF (fun h => h))) (fun W => by rw [neq_sumc, beq_self_eq_true]; rfl) ⟨sumv_size _, sumv_one _⟩ ⟨ub_size _ _, ub_one _ _⟩ ⟨ub_size _ _, ub_one _ _⟩ ⟨sumv_size _, sumv_one _⟩
  have sBV : Sz 32 (sumc X) := ⟨sumv_size _, sumv_one _⟩
  have sOO : Sz 32 (ub 32 oo) := ⟨ub_size _ _, ub_one _ _⟩
  have HX := Lib.hid hxl
  have HKL := Lib.hid hkl
  have HIL := Lib.hid hil
  have HOL := Lib.hid hol
  have HBL := Lib.hid hBL
  have HK32 := Lib.hid kl32
  have HI32 := Lib.hid il32
  have HO32 := Lib.hid OL32
  have HB32 := Lib.hid (show BL.length = 32 by rw [hBL]; exact sum_length _)
  have HMK := Lib.hid hmk
  have HCK := Lib.hid hck
  have HOP := Lib.hid hop
  have HBO := Lib.hid hbo
  have HVL := Lib.hid hvl
  have HSO := Lib.hid sOO
  clear hxl hkl hil hol hBL kl32 il32 OL32 hmk hck hop hbo hvl hX hoo hO hOL hbd hx hq
  have K := ((Kn.start w).new (w.heap.size) 32 (ub 32 fk) 22 rfl (ub_size _ _)).new (w.heap.size + 1) 34 S 25 (by simp) hsw
  go_enter Tryd.func3, Tryd.ntmps3
  go_wp2_with (((with_reducible refine' wpList_load_kn K rfl 25 (.tmp 3) rfl 0 _ _ _ _ rfl _ Tryd.underlying25 rfl Tryd.szWh _ _); rotate_left 2; (focus exact rfl)))
  refine (HVL.out _ (h.grow K.fr (fun _ _ h => h))).mono ?_
  rintro e w2 ⟨a2, c2, rfl, C2, G2⟩
  have K2 := K.call G2
  clear K
  have K := K2
  clear K2 G2
  have hc2 := K.cell 0 rfl 32 hcz
  go_wp2_with (first | ((with_reducible refine' wpList_load_kn K rfl 22 (.tmp 2) rfl 1 _ _ _ _ rfl _ Tryd.underlying22 rfl Tryd.szBa _ _); rotate_left 2; (focus exact rfl)) | ((with_reducible refine' wpList_load_pt K rfl 22 (.tmp 13) rfl 0 _ _ 0 32 _ _ _ rfl _ Tryd.underlying22 rfl Tryd.szBa _ p0 (ub_size _ _) _); rotate_left 2; (focus exact rfl)))
  refine (HMK.out w2 a2 c2 C2 (hE.fr K.fr (fun h => h))).mono ?_
  rintro e w3 ⟨rfl, G3⟩
  have K3 := K.call G3
  clear K hc2
  have K := K3
  have C3 := C2.grow G3 (fun _ _ h => h)
  clear K3 G3 C2
  have sOO := HSO.out
  have HK3 := Lib.hid K
  clear K
  have K := Kn.start w3
  go_wp2_with (first | ((with_reducible refine wpList_new_kn K 22 6 _ _ _ #[.int .u8 0, .int .u8 0, .int .u8 0, .int .u8 0, .int .u8 0, .int .u8 0, .int .u8 0, .int .u8 0, .int .u8 0, .int .u8 0, .int .u8 0, .int .u8 0, .int .u8 0, .int .u8 0, .int .u8 0, .int .u8 0, .int .u8 0, .int .u8 0, .int .u8 0, .int .u8 0, .int .u8 0, .int .u8 0, .int .u8 0, .int .u8 0, .int .u8 0, .int .u8 0, .int .u8 0, .int .u8 0, .int .u8 0, .int .u8 0, .int .u8 0, .int .u8 0] 32 rfl Tryd.alBa rfl ?_); intro g6 wz Kz; clear K; have K := Kz; clear Kz; try (simp only [Act.put, List.setIfInBounds_toArray, List.set_cons_zero, List.set_cons_succ])) | ((with_reducible refine wpList_new_kn K 22 7 _ _ _ #[.int .u8 0, .int .u8 0, .int .u8 0, .int .u8 0, .int .u8 0, .int .u8 0, .int .u8 0, .int .u8 0, .int .u8 0, .int .u8 0, .int .u8 0, .int .u8 0, .int .u8 0, .int .u8 0, .int .u8 0, .int .u8 0, .int .u8 0, .int .u8 0, .int .u8 0, .int .u8 0, .int .u8 0, .int .u8 0, .int .u8 0, .int .u8 0, .int .u8 0, .int .u8 0, .int .u8 0, .int .u8 0, .int .u8 0, .int .u8 0, .int .u8 0, .int .u8 0] 32 rfl Tryd.alBa rfl ?_); intro g7 wz Kz; clear K; have K := Kz; clear Kz; try (simp only [Act.put, List.setIfInBounds_toArray, List.set_cons_zero, List.set_cons_succ])) | (focus ((first | ((with_reducible refine' wpList_store_kn K rfl 22 (.tmp 6) _ rfl 1 _ _ _ _ _ rfl rfl Tryd.szBa _ _ _); rotate_left 2; (focus exact rfl)) | ((with_reducible refine' wpList_store_kn K rfl 22 (.tmp 7) _ rfl 0 _ _ _ _ _ rfl rfl Tryd.szBa _ _ _); rotate_left 2; (focus exact rfl))); (focus (with_reducible assumption)); intro wz Kz; clear K; have K := Kz; clear Kz; simp only [List.set_cons_zero, List.set_cons_succ] at K; try (simp only [Act.put, List.setIfInBounds_toArray, List.set_cons_zero, List.set_cons_succ]))))
  have KJ := HK3.out.join K
  have C4 := C3.grow K.fr (fun _ _ h => h)
  clear K
  have K := KJ
  clear KJ HK3 C3
  have LK := row_lies (K.heap 3 rfl) HKL.out
  have LI : Lies wz (some ⟨w.heap.size + 1, 0, none⟩) il := Or.inr ⟨_, 0, rfl, fun j hj => by
    rw [cell_of_block (K.heap 2 rfl)]
    refine p0 j _ ?_
    rw [ub_get 32 _ j (by have := HI32.out; omega)]
    simp [HIL.out]⟩
  have LO := row_lies (K.heap 0 rfl) HOL.out.symm
  have LB : Lies wz (some ⟨g6, 0, none⟩) BL := by rw [HBL.out]; exact sumc_lies (K.heap 1 rfl)
  have cv0 : ∀ y : Wd wz, (convert 23 9 (.slice (some ⟨w.heap.size, 0, none⟩) 32 32)).run Tryd.prog y.w = .ok (.string ⟨kl.toArray⟩) y.w := fun y => by
      have := run_str (LK.grow y.h) 32 9 Tryd.underlying9
      rwa [HK32.out] at this
  have cv1 : ∀ y : Wd wz, (convert 23 9 (.slice (some ⟨w.heap.size + 1, 0, none⟩) 32 32)).run Tryd.prog y.w = .ok (.string ⟨il.toArray⟩) y.w := fun y => by
      have := run_str (LI.grow y.h) 32 9 Tryd.underlying9
      rwa [HI32.out] at this
  have hcd : ∀ y : Wd wz, y.w.cell? ⟨w.heap.size + 1, 32, none⟩ = some (.int .i64 z) := fun y => K.celld y 2 rfl 32 hcz
  have hop := fun y : Wd wz => HOP.out y.w (hR.fr (Ex.tr K.fr y.h) (fun h => h) (fun h => h))
  go_wp2_with fail
  refine wp_region_keep (by kernel_rfl) (by kernel_rfl) ?_
  repeat (any_goals (first | go_big_quiet_step ((first | (go_at_call 12; with_reducible exact Calls.keep (hop _)))) | quiet_step ((first | (go_at_call 12; with_reducible exact Calls.keep (hop _))))))
  refine wpQuiet_nil ?_
  intro _ hwz
  obtain ⟨y, rfl⟩ := hwz
  have K7 := K.call y.h
  have C7 := C4.grow y.h (fun _ _ h => h)
  have LI7 := LI.grow y.h
  have LO7 := LO.grow y.h
  have LB7 := LB.grow y.h
  clear K cv0 cv1 hcd hop LK LI LO LB C4
  have K := K7
  clear K7
  generalize y.w = w7 at *
  clear y
  go_wp2_with fail
  refine wp_region_mono (sg 0 36 ++ ((36, true) :: (sg 37 4 ++ []))) (by kernel_rfl) (by kernel_rfl) ?_
  refine Wk.seg 0 36 (by kernel_rfl) (by kernel_rfl) ?_
  apply Exists.intro
  refine ⟨?wk0, ?fin0⟩
  case wk0 =>
    intro γ
    have hcg : ∀ y : Wg γ, y.w.cell? ⟨w.heap.size + 1, 32, none⟩ = some (.int .i64 z) := fun y => K.cellg y 2 rfl 32 hcz
    have bn := fun y : Wg γ => binds_any y.w (hE.fr (Ex.tr K.fr y.h) (fun h => h))
    have bo := fun y : Wg γ => HBO.out y.w (hR.fr (Ex.tr K.fr y.h) (fun h => h) (fun h => h))
    have ck := fun y : Wg γ => HCK.out y.w a2 c2 (C7.grow y.h (fun _ _ h => h)) (hE.fr (Ex.tr K.fr y.h) (fun h => h))
    have cvx : ∀ y : Wg γ, (convert 23 9 (.slice a2 q c2)).run Tryd.prog y.w = .ok (.string ⟨x.toArray⟩) y.w := fun y => (C7.grow y.h (fun _ _ h => h)).str2
    have cvo : ∀ y : Wg γ, (convert 23 9 (.slice (some ⟨g7, 0, none⟩) 32 32)).run Tryd.prog y.w = .ok (.string ⟨OL.toArray⟩) y.w := fun y => by
      have := run_str (LO7.grow y.h) 32 9 Tryd.underlying9
      rwa [HO32.out] at this
    have cvb : ∀ y : Wg γ, (convert 23 9 (.slice (some ⟨g6, 0, none⟩) 32 32)).run Tryd.prog y.w = .ok (.string ⟨BL.toArray⟩) y.w := fun y => by
      have := run_str (LB7.grow y.h) 32 9 Tryd.underlying9
      rwa [HB32.out] at this
    have cvi : ∀ y : Wg γ, (convert 23 9 (.slice (some ⟨w.heap.size + 1, 0, none⟩) 32 32)).run Tryd.prog y.w = .ok (.string ⟨il.toArray⟩) y.w := fun y => by
      have := run_str (LI7.grow y.h) 32 9 Tryd.underlying9
      rwa [HI32.out] at this
    simp only [List.drop_succ_cons, List.drop_zero, List.take_succ_cons, List.take_zero]
    repeat (any_goals (first | (focus (go_big_quiet_want; (first | ((with_reducible refine' quiet_load_kng K 22 (.tmp 6) rfl 1 _ _ _ _ rfl _ Tryd.underlying22 rfl Tryd.szBa _ _); rotate_left 2; (focus exact rfl)) | ((with_reducible refine' quiet_load_kng K 22 (.tmp 7) rfl 0 _ _ _ _ rfl _ Tryd.underlying22 rfl Tryd.szBa _ _); rotate_left 2; (focus exact rfl)) | ((with_reducible refine' quiet_load_ptg K 22 (.tmp 53) rfl 2 _ _ 0 32 _ _ _ rfl _ Tryd.underlying22 rfl Tryd.szBa _ p0 (ub_size _ _) _); rotate_left 2; (focus exact rfl)) | ((with_reducible refine' quiet_load_kng K 25 (.tmp 3) rfl 2 _ _ _ _ rfl _ Tryd.underlying25 rfl Tryd.szWh _ _); rotate_left 2; (focus exact rfl))); simp only [Act.put, List.setIfInBounds_toArray, List.set_cons_zero, List.set_cons_succ]; go_big_quiet_on)) | go_big_quiet_step ((first | (go_at_call 13; with_reducible exact Calls.keepg (bn _)) | (go_at_call 14; with_reducible exact Calls.keepg (bo _)) | (go_at_call 15; with_reducible exact Calls.keepg (ck _)))) | quiet_step ((first | (go_at_call 13; with_reducible exact Calls.keepg (bn _)) | (go_at_call 14; with_reducible exact Calls.keepg (bo _)) | (go_at_call 15; with_reducible exact Calls.keepg (ck _))))))
    exact wpQuiet_nil rfl
  case fin0 =>
  (try simp only [Act.put, List.setIfInBounds_toArray, List.set_cons_zero, List.set_cons_succ])

  refine Wk.call rfl rfl 10 #[.agg S] (fun W => by kernel_rfl) (fun v W => ∃ a' c', v = .slice a' q c' ∧ Came W a' q c' x) (fun W hx => (HVL.out W (h.grow (Ex.tr K.fr hx) (fun _ _ h => h))).mono ?_) ?_
  · rintro e W' ⟨a', c', rfl, hC, F⟩
    exact ⟨_, rfl, F, a', c', rfl, hC⟩
  rintro v w8 X8 ⟨a8, c8, rfl, C8⟩
  simp only [List.getElem_toArray, List.getElem_cons_succ, List.getElem_cons_zero, Act.put, List.setIfInBounds_toArray, List.set_cons_zero, List.set_cons_succ]
  refine Wk.seg 37 4 (by kernel_rfl) (by kernel_rfl) ?_
  apply Exists.intro
  refine ⟨?wk37, ?fin37⟩
  case wk37 =>
    intro γ
    have cv8 : ∀ y : Wg γ, (convert 23 9 (.slice a8 q c8)).run Tryd.prog y.w = .ok (.string ⟨x.toArray⟩) y.w := fun y => (C8.grow y.h (fun _ _ h => h)).str2
    simp only [List.drop_succ_cons, List.drop_zero, List.take_succ_cons, List.take_zero]
    repeat (any_goals (first | go_big_quiet_step (fail) | quiet_step (fail)))
    exact wpQuiet_nil rfl
  case fin37 =>
  (try simp only [Act.put, List.setIfInBounds_toArray, List.set_cons_zero, List.set_cons_succ])

  intro w9 X9
  go_wp2_with fail
  go_ret
  exact ⟨rfl, Ex.tr (Ex.tr K.fr X8) X9⟩
end Go.Proofs.YtbpblheaiancaaaDoor

/-
  The contracts of turned and Texts of package commit.
-/
import Derived.Test.YtbpblheaiancaaaDoorDy
import Derived.Test.YtbpblheaiancaaaDoorCi
namespace Go.Proofs.YtbpblheaiancaaaDoor
open Go.RowKit
set_option linter.unusedVariables false
set_option linter.unusedSimpArgs false

set_option maxRecDepth 100000 in
set_option maxHeartbeats 3200000 in
theorem cturned_any (f : Nat → UInt8) (b : UInt8) (v : Int) (hv : v = (b.toNat : Int)) (w : World) :
    Calls Tryd.prog 50 #[.agg (ub 32 f), .int .u8 v] w fun e w' => ∃ g, e = .returned (.slice (some ⟨g, 0, none⟩) 64 64) ∧ Came w' (some ⟨g, 0, none⟩) 64 64 (HM.xor (HM.blk ((List.range 32).map f)) b) ∧ Fr (fun _ => False) w w' := by
  have hbb := b.toNat_lt
  subst hv
  obtain ⟨kl, hkl⟩ : ∃ kl, kl = (List.range 32).map f := ⟨_, rfl⟩
  have hk32 : kl.length = 32 := by rw [hkl]; simp
  rw [← hkl]
  have B0 : (w.alloc (.cells (ub 32 f) 22)).heap[w.heap.size]? = some (.cells (ub 32 f) 22 (0, 0)) := heap_alloc_new w _
  have LK := row_lies B0 hkl
  have F0 := (Fr.refl (fun _ => False) w).alloc (.cells (ub 32 f) 22)
  have z0 : (w.alloc (.cells (ub 32 f) 22)).heap.size = w.heap.size + 1 := by simp
  have hmk : ∀ W : World, (Instr.makeSlice 23 (.int .i64 64) (.int .i64 64)).run Tryd.prog W = .ok (.slice (some ⟨W.heap.size, 0, none⟩) 64 64) (W.alloc (.cells (ub 64 (fun _ => 0)) 5)) := fun _ => by kernel_rfl
  have HL := Lib.hid hkl
  clear hkl
  go_enter Tryd.func50, Tryd.ntmps50
  have B1 := heap_alloc2_new w (.cells (ub 32 f) 22) (.cells (ub 64 (fun _ => 0)) 5)
  have F1 := (Fr.refl (fun _ => False) (w.alloc (.cells (ub 32 f) 22))).alloc (.cells (ub 64 (fun _ => 0)) 5)
  go_wp2_with (with_reducible refine wpList_copy_key rfl (.tmp 8) (.tmp 9) rfl (w.heap.size + 1) w.heap.size kl hk32 rfl rfl B1 (LK.grow F1) ?k5)
  case k5 =>
  intro w5 B5 G5
  have F5 : Fr (fun _ => False) w w5 := (F0.trans F1 (fun _ h => h.elim)).trans G5 (fun i hi => Or.inr (by omega))
  clear B1 F1 G5 LK B0
  have hgl : w.heap.size ≤ w.heap.size + 1 := by omega
  generalize w.heap.size + 1 = g at *
  go_wp2_with fail
  go_loopw [13] (fun i wr => ∃ k : Nat, k ≤ 64 ∧ i = .int .i64 k ∧ wr.heap[g]? = some (.cells (ub 64 (fun j => if j < k then HM.blk kl j ^^^ b else HM.blk kl j)) 5 (0, 0)) ∧ Fr (fun _ => False) w wr) (fun i _ => 64 - (intOf i).toNat)
  case atStart => exact ⟨0, by omega, by simp, by rw [B5]; congr 2, F5⟩
  case round =>
    clear B5 F5
    obtain ⟨k, hk, rfl, hB, hF⟩ := hrel
    by_cases hlt : k < 64
    · have hc : wr.cell? ⟨g, k, none⟩ = some (.int .u8 ((HM.blk kl k).toNat : Int)) := by
        rw [cell_of_block hB, ub_get _ _ _ hlt, if_neg (by omega)]
      have hfz := free_of_block hB k
      have hst := xor_step (HM.blk kl) b k hlt
      go_wp2
      go_roundw
      case rel => exact ⟨k + 1, by omega, by go_num, by rw [block_setCell hB, xor_u8, hst], hF.setCell (Or.inr hgl) _⟩
      case measure => simp [intOf]; omega
    · obtain rfl : k = 64 := by omega
      rw [show ub 64 (fun j => if j < 64 then HM.blk kl j ^^^ b else HM.blk kl j) = ub 64 (fun j => HM.blk kl j ^^^ b) from ub_congr (fun j hj => by rw [if_pos hj])] at hB
      go_wp2
      go_ret
      exact ⟨g, rfl, ⟨HM.xor_length _ _, Nat.le_refl _, by unfold maxLen; omega, xor_lies hB, fun e => by cases e⟩, hF⟩
/-- Memory that is made in a region walked in an order of one's own. -/
theorem Wk.make {P : Program} {md : Region.Mode} {Q : Act → World → Prop} {ops : Array Oper} {a : Act} {W : World} {r : List (Nat × Bool)} {k : Nat} {o : Oper} (hi : ops[k]? = some o) (hw : Region.wanted o (yielded ops a.tmps) = true) (n : Nat) (cells : Array Value) (E : TypeId)
    (hrun : ∀ w, (execOp a.eval o).run P w = .ok (.value (.slice (some ⟨w.heap.size, 0, none⟩) n n)) (w.alloc (.cells cells E)))
    (h : ∀ b w', Ex W w' → w'.heap[b]? = some (.cells cells E (0, 0)) → Wk P md ops Q r (a.put o.dst (.slice (some ⟨b, 0, none⟩) n n)) w') : Wk P md ops Q ((k, true) :: r) a W := by
  intro w hx
  exact wpOp_value hi hw (hrun w) ⟨(Fr.refl _ w).alloc _, h _ _ (Ex.tr hx ((Fr.refl _ w).alloc _)) (heap_alloc_new w _)⟩
set_option maxRecDepth 100000 in
theorem parts4 {w : World} {b : Nat} {a1 a2 a3 a4 : Option Addr} {n1 n2 n3 n4 c1 c2 c3 c4 : Nat} {x1 x2 x3 x4 : List UInt8} {t : TypeId} {fr : Nat × Nat} (h : w.heap[b]? = some (.cells #[.slice a1 n1 c1, .slice a2 n2 c2, .slice a3 n3 c3, .slice a4 n4 c4] t fr)) (h1 : Came w a1 n1 c1 x1) (h2 : Came w a2 n2 c2 x2) (h3 : Came w a3 n3 c3 x3) (h4 : Came w a4 n4 c4 x4) : Parts w (some ⟨b, 0, none⟩) [x1, x2, x3, x4] := by
  refine Or.inr ⟨b, 0, rfl, fun j hj => ?_⟩
  match j, hj with
  | 0, _ => exact ⟨a1, c1, by rw [cell_of_block h]; simp [h1.len], h1.lies, by have := h1.le; have := h1.len; simp; omega, h1.mx⟩
  | 1, _ => exact ⟨a2, c2, by rw [cell_of_block h]; simp [h2.len], h2.lies, by have := h2.le; have := h2.len; simp; omega, h2.mx⟩
  | 2, _ => exact ⟨a3, c3, by rw [cell_of_block h]; simp [h3.len], h3.lies, by have := h3.le; have := h3.len; simp; omega, h3.mx⟩
  | 3, _ => exact ⟨a4, c4, by rw [cell_of_block h]; simp [h4.len], h4.lies, by have := h4.le; have := h4.len; simp; omega, h4.mx⟩
theorem came_of_own {w : World} {B n c : Nat} {a : Option Addr} {l : List UInt8} (h : Own w B (.slice a n c) l) (hn : l.length = n) : Came w a n c l := by
  obtain ⟨_, e2, e3, e4⟩ := h.lies
  exact ⟨hn, e2, e3, e4, fun e => by subst e; exact h.nilAddr⟩
set_option maxRecDepth 100000 in
set_option maxHeartbeats 6400000 in
theorem ctexts_any (fo fi : Nat → UInt8) (z : Int) (u : Nat) (hu : IntKind.u64.wrap z = (u : Int)) (a : Option Addr) (n c : Nat) (v : List UInt8) (w : World) (hv : Came w a n c v) (hn : n ≤ 1000) (hE : Env w) (kl il T1 T2 : List UInt8) (hkl : kl = (List.range 32).map fo) (hil : il = (List.range 32).map fi) (hT1 : T1 = HM.inn kl (CM.mb il u v)) (hT2 : T2 = HM.out kl (CM.mb il u v)) :
    Calls Tryd.prog 16 #[.agg (ub 32 fo), .agg (ub 32 fi), .int .i64 z, .slice a n c] w fun e w' => ∃ b a1 c1 a2 c2, e = .returned (.slice (some ⟨b, 0, none⟩) 2 2) ∧ w'.heap[b]? = some (.cells #[.slice a1 T1.length c1, .slice a2 T2.length c2] 23 (0, 0)) ∧ Came w' a1 T1.length c1 T1 ∧ Came w' a2 T2.length c2 T2 ∧ Fr (fun _ => False) w w' := by
  have il32 : il.length = 32 := by rw [hil]; simp
  have hvl := hv.len
  have hb8 : (S2.be8 u).length = 8 := rfl
  have f1 : [HM.xor (HM.blk kl) 0x36, il, S2.be8 u, v].flatten = T1 := by rw [hT1]; simp [HM.inn, CM.mb]
  have f2 : [HM.xor (HM.blk kl) 0x5c, S2.sum T1].flatten = T2 := by rw [hT2, hT1]; simp [HM.out]
  have t1l : T1.length = 104 + n := by rw [← f1]; simp [HM.xor_length, il32, hb8, hvl]; omega
  have t2l : T2.length = 96 := by rw [← f2]; simp [HM.xor_length, sum_length]
  have htu1 := fun (W : World) => cturned_any fo 0x36 54 rfl W
  have htu2 := fun (W : World) => cturned_any fo 0x5c 92 rfl W
  rw [← hkl] at htu1 htu2
  have K := ((Kn.start w).new (w.heap.size) 32 (ub 32 fo) 22 rfl (ub_size _ _)).new (w.heap.size + 1) 32 (ub 32 fi) 22 (by simp) (ub_size _ _)
  have HF1 := Lib.hid f1
  have HF2 := Lib.hid f2
  have HT1 := Lib.hid t1l
  have HT2 := Lib.hid t2l
  have HIL := Lib.hid hil
  have HI32 := Lib.hid il32
  have HTU1 := Lib.hid htu1
  have HTU2 := Lib.hid htu2
  have HNU := Lib.hid (fun W : World => cnumber_any z u hu W)
  clear f1 f2 t1l t2l hT1 hT2 hkl hil il32 htu1 htu2 hu hvl
  go_enter Tryd.func16, Tryd.ntmps16
  go_wp2_with fail
  generalize (w.alloc (.cells (ub 32 fo) 22)).alloc (.cells (ub 32 fi) 22) = w0 at K ⊢
  refine wp_region_mono (sg 0 1 ++ (sg 2 2 ++ (sg 5 1 ++ ((1, true) :: (4, true) :: (6, true) :: (7, true) :: (sg 8 1 ++ []))))) (by kernel_rfl) (by kernel_rfl) ?_
  refine Wk.seg 0 1 (by kernel_rfl) (by kernel_rfl) ?_
  apply Exists.intro
  refine ⟨?wk0, ?fin0⟩
  case wk0 =>
    intro γ
    simp only [List.drop_succ_cons, List.drop_zero, List.take_succ_cons, List.take_zero]
    repeat (any_goals (first | (focus (go_big_quiet_want; (first | ((with_reducible refine' quiet_load_kng K 22 (.tmp 4) rfl 1 _ _ _ _ rfl _ Tryd.underlying22 rfl Tryd.szBa _ _); rotate_left 2; (focus exact rfl))); simp only [Act.put, List.setIfInBounds_toArray, List.set_cons_zero, List.set_cons_succ]; go_big_quiet_on)) | go_big_quiet_step (fail) | quiet_step (fail)))
    exact wpQuiet_nil rfl
  case fin0 =>
  (try simp only [Act.put, List.setIfInBounds_toArray, List.set_cons_zero, List.set_cons_succ])
  refine Wk.seg 2 2 (by kernel_rfl) (by kernel_rfl) ?_
  apply Exists.intro
  refine ⟨?wk2, ?fin2⟩
  case wk2 =>
    intro γ
    simp only [List.drop_succ_cons, List.drop_zero, List.take_succ_cons, List.take_zero]
    repeat (any_goals (first | go_big_quiet_step (fail) | quiet_step (fail)))
    exact wpQuiet_nil rfl
  case fin2 =>
  (try simp only [Act.put, List.setIfInBounds_toArray, List.set_cons_zero, List.set_cons_succ])
  refine Wk.seg 5 1 (by kernel_rfl) (by kernel_rfl) ?_
  apply Exists.intro
  refine ⟨?wk5, ?fin5⟩
  case wk5 =>
    intro γ
    simp only [List.drop_succ_cons, List.drop_zero, List.take_succ_cons, List.take_zero]
    repeat (any_goals (first | go_big_quiet_step (fail) | quiet_step (fail)))
    exact wpQuiet_nil rfl
  case fin5 =>
  (try simp only [Act.put, List.setIfInBounds_toArray, List.set_cons_zero, List.set_cons_succ])
  refine Wk.call rfl rfl 50 #[.agg (ub 32 fo), .int .u8 54] (fun W => by kernel_rfl) (fun v W => ∃ g, v = .slice (some ⟨g, 0, none⟩) 64 64 ∧ Came W (some ⟨g, 0, none⟩) 64 64 (HM.xor (HM.blk kl) 0x36)) (fun W hx => (HTU1.out W).mono ?_) ?_
  · rintro e W' ⟨g, rfl, hC, F⟩
    exact ⟨_, rfl, F, g, rfl, hC⟩
  rintro v1 w2 X2 ⟨g1, rfl, C1⟩
  simp only [List.getElem_toArray, List.getElem_cons_succ, List.getElem_cons_zero, Act.put, List.setIfInBounds_toArray, List.set_cons_zero, List.set_cons_succ]
  refine Wk.call rfl rfl 45 #[.int .i64 z] (fun W => by kernel_rfl) (fun v W => ∃ g, v = .slice (some ⟨g, 0, none⟩) 8 8 ∧ Came W (some ⟨g, 0, none⟩) 8 8 (S2.be8 u)) (fun W hx => (HNU.out W).mono ?_) ?_
  · rintro e W' ⟨rfl, hB, F⟩
    exact ⟨_, rfl, F, _, rfl, came_blk (n := 8) hB (ub_bv 8 (b8 u)) (by simp [S2.be8]) (by omega)⟩
  rintro v2 w3 X3 ⟨g2, rfl, C2⟩
  simp only [List.getElem_toArray, List.getElem_cons_succ, List.getElem_cons_zero, Act.put, List.setIfInBounds_toArray, List.set_cons_zero, List.set_cons_succ]
  refine Wk.make rfl rfl 4 #[.slice (some ⟨g1, 0, none⟩) 64 64, .slice (some ⟨w.heap.size + 1, 0, none⟩) 32 32, .slice (some ⟨g2, 0, none⟩) 8 8, .slice a n c] 23 (fun W => by kernel_rfl) ?_
  intro b3 w4 X4 B3
  simp only [List.getElem_toArray, List.getElem_cons_succ, List.getElem_cons_zero, Act.put, List.setIfInBounds_toArray, List.set_cons_zero, List.set_cons_succ]
  have K4 := ((K.call X2).call X3).call X4
  have C14 := (C1.grow X3 (fun _ _ h => h)).grow X4 (fun _ _ h => h)
  have C24 := C2.grow X4 (fun _ _ h => h)
  have V4 := hv.grow K4.fr (fun _ _ h => h)
  have I4 : Came w4 (some ⟨w.heap.size + 1, 0, none⟩) 32 32 il := ⟨HI32.out, Nat.le_refl _, by unfold maxLen; omega, row_lies (K4.heap 0 rfl) HIL.out, fun e => by cases e⟩
  refine Wk.call rfl rfl 49 #[.slice (some ⟨b3, 0, none⟩) 4 4] (fun W => by kernel_rfl) (fun v W => ∃ a1 c1, v = .slice a1 T1.length c1 ∧ Came W a1 T1.length c1 T1) (fun W hx => ?_) ?_
  · have P := parts4 ((hx.block _ (lt_of_block B3) (fun h => h)).trans B3) (C14.grow hx (fun _ _ h => h)) (I4.grow hx (fun _ _ h => h)) (C24.grow hx (fun _ _ h => h)) (V4.grow hx (fun _ _ h => h))
    refine (concat_any _ [HM.xor (HM.blk kl) 0x36, il, S2.be8 u, v] 4 4 W P rfl (by omega) (by rw [HF1.out, HT1.out]; omega) (by rw [HF1.out, HT1.out]; omega)).mono ?_
    rw [HF1.out]
    rintro e w6 ⟨a6, c6, rfl, own6, F6⟩
    exact ⟨_, rfl, F6, a6, c6, rfl, came_of_own own6 rfl⟩
  rintro v3 w5 X5 ⟨a1, c1, rfl, D5⟩
  simp only [List.getElem_toArray, List.getElem_cons_succ, List.getElem_cons_zero, Act.put, List.setIfInBounds_toArray, List.set_cons_zero, List.set_cons_succ]
  have K5 := K4.call X5
  refine Wk.seg 8 1 (by kernel_rfl) (by kernel_rfl) ?_
  apply Exists.intro
  refine ⟨?wk8, ?fin8⟩
  case wk8 =>
    intro γ
    simp only [List.drop_succ_cons, List.drop_zero, List.take_succ_cons, List.take_zero]
    repeat (any_goals (first | go_big_quiet_step (fail) | quiet_step (fail)))
    exact wpQuiet_nil rfl
  case fin8 =>
  (try simp only [Act.put, List.setIfInBounds_toArray, List.set_cons_zero, List.set_cons_succ])
  intro w6 X6
  have K6 := K5.call X6
  have D6 := D5.grow X6 (fun _ _ h => h)
  clear K K4 K5 X2 X3 X4 X5 X6 C1 C2 C14 C24 V4 I4 B3 D5
  have K := K6
  clear K6
  go_wp2_with fail
  have Fm := (Fr.refl (fun _ => False) w6).alloc (.cells #[.slice a1 T1.length c1] 23)
  refine (psum_any _ [T1] 1 1 rfl _ (parts1 (heap_alloc_new w6 _) (D6.grow Fm (fun _ _ h => h))) (by unfold maxLen; omega) (by have := HT1.out; simp; omega) (hE.fr (Ex.tr K.fr Fm) (fun h => h))).mono ?_
  rintro e w7 ⟨rfl, F7⟩
  rw [show [T1].flatten = T1 by simp]
  have G7 := Ex.tr Fm F7
  have K7 := K.call G7
  have D7 := D6.grow G7 (fun _ _ h => h)
  have HK7 := Lib.hid K7
  have sS : Sz 32 (sumc T1) := ⟨sumv_size _, sumv_one _⟩
  clear K K7 D6 G7 Fm F7
  have K := Kn.start w7
  go_wp2_with (first | ((with_reducible refine wpList_new_kn K 22 10 _ _ _ #[.int .u8 0, .int .u8 0, .int .u8 0, .int .u8 0, .int .u8 0, .int .u8 0, .int .u8 0, .int .u8 0, .int .u8 0, .int .u8 0, .int .u8 0, .int .u8 0, .int .u8 0, .int .u8 0, .int .u8 0, .int .u8 0, .int .u8 0, .int .u8 0, .int .u8 0, .int .u8 0, .int .u8 0, .int .u8 0, .int .u8 0, .int .u8 0, .int .u8 0, .int .u8 0, .int .u8 0, .int .u8 0, .int .u8 0, .int .u8 0, .int .u8 0, .int .u8 0] 32 rfl Tryd.alBa rfl ?_); intro g10 wz Kz; clear K; have K := Kz; clear Kz; try (simp only [Act.put, List.setIfInBounds_toArray, List.set_cons_zero, List.set_cons_succ])) | (focus ((((with_reducible refine' wpList_store_kn K rfl 22 (.tmp 10) _ rfl 0 _ _ _ _ _ rfl rfl Tryd.szBa _ _ _); rotate_left 2; (focus exact rfl))); (focus (with_reducible assumption)); intro wz Kz; clear K; have K := Kz; clear Kz; simp only [List.set_cons_zero, List.set_cons_succ] at K; try (simp only [Act.put, List.setIfInBounds_toArray, List.set_cons_zero, List.set_cons_succ]))))
  have KJ := HK7.out.join K
  have D8 := D7.grow K.fr (fun _ _ h => h)
  clear K D7 HK7
  have K := KJ
  clear KJ
  refine wp_region_mono (sg 0 2 ++ (sg 3 1 ++ ((2, true) :: (4, true) :: (5, true) :: (6, true) :: (sg 7 1 ++ [])))) (by kernel_rfl) (by kernel_rfl) ?_
  refine Wk.seg 0 2 (by kernel_rfl) (by kernel_rfl) ?_
  apply Exists.intro
  refine ⟨?wk0, ?fin0⟩
  case wk0 =>
    intro γ
    simp only [List.drop_succ_cons, List.drop_zero, List.take_succ_cons, List.take_zero]
    repeat (any_goals (first | (focus (go_big_quiet_want; (first | ((with_reducible refine' quiet_load_kng K 22 (.tmp 4) rfl 2 _ _ _ _ rfl _ Tryd.underlying22 rfl Tryd.szBa _ _); rotate_left 2; (focus exact rfl))); simp only [Act.put, List.setIfInBounds_toArray, List.set_cons_zero, List.set_cons_succ]; go_big_quiet_on)) | go_big_quiet_step (fail) | quiet_step (fail)))
    exact wpQuiet_nil rfl
  case fin0 =>
  (try simp only [Act.put, List.setIfInBounds_toArray, List.set_cons_zero, List.set_cons_succ])
  refine Wk.seg 3 1 (by kernel_rfl) (by kernel_rfl) ?_
  apply Exists.intro
  refine ⟨?wk3, ?fin3⟩
  case wk3 =>
    intro γ
    simp only [List.drop_succ_cons, List.drop_zero, List.take_succ_cons, List.take_zero]
    repeat (any_goals (first | go_big_quiet_step (fail) | quiet_step (fail)))
    exact wpQuiet_nil rfl
  case fin3 =>
  (try simp only [Act.put, List.setIfInBounds_toArray, List.set_cons_zero, List.set_cons_succ])
  refine Wk.call rfl rfl 50 #[.agg (ub 32 fo), .int .u8 92] (fun W => by kernel_rfl) (fun v W => ∃ g, v = .slice (some ⟨g, 0, none⟩) 64 64 ∧ Came W (some ⟨g, 0, none⟩) 64 64 (HM.xor (HM.blk kl) 0x5c)) (fun W hx => (HTU2.out W).mono ?_) ?_
  · rintro e W' ⟨g, rfl, hC, F⟩
    exact ⟨_, rfl, F, g, rfl, hC⟩
  rintro v4 wA XA ⟨gA, rfl, CA⟩
  simp only [List.getElem_toArray, List.getElem_cons_succ, List.getElem_cons_zero, Act.put, List.setIfInBounds_toArray, List.set_cons_zero, List.set_cons_succ]
  refine Wk.make rfl rfl 2 #[.slice (some ⟨gA, 0, none⟩) 64 64, .slice (some ⟨g10, 0, none⟩) 32 32] 23 (fun W => by kernel_rfl) ?_
  intro bB wB XB BB
  simp only [List.getElem_toArray, List.getElem_cons_succ, List.getElem_cons_zero, Act.put, List.setIfInBounds_toArray, List.set_cons_zero, List.set_cons_succ]
  have KB := (K.call XA).call XB
  have CB := CA.grow XB (fun _ _ h => h)
  have SB : Came wB (some ⟨g10, 0, none⟩) 32 32 (S2.sum T1) := ⟨sum_length _, Nat.le_refl _, by unfold maxLen; omega, sumc_lies (KB.heap 0 rfl), fun e => by cases e⟩
  have DB := (D8.grow XA (fun _ _ h => h)).grow XB (fun _ _ h => h)
  refine Wk.call rfl rfl 49 #[.slice (some ⟨bB, 0, none⟩) 2 2] (fun W => by kernel_rfl) (fun v W => ∃ a1 c1, v = .slice a1 T2.length c1 ∧ Came W a1 T2.length c1 T2) (fun W hx => ?_) ?_
  · have P := parts2 ((hx.block _ (lt_of_block BB) (fun h => h)).trans BB) (CB.grow hx (fun _ _ h => h)) (SB.grow hx (fun _ _ h => h))
    refine (concat_any _ [HM.xor (HM.blk kl) 0x5c, S2.sum T1] 2 2 W P rfl (by omega) (by rw [HF2.out, HT2.out]; omega) (by rw [HF2.out, HT2.out]; omega)).mono ?_
    rw [HF2.out]
    rintro e w6 ⟨a6, c6, rfl, own6, F6⟩
    exact ⟨_, rfl, F6, a6, c6, rfl, came_of_own own6 rfl⟩
  rintro v5 wC XC ⟨a2, c2, rfl, EC⟩
  simp only [List.getElem_toArray, List.getElem_cons_succ, List.getElem_cons_zero, Act.put, List.setIfInBounds_toArray, List.set_cons_zero, List.set_cons_succ]
  have DC := DB.grow XC (fun _ _ h => h)
  refine Wk.make rfl rfl 2 #[.slice a1 T1.length c1, .slice a2 T2.length c2] 23 (fun W => by kernel_rfl) ?_
  intro bD wD XD BD
  simp only [List.getElem_toArray, List.getElem_cons_succ, List.getElem_cons_zero, Act.put, List.setIfInBounds_toArray, List.set_cons_zero, List.set_cons_succ]
  have KD := (KB.call XC).call XD
  have DD := DC.grow XD (fun _ _ h => h)
  have ED := EC.grow XD (fun _ _ h => h)
  refine Wk.seg 7 1 (by kernel_rfl) (by kernel_rfl) ?_
  apply Exists.intro
  refine ⟨?wk7, ?fin7⟩
  case wk7 =>
    intro γ
    simp only [List.drop_succ_cons, List.drop_zero, List.take_succ_cons, List.take_zero]
    repeat (any_goals (first | go_big_quiet_step (fail) | quiet_step (fail)))
    exact wpQuiet_nil rfl
  case fin7 =>
  (try simp only [Act.put, List.setIfInBounds_toArray, List.set_cons_zero, List.set_cons_succ])
  intro wE XE
  go_wp2_with fail
  go_ret
  exact ⟨_, _, _, _, _, rfl, (XE.block _ (lt_of_block BD) (fun h => h)).trans BD, DD.grow XE (fun _ _ h => h), ED.grow XE (fun _ _ h => h), Ex.tr KD.fr XE⟩
end Go.Proofs.YtbpblheaiancaaaDoor

/-
  The law RfclogShows.
-/
import Derived.Test.YtjndkjgbplpfeaaDoorLgf
namespace Go.Proofs.YtjndkjgbplpfeaaDoor
open Go.RowKit
set_option linter.unusedVariables false
set_option linter.unusedSimpArgs false
set_option maxRecDepth 100000 in
set_option maxHeartbeats 6400000 in
theorem shows_any (a0 : Option Addr) (n0 c0 : Nat) (L0 : List (List UInt8)) (y z : Int) (w : World) (h0 : Parts w a0 L0) (hn0 : L0.length = n0) (m0 : n0 ≤ maxLen) (hE : Env w) (hR : REnv w) :
    Calls Tryd.prog 4 #[.slice a0 n0 c0, .int .i64 y, .int .i64 z] w fun e w' => e = .returned (.bool true) ∧ Fr (fun _ => False) w w' := by
  have HFI := Lib.hid (fill_any a0 L0 n0 c0 hn0 w h0 m0 hE)
  have HE := Lib.hid hE
  have HR := Lib.hid hR
  clear h0 hn0 m0 hE hR
  go_enter Tryd.func4, Tryd.ntmps4
  go_wp2_with fail
  refine HFI.out.mono ?_
  rintro e w1 ⟨lb, Z, v, u, rfl, hd⟩
  clear HFI
  generalize fewL L0 20 60 = LL at hd
  obtain ⟨au, cu, hu, hu1, hu2, hsv, _⟩ := Os.view hd.ss
  have hK20 := hd.len
  have HSM := Lib.hid hd.small
  obtain ⟨K, hK⟩ : ∃ K, K = LL.length := ⟨_, rfl⟩
  rw [← hK] at hu hu1 hK20
  have HM1 := Lib.hid hd.lm
  have HF1 := Lib.hid hd.fr
  have HK := Lib.hid (And.intro hK.symm (And.intro hK20 (And.intro hu1 hu2)))
  have HSV := Lib.hid hsv
  have HE1 := Lib.hid (HE.out.ext hd.fr)
  have HR1 := Lib.hid (HR.out.ext hd.fr)
  subst hu
  clear hd hK20 hu1 hu2 hsv hK HE HR
  have HS := Lib.hid (show (LL.map Lg.leaf).length = K by rw [List.length_map]; exact HK.out.1)
  go_wp2_with fail
  refine (incl_z lb Z v _ y z (by rw [HS.out]; have := HK.out; omega) w1 HM1.out HE1.out).mono ?_
  rintro e w2 ⟨⟨v9, d1, rfl, hI⟩, F2⟩
  rw [HS.out] at hI
  have HI := Lib.hid hI
  have HF2 := Lib.hid F2
  clear hI F2
  go_wp2_with fail
  refine (cons_z lb Z v _ y z (by rw [HS.out]; have := HK.out; omega) w2 (HM1.out.ext HF2.out) (HE1.out.ext HF2.out)).mono ?_
  rintro e w3 ⟨⟨v11, d2, rfl, hJ⟩, F3⟩
  rw [HS.out] at hJ
  have HJ := Lib.hid hJ
  have HF3 := Lib.hid F3
  clear hJ F3
  go_wp2_with fail
  refine (logs_any w3 ((HE1.out.ext HF2.out).ext HF3.out) ((HR1.out.ext HF2.out).ext HF3.out)).mono ?_
  rintro e w4 ⟨rfl, F4⟩
  have HF34 := Lib.hid (HF3.out.trans F4 (fun _ h => h.elim))
  have HF14 := Lib.hid (HF2.out.trans HF34.out (fun _ h => h.elim))
  have HF3b := Lib.hid F4
  have HM4 := Lib.hid (HM1.out.ext HF14.out)
  have HE4 := Lib.hid (HE1.out.ext HF14.out)
  have HR4 := Lib.hid (HR1.out.ext HF14.out)
  have HSV4 := Lib.hid (HSV.out.ext HF14.out)
  have HF04 := Lib.hid (HF1.out.trans HF14.out (fun _ h => h.elim))
  clear F4 HM1 HE1 HR1 HSV HF1
  have hK9 : (0 : Int) ≤ (K : Int) := Int.natCast_nonneg K
  have hi9 := HI.out
  have hj9 := HJ.out
  rcases shows_cases y z (K : Int) hK9 with hc | hc | hc | hc | hc | hc | hc | hc | hc
  · obtain ⟨e1, e2⟩ : d1 = 0 ∧ d2 = 0 := by rcases hi9 with h | h <;> rcases hj9 with k | k <;> omega
    subst e1 e2
    have q0 : (1 : Int) ≤ z := by omega
    have t0 : decide ((1 : Int) ≤ z) = true := decide_eq_true q0
    have q1 : (0 : Int) ≤ z := by omega
    have t1 : decide ((0 : Int) ≤ z) = true := decide_eq_true q1
    have q2 : z ≤ (K : Int) := by omega
    have t2 : decide (z ≤ (K : Int)) = true := decide_eq_true q2
    have q3 : (0 : Int) ≤ y := by omega
    have t3 : decide ((0 : Int) ≤ y) = true := decide_eq_true q3
    have q4 : y < z := by omega
    have t4 : decide (y < z) = true := decide_eq_true q4
    have q5 : y ≤ z := by omega
    have t5 : decide (y ≤ z) = true := decide_eq_true q5
    obtain ⟨_, _, hO11⟩ := hj9.resolve_right (fun h => by have := h.1; omega)
    have HO11 := Lib.hid (own_ext hO11 HF3b.out)
    obtain ⟨_, _, hO9⟩ := hi9.resolve_right (fun h => by have := h.1; omega)
    have HO9 := Lib.hid (own_ext hO9 HF34.out)
    clear hO9
    clear hi9 hj9 HI HJ hO11
    have HC := Lib.hid hc
    clear hc
    go_wp2_with fail
    have hc := HC.out
    clear q0 t0 q1 t1 q2 t2 q3 t3 q4 t4 q5 t5
    obtain ⟨i, rfl⟩ : ∃ i : Nat, y = i := ⟨y.toNat, by omega⟩
    obtain ⟨n, rfl⟩ : ∃ n : Nat, z = n := ⟨z.toNat, by omega⟩
    have hin : i ≤ n := by omega
    have hnK : n ≤ K := by omega
    have hlt : i < n := by omega
    clear hc HC hK9
    refine (root_m lb Z v _ n (by rw [HS.out]; omega) (by rw [HS.out]; have := HK.out; omega) w4 HM4.out HE4.out).mono ?_
    rintro e wa ⟨rfl, Fa⟩
    obtain ⟨r0, hr0⟩ : ∃ r0, r0 = Lg.root (List.take n (LL.map Lg.leaf)) := ⟨_, rfl⟩
    rw [← hr0]
    have HL0 := Lib.hid (show r0.length = 32 by rw [hr0]; exact Lg.root_len ((leaf_all LL).take n))
    have HR0 := Lib.hid hr0
    have HFa := Lib.hid Fa
    clear Fa hr0
    go_wp2_with (rw [zero32]; refine wpList_store_rowA rfl 31 (.tmp 13) (.tmp 106) rfl wa.heap.size (krow r0) rfl rfl 31 _ (heap_alloc_new _ _) (sz32' HL0.out) (by rw [ub_size, krow_size, HL0.out]) (krow_one _) ?_; intro wb B F; simp only [Act.put, List.setIfInBounds_toArray, List.set_cons_zero, List.set_cons_succ]; refine Hid.out ?_)
    have Gb : Fr (fun _ => False) w4 wb := (HFa.out.alloc (.cells (ub 32 (fun _ => 0)) 31)).trans F (fun k hk => .inr (by rw [hk]; exact HFa.out.size))
    have HB13 := Lib.hid B
    have HGb := Lib.hid Gb
    have HEb := Lib.hid (HE4.out.ext Gb)
    have HRb := Lib.hid (HR4.out.ext Gb)
    have HSVb := Lib.hid (HSV4.out.ext Gb)
    have hO9b : Or32 wb 0 v9 (Lg.path i (List.take n (LL.map Lg.leaf))) := own_up (own_ext HO9.out Gb) (Nat.zero_le _)
    have hA := (leaf_all LL).take n
    have hll : (List.take n (LL.map Lg.leaf)).length = n := by rw [List.length_take, HS.out]; omega
    obtain ⟨a9, c9, rfl, h9a, h9b, hK9', _⟩ := hO9b.view (Lg.path_all _ i _ (Nat.le_refl _) hA)
    have hpl := Lg.path_len _ i (List.take n (LL.map Lg.leaf)) (Nat.le_refl _)
    rw [hll] at hpl
    obtain ⟨x, hx⟩ : ∃ x, x = LL.getD i [] := ⟨_, rfl⟩
    have hxi : LL[i]? = some x := by rw [hx, List.getD_eq_getElem?_getD, List.getElem?_eq_getElem (by rw [HK.out.1]; omega)]; rfl
    have HXI := Lib.hid hxi
    have HXL := Lib.hid (HSM.out x (List.mem_of_getElem? hxi))
    have hci := chkI_ok (List.take n (LL.map Lg.leaf)) i (by rw [hll]; omega)
    rw [hll, ← HR0.out, show (List.take n (LL.map Lg.leaf)).getD i [] = Lg.leaf x from by rw [List.getD_eq_getElem?_getD, List.getElem?_take_of_lt (by omega), List.getElem?_map, hxi]; rfl] at hci
    have HDP := Lib.hid (fun (V : World) (hx : Fr (fun _ => False) wb V) => dpath_any _ au cu (LL.take n) n i V (Nat.le_refl _) (by rw [List.length_take, HK.out.1]; omega) (by have := HK.out; omega) HK.out.2.2.2 (by omega) (by have := HK.out; omega) (fun x hx => Nat.le_trans (HSM.out x (List.mem_of_mem_take hx)) (by decide)) ((HSVb.out.take n).ext hx) (HRb.out.ext hx))
    rw [← List.map_take] at hci hK9' hpl h9a ⊢
    generalize Lg.path i ((LL.take n).map Lg.leaf) = P9 at *
    have HPLa := Lib.hid (show P9.length ≤ 1000 by have := HK.out; omega)
    have HK9 := Lib.hid hK9'
    have HCI := Lib.hid hci
    have HP9 := Lib.hid (And.intro h9a h9b)
    have qa : (n : Int) ≤ (K : Int) := by omega
    have qb : n ≤ K := by omega
    have qc : n ≤ cu := by have := HK.out; omega
    have qd : (n : Int) ≤ (cu : Int) := by omega
    have qe : (0 : Int) ≤ (n : Int) := Int.natCast_nonneg n
    have qf : (i : Int) < (K : Int) := by omega
    have qg : i < K := by omega
    have qh : (0 : Int) ≤ (i : Int) := Int.natCast_nonneg i
    have HIN := Lib.hid (show i < n ∧ n ≤ 9223372036854775807 from ⟨by omega, by have := HK.out; omega⟩)
    obtain ⟨gu, ou, rfl⟩ := HSVb.out.at (by rw [HK.out.1]; omega)
    clear B F Gb hO9b hA hll h9a h9b hK9' hpl hx hxi hci HFa
    refine Lib.hid ?_
    go_wp2_with fail
    refine Ks.wp_region_mono (fun _ => False) (sg 0 4 ++ (sg 5 4 ++ ((4, true) :: ((9, true) :: ((10, true) :: (sg 11 7 ++ (sg 19 4 ++ ((18, true) :: ((23, true) :: (sg 24 2 ++ ([]))))))))))) (by kernel_rfl) (by kernel_rfl) ?_
    refine Ks.Wk.seg 0 4 (by kernel_rfl) (by kernel_rfl) ?_
    apply Exists.intro
    refine ⟨?wk0, ?fin0⟩
    case wk0 =>
      intro γ
      simp only [List.drop_succ_cons, List.drop_zero, List.take_succ_cons, List.take_zero]
      repeat (any_goals (first | go_big_quiet_step (fail) | quiet_step (fail)))
      exact wpQuiet_nil rfl
    case fin0 =>
    (try simp only [Act.put, List.setIfInBounds_toArray, List.set_cons_zero, List.set_cons_succ])
    refine Ks.Wk.seg 5 4 (by kernel_rfl) (by kernel_rfl) ?_
    apply Exists.intro
    refine ⟨?wk1, ?fin1⟩
    case wk1 =>
      intro γ
      simp only [List.drop_succ_cons, List.drop_zero, List.take_succ_cons, List.take_zero]
      repeat (any_goals (first | go_big_quiet_step (fail) | quiet_step (fail)))
      exact wpQuiet_nil rfl
    case fin1 =>
    (try simp only [Act.put, List.setIfInBounds_toArray, List.set_cons_zero, List.set_cons_succ])
    refine Ks.Wk.call rfl (by kernel_rfl) 18 #[.slice a9 P9.length c9] (fun W => by first | kernel_rfl | rfl) (fun v V => Nonempty2 (Os V wb.heap.size v P9)) (fun V hx => (texts_any a9 c9 P9.length P9 rfl (by have := HPLa.out; omega) V (HK9.out.ext hx)).mono (fun e w' he => by obtain ⟨⟨v, e1, e2⟩, e3⟩ := he; exact ⟨v, e1, e3, ⟨own_up e2 hx.size⟩⟩)) ?_
    rintro v5 w5 X5 ⟨HTa⟩
    (try simp only [List.getElem_toArray, List.getElem_cons_succ, List.getElem_cons_zero, Act.put, List.setIfInBounds_toArray, List.set_cons_zero, List.set_cons_succ])
    obtain ⟨ata, cta, rfl, _, _, HVa, _⟩ := HTa.view
    clear HTa
    refine Ks.Wk.call rfl (by kernel_rfl) 19 #[.slice (some ⟨gu, ou, none⟩) n cu, .int .i64 (i : Int)] (fun W => by first | kernel_rfl | rfl) (fun v V => Nonempty2 (Os V w5.heap.size v P9)) (fun V hx => (HDP.out V (X5.trans hx (fun _ h => h.elim))).mono (fun e w' he => by obtain ⟨⟨v, e1, e2⟩, e3⟩ := he; exact ⟨v, e1, e3, ⟨own_up e2 hx.size⟩⟩)) ?_
    rintro v6 w6 X6 ⟨HTb⟩
    (try simp only [List.getElem_toArray, List.getElem_cons_succ, List.getElem_cons_zero, Act.put, List.setIfInBounds_toArray, List.set_cons_zero, List.set_cons_succ])
    obtain ⟨atb, ctb, rfl, _, _, HVb, _⟩ := HTb.view
    clear HTb
    refine Ks.Wk.call rfl (by kernel_rfl) 17 #[.slice ata P9.length cta, .slice atb P9.length ctb] (fun W => by first | kernel_rfl | rfl) (fun v V => v = .bool true) (fun V hx => (same_eq ata atb cta ctb P9.length P9 rfl HPLa.out V (HVa.ext (X6.trans hx (fun _ h => h.elim))) (HVb.ext hx)).mono (fun e w' he => ⟨_, he.1, he.2, rfl⟩)) ?_
    rintro v7 w7 X7 rfl
    (try simp only [List.getElem_toArray, List.getElem_cons_succ, List.getElem_cons_zero, Act.put, List.setIfInBounds_toArray, List.set_cons_zero, List.set_cons_succ])
    have X57 := (X5.trans X6 (fun _ h => h.elim)).trans X7 (fun _ h => h.elim)
    have HX57 := Lib.hid X57
    have HB13c := Lib.hid ((X57.block _ (lt_of_block HB13.out) (fun h => h)).trans HB13.out)
    have HSV7 := Lib.hid (HSVb.out.ext X57)
    clear X5 X6 X7 X57 HVa HVb
    refine Ks.Wk.seg 11 7 (by kernel_rfl) (by kernel_rfl) ?_
    apply Exists.intro
    refine ⟨?wk5, ?fin5⟩
    case wk5 =>
      intro γ
      have kx : ∀ z : Ks.Ws γ, z.w.cell? ⟨gu, ou + i, none⟩ = some (.string ⟨x.toArray⟩) := fun z => (HSV7.out.ext z.h).cell HXI.out
      simp only [List.drop_succ_cons, List.drop_zero, List.take_succ_cons, List.take_zero]
      repeat (any_goals (first | go_big_quiet_step (fail) | quiet_step (fail)))
      exact wpQuiet_nil rfl
    case fin5 =>
    (try simp only [Act.put, List.setIfInBounds_toArray, List.set_cons_zero, List.set_cons_succ])
    refine Ks.Wk.seg 19 4 (by kernel_rfl) (by kernel_rfl) ?_
    apply Exists.intro
    refine ⟨?wk6, ?fin6⟩
    case wk6 =>
      intro γ
      simp only [List.drop_succ_cons, List.drop_zero, List.take_succ_cons, List.take_zero]
      repeat (any_goals (first | (focus (go_big_quiet_want; (refine Ks.quiet_load_rows 31 (.tmp 13) rfl wa.heap.size rfl 31 (krow r0) (0, 0) _ HB13c.out (fun h => h) Tryd.underlying31 rfl (sz32' HL0.out) ?_); simp only [Act.put, List.setIfInBounds_toArray, List.set_cons_zero, List.set_cons_succ]; go_big_quiet_on)) | go_big_quiet_step (fail) | quiet_step (fail)))
      exact wpQuiet_nil rfl
    case fin6 =>
    (try simp only [Act.put, List.setIfInBounds_toArray, List.set_cons_zero, List.set_cons_succ])
    refine Ks.Wk.one rfl (fun w8 Xw8 => ?_)
    have cv := fun (V : World) => conv_to x V
    go_wp2_with fail
    refine ⟨Ks.Es.of (own_str_fr _ ⟨x.toArray⟩), ?_⟩
    (try simp only [List.getElem_toArray, List.getElem_cons_succ, List.getElem_cons_zero, Act.put, List.setIfInBounds_toArray, List.set_cons_zero, List.set_cons_succ])
    have CM := conv_came x (by have := HXL.out; omega) w8
    have X78 : Fr (fun _ => False) w7 (Lib.bytesWorld w8 5 ⟨x.toArray⟩) := Xw8.trans (own_str_fr _ ⟨x.toArray⟩) (fun _ h => h.elim)
    generalize (Lib.bytesWorld w8 5 ⟨x.toArray⟩) = w8b at *
    generalize (grownCap w8 x.length 0 5) = gc at *
    refine Ks.Wk.call rfl (by kernel_rfl) 20 #[.slice (some ⟨w8.heap.size, 0, none⟩) x.length gc, .int .i64 (i : Int), .int .i64 (n : Int), .slice a9 P9.length c9, .agg (krow r0)] (fun W => by first | kernel_rfl | rfl) (fun v V => v = .int .i64 0) (fun V hx => (chki_any (some ⟨w8.heap.size, 0, none⟩) a9 x.length gc c9 x P9 i n r0 HL0.out HIN.out.1 HIN.out.2 V (CM.ext hx) (by have := HXL.out; omega) HP9.out.1 HP9.out.2 (HK9.out.ext ((HX57.out.trans X78 (fun _ h => h.elim)).trans hx (fun _ h => h.elim))) (HEb.out.ext ((HX57.out.trans X78 (fun _ h => h.elim)).trans hx (fun _ h => h.elim)))).mono (fun e w' he => ⟨_, he.1, he.2, by rw [HCI.out]⟩)) ?_
    rintro v9 w9 X9 rfl
    (try simp only [List.getElem_toArray, List.getElem_cons_succ, List.getElem_cons_zero, Act.put, List.setIfInBounds_toArray, List.set_cons_zero, List.set_cons_succ])
    refine Ks.Wk.seg 24 2 (by kernel_rfl) (by kernel_rfl) ?_
    apply Exists.intro
    refine ⟨?wk9, ?fin9⟩
    case wk9 =>
      intro γ
      simp only [List.drop_succ_cons, List.drop_zero, List.take_succ_cons, List.take_zero]
      repeat (any_goals (first | go_big_quiet_step (fail) | quiet_step (fail)))
      exact wpQuiet_nil rfl
    case fin9 =>
    (try simp only [Act.put, List.setIfInBounds_toArray, List.set_cons_zero, List.set_cons_succ])
    intro w10 X10
    have X410 := HGb.out.trans ((HX57.out.trans X78 (fun _ h => h.elim)).trans (X9.trans X10 (fun _ h => h.elim)) (fun _ h => h.elim)) (fun _ h => h.elim)
    have HMz := Lib.hid (HM4.out.ext X410)
    have HEz := Lib.hid (HE4.out.ext X410)
    have HRz := Lib.hid (HR4.out.ext X410)
    have HSVz := Lib.hid (HSV4.out.ext X410)
    have HFz := Lib.hid (HF04.out.trans X410 (fun _ h => h.elim))
    have HOz := Lib.hid (own_ext HO11.out X410)
    clear X410 X10 X9 X78 CM HX57 HB13c HSV7 HB13 HGb HEb HRb HSVb HDP HK9 HP9 HM4 HE4 HR4 HSV4 HF04 HO9 HO11
    go_wp2_with fail
    refine (root_m lb Z v _ n (by rw [HS.out]; omega) (by rw [HS.out]; have := HK.out; omega) w10 HMz.out HEz.out).mono ?_
    rintro e wa ⟨rfl, Fa⟩
    obtain ⟨r2, hr2⟩ : ∃ r2, r2 = Lg.root (List.take n (LL.map Lg.leaf)) := ⟨_, rfl⟩
    rw [← hr2]
    have HL2 := Lib.hid (show r2.length = 32 by rw [hr2]; exact Lg.root_len ((leaf_all LL).take n))
    have HR2 := Lib.hid hr2
    have HFa := Lib.hid Fa
    clear Fa hr2
    go_wp2_with (rw [zero32]; refine wpList_store_rowA rfl 31 (.tmp 15) (.tmp 140) rfl wa.heap.size (krow r2) rfl rfl 31 _ (heap_alloc_new _ _) (sz32' HL2.out) (by rw [ub_size, krow_size, HL2.out]) (krow_one _) ?_; intro wb B F; simp only [Act.put, List.setIfInBounds_toArray, List.set_cons_zero, List.set_cons_succ]; refine Hid.out ?_)
    have Gb : Fr (fun _ => False) w10 wb := (HFa.out.alloc (.cells (ub 32 (fun _ => 0)) 31)).trans F (fun k hk => .inr (by rw [hk]; exact HFa.out.size))
    have HBb := Lib.hid B
    have HGb := Lib.hid Gb
    clear B F Gb HFa
    refine Lib.hid ?_
    go_wp2_with fail
    refine (root_m lb Z v _ i (by rw [HS.out]; omega) (by rw [HS.out]; have := HK.out; omega) wb (HMz.out.ext HGb.out) (HEz.out.ext HGb.out)).mono ?_
    rintro e wc ⟨rfl, Fc⟩
    obtain ⟨r1, hr1⟩ : ∃ r1, r1 = Lg.root (List.take i (LL.map Lg.leaf)) := ⟨_, rfl⟩
    rw [← hr1]
    have HL1 := Lib.hid (show r1.length = 32 by rw [hr1]; exact Lg.root_len ((leaf_all LL).take i))
    have HR1 := Lib.hid hr1
    have HFc := Lib.hid Fc
    clear Fc hr1
    go_wp2_with (rw [zero32]; refine wpList_store_rowA rfl 31 (.tmp 17) (.tmp 146) rfl wc.heap.size (krow r1) rfl rfl 31 _ (heap_alloc_new _ _) (sz32' HL1.out) (by rw [ub_size, krow_size, HL1.out]) (krow_one _) ?_; intro wd B F; simp only [Act.put, List.setIfInBounds_toArray, List.set_cons_zero, List.set_cons_succ]; refine Hid.out ?_)
    have Gd : Fr (fun _ => False) wb wd := (HFc.out.alloc (.cells (ub 32 (fun _ => 0)) 31)).trans F (fun k hk => .inr (by rw [hk]; exact HFc.out.size))
    have HB17 := Lib.hid B
    have HB15 := Lib.hid ((Gd.block _ (lt_of_block HBb.out) (fun h => h)).trans HBb.out)
    have G4d := HGb.out.trans Gd (fun _ h => h.elim)
    have HFd := Lib.hid (HFz.out.trans G4d (fun _ h => h.elim))
    have HEd := Lib.hid (HEz.out.ext G4d)
    have HRd := Lib.hid (HRz.out.ext G4d)
    have HSVd := Lib.hid ((HSVz.out.take n).ext G4d)
    have hO11 : Or32 wd 0 v11 (conP i (List.take n (LL.map Lg.leaf))) := own_up (own_ext HOz.out G4d) (Nat.zero_le _)
    have hA := (leaf_all LL).take n
    have hll : (List.take n (LL.map Lg.leaf)).length = n := by rw [List.length_take, HS.out]; omega
    obtain ⟨a11, c11, rfl, h11a, h11b, hK11, _⟩ := hO11.view (conP_all hA)
    have hpl := conP_len (m := i) (L := List.take n (LL.map Lg.leaf)) (by rw [hll]; omega)
    rw [hll] at hpl
    have HCK := Lib.hid (fun (V : World) (hx : Fr (fun _ => False) wd V) => chkc_ok i n (List.take n (LL.map Lg.leaf)) (by omega) hll (by have := HK.out; omega) hA a11 c11 V h11a h11b (hK11.ext hx) (HEd.out.ext hx))
    rw [List.take_take, Nat.min_eq_left (by omega), ← HR1.out, ← HR2.out] at HCK
    have HMT := Lib.hid (List.map_take (f := Lg.leaf) (l := LL) (i := n))
    rw [← List.map_take] at HCK hK11 hpl
    have HDC := Lib.hid (fun (V : World) (hx : Fr (fun _ => False) wd V) => dcons_any (some ⟨gu, ou, none⟩) cu (LL.take n) n i V (by rw [List.length_take, HK.out.1]; omega) (by have := HK.out; omega) HK.out.2.2.2 (by omega) (by have := HK.out; omega) (fun x hx => Nat.le_trans (HSM.out x (List.mem_of_mem_take hx)) (by decide)) (HSVd.out.ext hx) (HRd.out.ext hx))
    rw [← List.map_take]
    generalize conP i ((LL.take n).map Lg.leaf) = P11 at *
    have HPLc := Lib.hid (show P11.length ≤ 1000 by have := HK.out; omega)
    have HK11 := Lib.hid hK11
    have qa : (n : Int) ≤ (K : Int) := by omega
    have qb : n ≤ K := by omega
    have qc : n ≤ cu := by have := HK.out; omega
    have qd : (n : Int) ≤ (cu : Int) := by omega
    have qe : (0 : Int) ≤ (n : Int) := Int.natCast_nonneg n
    clear B F Gd G4d hO11 hA hll h11a h11b hK11 hpl HBb HGb HFc
    refine Lib.hid ?_
    go_wp2_with fail
    refine Ks.wp_region_mono (fun _ => False) (sg 0 8 ++ (sg 9 4 ++ ((8, true) :: ((13, true) :: ((14, true) :: (sg 15 7 ++ ((22, true) :: (sg 23 2 ++ ((25, true) :: ([])))))))))) (by kernel_rfl) (by kernel_rfl) ?_
    refine Ks.Wk.seg 0 8 (by kernel_rfl) (by kernel_rfl) ?_
    apply Exists.intro
    refine ⟨?wk0, ?fin0⟩
    case wk0 =>
      intro γ
      simp only [List.drop_succ_cons, List.drop_zero, List.take_succ_cons, List.take_zero]
      repeat (any_goals (first | go_big_quiet_step (fail) | quiet_step (fail)))
      exact wpQuiet_nil rfl
    case fin0 =>
    (try simp only [Act.put, List.setIfInBounds_toArray, List.set_cons_zero, List.set_cons_succ])
    refine Ks.Wk.seg 9 4 (by kernel_rfl) (by kernel_rfl) ?_
    apply Exists.intro
    refine ⟨?wk1, ?fin1⟩
    case wk1 =>
      intro γ
      simp only [List.drop_succ_cons, List.drop_zero, List.take_succ_cons, List.take_zero]
      repeat (any_goals (first | go_big_quiet_step (fail) | quiet_step (fail)))
      exact wpQuiet_nil rfl
    case fin1 =>
    (try simp only [Act.put, List.setIfInBounds_toArray, List.set_cons_zero, List.set_cons_succ])
    refine Ks.Wk.call rfl (by kernel_rfl) 18 #[.slice a11 P11.length c11] (fun W => by first | kernel_rfl | rfl) (fun v V => Nonempty2 (Os V wd.heap.size v P11)) (fun V hx => (texts_any a11 c11 P11.length P11 rfl (by have := HPLc.out; omega) V (HK11.out.ext hx)).mono (fun e w' he => by obtain ⟨⟨v, e1, e2⟩, e3⟩ := he; exact ⟨v, e1, e3, ⟨own_up e2 hx.size⟩⟩)) ?_
    rintro v5 w5 X5 ⟨HTc⟩
    (try simp only [List.getElem_toArray, List.getElem_cons_succ, List.getElem_cons_zero, Act.put, List.setIfInBounds_toArray, List.set_cons_zero, List.set_cons_succ])
    obtain ⟨atc, ctc, rfl, _, _, HVc, _⟩ := HTc.view
    clear HTc
    refine Ks.Wk.call rfl (by kernel_rfl) 21 #[.slice (some ⟨gu, ou, none⟩) n cu, .int .i64 (i : Int)] (fun W => by first | kernel_rfl | rfl) (fun v V => Nonempty2 (Os V w5.heap.size v P11)) (fun V hx => (HDC.out V (X5.trans hx (fun _ h => h.elim))).mono (fun e w' he => by obtain ⟨⟨v, e1, e2⟩, e3⟩ := he; exact ⟨v, e1, e3, ⟨own_up e2 hx.size⟩⟩)) ?_
    rintro v6 w6 X6 ⟨HTd⟩
    (try simp only [List.getElem_toArray, List.getElem_cons_succ, List.getElem_cons_zero, Act.put, List.setIfInBounds_toArray, List.set_cons_zero, List.set_cons_succ])
    obtain ⟨atd, ctd, rfl, _, _, HVd, _⟩ := HTd.view
    clear HTd
    refine Ks.Wk.call rfl (by kernel_rfl) 17 #[.slice atc P11.length ctc, .slice atd P11.length ctd] (fun W => by first | kernel_rfl | rfl) (fun v V => v = .bool true) (fun V hx => (same_eq atc atd ctc ctd P11.length P11 rfl HPLc.out V (HVc.ext (X6.trans hx (fun _ h => h.elim))) (HVd.ext hx)).mono (fun e w' he => ⟨_, he.1, he.2, rfl⟩)) ?_
    rintro v7 w7 X7 rfl
    (try simp only [List.getElem_toArray, List.getElem_cons_succ, List.getElem_cons_zero, Act.put, List.setIfInBounds_toArray, List.set_cons_zero, List.set_cons_succ])
    have X57 := (X5.trans X6 (fun _ h => h.elim)).trans X7 (fun _ h => h.elim)
    have HB17c := Lib.hid ((X57.block _ (lt_of_block HB17.out) (fun h => h)).trans HB17.out)
    have HB15c := Lib.hid ((X57.block _ (lt_of_block HB15.out) (fun h => h)).trans HB15.out)
    refine Ks.Wk.seg 15 7 (by kernel_rfl) (by kernel_rfl) ?_
    apply Exists.intro
    refine ⟨?wk5, ?fin5⟩
    case wk5 =>
      intro γ
      simp only [List.drop_succ_cons, List.drop_zero, List.take_succ_cons, List.take_zero]
      repeat (any_goals (first | (focus (go_big_quiet_want; (refine Ks.quiet_load_rows 31 (.tmp 17) rfl wc.heap.size rfl 31 (krow r1) (0, 0) _ HB17c.out (fun h => h) Tryd.underlying31 rfl (sz32' HL1.out) ?_); simp only [Act.put, List.setIfInBounds_toArray, List.set_cons_zero, List.set_cons_succ]; go_big_quiet_on)) | (focus (go_big_quiet_want; (refine Ks.quiet_load_rows 31 (.tmp 15) rfl wa.heap.size rfl 31 (krow r2) (0, 0) _ HB15c.out (fun h => h) Tryd.underlying31 rfl (sz32' HL2.out) ?_); simp only [Act.put, List.setIfInBounds_toArray, List.set_cons_zero, List.set_cons_succ]; go_big_quiet_on)) | go_big_quiet_step (fail) | quiet_step (fail)))
      exact wpQuiet_nil rfl
    case fin5 =>
    (try simp only [Act.put, List.setIfInBounds_toArray, List.set_cons_zero, List.set_cons_succ])
    refine Ks.Wk.call rfl (by kernel_rfl) 22 #[.int .i64 (i : Int), .int .i64 (n : Int), .slice a11 P11.length c11, .agg (krow r1), .agg (krow r2)] (fun W => by first | kernel_rfl | rfl) (fun v V => v = .int .i64 0) (fun V hx => (HCK.out V (X57.trans hx (fun _ h => h.elim))).mono (fun e w' he => ⟨_, he.1, he.2, rfl⟩)) ?_
    rintro v8 w8 X8 rfl
    (try simp only [List.getElem_toArray, List.getElem_cons_succ, List.getElem_cons_zero, Act.put, List.setIfInBounds_toArray, List.set_cons_zero, List.set_cons_succ])
    refine Ks.Wk.seg 23 2 (by kernel_rfl) (by kernel_rfl) ?_
    apply Exists.intro
    refine ⟨?wk7, ?fin7⟩
    case wk7 =>
      intro γ
      simp only [List.drop_succ_cons, List.drop_zero, List.take_succ_cons, List.take_zero]
      repeat (any_goals (first | go_big_quiet_step (fail) | quiet_step (fail)))
      exact wpQuiet_nil rfl
    case fin7 =>
    (try simp only [Act.put, List.setIfInBounds_toArray, List.set_cons_zero, List.set_cons_succ])
    refine Ks.Wk.one rfl (fun w9 Xw9 => ?_)
    go_wp2_with fail
    refine ⟨Ks.Es.of (Fr.refl _ _), ?_⟩
    (try simp only [List.getElem_toArray, List.getElem_cons_succ, List.getElem_cons_zero, Act.put, List.setIfInBounds_toArray, List.set_cons_zero, List.set_cons_succ])
    intro w10 X10
    have HX10 := Lib.hid (HFd.out.trans ((X57.trans X8 (fun _ h => h.elim)).trans (Xw9.trans X10 (fun _ h => h.elim)) (fun _ h => h.elim)) (fun _ h => h.elim))
    clear X10 Xw9 X8 X57 X7 X6 X5 HVc HVd
    go_wp2_with fail
    go_ret
    exact ⟨rfl, HX10.out⟩
  · obtain ⟨e1, e2⟩ : d1 = 1 ∧ d2 = 0 := by rcases hi9 with h | h <;> rcases hj9 with k | k <;> omega
    subst e1 e2
    have q0 : ¬ ((1 : Int) ≤ z) := by omega
    have t0 : decide ((1 : Int) ≤ z) = false := decide_eq_false q0
    have q1 : (0 : Int) ≤ z := by omega
    have t1 : decide ((0 : Int) ≤ z) = true := decide_eq_true q1
    have q2 : z ≤ (K : Int) := by omega
    have t2 : decide (z ≤ (K : Int)) = true := decide_eq_true q2
    have q3 : (0 : Int) ≤ y := by omega
    have t3 : decide ((0 : Int) ≤ y) = true := decide_eq_true q3
    have q4 : ¬ (y < z) := by omega
    have t4 : decide (y < z) = false := decide_eq_false q4
    have q5 : y ≤ z := by omega
    have t5 : decide (y ≤ z) = true := decide_eq_true q5
    obtain ⟨_, _, hO11⟩ := hj9.resolve_right (fun h => by have := h.1; omega)
    have HO11 := Lib.hid (own_ext hO11 HF3b.out)
    clear hi9 hj9 HI HJ hO11
    have HC := Lib.hid hc
    clear hc
    go_wp2_with fail
    have hc := HC.out
    clear q0 t0 q1 t1 q2 t2 q3 t3 q4 t4 q5 t5
    obtain ⟨i, rfl⟩ : ∃ i : Nat, y = i := ⟨y.toNat, by omega⟩
    obtain ⟨n, rfl⟩ : ∃ n : Nat, z = n := ⟨z.toNat, by omega⟩
    have hin : i ≤ n := by omega
    have hnK : n ≤ K := by omega
    clear hc HC hK9
    refine (root_m lb Z v _ n (by rw [HS.out]; omega) (by rw [HS.out]; have := HK.out; omega) w4 HM4.out HE4.out).mono ?_
    rintro e wa ⟨rfl, Fa⟩
    obtain ⟨r2, hr2⟩ : ∃ r2, r2 = Lg.root (List.take n (LL.map Lg.leaf)) := ⟨_, rfl⟩
    rw [← hr2]
    have HL2 := Lib.hid (show r2.length = 32 by rw [hr2]; exact Lg.root_len ((leaf_all LL).take n))
    have HR2 := Lib.hid hr2
    have HFa := Lib.hid Fa
    clear Fa hr2
    go_wp2_with (rw [zero32]; refine wpList_store_rowA rfl 31 (.tmp 15) (.tmp 140) rfl wa.heap.size (krow r2) rfl rfl 31 _ (heap_alloc_new _ _) (sz32' HL2.out) (by rw [ub_size, krow_size, HL2.out]) (krow_one _) ?_; intro wb B F; simp only [Act.put, List.setIfInBounds_toArray, List.set_cons_zero, List.set_cons_succ]; refine Hid.out ?_)
    have Gb : Fr (fun _ => False) w4 wb := (HFa.out.alloc (.cells (ub 32 (fun _ => 0)) 31)).trans F (fun k hk => .inr (by rw [hk]; exact HFa.out.size))
    have HBb := Lib.hid B
    have HGb := Lib.hid Gb
    clear B F Gb HFa
    refine Lib.hid ?_
    go_wp2_with fail
    refine (root_m lb Z v _ i (by rw [HS.out]; omega) (by rw [HS.out]; have := HK.out; omega) wb (HM4.out.ext HGb.out) (HE4.out.ext HGb.out)).mono ?_
    rintro e wc ⟨rfl, Fc⟩
    obtain ⟨r1, hr1⟩ : ∃ r1, r1 = Lg.root (List.take i (LL.map Lg.leaf)) := ⟨_, rfl⟩
    rw [← hr1]
    have HL1 := Lib.hid (show r1.length = 32 by rw [hr1]; exact Lg.root_len ((leaf_all LL).take i))
    have HR1 := Lib.hid hr1
    have HFc := Lib.hid Fc
    clear Fc hr1
    go_wp2_with (rw [zero32]; refine wpList_store_rowA rfl 31 (.tmp 17) (.tmp 146) rfl wc.heap.size (krow r1) rfl rfl 31 _ (heap_alloc_new _ _) (sz32' HL1.out) (by rw [ub_size, krow_size, HL1.out]) (krow_one _) ?_; intro wd B F; simp only [Act.put, List.setIfInBounds_toArray, List.set_cons_zero, List.set_cons_succ]; refine Hid.out ?_)
    have Gd : Fr (fun _ => False) wb wd := (HFc.out.alloc (.cells (ub 32 (fun _ => 0)) 31)).trans F (fun k hk => .inr (by rw [hk]; exact HFc.out.size))
    have HB17 := Lib.hid B
    have HB15 := Lib.hid ((Gd.block _ (lt_of_block HBb.out) (fun h => h)).trans HBb.out)
    have G4d := HGb.out.trans Gd (fun _ h => h.elim)
    have HFd := Lib.hid (HF04.out.trans G4d (fun _ h => h.elim))
    have HEd := Lib.hid (HE4.out.ext G4d)
    have HRd := Lib.hid (HR4.out.ext G4d)
    have HSVd := Lib.hid ((HSV4.out.take n).ext G4d)
    have hO11 : Or32 wd 0 v11 (conP i (List.take n (LL.map Lg.leaf))) := own_up (own_ext HO11.out G4d) (Nat.zero_le _)
    have hA := (leaf_all LL).take n
    have hll : (List.take n (LL.map Lg.leaf)).length = n := by rw [List.length_take, HS.out]; omega
    obtain ⟨a11, c11, rfl, h11a, h11b, hK11, _⟩ := hO11.view (conP_all hA)
    have hpl := conP_len (m := i) (L := List.take n (LL.map Lg.leaf)) (by rw [hll]; omega)
    rw [hll] at hpl
    have HCK := Lib.hid (fun (V : World) (hx : Fr (fun _ => False) wd V) => chkc_ok i n (List.take n (LL.map Lg.leaf)) (by omega) hll (by have := HK.out; omega) hA a11 c11 V h11a h11b (hK11.ext hx) (HEd.out.ext hx))
    rw [List.take_take, Nat.min_eq_left (by omega), ← HR1.out, ← HR2.out] at HCK
    have HMT := Lib.hid (List.map_take (f := Lg.leaf) (l := LL) (i := n))
    rw [← List.map_take] at HCK hK11 hpl
    have HDC := Lib.hid (fun (V : World) (hx : Fr (fun _ => False) wd V) => dcons_any au cu (LL.take n) n i V (by rw [List.length_take, HK.out.1]; omega) (by have := HK.out; omega) HK.out.2.2.2 (by omega) (by have := HK.out; omega) (fun x hx => Nat.le_trans (HSM.out x (List.mem_of_mem_take hx)) (by decide)) (HSVd.out.ext hx) (HRd.out.ext hx))
    rw [← List.map_take]
    generalize conP i ((LL.take n).map Lg.leaf) = P11 at *
    have HPLc := Lib.hid (show P11.length ≤ 1000 by have := HK.out; omega)
    have HK11 := Lib.hid hK11
    have qa : (n : Int) ≤ (K : Int) := by omega
    have qb : n ≤ K := by omega
    have qc : n ≤ cu := by have := HK.out; omega
    have qd : (n : Int) ≤ (cu : Int) := by omega
    have qe : (0 : Int) ≤ (n : Int) := Int.natCast_nonneg n
    clear B F Gd G4d hO11 hA hll h11a h11b hK11 hpl HBb HGb HFc
    refine Lib.hid ?_
    go_wp2_with fail
    refine Ks.wp_region_mono (fun _ => False) (sg 0 8 ++ (sg 9 4 ++ ((8, true) :: ((13, true) :: ((14, true) :: (sg 15 7 ++ ((22, true) :: (sg 23 2 ++ ((25, true) :: ([])))))))))) (by kernel_rfl) (by kernel_rfl) ?_
    refine Ks.Wk.seg 0 8 (by kernel_rfl) (by kernel_rfl) ?_
    apply Exists.intro
    refine ⟨?wk0, ?fin0⟩
    case wk0 =>
      intro γ
      simp only [List.drop_succ_cons, List.drop_zero, List.take_succ_cons, List.take_zero]
      repeat (any_goals (first | go_big_quiet_step (fail) | quiet_step (fail)))
      exact wpQuiet_nil rfl
    case fin0 =>
    (try simp only [Act.put, List.setIfInBounds_toArray, List.set_cons_zero, List.set_cons_succ])
    refine Ks.Wk.seg 9 4 (by kernel_rfl) (by kernel_rfl) ?_
    apply Exists.intro
    refine ⟨?wk1, ?fin1⟩
    case wk1 =>
      intro γ
      simp only [List.drop_succ_cons, List.drop_zero, List.take_succ_cons, List.take_zero]
      repeat (any_goals (first | go_big_quiet_step (fail) | quiet_step (fail)))
      exact wpQuiet_nil rfl
    case fin1 =>
    (try simp only [Act.put, List.setIfInBounds_toArray, List.set_cons_zero, List.set_cons_succ])
    refine Ks.Wk.call rfl (by kernel_rfl) 18 #[.slice a11 P11.length c11] (fun W => by first | kernel_rfl | rfl) (fun v V => Nonempty2 (Os V wd.heap.size v P11)) (fun V hx => (texts_any a11 c11 P11.length P11 rfl (by have := HPLc.out; omega) V (HK11.out.ext hx)).mono (fun e w' he => by obtain ⟨⟨v, e1, e2⟩, e3⟩ := he; exact ⟨v, e1, e3, ⟨own_up e2 hx.size⟩⟩)) ?_
    rintro v5 w5 X5 ⟨HTc⟩
    (try simp only [List.getElem_toArray, List.getElem_cons_succ, List.getElem_cons_zero, Act.put, List.setIfInBounds_toArray, List.set_cons_zero, List.set_cons_succ])
    obtain ⟨atc, ctc, rfl, _, _, HVc, _⟩ := HTc.view
    clear HTc
    refine Ks.Wk.call rfl (by kernel_rfl) 21 #[.slice au n cu, .int .i64 (i : Int)] (fun W => by first | kernel_rfl | rfl) (fun v V => Nonempty2 (Os V w5.heap.size v P11)) (fun V hx => (HDC.out V (X5.trans hx (fun _ h => h.elim))).mono (fun e w' he => by obtain ⟨⟨v, e1, e2⟩, e3⟩ := he; exact ⟨v, e1, e3, ⟨own_up e2 hx.size⟩⟩)) ?_
    rintro v6 w6 X6 ⟨HTd⟩
    (try simp only [List.getElem_toArray, List.getElem_cons_succ, List.getElem_cons_zero, Act.put, List.setIfInBounds_toArray, List.set_cons_zero, List.set_cons_succ])
    obtain ⟨atd, ctd, rfl, _, _, HVd, _⟩ := HTd.view
    clear HTd
    refine Ks.Wk.call rfl (by kernel_rfl) 17 #[.slice atc P11.length ctc, .slice atd P11.length ctd] (fun W => by first | kernel_rfl | rfl) (fun v V => v = .bool true) (fun V hx => (same_eq atc atd ctc ctd P11.length P11 rfl HPLc.out V (HVc.ext (X6.trans hx (fun _ h => h.elim))) (HVd.ext hx)).mono (fun e w' he => ⟨_, he.1, he.2, rfl⟩)) ?_
    rintro v7 w7 X7 rfl
    (try simp only [List.getElem_toArray, List.getElem_cons_succ, List.getElem_cons_zero, Act.put, List.setIfInBounds_toArray, List.set_cons_zero, List.set_cons_succ])
    have X57 := (X5.trans X6 (fun _ h => h.elim)).trans X7 (fun _ h => h.elim)
    have HB17c := Lib.hid ((X57.block _ (lt_of_block HB17.out) (fun h => h)).trans HB17.out)
    have HB15c := Lib.hid ((X57.block _ (lt_of_block HB15.out) (fun h => h)).trans HB15.out)
    refine Ks.Wk.seg 15 7 (by kernel_rfl) (by kernel_rfl) ?_
    apply Exists.intro
    refine ⟨?wk5, ?fin5⟩
    case wk5 =>
      intro γ
      simp only [List.drop_succ_cons, List.drop_zero, List.take_succ_cons, List.take_zero]
      repeat (any_goals (first | (focus (go_big_quiet_want; (refine Ks.quiet_load_rows 31 (.tmp 17) rfl wc.heap.size rfl 31 (krow r1) (0, 0) _ HB17c.out (fun h => h) Tryd.underlying31 rfl (sz32' HL1.out) ?_); simp only [Act.put, List.setIfInBounds_toArray, List.set_cons_zero, List.set_cons_succ]; go_big_quiet_on)) | (focus (go_big_quiet_want; (refine Ks.quiet_load_rows 31 (.tmp 15) rfl wa.heap.size rfl 31 (krow r2) (0, 0) _ HB15c.out (fun h => h) Tryd.underlying31 rfl (sz32' HL2.out) ?_); simp only [Act.put, List.setIfInBounds_toArray, List.set_cons_zero, List.set_cons_succ]; go_big_quiet_on)) | go_big_quiet_step (fail) | quiet_step (fail)))
      exact wpQuiet_nil rfl
    case fin5 =>
    (try simp only [Act.put, List.setIfInBounds_toArray, List.set_cons_zero, List.set_cons_succ])
    refine Ks.Wk.call rfl (by kernel_rfl) 22 #[.int .i64 (i : Int), .int .i64 (n : Int), .slice a11 P11.length c11, .agg (krow r1), .agg (krow r2)] (fun W => by first | kernel_rfl | rfl) (fun v V => v = .int .i64 0) (fun V hx => (HCK.out V (X57.trans hx (fun _ h => h.elim))).mono (fun e w' he => ⟨_, he.1, he.2, rfl⟩)) ?_
    rintro v8 w8 X8 rfl
    (try simp only [List.getElem_toArray, List.getElem_cons_succ, List.getElem_cons_zero, Act.put, List.setIfInBounds_toArray, List.set_cons_zero, List.set_cons_succ])
    refine Ks.Wk.seg 23 2 (by kernel_rfl) (by kernel_rfl) ?_
    apply Exists.intro
    refine ⟨?wk7, ?fin7⟩
    case wk7 =>
      intro γ
      simp only [List.drop_succ_cons, List.drop_zero, List.take_succ_cons, List.take_zero]
      repeat (any_goals (first | go_big_quiet_step (fail) | quiet_step (fail)))
      exact wpQuiet_nil rfl
    case fin7 =>
    (try simp only [Act.put, List.setIfInBounds_toArray, List.set_cons_zero, List.set_cons_succ])
    refine Ks.Wk.one rfl (fun w9 Xw9 => ?_)
    go_wp2_with fail
    refine ⟨Ks.Es.of (Fr.refl _ _), ?_⟩
    (try simp only [List.getElem_toArray, List.getElem_cons_succ, List.getElem_cons_zero, Act.put, List.setIfInBounds_toArray, List.set_cons_zero, List.set_cons_succ])
    intro w10 X10
    have HX10 := Lib.hid (HFd.out.trans ((X57.trans X8 (fun _ h => h.elim)).trans (Xw9.trans X10 (fun _ h => h.elim)) (fun _ h => h.elim)) (fun _ h => h.elim))
    clear X10 Xw9 X8 X57 X7 X6 X5 HVc HVd
    go_wp2_with fail
    go_ret
    exact ⟨rfl, HX10.out⟩
  · obtain ⟨e1, e2⟩ : d1 = 1 ∧ d2 = 0 := by rcases hi9 with h | h <;> rcases hj9 with k | k <;> omega
    subst e1 e2
    have q0 : (1 : Int) ≤ z := by omega
    have t0 : decide ((1 : Int) ≤ z) = true := decide_eq_true q0
    have q1 : (0 : Int) ≤ z := by omega
    have t1 : decide ((0 : Int) ≤ z) = true := decide_eq_true q1
    have q2 : z ≤ (K : Int) := by omega
    have t2 : decide (z ≤ (K : Int)) = true := decide_eq_true q2
    have q3 : (0 : Int) ≤ y := by omega
    have t3 : decide ((0 : Int) ≤ y) = true := decide_eq_true q3
    have q4 : ¬ (y < z) := by omega
    have t4 : decide (y < z) = false := decide_eq_false q4
    have q5 : y ≤ z := by omega
    have t5 : decide (y ≤ z) = true := decide_eq_true q5
    obtain ⟨_, _, hO11⟩ := hj9.resolve_right (fun h => by have := h.1; omega)
    have HO11 := Lib.hid (own_ext hO11 HF3b.out)
    clear hi9 hj9 HI HJ hO11
    have HC := Lib.hid hc
    clear hc
    go_wp2_with fail
    have hc := HC.out
    clear q0 t0 q1 t1 q2 t2 q3 t3 q4 t4 q5 t5
    obtain ⟨i, rfl⟩ : ∃ i : Nat, y = i := ⟨y.toNat, by omega⟩
    obtain ⟨n, rfl⟩ : ∃ n : Nat, z = n := ⟨z.toNat, by omega⟩
    have hin : i ≤ n := by omega
    have hnK : n ≤ K := by omega
    clear hc HC hK9
    refine (root_m lb Z v _ n (by rw [HS.out]; omega) (by rw [HS.out]; have := HK.out; omega) w4 HM4.out HE4.out).mono ?_
    rintro e wa ⟨rfl, Fa⟩
    obtain ⟨r2, hr2⟩ : ∃ r2, r2 = Lg.root (List.take n (LL.map Lg.leaf)) := ⟨_, rfl⟩
    rw [← hr2]
    have HL2 := Lib.hid (show r2.length = 32 by rw [hr2]; exact Lg.root_len ((leaf_all LL).take n))
    have HR2 := Lib.hid hr2
    have HFa := Lib.hid Fa
    clear Fa hr2
    go_wp2_with (rw [zero32]; refine wpList_store_rowA rfl 31 (.tmp 15) (.tmp 140) rfl wa.heap.size (krow r2) rfl rfl 31 _ (heap_alloc_new _ _) (sz32' HL2.out) (by rw [ub_size, krow_size, HL2.out]) (krow_one _) ?_; intro wb B F; simp only [Act.put, List.setIfInBounds_toArray, List.set_cons_zero, List.set_cons_succ]; refine Hid.out ?_)
    have Gb : Fr (fun _ => False) w4 wb := (HFa.out.alloc (.cells (ub 32 (fun _ => 0)) 31)).trans F (fun k hk => .inr (by rw [hk]; exact HFa.out.size))
    have HBb := Lib.hid B
    have HGb := Lib.hid Gb
    clear B F Gb HFa
    refine Lib.hid ?_
    go_wp2_with fail
    refine (root_m lb Z v _ i (by rw [HS.out]; omega) (by rw [HS.out]; have := HK.out; omega) wb (HM4.out.ext HGb.out) (HE4.out.ext HGb.out)).mono ?_
    rintro e wc ⟨rfl, Fc⟩
    obtain ⟨r1, hr1⟩ : ∃ r1, r1 = Lg.root (List.take i (LL.map Lg.leaf)) := ⟨_, rfl⟩
    rw [← hr1]
    have HL1 := Lib.hid (show r1.length = 32 by rw [hr1]; exact Lg.root_len ((leaf_all LL).take i))
    have HR1 := Lib.hid hr1
    have HFc := Lib.hid Fc
    clear Fc hr1
    go_wp2_with (rw [zero32]; refine wpList_store_rowA rfl 31 (.tmp 17) (.tmp 146) rfl wc.heap.size (krow r1) rfl rfl 31 _ (heap_alloc_new _ _) (sz32' HL1.out) (by rw [ub_size, krow_size, HL1.out]) (krow_one _) ?_; intro wd B F; simp only [Act.put, List.setIfInBounds_toArray, List.set_cons_zero, List.set_cons_succ]; refine Hid.out ?_)
    have Gd : Fr (fun _ => False) wb wd := (HFc.out.alloc (.cells (ub 32 (fun _ => 0)) 31)).trans F (fun k hk => .inr (by rw [hk]; exact HFc.out.size))
    have HB17 := Lib.hid B
    have HB15 := Lib.hid ((Gd.block _ (lt_of_block HBb.out) (fun h => h)).trans HBb.out)
    have G4d := HGb.out.trans Gd (fun _ h => h.elim)
    have HFd := Lib.hid (HF04.out.trans G4d (fun _ h => h.elim))
    have HEd := Lib.hid (HE4.out.ext G4d)
    have HRd := Lib.hid (HR4.out.ext G4d)
    have HSVd := Lib.hid ((HSV4.out.take n).ext G4d)
    have hO11 : Or32 wd 0 v11 (conP i (List.take n (LL.map Lg.leaf))) := own_up (own_ext HO11.out G4d) (Nat.zero_le _)
    have hA := (leaf_all LL).take n
    have hll : (List.take n (LL.map Lg.leaf)).length = n := by rw [List.length_take, HS.out]; omega
    obtain ⟨a11, c11, rfl, h11a, h11b, hK11, _⟩ := hO11.view (conP_all hA)
    have hpl := conP_len (m := i) (L := List.take n (LL.map Lg.leaf)) (by rw [hll]; omega)
    rw [hll] at hpl
    have HCK := Lib.hid (fun (V : World) (hx : Fr (fun _ => False) wd V) => chkc_ok i n (List.take n (LL.map Lg.leaf)) (by omega) hll (by have := HK.out; omega) hA a11 c11 V h11a h11b (hK11.ext hx) (HEd.out.ext hx))
    rw [List.take_take, Nat.min_eq_left (by omega), ← HR1.out, ← HR2.out] at HCK
    have HMT := Lib.hid (List.map_take (f := Lg.leaf) (l := LL) (i := n))
    rw [← List.map_take] at HCK hK11 hpl
    have HDC := Lib.hid (fun (V : World) (hx : Fr (fun _ => False) wd V) => dcons_any au cu (LL.take n) n i V (by rw [List.length_take, HK.out.1]; omega) (by have := HK.out; omega) HK.out.2.2.2 (by omega) (by have := HK.out; omega) (fun x hx => Nat.le_trans (HSM.out x (List.mem_of_mem_take hx)) (by decide)) (HSVd.out.ext hx) (HRd.out.ext hx))
    rw [← List.map_take]
    generalize conP i ((LL.take n).map Lg.leaf) = P11 at *
    have HPLc := Lib.hid (show P11.length ≤ 1000 by have := HK.out; omega)
    have HK11 := Lib.hid hK11
    have qa : (n : Int) ≤ (K : Int) := by omega
    have qb : n ≤ K := by omega
    have qc : n ≤ cu := by have := HK.out; omega
    have qd : (n : Int) ≤ (cu : Int) := by omega
    have qe : (0 : Int) ≤ (n : Int) := Int.natCast_nonneg n
    clear B F Gd G4d hO11 hA hll h11a h11b hK11 hpl HBb HGb HFc
    refine Lib.hid ?_
    go_wp2_with fail
    refine Ks.wp_region_mono (fun _ => False) (sg 0 8 ++ (sg 9 4 ++ ((8, true) :: ((13, true) :: ((14, true) :: (sg 15 7 ++ ((22, true) :: (sg 23 2 ++ ((25, true) :: ([])))))))))) (by kernel_rfl) (by kernel_rfl) ?_
    refine Ks.Wk.seg 0 8 (by kernel_rfl) (by kernel_rfl) ?_
    apply Exists.intro
    refine ⟨?wk0, ?fin0⟩
    case wk0 =>
      intro γ
      simp only [List.drop_succ_cons, List.drop_zero, List.take_succ_cons, List.take_zero]
      repeat (any_goals (first | go_big_quiet_step (fail) | quiet_step (fail)))
      exact wpQuiet_nil rfl
    case fin0 =>
    (try simp only [Act.put, List.setIfInBounds_toArray, List.set_cons_zero, List.set_cons_succ])
    refine Ks.Wk.seg 9 4 (by kernel_rfl) (by kernel_rfl) ?_
    apply Exists.intro
    refine ⟨?wk1, ?fin1⟩
    case wk1 =>
      intro γ
      simp only [List.drop_succ_cons, List.drop_zero, List.take_succ_cons, List.take_zero]
      repeat (any_goals (first | go_big_quiet_step (fail) | quiet_step (fail)))
      exact wpQuiet_nil rfl
    case fin1 =>
    (try simp only [Act.put, List.setIfInBounds_toArray, List.set_cons_zero, List.set_cons_succ])
    refine Ks.Wk.call rfl (by kernel_rfl) 18 #[.slice a11 P11.length c11] (fun W => by first | kernel_rfl | rfl) (fun v V => Nonempty2 (Os V wd.heap.size v P11)) (fun V hx => (texts_any a11 c11 P11.length P11 rfl (by have := HPLc.out; omega) V (HK11.out.ext hx)).mono (fun e w' he => by obtain ⟨⟨v, e1, e2⟩, e3⟩ := he; exact ⟨v, e1, e3, ⟨own_up e2 hx.size⟩⟩)) ?_
    rintro v5 w5 X5 ⟨HTc⟩
    (try simp only [List.getElem_toArray, List.getElem_cons_succ, List.getElem_cons_zero, Act.put, List.setIfInBounds_toArray, List.set_cons_zero, List.set_cons_succ])
    obtain ⟨atc, ctc, rfl, _, _, HVc, _⟩ := HTc.view
    clear HTc
    refine Ks.Wk.call rfl (by kernel_rfl) 21 #[.slice au n cu, .int .i64 (i : Int)] (fun W => by first | kernel_rfl | rfl) (fun v V => Nonempty2 (Os V w5.heap.size v P11)) (fun V hx => (HDC.out V (X5.trans hx (fun _ h => h.elim))).mono (fun e w' he => by obtain ⟨⟨v, e1, e2⟩, e3⟩ := he; exact ⟨v, e1, e3, ⟨own_up e2 hx.size⟩⟩)) ?_
    rintro v6 w6 X6 ⟨HTd⟩
    (try simp only [List.getElem_toArray, List.getElem_cons_succ, List.getElem_cons_zero, Act.put, List.setIfInBounds_toArray, List.set_cons_zero, List.set_cons_succ])
    obtain ⟨atd, ctd, rfl, _, _, HVd, _⟩ := HTd.view
    clear HTd
    refine Ks.Wk.call rfl (by kernel_rfl) 17 #[.slice atc P11.length ctc, .slice atd P11.length ctd] (fun W => by first | kernel_rfl | rfl) (fun v V => v = .bool true) (fun V hx => (same_eq atc atd ctc ctd P11.length P11 rfl HPLc.out V (HVc.ext (X6.trans hx (fun _ h => h.elim))) (HVd.ext hx)).mono (fun e w' he => ⟨_, he.1, he.2, rfl⟩)) ?_
    rintro v7 w7 X7 rfl
    (try simp only [List.getElem_toArray, List.getElem_cons_succ, List.getElem_cons_zero, Act.put, List.setIfInBounds_toArray, List.set_cons_zero, List.set_cons_succ])
    have X57 := (X5.trans X6 (fun _ h => h.elim)).trans X7 (fun _ h => h.elim)
    have HB17c := Lib.hid ((X57.block _ (lt_of_block HB17.out) (fun h => h)).trans HB17.out)
    have HB15c := Lib.hid ((X57.block _ (lt_of_block HB15.out) (fun h => h)).trans HB15.out)
    refine Ks.Wk.seg 15 7 (by kernel_rfl) (by kernel_rfl) ?_
    apply Exists.intro
    refine ⟨?wk5, ?fin5⟩
    case wk5 =>
      intro γ
      simp only [List.drop_succ_cons, List.drop_zero, List.take_succ_cons, List.take_zero]
      repeat (any_goals (first | (focus (go_big_quiet_want; (refine Ks.quiet_load_rows 31 (.tmp 17) rfl wc.heap.size rfl 31 (krow r1) (0, 0) _ HB17c.out (fun h => h) Tryd.underlying31 rfl (sz32' HL1.out) ?_); simp only [Act.put, List.setIfInBounds_toArray, List.set_cons_zero, List.set_cons_succ]; go_big_quiet_on)) | (focus (go_big_quiet_want; (refine Ks.quiet_load_rows 31 (.tmp 15) rfl wa.heap.size rfl 31 (krow r2) (0, 0) _ HB15c.out (fun h => h) Tryd.underlying31 rfl (sz32' HL2.out) ?_); simp only [Act.put, List.setIfInBounds_toArray, List.set_cons_zero, List.set_cons_succ]; go_big_quiet_on)) | go_big_quiet_step (fail) | quiet_step (fail)))
      exact wpQuiet_nil rfl
    case fin5 =>
    (try simp only [Act.put, List.setIfInBounds_toArray, List.set_cons_zero, List.set_cons_succ])
    refine Ks.Wk.call rfl (by kernel_rfl) 22 #[.int .i64 (i : Int), .int .i64 (n : Int), .slice a11 P11.length c11, .agg (krow r1), .agg (krow r2)] (fun W => by first | kernel_rfl | rfl) (fun v V => v = .int .i64 0) (fun V hx => (HCK.out V (X57.trans hx (fun _ h => h.elim))).mono (fun e w' he => ⟨_, he.1, he.2, rfl⟩)) ?_
    rintro v8 w8 X8 rfl
    (try simp only [List.getElem_toArray, List.getElem_cons_succ, List.getElem_cons_zero, Act.put, List.setIfInBounds_toArray, List.set_cons_zero, List.set_cons_succ])
    refine Ks.Wk.seg 23 2 (by kernel_rfl) (by kernel_rfl) ?_
    apply Exists.intro
    refine ⟨?wk7, ?fin7⟩
    case wk7 =>
      intro γ
      simp only [List.drop_succ_cons, List.drop_zero, List.take_succ_cons, List.take_zero]
      repeat (any_goals (first | go_big_quiet_step (fail) | quiet_step (fail)))
      exact wpQuiet_nil rfl
    case fin7 =>
    (try simp only [Act.put, List.setIfInBounds_toArray, List.set_cons_zero, List.set_cons_succ])
    refine Ks.Wk.one rfl (fun w9 Xw9 => ?_)
    go_wp2_with fail
    refine ⟨Ks.Es.of (Fr.refl _ _), ?_⟩
    (try simp only [List.getElem_toArray, List.getElem_cons_succ, List.getElem_cons_zero, Act.put, List.setIfInBounds_toArray, List.set_cons_zero, List.set_cons_succ])
    intro w10 X10
    have HX10 := Lib.hid (HFd.out.trans ((X57.trans X8 (fun _ h => h.elim)).trans (Xw9.trans X10 (fun _ h => h.elim)) (fun _ h => h.elim)) (fun _ h => h.elim))
    clear X10 Xw9 X8 X57 X7 X6 X5 HVc HVd
    go_wp2_with fail
    go_ret
    exact ⟨rfl, HX10.out⟩
  · obtain ⟨e1, e2⟩ : d1 = 1 ∧ d2 = 1 := by rcases hi9 with h | h <;> rcases hj9 with k | k <;> omega
    subst e1 e2
    have q0 : ¬ ((1 : Int) ≤ z) := by omega
    have t0 : decide ((1 : Int) ≤ z) = false := decide_eq_false q0
    have q1 : ¬ ((0 : Int) ≤ z) := by omega
    have t1 : decide ((0 : Int) ≤ z) = false := decide_eq_false q1
    clear hi9 hj9 HI HJ hc
    go_wp2_with fail
    go_ret
    exact ⟨rfl, HF04.out⟩
  · obtain ⟨e1, e2⟩ : d1 = 1 ∧ d2 = 1 := by rcases hi9 with h | h <;> rcases hj9 with k | k <;> omega
    subst e1 e2
    have q0 : ¬ ((1 : Int) ≤ z) := by omega
    have t0 : decide ((1 : Int) ≤ z) = false := decide_eq_false q0
    have q1 : (0 : Int) ≤ z := by omega
    have t1 : decide ((0 : Int) ≤ z) = true := decide_eq_true q1
    have q2 : z ≤ (K : Int) := by omega
    have t2 : decide (z ≤ (K : Int)) = true := decide_eq_true q2
    have q3 : ¬ ((0 : Int) ≤ y) := by omega
    have t3 : decide ((0 : Int) ≤ y) = false := decide_eq_false q3
    clear hi9 hj9 HI HJ hc
    go_wp2_with fail
    go_ret
    exact ⟨rfl, HF04.out⟩
  · obtain ⟨e1, e2⟩ : d1 = 1 ∧ d2 = 1 := by rcases hi9 with h | h <;> rcases hj9 with k | k <;> omega
    subst e1 e2
    have q0 : ¬ ((1 : Int) ≤ z) := by omega
    have t0 : decide ((1 : Int) ≤ z) = false := decide_eq_false q0
    have q1 : (0 : Int) ≤ z := by omega
    have t1 : decide ((0 : Int) ≤ z) = true := decide_eq_true q1
    have q2 : z ≤ (K : Int) := by omega
    have t2 : decide (z ≤ (K : Int)) = true := decide_eq_true q2
    have q3 : (0 : Int) ≤ y := by omega
    have t3 : decide ((0 : Int) ≤ y) = true := decide_eq_true q3
    have q4 : ¬ (y ≤ z) := by omega
    have t4 : decide (y ≤ z) = false := decide_eq_false q4
    clear hi9 hj9 HI HJ hc
    go_wp2_with fail
    go_ret
    exact ⟨rfl, HF04.out⟩
  · obtain ⟨e1, e2⟩ : d1 = 1 ∧ d2 = 1 := by rcases hi9 with h | h <;> rcases hj9 with k | k <;> omega
    subst e1 e2
    have q0 : (1 : Int) ≤ z := by omega
    have t0 : decide ((1 : Int) ≤ z) = true := decide_eq_true q0
    have q1 : (0 : Int) ≤ z := by omega
    have t1 : decide ((0 : Int) ≤ z) = true := decide_eq_true q1
    have q2 : ¬ (z ≤ (K : Int)) := by omega
    have t2 : decide (z ≤ (K : Int)) = false := decide_eq_false q2
    clear hi9 hj9 HI HJ hc
    go_wp2_with fail
    go_ret
    exact ⟨rfl, HF04.out⟩
  · obtain ⟨e1, e2⟩ : d1 = 1 ∧ d2 = 1 := by rcases hi9 with h | h <;> rcases hj9 with k | k <;> omega
    subst e1 e2
    have q0 : (1 : Int) ≤ z := by omega
    have t0 : decide ((1 : Int) ≤ z) = true := decide_eq_true q0
    have q1 : (0 : Int) ≤ z := by omega
    have t1 : decide ((0 : Int) ≤ z) = true := decide_eq_true q1
    have q2 : z ≤ (K : Int) := by omega
    have t2 : decide (z ≤ (K : Int)) = true := decide_eq_true q2
    have q3 : ¬ ((0 : Int) ≤ y) := by omega
    have t3 : decide ((0 : Int) ≤ y) = false := decide_eq_false q3
    clear hi9 hj9 HI HJ hc
    go_wp2_with fail
    go_ret
    exact ⟨rfl, HF04.out⟩
  · obtain ⟨e1, e2⟩ : d1 = 1 ∧ d2 = 1 := by rcases hi9 with h | h <;> rcases hj9 with k | k <;> omega
    subst e1 e2
    have q0 : (1 : Int) ≤ z := by omega
    have t0 : decide ((1 : Int) ≤ z) = true := decide_eq_true q0
    have q1 : (0 : Int) ≤ z := by omega
    have t1 : decide ((0 : Int) ≤ z) = true := decide_eq_true q1
    have q2 : z ≤ (K : Int) := by omega
    have t2 : decide (z ≤ (K : Int)) = true := decide_eq_true q2
    have q3 : (0 : Int) ≤ y := by omega
    have t3 : decide ((0 : Int) ≤ y) = true := decide_eq_true q3
    have q4 : ¬ (y < z) := by omega
    have t4 : decide (y < z) = false := decide_eq_false q4
    have q5 : ¬ (y ≤ z) := by omega
    have t5 : decide (y ≤ z) = false := decide_eq_false q5
    clear hi9 hj9 HI HJ hc
    go_wp2_with fail
    go_ret
    exact ⟨rfl, HF04.out⟩
end Go.Proofs.YtjndkjgbplpfeaaDoor

/-
  The walk of CommitOne.
-/
import Derived.Test.YtbpblheaiancaaaDoorDy
namespace Go.Proofs.YtbpblheaiancaaaDoor
open Go.RowKit
set_option linter.unusedVariables false
set_option linter.unusedSimpArgs false

set_option maxRecDepth 100000 in
set_option maxHeartbeats 12800000 in
theorem cone_any (f0 f1 fa fb : Nat → UInt8) (z1 z2 : Int) (u1 u2 : Nat) (hu1 : IntKind.u64.wrap z1 = (u1 : Int)) (hu2 : IntKind.u64.wrap z2 = (u2 : Int)) (hw1 : IntKind.i64.wrap z1 = z1) (hw2 : IntKind.i64.wrap z2 = z2)
    (a1 : Option Addr) (n1 c1 : Nat) (l1 : List UInt8) (a2 : Option Addr) (n2 c2 : Nat) (l2 : List UInt8) (w : World) (h1 : Came w a1 n1 c1 l1) (h2 : Came w a2 n2 c2 l2) (hE : Env w) (hR : REnv w) :
    Calls Tryd.prog 5 #[.agg (ub 32 f0 ++ ub 32 f1), .agg (wh fa z1 a1 n1 c1), .agg (wh fb z2 a2 n2 c2)] w fun e w' => e = .returned (.bool true) ∧ Fr (fun _ => False) w w' := by
  obtain ⟨q1, hq1⟩ : ∃ q, q = min n1 200 := ⟨_, rfl⟩
  obtain ⟨q2, hq2⟩ : ∃ q, q = min n2 200 := ⟨_, rfl⟩
  have hx1l : (l1.take q1).length = q1 := by rw [List.length_take, h1.len]; omega
  have hx2l : (l2.take q2).length = q2 := by rw [List.length_take, h2.len]; omega
  have q1b : q1 ≤ 200 := by omega
  have q2b : q2 ≤ 200 := by omega
  have hv1 := fun (W : World) (hC : Came W a1 n1 c1 l1) => value_any fa z1 a1 n1 c1 q1 l1 W hC hq1
  have hv2 := fun (W : World) (hC : Came W a2 n2 c2 l2) => value_any fb z2 a2 n2 c2 q2 l2 W hC hq2
  obtain ⟨x1, hx1⟩ : ∃ x, x = l1.take q1 := ⟨_, rfl⟩
  obtain ⟨x2, hx2⟩ : ∃ x, x = l2.take q2 := ⟨_, rfl⟩
  rw [← hx1] at hx1l hv1
  rw [← hx2] at hx2l hv2
  have pa : Part (wh fa z1 a1 n1 c1) 0 (ub 32 fa) := Part.left _ _
  have pb : Part (wh fb z2 a2 n2 c2) 0 (ub 32 fb) := Part.left _ _
  have hz1c := wh_int fa z1 a1 n1 c1
  have hz2c := wh_int fb z2 a2 n2 c2
  have hsa := wh_size fa z1 a1 n1 c1
  have hsb := wh_size fb z2 a2 n2 c2
  have p0 : Part (ub 32 f0 ++ ub 32 f1) 0 (ub 32 f0) := Part.left _ _
  have p1 : Part (ub 32 f0 ++ ub 32 f1) 32 (ub 32 f1) := Part.right _ _ 0 32 _ (ub_size _ _) (Part.whole _)
  have hps : (ub 32 f0 ++ ub 32 f1).size = 64 := by rw [Array.size_append, ub_size, ub_size]
  generalize wh fa z1 a1 n1 c1 = SA at *
  generalize wh fb z2 a2 n2 c2 = SB at *
  generalize ub 32 f0 ++ ub 32 f1 = S at *
  obtain ⟨k0, hk0⟩ : ∃ k, k = (List.range 32).map f0 := ⟨_, rfl⟩
  obtain ⟨k1, hk1⟩ : ∃ k, k = (List.range 32).map f1 := ⟨_, rfl⟩
  obtain ⟨i0, hi0⟩ : ∃ k, k = (List.range 32).map fa := ⟨_, rfl⟩
  obtain ⟨i1, hi1⟩ : ∃ k, k = (List.range 32).map fb := ⟨_, rfl⟩
  have k0l : k0.length = 32 := by rw [hk0]; simp
  have k1l : k1.length = 32 := by rw [hk1]; simp
  have i0l : i0.length = 32 := by rw [hi0]; simp
  have i1l : i1.length = 32 := by rw [hi1]; simp
  have u1b : u1 < 18446744073709551616 := by rw [IntKind.wrap_u64] at hu1; omega
  have u2b : u2 < 18446744073709551616 := by rw [IntKind.wrap_u64] at hu2; omega
  have hbd := fun (W : World) (b : Option Addr) (d : Nat) (hC : Came W b q2 d x2) (hE : Env W) => bind_any f1 fb z2 u2 hu2 b q2 d x2 W hC (by omega) hE
  rw [← hk1, ← hi1] at hbd
  have hbo := fun (W : World) (hR : REnv W) => rbound_any k0 i0 x1 z1 u1 hu1 (by omega) (by omega) (by omega) W hR
  rw [HM.of_eq] at hbo
  have hta := fun (W : World) (hR : REnv W) => rtexts_any k0 i0 x1 z1 u1 hu1 (by omega) (by omega) (by omega) W hR
  have htb := fun (W : World) (hR : REnv W) => rtexts_any k1 i1 x2 z2 u2 hu2 (by omega) (by omega) (by omega) W hR
  have hmust := must_clash k0 k1 i0 i1 x1 x2 u1 u2 k0l k1l i0l i1l u1b u2b
  have lA : (HM.inn k0 (CM.mb i0 u1 x1)).length ≤ 100000 ∧ (HM.out k0 (CM.mb i0 u1 x1)).length ≤ 100000 := by
    constructor
    · simp [HM.inn, CM.mb, HM.xor_length, S2.be8]; omega
    · simp [HM.out, HM.xor_length, sum_length]
  have lB : (HM.inn k1 (CM.mb i1 u2 x2)).length ≤ 100000 ∧ (HM.out k1 (CM.mb i1 u2 x2)).length ≤ 100000 := by
    constructor
    · simp [HM.inn, CM.mb, HM.xor_length, S2.be8]; omega
    · simp [HM.out, HM.xor_length, sum_length]
  obtain ⟨A0, hA0⟩ : ∃ A, A = HM.inn k0 (CM.mb i0 u1 x1) := ⟨_, rfl⟩
  obtain ⟨A1, hA1⟩ : ∃ A, A = HM.out k0 (CM.mb i0 u1 x1) := ⟨_, rfl⟩
  obtain ⟨B0, hB0⟩ : ∃ A, A = HM.inn k1 (CM.mb i1 u2 x2) := ⟨_, rfl⟩
  obtain ⟨B1, hB1⟩ : ∃ A, A = HM.out k1 (CM.mb i1 u2 x2) := ⟨_, rfl⟩
  rw [← hA0, ← hA1] at hta lA
  rw [← hB0, ← hB1] at htb lB
  rw [← hA0, ← hA1, ← hB0, ← hB1] at hmust
  rw [← hA1] at hbo
  rw [← hB1] at hbd
  clear hA0 hA1 hB0 hB1
  obtain ⟨TA, hTA⟩ : ∃ TA : Nat → List UInt8, TA = fun i => if i = 0 then A0 else A1 := ⟨_, rfl⟩
  obtain ⟨TB, hTB⟩ : ∃ TB : Nat → List UInt8, TB = fun i => if i = 0 then B0 else B1 := ⟨_, rfl⟩
  have hta2 : ∀ (W : World), REnv W → Calls Tryd.prog 17 #[.string ⟨k0.toArray⟩, .string ⟨i0.toArray⟩, .int .i64 z1, .string ⟨x1.toArray⟩] W fun e w' => ∃ b, e = .returned (.slice (some ⟨b, 0, none⟩) 2 2) ∧ Two w' b TA ∧ Fr (fun _ => False) W w' := fun W hR => by
    rw [hTA]; exact hta W hR
  have htb2 : ∀ (W : World), REnv W → Calls Tryd.prog 17 #[.string ⟨k1.toArray⟩, .string ⟨i1.toArray⟩, .int .i64 z2, .string ⟨x2.toArray⟩] W fun e w' => ∃ b, e = .returned (.slice (some ⟨b, 0, none⟩) 2 2) ∧ Two w' b TB ∧ Fr (fun _ => False) W w' := fun W hR => by
    rw [hTB]; exact htb W hR
  have hmust2 : S2.sum A1 = S2.sum B1 → ¬ (k0 = k1 ∧ i0 = i1 ∧ u1 = u2 ∧ x1 = x2) → ∃ i k, i < 2 ∧ k < 2 ∧ hit (TA i) (TB k) := fun h h2 => by
    rw [hTA, hTB]
    rcases hmust h h2 with h3 | h3
    · exact ⟨1, 1, by omega, by omega, h3⟩
    · exact ⟨0, 0, by omega, by omega, h3⟩
  have hlA : ∀ i, i < 2 → (TA i).length ≤ 100000 := fun i _ => by rw [hTA]; dsimp only; split; exact lA.1; exact lA.2
  have hlB : ∀ i, i < 2 → (TB i).length ≤ 100000 := fun i _ => by rw [hTB]; dsimp only; split; exact lB.1; exact lB.2
  have eqk := eql_ub f0 f1 k0 k1 hk0 hk1
  have eqi := eql_ub fa fb i0 i1 hi0 hi1
  have hzz : u1 = u2 → z1 = z2 := fun e => by
    rw [← wrap_back z1 u1 hw1 hu1, ← wrap_back z2 u2 hw2 hu2, e]
  obtain ⟨XL, hXL⟩ : ∃ XL, XL = S2.sum A1 := ⟨_, rfl⟩
  have hXl : XL.length = 32 := by rw [hXL]; exact sum_length _
  have hXc : (bv XL).toArray = sumc A1 := by rw [hXL]; exact sumc_bv A1
  rw [← hXL] at hbo
  have HTA := Lib.hid hta2
  have HTB := Lib.hid htb2
  have HMUST := Lib.hid hmust2
  have HLA := Lib.hid hlA
  have HLB := Lib.hid hlB
  have HBD := Lib.hid hbd
  have HBO := Lib.hid hbo
  have HV1 := Lib.hid hv1
  have HV2 := Lib.hid hv2
  have HX1 := Lib.hid hx1l
  have HX2 := Lib.hid hx2l
  have HK0 := Lib.hid hk0
  have HK1 := Lib.hid hk1
  have HI0 := Lib.hid hi0
  have HI1 := Lib.hid hi1
  have HK0l := Lib.hid k0l
  have HK1l := Lib.hid k1l
  have HI0l := Lib.hid i0l
  have HI1l := Lib.hid i1l
  have HEK := Lib.hid eqk
  have HEI := Lib.hid eqi
  have HZZ := Lib.hid hzz
  have HXl := Lib.hid hXl
  have HXc := Lib.hid hXc
  have sFI : Sz 32 (ub 32 fb) := ⟨ub_size _ _, ub_one _ _⟩
  have sFO : Sz 32 (ub 32 f1) := ⟨ub_size _ _, ub_one _ _⟩
  clear hta hta2 htb htb2 hmust hmust2 hlA hlB hbd hbo hv1 hv2 hx1l hx2l hk0 hk1 hi0 hi1 k0l k1l i0l i1l eqk eqi hzz hXL hXl hXc lA lB hTA hTB hx1 hx2 hq1 hq2 u1b u2b hu1 hu2 hw1 hw2
  have K := (((Kn.start w).new (w.heap.size) 64 S 41 rfl hps).new (w.heap.size + 1) 34 SA 25 (by simp) hsa).new (w.heap.size + 1 + 1) 34 SB 25 (by simp) hsb
  go_enter Tryd.func5, Tryd.ntmps5
  go_wp2_with fail
  generalize ((w.alloc (.cells S 41)).alloc (.cells SA 25)).alloc (.cells SB 25) = w0 at K ⊢
  refine wp_region_mono (sg 0 1 ++ (sg 2 1 ++ ((1, true) :: (3, true) :: (sg 4 2 ++ [])))) (by kernel_rfl) (by kernel_rfl) ?_
  refine Wk.seg 0 1 (by kernel_rfl) (by kernel_rfl) ?_
  apply Exists.intro
  refine ⟨?wk0, ?fin0⟩
  case wk0 =>
    intro γ
    simp only [List.drop_succ_cons, List.drop_zero, List.take_succ_cons, List.take_zero]
    repeat (any_goals (first | (focus (go_big_quiet_want; (first | ((with_reducible refine' quiet_load_kng K 25 (.tmp 4) rfl 1 _ _ _ _ rfl _ Tryd.underlying25 rfl Tryd.szWh _ _); rotate_left 2; (focus exact rfl))); simp only [Act.put, List.setIfInBounds_toArray, List.set_cons_zero, List.set_cons_succ]; go_big_quiet_on)) | go_big_quiet_step (fail) | quiet_step (fail)))
    exact wpQuiet_nil rfl
  case fin0 =>
  (try simp only [Act.put, List.setIfInBounds_toArray, List.set_cons_zero, List.set_cons_succ])
  refine Wk.seg 2 1 (by kernel_rfl) (by kernel_rfl) ?_
  apply Exists.intro
  refine ⟨?wk2, ?fin2⟩
  case wk2 =>
    intro γ
    simp only [List.drop_succ_cons, List.drop_zero, List.take_succ_cons, List.take_zero]
    repeat (any_goals (first | (focus (go_big_quiet_want; (first | ((with_reducible refine' quiet_load_kng K 25 (.tmp 5) rfl 0 _ _ _ _ rfl _ Tryd.underlying25 rfl Tryd.szWh _ _); rotate_left 2; (focus exact rfl))); simp only [Act.put, List.setIfInBounds_toArray, List.set_cons_zero, List.set_cons_succ]; go_big_quiet_on)) | go_big_quiet_step (fail) | quiet_step (fail)))
    exact wpQuiet_nil rfl
  case fin2 =>
  (try simp only [Act.put, List.setIfInBounds_toArray, List.set_cons_zero, List.set_cons_succ])
  refine Wk.call rfl rfl 10 #[.agg SA] (fun W => by kernel_rfl) (fun v W => ∃ a' c', v = .slice a' q1 c' ∧ Came W a' q1 c' x1) (fun W hx => (HV1.out W (h1.grow (Ex.tr K.fr hx) (fun _ _ h => h))).mono ?_) ?_
  · rintro e W' ⟨a', c', rfl, hC, F⟩
    exact ⟨_, rfl, F, a', c', rfl, hC⟩
  rintro v w2 X2 ⟨a3, c3, rfl, C3⟩
  simp only [List.getElem_toArray, List.getElem_cons_succ, List.getElem_cons_zero, Act.put, List.setIfInBounds_toArray, List.set_cons_zero, List.set_cons_succ]
  have K2 := K.call X2
  clear K
  have K := K2
  clear K2
  refine Wk.call rfl rfl 10 #[.agg SB] (fun W => by kernel_rfl) (fun v W => ∃ a' c', v = .slice a' q2 c' ∧ Came W a' q2 c' x2) (fun W hx => (HV2.out W (h2.grow (Ex.tr K.fr hx) (fun _ _ h => h))).mono ?_) ?_
  · rintro e W' ⟨a', c', rfl, hC, F⟩
    exact ⟨_, rfl, F, a', c', rfl, hC⟩
  rintro v w3 X3 ⟨a4, c4, rfl, D3⟩
  simp only [List.getElem_toArray, List.getElem_cons_succ, List.getElem_cons_zero, Act.put, List.setIfInBounds_toArray, List.set_cons_zero, List.set_cons_succ]
  have K2 := K.call X3
  have C4 := C3.grow X3 (fun _ _ h => h)
  clear K C3
  have K := K2
  clear K2 X2 X3
  refine Wk.seg 4 2 (by kernel_rfl) (by kernel_rfl) ?_
  apply Exists.intro
  refine ⟨?wk4, ?fin4⟩
  case wk4 =>
    intro γ
    simp only [List.drop_succ_cons, List.drop_zero, List.take_succ_cons, List.take_zero]
    repeat (any_goals (first | go_big_quiet_step (fail) | quiet_step (fail)))
    exact wpQuiet_nil rfl
  case fin4 =>
  (try simp only [Act.put, List.setIfInBounds_toArray, List.set_cons_zero, List.set_cons_succ])
  intro w4 X4
  have K2 := K.call X4
  have C5 := C4.grow X4 (fun _ _ h => h)
  have D5 := D3.grow X4 (fun _ _ h => h)
  clear K C4 D3 X4
  have K := K2
  clear K2
  have LK0 : Lies w4 (some ⟨w.heap.size, 0, none⟩) k0 := Or.inr ⟨_, 0, rfl, fun j hj => by
    rw [cell_of_block (K.heap 2 rfl)]
    refine p0 j _ ?_
    rw [ub_get 32 _ j (by have := HK0l.out; omega)]
    simp [HK0.out]⟩
  have LI0 : Lies w4 (some ⟨w.heap.size + 1, 0, none⟩) i0 := Or.inr ⟨_, 0, rfl, fun j hj => by
    rw [cell_of_block (K.heap 1 rfl)]
    refine pa j _ ?_
    rw [ub_get 32 _ j (by have := HI0l.out; omega)]
    simp [HI0.out]⟩
  have LK1 : Lies w4 (some ⟨w.heap.size, 32, none⟩) k1 := Or.inr ⟨_, 32, rfl, fun j hj => by
    rw [cell_of_block (K.heap 2 rfl)]
    refine p1 j _ ?_
    rw [ub_get 32 _ j (by have := HK1l.out; omega)]
    simp [HK1.out]⟩
  have LI1 : Lies w4 (some ⟨w.heap.size + 1 + 1, 0, none⟩) i1 := Or.inr ⟨_, 0, rfl, fun j hj => by
    rw [cell_of_block (K.heap 0 rfl)]
    refine pb j _ ?_
    rw [ub_get 32 _ j (by have := HI1l.out; omega)]
    simp [HI1.out]⟩
  have cv0 : ∀ y : Wd w4, (convert 23 9 (.slice (some ⟨w.heap.size, 0, none⟩) 32 32)).run Tryd.prog y.w = .ok (.string ⟨k0.toArray⟩) y.w := fun y => by
      have := run_str (LK0.grow y.h) 32 9 Tryd.underlying9
      rwa [HK0l.out] at this
  have cv1 : ∀ y : Wd w4, (convert 23 9 (.slice (some ⟨w.heap.size + 1, 0, none⟩) 32 32)).run Tryd.prog y.w = .ok (.string ⟨i0.toArray⟩) y.w := fun y => by
      have := run_str (LI0.grow y.h) 32 9 Tryd.underlying9
      rwa [HI0l.out] at this
  have cvx : ∀ y : Wd w4, (convert 23 9 (.slice a3 q1 c3)).run Tryd.prog y.w = .ok (.string ⟨x1.toArray⟩) y.w := fun y => (C5.grow y.h (fun _ _ h => h)).str2
  have hcd : ∀ y : Wd w4, y.w.cell? ⟨w.heap.size + 1, 32, none⟩ = some (.int .i64 z1) := fun y => K.celld y 1 rfl 32 hz1c
  have hbo := fun y : Wd w4 => HBO.out y.w (hR.fr (Ex.tr K.fr y.h) (fun h => h) (fun h => h))
  go_wp2_with fail
  refine wp_region_keep (by kernel_rfl) (by kernel_rfl) ?_
  repeat (any_goals (first | go_big_quiet_step ((first | (go_at_call 14; with_reducible exact Calls.keep (hbo _)))) | quiet_step ((first | (go_at_call 14; with_reducible exact Calls.keep (hbo _))))))
  refine wpQuiet_nil ?_
  intro _ hwz
  obtain ⟨y, rfl⟩ := hwz
  have K2 := K.call y.h
  have C6 := C5.grow y.h (fun _ _ h => h)
  have D6 := D5.grow y.h (fun _ _ h => h)
  have LK0b := LK0.grow y.h
  have LI0b := LI0.grow y.h
  have LK1b := LK1.grow y.h
  have LI1b := LI1.grow y.h
  clear K cv0 cv1 cvx hcd hbo LK0 LI0 LK1 LI1 C5 D5
  generalize y.w = w5 at *
  clear y
  have HK5 := Lib.hid K2
  clear K2
  have K := Kn.start w5
  go_wp2_with (first | ((with_reducible refine wpList_new_kn K 22 10 _ _ _ #[.int .u8 0, .int .u8 0, .int .u8 0, .int .u8 0, .int .u8 0, .int .u8 0, .int .u8 0, .int .u8 0, .int .u8 0, .int .u8 0, .int .u8 0, .int .u8 0, .int .u8 0, .int .u8 0, .int .u8 0, .int .u8 0, .int .u8 0, .int .u8 0, .int .u8 0, .int .u8 0, .int .u8 0, .int .u8 0, .int .u8 0, .int .u8 0, .int .u8 0, .int .u8 0, .int .u8 0, .int .u8 0, .int .u8 0, .int .u8 0, .int .u8 0, .int .u8 0] 32 rfl Tryd.alBa rfl ?_); intro g10 wz Kz; clear K; have K := Kz; clear Kz; try (simp only [Act.put, List.setIfInBounds_toArray, List.set_cons_zero, List.set_cons_succ])) | (refine wpList_copy_str K rfl (.tmp 26) (.tmp 27) rfl 0 _ _ _ XL HXl.out rfl rfl rfl ?_; intro w6 K6; clear K; have K := K6; clear K6; simp only [List.set_cons_zero] at K; try (simp only [Act.put, List.setIfInBounds_toArray, List.set_cons_zero, List.set_cons_succ])))
  rw [HXc.out] at K
  have F56 := K.fr
  have KJ := HK5.out.join K
  have C7 := C6.grow F56 (fun _ _ h => h)
  have D7 := D6.grow F56 (fun _ _ h => h)
  have LK0 := LK0b.grow F56
  have LI0 := LI0b.grow F56
  have LK1 := LK1b.grow F56
  have LI1 := LI1b.grow F56
  clear K LK0b LI0b LK1b LI1b C6 D6 HK5 F56
  have K := KJ
  clear KJ
  refine (binds_any _ (hE.fr K.fr (fun h => h))).mono ?_
  rintro e w7 ⟨rfl, F7⟩
  have K2 := K.call F7
  have C8 := C7.grow F7 (fun _ _ h => h)
  have D8 := D7.grow F7 (fun _ _ h => h)
  have LK0b := LK0.grow F7
  have LI0b := LI0.grow F7
  have LK1b := LK1.grow F7
  have LI1b := LI1.grow F7
  clear K C7 D7 LK0 LI0 LK1 LI1
  have K := K2
  clear K2
  have hcA := K.cell 2 rfl 32 hz1c
  have hcB := K.cell 1 rfl 32 hz2c
  go_wp2_with (first | ((with_reducible refine' wpList_load_kn K rfl 22 (.tmp 10) rfl 0 _ _ _ _ rfl _ Tryd.underlying22 rfl Tryd.szBa _ _); rotate_left 2; (focus exact rfl)) | ((with_reducible refine' wpList_load_pt K rfl 22 (.tmp 32) rfl 3 _ _ 32 32 _ _ _ rfl _ Tryd.underlying22 rfl Tryd.szBa _ p1 (ub_size _ _) _); rotate_left 2; (focus exact rfl)) | ((with_reducible refine' wpList_load_pt K rfl 22 (.tmp 34) rfl 1 _ _ 0 32 _ _ _ rfl _ Tryd.underlying22 rfl Tryd.szBa _ pb (ub_size _ _) _); rotate_left 2; (focus exact rfl)))
  have hbd := fun (W : World) (hF : Fr (fun _ => False) w7 W) => HBD.out W a4 c4 (D8.grow hF (fun _ _ h => h)) (hE.fr (Ex.tr K.fr hF) (fun h => h))
  have sA1 : Sz 32 (sumc A1) := ⟨sumv_size _, sumv_one _⟩
  have sB1 : Sz 32 (sumc B1) := ⟨sumv_size _, sumv_one _⟩
  by_cases hs : S2.sum A1 = S2.sum B1
  · have hck := check_good z2 a4 q2 c4 (sumc A1) (ub 32 f1) (ub 32 fb) (sumc B1) w7 hbd (fun W => by rw [neq_sumc, hs, beq_self_eq_true]; rfl) sA1 sFO sFI sB1
    clear hbd
    refine hck.mono ?_
    clear hck
    rintro e w8 ⟨rfl, F8⟩
    have K2 := K.call F8
    have C9 := C8.grow F8 (fun _ _ h => h)
    have D9 := D8.grow F8 (fun _ _ h => h)
    have LK0 := LK0b.grow F8
    have LI0 := LI0b.grow F8
    have LK1 := LK1b.grow F8
    have LI1 := LI1b.grow F8
    clear K C8 D8 LK0b LI0b LK1b LI1b hcA hcB
    have K := K2
    have C8 := C9
    have D8 := D9
    clear K2 C9 D9
    have hcA := K.cell 2 rfl 32 hz1c
    have hcB := K.cell 1 rfl 32 hz2c
    have cvx0 := C8.str2
    have cvy0 := D8.str2
    by_cases ek : k0 = k1
    · by_cases ei : i0 = i1
      · by_cases ez : z1 = z2
        · by_cases ev : x1 = x2
          · as_aux_lemma =>
            have eqk : ∀ W : World, (binOp .eql 22 (.agg (ub 32 f0)) (.agg (ub 32 f1))).run Tryd.prog W = .ok (.bool true) W := fun W => by rw [HEK.out W, str_eq k0 k1 ek]
            have eqi : ∀ W : World, (binOp .eql 22 (.agg (ub 32 fa)) (.agg (ub 32 fb))).run Tryd.prog W = .ok (.bool true) W := fun W => by rw [HEI.out W, str_eq i0 i1 ei]
            have ez1 : (z1 == z2) = true := by simpa using ez
            have ez2 : decide (z1 = z2) = true := by simpa using ez
            have ev1 : (x1 == x2) = true := str_eq x1 x2 ev
            clear ek ei ez ev
            go_wp2_with (first | ((with_reducible refine' wpList_load_kn K rfl 22 (.tmp 10) rfl 0 _ _ _ _ rfl _ Tryd.underlying22 rfl Tryd.szBa _ _); rotate_left 2; (focus exact rfl)) | ((with_reducible refine' wpList_load_pt K rfl 22 (.tmp 32) rfl 3 _ _ 32 32 _ _ _ rfl _ Tryd.underlying22 rfl Tryd.szBa _ p1 (ub_size _ _) _); rotate_left 2; (focus exact rfl)) | ((with_reducible refine' wpList_load_pt K rfl 22 (.tmp 34) rfl 1 _ _ 0 32 _ _ _ rfl _ Tryd.underlying22 rfl Tryd.szBa _ pb (ub_size _ _) _); rotate_left 2; (focus exact rfl)) | (focus ((refine' wpList_load_pt_gd K rfl 22 (.tmp 42) rfl 3 _ _ 0 32 _ _ _ rfl _ Tryd.underlying22 rfl Tryd.szBa rfl p0 (ub_size _ _) _))) | (focus ((refine' wpList_load_pt_gd K rfl 22 (.tmp 44) rfl 3 _ _ 32 32 _ _ _ rfl _ Tryd.underlying22 rfl Tryd.szBa rfl p1 (ub_size _ _) _))) | (focus ((refine' wpList_load_pt_gd K rfl 22 (.tmp 48) rfl 2 _ _ 0 32 _ _ _ rfl _ Tryd.underlying22 rfl Tryd.szBa rfl pa (ub_size _ _) _))) | (focus ((refine' wpList_load_pt_gd K rfl 22 (.tmp 50) rfl 1 _ _ 0 32 _ _ _ rfl _ Tryd.underlying22 rfl Tryd.szBa rfl pb (ub_size _ _) _))))
            go_ret
            exact ⟨rfl, K.fr⟩
          · as_aux_lemma =>
            have eqk : ∀ W : World, (binOp .eql 22 (.agg (ub 32 f0)) (.agg (ub 32 f1))).run Tryd.prog W = .ok (.bool true) W := fun W => by rw [HEK.out W, str_eq k0 k1 ek]
            have eqi : ∀ W : World, (binOp .eql 22 (.agg (ub 32 fa)) (.agg (ub 32 fb))).run Tryd.prog W = .ok (.bool true) W := fun W => by rw [HEI.out W, str_eq i0 i1 ei]
            have ez1 : (z1 == z2) = true := by simpa using ez
            have ez2 : decide (z1 = z2) = true := by simpa using ez
            have ev1 : (x1 == x2) = false := str_ne x1 x2 ev
            have hne : ¬ (k0 = k1 ∧ i0 = i1 ∧ u1 = u2 ∧ x1 = x2) := fun h => ev h.2.2.2
            have hsome := HMUST.out hs hne
            clear ek ei ez ev hne hs
            go_wp2_with (first | ((with_reducible refine' wpList_load_kn K rfl 22 (.tmp 10) rfl 0 _ _ _ _ rfl _ Tryd.underlying22 rfl Tryd.szBa _ _); rotate_left 2; (focus exact rfl)) | ((with_reducible refine' wpList_load_pt K rfl 22 (.tmp 32) rfl 3 _ _ 32 32 _ _ _ rfl _ Tryd.underlying22 rfl Tryd.szBa _ p1 (ub_size _ _) _); rotate_left 2; (focus exact rfl)) | ((with_reducible refine' wpList_load_pt K rfl 22 (.tmp 34) rfl 1 _ _ 0 32 _ _ _ rfl _ Tryd.underlying22 rfl Tryd.szBa _ pb (ub_size _ _) _); rotate_left 2; (focus exact rfl)) | (focus ((refine' wpList_load_pt_gd K rfl 22 (.tmp 42) rfl 3 _ _ 0 32 _ _ _ rfl _ Tryd.underlying22 rfl Tryd.szBa rfl p0 (ub_size _ _) _))) | (focus ((refine' wpList_load_pt_gd K rfl 22 (.tmp 44) rfl 3 _ _ 32 32 _ _ _ rfl _ Tryd.underlying22 rfl Tryd.szBa rfl p1 (ub_size _ _) _))) | (focus ((refine' wpList_load_pt_gd K rfl 22 (.tmp 48) rfl 2 _ _ 0 32 _ _ _ rfl _ Tryd.underlying22 rfl Tryd.szBa rfl pa (ub_size _ _) _))) | (focus ((refine' wpList_load_pt_gd K rfl 22 (.tmp 50) rfl 1 _ _ 0 32 _ _ _ rfl _ Tryd.underlying22 rfl Tryd.szBa rfl pb (ub_size _ _) _))))

            refine wp_region_mono (sg 0 10 ++ (sg 11 10 ++ ((10, true) :: (21, true) :: (sg 22 2 ++ [])))) (by kernel_rfl) (by kernel_rfl) ?_
            refine Wk.seg 0 10 (by kernel_rfl) (by kernel_rfl) ?_
            apply Exists.intro
            refine ⟨?wk0, ?fin0⟩
            case wk0 =>
              intro γ
              have c1 : ∀ y : Wg γ, y.w.cell? ⟨w.heap.size + 1, 32, none⟩ = some (.int .i64 z1) := fun y => K.cellg y 2 rfl 32 hz1c
              have c2 : ∀ y : Wg γ, y.w.cell? ⟨w.heap.size + 1 + 1, 32, none⟩ = some (.int .i64 z2) := fun y => K.cellg y 1 rfl 32 hz2c
              have cvx : ∀ y : Wg γ, (convert 23 9 (.slice a3 q1 c3)).run Tryd.prog y.w = .ok (.string ⟨x1.toArray⟩) y.w := fun y => (C8.grow y.h (fun _ _ h => h)).str2
              have cvy : ∀ y : Wg γ, (convert 23 9 (.slice a4 q2 c4)).run Tryd.prog y.w = .ok (.string ⟨x2.toArray⟩) y.w := fun y => (D8.grow y.h (fun _ _ h => h)).str2
              have cva : ∀ y : Wg γ, (convert 23 9 (.slice (some ⟨w.heap.size, 0, none⟩) 32 32)).run Tryd.prog y.w = .ok (.string ⟨k0.toArray⟩) y.w := fun y => by
                have := run_str (LK0.grow y.h) 32 9 Tryd.underlying9
                rwa [HK0l.out] at this
              have cvb : ∀ y : Wg γ, (convert 23 9 (.slice (some ⟨w.heap.size + 1, 0, none⟩) 32 32)).run Tryd.prog y.w = .ok (.string ⟨i0.toArray⟩) y.w := fun y => by
                have := run_str (LI0.grow y.h) 32 9 Tryd.underlying9
                rwa [HI0l.out] at this
              have cvc : ∀ y : Wg γ, (convert 23 9 (.slice (some ⟨w.heap.size, 32, none⟩) 32 32)).run Tryd.prog y.w = .ok (.string ⟨k1.toArray⟩) y.w := fun y => by
                have := run_str (LK1.grow y.h) 32 9 Tryd.underlying9
                rwa [HK1l.out] at this
              have cvd : ∀ y : Wg γ, (convert 23 9 (.slice (some ⟨w.heap.size + 1 + 1, 0, none⟩) 32 32)).run Tryd.prog y.w = .ok (.string ⟨i1.toArray⟩) y.w := fun y => by
                have := run_str (LI1.grow y.h) 32 9 Tryd.underlying9
                rwa [HI1l.out] at this
              simp only [List.drop_succ_cons, List.drop_zero, List.take_succ_cons, List.take_zero]
              repeat (any_goals (first | go_big_quiet_step (fail) | quiet_step (fail)))
              exact wpQuiet_nil rfl
            case fin0 =>
            (try simp only [Act.put, List.setIfInBounds_toArray, List.set_cons_zero, List.set_cons_succ])
            refine Wk.seg 11 10 (by kernel_rfl) (by kernel_rfl) ?_
            apply Exists.intro
            refine ⟨?wk11, ?fin11⟩
            case wk11 =>
              intro γ
              have c1 : ∀ y : Wg γ, y.w.cell? ⟨w.heap.size + 1, 32, none⟩ = some (.int .i64 z1) := fun y => K.cellg y 2 rfl 32 hz1c
              have c2 : ∀ y : Wg γ, y.w.cell? ⟨w.heap.size + 1 + 1, 32, none⟩ = some (.int .i64 z2) := fun y => K.cellg y 1 rfl 32 hz2c
              have cvx : ∀ y : Wg γ, (convert 23 9 (.slice a3 q1 c3)).run Tryd.prog y.w = .ok (.string ⟨x1.toArray⟩) y.w := fun y => (C8.grow y.h (fun _ _ h => h)).str2
              have cvy : ∀ y : Wg γ, (convert 23 9 (.slice a4 q2 c4)).run Tryd.prog y.w = .ok (.string ⟨x2.toArray⟩) y.w := fun y => (D8.grow y.h (fun _ _ h => h)).str2
              have cva : ∀ y : Wg γ, (convert 23 9 (.slice (some ⟨w.heap.size, 0, none⟩) 32 32)).run Tryd.prog y.w = .ok (.string ⟨k0.toArray⟩) y.w := fun y => by
                have := run_str (LK0.grow y.h) 32 9 Tryd.underlying9
                rwa [HK0l.out] at this
              have cvb : ∀ y : Wg γ, (convert 23 9 (.slice (some ⟨w.heap.size + 1, 0, none⟩) 32 32)).run Tryd.prog y.w = .ok (.string ⟨i0.toArray⟩) y.w := fun y => by
                have := run_str (LI0.grow y.h) 32 9 Tryd.underlying9
                rwa [HI0l.out] at this
              have cvc : ∀ y : Wg γ, (convert 23 9 (.slice (some ⟨w.heap.size, 32, none⟩) 32 32)).run Tryd.prog y.w = .ok (.string ⟨k1.toArray⟩) y.w := fun y => by
                have := run_str (LK1.grow y.h) 32 9 Tryd.underlying9
                rwa [HK1l.out] at this
              have cvd : ∀ y : Wg γ, (convert 23 9 (.slice (some ⟨w.heap.size + 1 + 1, 0, none⟩) 32 32)).run Tryd.prog y.w = .ok (.string ⟨i1.toArray⟩) y.w := fun y => by
                have := run_str (LI1.grow y.h) 32 9 Tryd.underlying9
                rwa [HI1l.out] at this
              simp only [List.drop_succ_cons, List.drop_zero, List.take_succ_cons, List.take_zero]
              repeat (any_goals (first | go_big_quiet_step (fail) | quiet_step (fail)))
              exact wpQuiet_nil rfl
            case fin11 =>
            (try simp only [Act.put, List.setIfInBounds_toArray, List.set_cons_zero, List.set_cons_succ])
            refine Wk.call rfl rfl 17 #[.string ⟨k0.toArray⟩, .string ⟨i0.toArray⟩, .int .i64 z1, .string ⟨x1.toArray⟩] (fun W => by kernel_rfl) (fun v W => ∃ b, v = .slice (some ⟨b, 0, none⟩) 2 2 ∧ Two W b TA) (fun W hx => (HTA.out W (hR.fr (Ex.tr K.fr hx) (fun h => h) (fun h => h))).mono ?_) ?_
            · rintro e W' ⟨b, rfl, hb, F⟩
              exact ⟨_, rfl, F, b, rfl, hb⟩
            rintro v wA XA ⟨bA, rfl, TWA⟩
            simp only [List.getElem_toArray, List.getElem_cons_succ, List.getElem_cons_zero, Act.put, List.setIfInBounds_toArray, List.set_cons_zero, List.set_cons_succ]
            refine Wk.call rfl rfl 17 #[.string ⟨k1.toArray⟩, .string ⟨i1.toArray⟩, .int .i64 z2, .string ⟨x2.toArray⟩] (fun W => by kernel_rfl) (fun v W => ∃ b, v = .slice (some ⟨b, 0, none⟩) 2 2 ∧ Two W b TB) (fun W hx => (HTB.out W (hR.fr (Ex.tr (Ex.tr K.fr XA) hx) (fun h => h) (fun h => h))).mono ?_) ?_
            · rintro e W' ⟨b, rfl, hb, F⟩
              exact ⟨_, rfl, F, b, rfl, hb⟩
            rintro v wB XB ⟨bB, rfl, TWB⟩
            simp only [List.getElem_toArray, List.getElem_cons_succ, List.getElem_cons_zero, Act.put, List.setIfInBounds_toArray, List.set_cons_zero, List.set_cons_succ]
            have FB := Ex.tr (Ex.tr K.fr XA) XB
            have TWA2 := TWA.fr XB
            refine Wk.seg 22 2 (by kernel_rfl) (by kernel_rfl) ?_
            apply Exists.intro
            refine ⟨?wk22, ?fin22⟩
            case wk22 =>
              intro γ
              have cl := fun y : Wg γ => clash_any bA bB TA TB HLA.out HLB.out y.w (TWA2.fr y.h) (TWB.fr y.h) (hR.fr (Ex.tr FB y.h) (fun h => h) (fun h => h)) hsome
              simp only [List.drop_succ_cons, List.drop_zero, List.take_succ_cons, List.take_zero]
              repeat (any_goals (first | go_big_quiet_step ((first | (go_at_call 19; with_reducible exact Calls.keepg (cl _)))) | quiet_step ((first | (go_at_call 19; with_reducible exact Calls.keepg (cl _))))))
              exact wpQuiet_nil rfl
            case fin22 =>
            (try simp only [Act.put, List.setIfInBounds_toArray, List.set_cons_zero, List.set_cons_succ])
            intro wE XE
            go_wp2_with fail
            go_ret
            exact ⟨rfl, Ex.tr FB XE⟩
        · as_aux_lemma =>
          have eqk : ∀ W : World, (binOp .eql 22 (.agg (ub 32 f0)) (.agg (ub 32 f1))).run Tryd.prog W = .ok (.bool true) W := fun W => by rw [HEK.out W, str_eq k0 k1 ek]
          have eqi : ∀ W : World, (binOp .eql 22 (.agg (ub 32 fa)) (.agg (ub 32 fb))).run Tryd.prog W = .ok (.bool true) W := fun W => by rw [HEI.out W, str_eq i0 i1 ei]
          have ez1 : (z1 == z2) = false := by simpa using ez
          have ez2 : decide (z1 = z2) = false := by simpa using ez
          have hne : ¬ (k0 = k1 ∧ i0 = i1 ∧ u1 = u2 ∧ x1 = x2) := fun h => ez (HZZ.out h.2.2.1)
          have hsome := HMUST.out hs hne
          clear ek ei ez hne hs
          go_wp2_with (first | ((with_reducible refine' wpList_load_kn K rfl 22 (.tmp 10) rfl 0 _ _ _ _ rfl _ Tryd.underlying22 rfl Tryd.szBa _ _); rotate_left 2; (focus exact rfl)) | ((with_reducible refine' wpList_load_pt K rfl 22 (.tmp 32) rfl 3 _ _ 32 32 _ _ _ rfl _ Tryd.underlying22 rfl Tryd.szBa _ p1 (ub_size _ _) _); rotate_left 2; (focus exact rfl)) | ((with_reducible refine' wpList_load_pt K rfl 22 (.tmp 34) rfl 1 _ _ 0 32 _ _ _ rfl _ Tryd.underlying22 rfl Tryd.szBa _ pb (ub_size _ _) _); rotate_left 2; (focus exact rfl)) | (focus ((refine' wpList_load_pt_gd K rfl 22 (.tmp 42) rfl 3 _ _ 0 32 _ _ _ rfl _ Tryd.underlying22 rfl Tryd.szBa rfl p0 (ub_size _ _) _))) | (focus ((refine' wpList_load_pt_gd K rfl 22 (.tmp 44) rfl 3 _ _ 32 32 _ _ _ rfl _ Tryd.underlying22 rfl Tryd.szBa rfl p1 (ub_size _ _) _))) | (focus ((refine' wpList_load_pt_gd K rfl 22 (.tmp 48) rfl 2 _ _ 0 32 _ _ _ rfl _ Tryd.underlying22 rfl Tryd.szBa rfl pa (ub_size _ _) _))) | (focus ((refine' wpList_load_pt_gd K rfl 22 (.tmp 50) rfl 1 _ _ 0 32 _ _ _ rfl _ Tryd.underlying22 rfl Tryd.szBa rfl pb (ub_size _ _) _))))

          refine wp_region_mono (sg 0 10 ++ (sg 11 10 ++ ((10, true) :: (21, true) :: (sg 22 2 ++ [])))) (by kernel_rfl) (by kernel_rfl) ?_
          refine Wk.seg 0 10 (by kernel_rfl) (by kernel_rfl) ?_
          apply Exists.intro
          refine ⟨?wk0, ?fin0⟩
          case wk0 =>
            intro γ
            have c1 : ∀ y : Wg γ, y.w.cell? ⟨w.heap.size + 1, 32, none⟩ = some (.int .i64 z1) := fun y => K.cellg y 2 rfl 32 hz1c
            have c2 : ∀ y : Wg γ, y.w.cell? ⟨w.heap.size + 1 + 1, 32, none⟩ = some (.int .i64 z2) := fun y => K.cellg y 1 rfl 32 hz2c
            have cvx : ∀ y : Wg γ, (convert 23 9 (.slice a3 q1 c3)).run Tryd.prog y.w = .ok (.string ⟨x1.toArray⟩) y.w := fun y => (C8.grow y.h (fun _ _ h => h)).str2
            have cvy : ∀ y : Wg γ, (convert 23 9 (.slice a4 q2 c4)).run Tryd.prog y.w = .ok (.string ⟨x2.toArray⟩) y.w := fun y => (D8.grow y.h (fun _ _ h => h)).str2
            have cva : ∀ y : Wg γ, (convert 23 9 (.slice (some ⟨w.heap.size, 0, none⟩) 32 32)).run Tryd.prog y.w = .ok (.string ⟨k0.toArray⟩) y.w := fun y => by
              have := run_str (LK0.grow y.h) 32 9 Tryd.underlying9
              rwa [HK0l.out] at this
            have cvb : ∀ y : Wg γ, (convert 23 9 (.slice (some ⟨w.heap.size + 1, 0, none⟩) 32 32)).run Tryd.prog y.w = .ok (.string ⟨i0.toArray⟩) y.w := fun y => by
              have := run_str (LI0.grow y.h) 32 9 Tryd.underlying9
              rwa [HI0l.out] at this
            have cvc : ∀ y : Wg γ, (convert 23 9 (.slice (some ⟨w.heap.size, 32, none⟩) 32 32)).run Tryd.prog y.w = .ok (.string ⟨k1.toArray⟩) y.w := fun y => by
              have := run_str (LK1.grow y.h) 32 9 Tryd.underlying9
              rwa [HK1l.out] at this
            have cvd : ∀ y : Wg γ, (convert 23 9 (.slice (some ⟨w.heap.size + 1 + 1, 0, none⟩) 32 32)).run Tryd.prog y.w = .ok (.string ⟨i1.toArray⟩) y.w := fun y => by
              have := run_str (LI1.grow y.h) 32 9 Tryd.underlying9
              rwa [HI1l.out] at this
            simp only [List.drop_succ_cons, List.drop_zero, List.take_succ_cons, List.take_zero]
            repeat (any_goals (first | go_big_quiet_step (fail) | quiet_step (fail)))
            exact wpQuiet_nil rfl
          case fin0 =>
          (try simp only [Act.put, List.setIfInBounds_toArray, List.set_cons_zero, List.set_cons_succ])
          refine Wk.seg 11 10 (by kernel_rfl) (by kernel_rfl) ?_
          apply Exists.intro
          refine ⟨?wk11, ?fin11⟩
          case wk11 =>
            intro γ
            have c1 : ∀ y : Wg γ, y.w.cell? ⟨w.heap.size + 1, 32, none⟩ = some (.int .i64 z1) := fun y => K.cellg y 2 rfl 32 hz1c
            have c2 : ∀ y : Wg γ, y.w.cell? ⟨w.heap.size + 1 + 1, 32, none⟩ = some (.int .i64 z2) := fun y => K.cellg y 1 rfl 32 hz2c
            have cvx : ∀ y : Wg γ, (convert 23 9 (.slice a3 q1 c3)).run Tryd.prog y.w = .ok (.string ⟨x1.toArray⟩) y.w := fun y => (C8.grow y.h (fun _ _ h => h)).str2
            have cvy : ∀ y : Wg γ, (convert 23 9 (.slice a4 q2 c4)).run Tryd.prog y.w = .ok (.string ⟨x2.toArray⟩) y.w := fun y => (D8.grow y.h (fun _ _ h => h)).str2
            have cva : ∀ y : Wg γ, (convert 23 9 (.slice (some ⟨w.heap.size, 0, none⟩) 32 32)).run Tryd.prog y.w = .ok (.string ⟨k0.toArray⟩) y.w := fun y => by
              have := run_str (LK0.grow y.h) 32 9 Tryd.underlying9
              rwa [HK0l.out] at this
            have cvb : ∀ y : Wg γ, (convert 23 9 (.slice (some ⟨w.heap.size + 1, 0, none⟩) 32 32)).run Tryd.prog y.w = .ok (.string ⟨i0.toArray⟩) y.w := fun y => by
              have := run_str (LI0.grow y.h) 32 9 Tryd.underlying9
              rwa [HI0l.out] at this
            have cvc : ∀ y : Wg γ, (convert 23 9 (.slice (some ⟨w.heap.size, 32, none⟩) 32 32)).run Tryd.prog y.w = .ok (.string ⟨k1.toArray⟩) y.w := fun y => by
              have := run_str (LK1.grow y.h) 32 9 Tryd.underlying9
              rwa [HK1l.out] at this
            have cvd : ∀ y : Wg γ, (convert 23 9 (.slice (some ⟨w.heap.size + 1 + 1, 0, none⟩) 32 32)).run Tryd.prog y.w = .ok (.string ⟨i1.toArray⟩) y.w := fun y => by
              have := run_str (LI1.grow y.h) 32 9 Tryd.underlying9
              rwa [HI1l.out] at this
            simp only [List.drop_succ_cons, List.drop_zero, List.take_succ_cons, List.take_zero]
            repeat (any_goals (first | go_big_quiet_step (fail) | quiet_step (fail)))
            exact wpQuiet_nil rfl
          case fin11 =>
          (try simp only [Act.put, List.setIfInBounds_toArray, List.set_cons_zero, List.set_cons_succ])
          refine Wk.call rfl rfl 17 #[.string ⟨k0.toArray⟩, .string ⟨i0.toArray⟩, .int .i64 z1, .string ⟨x1.toArray⟩] (fun W => by kernel_rfl) (fun v W => ∃ b, v = .slice (some ⟨b, 0, none⟩) 2 2 ∧ Two W b TA) (fun W hx => (HTA.out W (hR.fr (Ex.tr K.fr hx) (fun h => h) (fun h => h))).mono ?_) ?_
          · rintro e W' ⟨b, rfl, hb, F⟩
            exact ⟨_, rfl, F, b, rfl, hb⟩
          rintro v wA XA ⟨bA, rfl, TWA⟩
          simp only [List.getElem_toArray, List.getElem_cons_succ, List.getElem_cons_zero, Act.put, List.setIfInBounds_toArray, List.set_cons_zero, List.set_cons_succ]
          refine Wk.call rfl rfl 17 #[.string ⟨k1.toArray⟩, .string ⟨i1.toArray⟩, .int .i64 z2, .string ⟨x2.toArray⟩] (fun W => by kernel_rfl) (fun v W => ∃ b, v = .slice (some ⟨b, 0, none⟩) 2 2 ∧ Two W b TB) (fun W hx => (HTB.out W (hR.fr (Ex.tr (Ex.tr K.fr XA) hx) (fun h => h) (fun h => h))).mono ?_) ?_
          · rintro e W' ⟨b, rfl, hb, F⟩
            exact ⟨_, rfl, F, b, rfl, hb⟩
          rintro v wB XB ⟨bB, rfl, TWB⟩
          simp only [List.getElem_toArray, List.getElem_cons_succ, List.getElem_cons_zero, Act.put, List.setIfInBounds_toArray, List.set_cons_zero, List.set_cons_succ]
          have FB := Ex.tr (Ex.tr K.fr XA) XB
          have TWA2 := TWA.fr XB
          refine Wk.seg 22 2 (by kernel_rfl) (by kernel_rfl) ?_
          apply Exists.intro
          refine ⟨?wk22, ?fin22⟩
          case wk22 =>
            intro γ
            have cl := fun y : Wg γ => clash_any bA bB TA TB HLA.out HLB.out y.w (TWA2.fr y.h) (TWB.fr y.h) (hR.fr (Ex.tr FB y.h) (fun h => h) (fun h => h)) hsome
            simp only [List.drop_succ_cons, List.drop_zero, List.take_succ_cons, List.take_zero]
            repeat (any_goals (first | go_big_quiet_step ((first | (go_at_call 19; with_reducible exact Calls.keepg (cl _)))) | quiet_step ((first | (go_at_call 19; with_reducible exact Calls.keepg (cl _))))))
            exact wpQuiet_nil rfl
          case fin22 =>
          (try simp only [Act.put, List.setIfInBounds_toArray, List.set_cons_zero, List.set_cons_succ])
          intro wE XE
          go_wp2_with fail
          go_ret
          exact ⟨rfl, Ex.tr FB XE⟩
      · as_aux_lemma =>
        have eqk : ∀ W : World, (binOp .eql 22 (.agg (ub 32 f0)) (.agg (ub 32 f1))).run Tryd.prog W = .ok (.bool true) W := fun W => by rw [HEK.out W, str_eq k0 k1 ek]
        have eqi : ∀ W : World, (binOp .eql 22 (.agg (ub 32 fa)) (.agg (ub 32 fb))).run Tryd.prog W = .ok (.bool false) W := fun W => by rw [HEI.out W, str_ne i0 i1 ei]
        have hne : ¬ (k0 = k1 ∧ i0 = i1 ∧ u1 = u2 ∧ x1 = x2) := fun h => ei h.2.1
        have hsome := HMUST.out hs hne
        clear ek ei hne hs
        go_wp2_with (first | ((with_reducible refine' wpList_load_kn K rfl 22 (.tmp 10) rfl 0 _ _ _ _ rfl _ Tryd.underlying22 rfl Tryd.szBa _ _); rotate_left 2; (focus exact rfl)) | ((with_reducible refine' wpList_load_pt K rfl 22 (.tmp 32) rfl 3 _ _ 32 32 _ _ _ rfl _ Tryd.underlying22 rfl Tryd.szBa _ p1 (ub_size _ _) _); rotate_left 2; (focus exact rfl)) | ((with_reducible refine' wpList_load_pt K rfl 22 (.tmp 34) rfl 1 _ _ 0 32 _ _ _ rfl _ Tryd.underlying22 rfl Tryd.szBa _ pb (ub_size _ _) _); rotate_left 2; (focus exact rfl)) | (focus ((refine' wpList_load_pt_gd K rfl 22 (.tmp 42) rfl 3 _ _ 0 32 _ _ _ rfl _ Tryd.underlying22 rfl Tryd.szBa rfl p0 (ub_size _ _) _))) | (focus ((refine' wpList_load_pt_gd K rfl 22 (.tmp 44) rfl 3 _ _ 32 32 _ _ _ rfl _ Tryd.underlying22 rfl Tryd.szBa rfl p1 (ub_size _ _) _))) | (focus ((refine' wpList_load_pt_gd K rfl 22 (.tmp 48) rfl 2 _ _ 0 32 _ _ _ rfl _ Tryd.underlying22 rfl Tryd.szBa rfl pa (ub_size _ _) _))) | (focus ((refine' wpList_load_pt_gd K rfl 22 (.tmp 50) rfl 1 _ _ 0 32 _ _ _ rfl _ Tryd.underlying22 rfl Tryd.szBa rfl pb (ub_size _ _) _))))

        refine wp_region_mono (sg 0 10 ++ (sg 11 10 ++ ((10, true) :: (21, true) :: (sg 22 2 ++ [])))) (by kernel_rfl) (by kernel_rfl) ?_
        refine Wk.seg 0 10 (by kernel_rfl) (by kernel_rfl) ?_
        apply Exists.intro
        refine ⟨?wk0, ?fin0⟩
        case wk0 =>
          intro γ
          have c1 : ∀ y : Wg γ, y.w.cell? ⟨w.heap.size + 1, 32, none⟩ = some (.int .i64 z1) := fun y => K.cellg y 2 rfl 32 hz1c
          have c2 : ∀ y : Wg γ, y.w.cell? ⟨w.heap.size + 1 + 1, 32, none⟩ = some (.int .i64 z2) := fun y => K.cellg y 1 rfl 32 hz2c
          have cvx : ∀ y : Wg γ, (convert 23 9 (.slice a3 q1 c3)).run Tryd.prog y.w = .ok (.string ⟨x1.toArray⟩) y.w := fun y => (C8.grow y.h (fun _ _ h => h)).str2
          have cvy : ∀ y : Wg γ, (convert 23 9 (.slice a4 q2 c4)).run Tryd.prog y.w = .ok (.string ⟨x2.toArray⟩) y.w := fun y => (D8.grow y.h (fun _ _ h => h)).str2
          have cva : ∀ y : Wg γ, (convert 23 9 (.slice (some ⟨w.heap.size, 0, none⟩) 32 32)).run Tryd.prog y.w = .ok (.string ⟨k0.toArray⟩) y.w := fun y => by
            have := run_str (LK0.grow y.h) 32 9 Tryd.underlying9
            rwa [HK0l.out] at this
          have cvb : ∀ y : Wg γ, (convert 23 9 (.slice (some ⟨w.heap.size + 1, 0, none⟩) 32 32)).run Tryd.prog y.w = .ok (.string ⟨i0.toArray⟩) y.w := fun y => by
            have := run_str (LI0.grow y.h) 32 9 Tryd.underlying9
            rwa [HI0l.out] at this
          have cvc : ∀ y : Wg γ, (convert 23 9 (.slice (some ⟨w.heap.size, 32, none⟩) 32 32)).run Tryd.prog y.w = .ok (.string ⟨k1.toArray⟩) y.w := fun y => by
            have := run_str (LK1.grow y.h) 32 9 Tryd.underlying9
            rwa [HK1l.out] at this
          have cvd : ∀ y : Wg γ, (convert 23 9 (.slice (some ⟨w.heap.size + 1 + 1, 0, none⟩) 32 32)).run Tryd.prog y.w = .ok (.string ⟨i1.toArray⟩) y.w := fun y => by
            have := run_str (LI1.grow y.h) 32 9 Tryd.underlying9
            rwa [HI1l.out] at this
          simp only [List.drop_succ_cons, List.drop_zero, List.take_succ_cons, List.take_zero]
          repeat (any_goals (first | go_big_quiet_step (fail) | quiet_step (fail)))
          exact wpQuiet_nil rfl
        case fin0 =>
        (try simp only [Act.put, List.setIfInBounds_toArray, List.set_cons_zero, List.set_cons_succ])
        refine Wk.seg 11 10 (by kernel_rfl) (by kernel_rfl) ?_
        apply Exists.intro
        refine ⟨?wk11, ?fin11⟩
        case wk11 =>
          intro γ
          have c1 : ∀ y : Wg γ, y.w.cell? ⟨w.heap.size + 1, 32, none⟩ = some (.int .i64 z1) := fun y => K.cellg y 2 rfl 32 hz1c
          have c2 : ∀ y : Wg γ, y.w.cell? ⟨w.heap.size + 1 + 1, 32, none⟩ = some (.int .i64 z2) := fun y => K.cellg y 1 rfl 32 hz2c
          have cvx : ∀ y : Wg γ, (convert 23 9 (.slice a3 q1 c3)).run Tryd.prog y.w = .ok (.string ⟨x1.toArray⟩) y.w := fun y => (C8.grow y.h (fun _ _ h => h)).str2
          have cvy : ∀ y : Wg γ, (convert 23 9 (.slice a4 q2 c4)).run Tryd.prog y.w = .ok (.string ⟨x2.toArray⟩) y.w := fun y => (D8.grow y.h (fun _ _ h => h)).str2
          have cva : ∀ y : Wg γ, (convert 23 9 (.slice (some ⟨w.heap.size, 0, none⟩) 32 32)).run Tryd.prog y.w = .ok (.string ⟨k0.toArray⟩) y.w := fun y => by
            have := run_str (LK0.grow y.h) 32 9 Tryd.underlying9
            rwa [HK0l.out] at this
          have cvb : ∀ y : Wg γ, (convert 23 9 (.slice (some ⟨w.heap.size + 1, 0, none⟩) 32 32)).run Tryd.prog y.w = .ok (.string ⟨i0.toArray⟩) y.w := fun y => by
            have := run_str (LI0.grow y.h) 32 9 Tryd.underlying9
            rwa [HI0l.out] at this
          have cvc : ∀ y : Wg γ, (convert 23 9 (.slice (some ⟨w.heap.size, 32, none⟩) 32 32)).run Tryd.prog y.w = .ok (.string ⟨k1.toArray⟩) y.w := fun y => by
            have := run_str (LK1.grow y.h) 32 9 Tryd.underlying9
            rwa [HK1l.out] at this
          have cvd : ∀ y : Wg γ, (convert 23 9 (.slice (some ⟨w.heap.size + 1 + 1, 0, none⟩) 32 32)).run Tryd.prog y.w = .ok (.string ⟨i1.toArray⟩) y.w := fun y => by
            have := run_str (LI1.grow y.h) 32 9 Tryd.underlying9
            rwa [HI1l.out] at this
          simp only [List.drop_succ_cons, List.drop_zero, List.take_succ_cons, List.take_zero]
          repeat (any_goals (first | go_big_quiet_step (fail) | quiet_step (fail)))
          exact wpQuiet_nil rfl
        case fin11 =>
        (try simp only [Act.put, List.setIfInBounds_toArray, List.set_cons_zero, List.set_cons_succ])
        refine Wk.call rfl rfl 17 #[.string ⟨k0.toArray⟩, .string ⟨i0.toArray⟩, .int .i64 z1, .string ⟨x1.toArray⟩] (fun W => by kernel_rfl) (fun v W => ∃ b, v = .slice (some ⟨b, 0, none⟩) 2 2 ∧ Two W b TA) (fun W hx => (HTA.out W (hR.fr (Ex.tr K.fr hx) (fun h => h) (fun h => h))).mono ?_) ?_
        · rintro e W' ⟨b, rfl, hb, F⟩
          exact ⟨_, rfl, F, b, rfl, hb⟩
        rintro v wA XA ⟨bA, rfl, TWA⟩
        simp only [List.getElem_toArray, List.getElem_cons_succ, List.getElem_cons_zero, Act.put, List.setIfInBounds_toArray, List.set_cons_zero, List.set_cons_succ]
        refine Wk.call rfl rfl 17 #[.string ⟨k1.toArray⟩, .string ⟨i1.toArray⟩, .int .i64 z2, .string ⟨x2.toArray⟩] (fun W => by kernel_rfl) (fun v W => ∃ b, v = .slice (some ⟨b, 0, none⟩) 2 2 ∧ Two W b TB) (fun W hx => (HTB.out W (hR.fr (Ex.tr (Ex.tr K.fr XA) hx) (fun h => h) (fun h => h))).mono ?_) ?_
        · rintro e W' ⟨b, rfl, hb, F⟩
          exact ⟨_, rfl, F, b, rfl, hb⟩
        rintro v wB XB ⟨bB, rfl, TWB⟩
        simp only [List.getElem_toArray, List.getElem_cons_succ, List.getElem_cons_zero, Act.put, List.setIfInBounds_toArray, List.set_cons_zero, List.set_cons_succ]
        have FB := Ex.tr (Ex.tr K.fr XA) XB
        have TWA2 := TWA.fr XB
        refine Wk.seg 22 2 (by kernel_rfl) (by kernel_rfl) ?_
        apply Exists.intro
        refine ⟨?wk22, ?fin22⟩
        case wk22 =>
          intro γ
          have cl := fun y : Wg γ => clash_any bA bB TA TB HLA.out HLB.out y.w (TWA2.fr y.h) (TWB.fr y.h) (hR.fr (Ex.tr FB y.h) (fun h => h) (fun h => h)) hsome
          simp only [List.drop_succ_cons, List.drop_zero, List.take_succ_cons, List.take_zero]
          repeat (any_goals (first | go_big_quiet_step ((first | (go_at_call 19; with_reducible exact Calls.keepg (cl _)))) | quiet_step ((first | (go_at_call 19; with_reducible exact Calls.keepg (cl _))))))
          exact wpQuiet_nil rfl
        case fin22 =>
        (try simp only [Act.put, List.setIfInBounds_toArray, List.set_cons_zero, List.set_cons_succ])
        intro wE XE
        go_wp2_with fail
        go_ret
        exact ⟨rfl, Ex.tr FB XE⟩
    · as_aux_lemma =>
      have eqk : ∀ W : World, (binOp .eql 22 (.agg (ub 32 f0)) (.agg (ub 32 f1))).run Tryd.prog W = .ok (.bool false) W := fun W => by rw [HEK.out W, str_ne k0 k1 ek]
      have hne : ¬ (k0 = k1 ∧ i0 = i1 ∧ u1 = u2 ∧ x1 = x2) := fun h => ek h.1
      have hsome := HMUST.out hs hne
      clear ek hne hs
      go_wp2_with (first | ((with_reducible refine' wpList_load_kn K rfl 22 (.tmp 10) rfl 0 _ _ _ _ rfl _ Tryd.underlying22 rfl Tryd.szBa _ _); rotate_left 2; (focus exact rfl)) | ((with_reducible refine' wpList_load_pt K rfl 22 (.tmp 32) rfl 3 _ _ 32 32 _ _ _ rfl _ Tryd.underlying22 rfl Tryd.szBa _ p1 (ub_size _ _) _); rotate_left 2; (focus exact rfl)) | ((with_reducible refine' wpList_load_pt K rfl 22 (.tmp 34) rfl 1 _ _ 0 32 _ _ _ rfl _ Tryd.underlying22 rfl Tryd.szBa _ pb (ub_size _ _) _); rotate_left 2; (focus exact rfl)) | (focus ((refine' wpList_load_pt_gd K rfl 22 (.tmp 42) rfl 3 _ _ 0 32 _ _ _ rfl _ Tryd.underlying22 rfl Tryd.szBa rfl p0 (ub_size _ _) _))) | (focus ((refine' wpList_load_pt_gd K rfl 22 (.tmp 44) rfl 3 _ _ 32 32 _ _ _ rfl _ Tryd.underlying22 rfl Tryd.szBa rfl p1 (ub_size _ _) _))) | (focus ((refine' wpList_load_pt_gd K rfl 22 (.tmp 48) rfl 2 _ _ 0 32 _ _ _ rfl _ Tryd.underlying22 rfl Tryd.szBa rfl pa (ub_size _ _) _))) | (focus ((refine' wpList_load_pt_gd K rfl 22 (.tmp 50) rfl 1 _ _ 0 32 _ _ _ rfl _ Tryd.underlying22 rfl Tryd.szBa rfl pb (ub_size _ _) _))))

      refine wp_region_mono (sg 0 10 ++ (sg 11 10 ++ ((10, true) :: (21, true) :: (sg 22 2 ++ [])))) (by kernel_rfl) (by kernel_rfl) ?_
      refine Wk.seg 0 10 (by kernel_rfl) (by kernel_rfl) ?_
      apply Exists.intro
      refine ⟨?wk0, ?fin0⟩
      case wk0 =>
        intro γ
        have c1 : ∀ y : Wg γ, y.w.cell? ⟨w.heap.size + 1, 32, none⟩ = some (.int .i64 z1) := fun y => K.cellg y 2 rfl 32 hz1c
        have c2 : ∀ y : Wg γ, y.w.cell? ⟨w.heap.size + 1 + 1, 32, none⟩ = some (.int .i64 z2) := fun y => K.cellg y 1 rfl 32 hz2c
        have cvx : ∀ y : Wg γ, (convert 23 9 (.slice a3 q1 c3)).run Tryd.prog y.w = .ok (.string ⟨x1.toArray⟩) y.w := fun y => (C8.grow y.h (fun _ _ h => h)).str2
        have cvy : ∀ y : Wg γ, (convert 23 9 (.slice a4 q2 c4)).run Tryd.prog y.w = .ok (.string ⟨x2.toArray⟩) y.w := fun y => (D8.grow y.h (fun _ _ h => h)).str2
        have cva : ∀ y : Wg γ, (convert 23 9 (.slice (some ⟨w.heap.size, 0, none⟩) 32 32)).run Tryd.prog y.w = .ok (.string ⟨k0.toArray⟩) y.w := fun y => by
          have := run_str (LK0.grow y.h) 32 9 Tryd.underlying9
          rwa [HK0l.out] at this
        have cvb : ∀ y : Wg γ, (convert 23 9 (.slice (some ⟨w.heap.size + 1, 0, none⟩) 32 32)).run Tryd.prog y.w = .ok (.string ⟨i0.toArray⟩) y.w := fun y => by
          have := run_str (LI0.grow y.h) 32 9 Tryd.underlying9
          rwa [HI0l.out] at this
        have cvc : ∀ y : Wg γ, (convert 23 9 (.slice (some ⟨w.heap.size, 32, none⟩) 32 32)).run Tryd.prog y.w = .ok (.string ⟨k1.toArray⟩) y.w := fun y => by
          have := run_str (LK1.grow y.h) 32 9 Tryd.underlying9
          rwa [HK1l.out] at this
        have cvd : ∀ y : Wg γ, (convert 23 9 (.slice (some ⟨w.heap.size + 1 + 1, 0, none⟩) 32 32)).run Tryd.prog y.w = .ok (.string ⟨i1.toArray⟩) y.w := fun y => by
          have := run_str (LI1.grow y.h) 32 9 Tryd.underlying9
          rwa [HI1l.out] at this
        simp only [List.drop_succ_cons, List.drop_zero, List.take_succ_cons, List.take_zero]
        repeat (any_goals (first | go_big_quiet_step (fail) | quiet_step (fail)))
        exact wpQuiet_nil rfl
      case fin0 =>
      (try simp only [Act.put, List.setIfInBounds_toArray, List.set_cons_zero, List.set_cons_succ])
      refine Wk.seg 11 10 (by kernel_rfl) (by kernel_rfl) ?_
      apply Exists.intro
      refine ⟨?wk11, ?fin11⟩
      case wk11 =>
        intro γ
        have c1 : ∀ y : Wg γ, y.w.cell? ⟨w.heap.size + 1, 32, none⟩ = some (.int .i64 z1) := fun y => K.cellg y 2 rfl 32 hz1c
        have c2 : ∀ y : Wg γ, y.w.cell? ⟨w.heap.size + 1 + 1, 32, none⟩ = some (.int .i64 z2) := fun y => K.cellg y 1 rfl 32 hz2c
        have cvx : ∀ y : Wg γ, (convert 23 9 (.slice a3 q1 c3)).run Tryd.prog y.w = .ok (.string ⟨x1.toArray⟩) y.w := fun y => (C8.grow y.h (fun _ _ h => h)).str2
        have cvy : ∀ y : Wg γ, (convert 23 9 (.slice a4 q2 c4)).run Tryd.prog y.w = .ok (.string ⟨x2.toArray⟩) y.w := fun y => (D8.grow y.h (fun _ _ h => h)).str2
        have cva : ∀ y : Wg γ, (convert 23 9 (.slice (some ⟨w.heap.size, 0, none⟩) 32 32)).run Tryd.prog y.w = .ok (.string ⟨k0.toArray⟩) y.w := fun y => by
          have := run_str (LK0.grow y.h) 32 9 Tryd.underlying9
          rwa [HK0l.out] at this
        have cvb : ∀ y : Wg γ, (convert 23 9 (.slice (some ⟨w.heap.size + 1, 0, none⟩) 32 32)).run Tryd.prog y.w = .ok (.string ⟨i0.toArray⟩) y.w := fun y => by
          have := run_str (LI0.grow y.h) 32 9 Tryd.underlying9
          rwa [HI0l.out] at this
        have cvc : ∀ y : Wg γ, (convert 23 9 (.slice (some ⟨w.heap.size, 32, none⟩) 32 32)).run Tryd.prog y.w = .ok (.string ⟨k1.toArray⟩) y.w := fun y => by
          have := run_str (LK1.grow y.h) 32 9 Tryd.underlying9
          rwa [HK1l.out] at this
        have cvd : ∀ y : Wg γ, (convert 23 9 (.slice (some ⟨w.heap.size + 1 + 1, 0, none⟩) 32 32)).run Tryd.prog y.w = .ok (.string ⟨i1.toArray⟩) y.w := fun y => by
          have := run_str (LI1.grow y.h) 32 9 Tryd.underlying9
          rwa [HI1l.out] at this
        simp only [List.drop_succ_cons, List.drop_zero, List.take_succ_cons, List.take_zero]
        repeat (any_goals (first | go_big_quiet_step (fail) | quiet_step (fail)))
        exact wpQuiet_nil rfl
      case fin11 =>
      (try simp only [Act.put, List.setIfInBounds_toArray, List.set_cons_zero, List.set_cons_succ])
      refine Wk.call rfl rfl 17 #[.string ⟨k0.toArray⟩, .string ⟨i0.toArray⟩, .int .i64 z1, .string ⟨x1.toArray⟩] (fun W => by kernel_rfl) (fun v W => ∃ b, v = .slice (some ⟨b, 0, none⟩) 2 2 ∧ Two W b TA) (fun W hx => (HTA.out W (hR.fr (Ex.tr K.fr hx) (fun h => h) (fun h => h))).mono ?_) ?_
      · rintro e W' ⟨b, rfl, hb, F⟩
        exact ⟨_, rfl, F, b, rfl, hb⟩
      rintro v wA XA ⟨bA, rfl, TWA⟩
      simp only [List.getElem_toArray, List.getElem_cons_succ, List.getElem_cons_zero, Act.put, List.setIfInBounds_toArray, List.set_cons_zero, List.set_cons_succ]
      refine Wk.call rfl rfl 17 #[.string ⟨k1.toArray⟩, .string ⟨i1.toArray⟩, .int .i64 z2, .string ⟨x2.toArray⟩] (fun W => by kernel_rfl) (fun v W => ∃ b, v = .slice (some ⟨b, 0, none⟩) 2 2 ∧ Two W b TB) (fun W hx => (HTB.out W (hR.fr (Ex.tr (Ex.tr K.fr XA) hx) (fun h => h) (fun h => h))).mono ?_) ?_
      · rintro e W' ⟨b, rfl, hb, F⟩
        exact ⟨_, rfl, F, b, rfl, hb⟩
      rintro v wB XB ⟨bB, rfl, TWB⟩
      simp only [List.getElem_toArray, List.getElem_cons_succ, List.getElem_cons_zero, Act.put, List.setIfInBounds_toArray, List.set_cons_zero, List.set_cons_succ]
      have FB := Ex.tr (Ex.tr K.fr XA) XB
      have TWA2 := TWA.fr XB
      refine Wk.seg 22 2 (by kernel_rfl) (by kernel_rfl) ?_
      apply Exists.intro
      refine ⟨?wk22, ?fin22⟩
      case wk22 =>
        intro γ
        have cl := fun y : Wg γ => clash_any bA bB TA TB HLA.out HLB.out y.w (TWA2.fr y.h) (TWB.fr y.h) (hR.fr (Ex.tr FB y.h) (fun h => h) (fun h => h)) hsome
        simp only [List.drop_succ_cons, List.drop_zero, List.take_succ_cons, List.take_zero]
        repeat (any_goals (first | go_big_quiet_step ((first | (go_at_call 19; with_reducible exact Calls.keepg (cl _)))) | quiet_step ((first | (go_at_call 19; with_reducible exact Calls.keepg (cl _))))))
        exact wpQuiet_nil rfl
      case fin22 =>
      (try simp only [Act.put, List.setIfInBounds_toArray, List.set_cons_zero, List.set_cons_succ])
      intro wE XE
      go_wp2_with fail
      go_ret
      exact ⟨rfl, Ex.tr FB XE⟩
  · have hck := check_bad z2 a4 q2 c4 (sumc A1) (ub 32 f1) (ub 32 fb) (sumc B1) w7 hbd (fun W => by rw [neq_sumc, str_ne _ _ (fun h => hs h.symm)]; rfl) sA1 sFO sFI sB1
    clear hbd
    refine hck.mono ?_
    clear hck
    rintro e w8 ⟨rfl, F8⟩
    go_wp2_with fail
    go_ret
    exact ⟨rfl, Ex.tr K.fr F8⟩
end Go.Proofs.YtbpblheaiancaaaDoor

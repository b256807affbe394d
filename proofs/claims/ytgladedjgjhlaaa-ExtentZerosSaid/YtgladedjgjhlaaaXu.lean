/-
  ExtentZeros.
-/
import Derived.Test.YtgladedjgjhlaaaXt
import Derived.Test.YtgladedjgjhlaaaXl
import Derived.Test.YtgladedjgjhlaaaTg
namespace Go.Proofs.Ytgladedjgjhlaaa
open Go.RowKit
set_option linter.unusedVariables false
set_option linter.unusedSimpArgs false
theorem spot4 (s : Int) : ∃ z : Int, ∃ q : Nat, IntKind.u64.wrap s = z ∧ z.tmod 4 = (q : Int) ∧ q < 4 := by
  have e : IntKind.u64.wrap s = s % 18446744073709551616 := by
    unfold IntKind.wrap
    first | rfl | simp
  refine ⟨s % 18446744073709551616, ((s % 18446744073709551616) % 4).toNat, e, ?_, ?_⟩
  · rw [Int.tmod_eq_emod_of_nonneg (by omega)]; omega
  · omega
theorem z20 : (#[.int .u8 0, .int .u8 0, .int .u8 0, .int .u8 0, .int .u8 0, .int .u8 0, .int .u8 0, .int .u8 0, .int .u8 0, .int .u8 0, .int .u8 0, .int .u8 0, .int .u8 0, .int .u8 0, .int .u8 0, .int .u8 0, .int .u8 0, .int .u8 0, .int .u8 0, .int .u8 0] : Array Value) = ub 20 (fun _ => 0) := rfl
theorem b127_eq {x : UInt8} (h : zr (b127 x) = true) : b127 x = fun _ => 0 := by
  rw [zr_b127, beq_iff_eq] at h
  rw [h, b127_zero]
theorem laid_zero {N : Nat → Nat → UInt8} {Wf : Nat → UInt8} {q : Nat} (hN : ∀ j, j < 20 → N j = b127 (Wf j)) (us : List (Nat × (Nat → UInt8))) (hus : ∀ p ∈ us, 2 + 4 * q ≤ p.1 ∧ p.1 < 2 + 4 * q + 4 ∧ p.2 = fun _ => 0) (hz : ∀ j, 2 + 4 * q ≤ j → j < 2 + 4 * q + 4 → zr (lay N us j) = true) (j : Nat) (hj : j < 20) : lay N us j = b127 (if 2 + 4 * q ≤ j ∧ j < 6 + 4 * q then 0 else Wf j) := by
  by_cases h : 2 + 4 * q ≤ j ∧ j < 6 + 4 * q
  · rw [if_pos h, b127_zero]
    rcases lay_zeros us N (2 + 4 * q + 4) (fun p hp => ⟨(hus p hp).2.1, (hus p hp).2.2⟩) j with c | c
    · have := hz j h.1 (by omega)
      rw [c, hN j hj] at this
      rw [c, hN j hj, b127_eq this]
    · exact c.2
  · rw [if_neg h, lay_other us N j (fun p hp e => h (by have := hus p hp; omega)), hN j hj]
theorem i64_4q (q : Nat) (h : q < 4) : In64 ((q : Int) * 4) ∧ In64 (2 + (q : Int) * 4) ∧ (2 : Int) + (q : Int) * 4 = ((2 + 4 * q : Nat) : Int) ∧ (q : Int) < 4 ∧ 2 + 4 * q + 4 ≤ 20 := by
  refine ⟨by unfold In64; omega, by unfold In64; omega, by omega, by omega, by omega⟩
set_option maxRecDepth 100000 in
set_option maxHeartbeats 6400000 in
theorem zeros_any {w : World} {v0 v2 : Value} (s : Int) {js : List Jc} {ks : List Bool} (h0 : JM w v0 js) (h2 : KL w v2 ks) :
    Calls Try.prog 8 #[v0, .int .i64 s, v2] w fun e w' => e = .returned (.bool true) ∧ Fr (fun _ => False) w w' := by
  obtain ⟨z, q, hz, hq, hq4⟩ := spot4 s
  have HZ := Lib.hid hz
  have HQ := Lib.hid hq
  have H4 := Lib.hid hq4
  have HI := Lib.hid (i64_4q q hq4)
  have HR := Lib.hid (show IntKind.i64.wrap (q : Int) = (q : Int) from IntWalk.i64_in _ (by omega))
  have H0 := Lib.hid h0
  have HKB := Lib.hid h2
  clear h0 h2 hz hq hq4
  go_enter Try.func8, Try.ntmps8
  go_wp2_with fail
  refine (dnew_da 20 (by decide) (by decide) w).mono ?_
  rintro e w1 ⟨d, bn, bl, rfl, D, F⟩
  have HD := Lib.hid D
  clear D
  go_wp2_with fail
  refine (xnew_good (some ⟨d, 0, none⟩) 20 2 4 4 (by decide) (by decide) (by decide) (by decide) (by decide) (by unfold In64; omega) (by unfold In64; omega) (by unfold In64; omega) w1 (size_ok d 20 (some ⟨bn, 0, none⟩) w1 (HD.out.c 0 rfl))).mono ?_
  rintro e w2 ⟨x, rfl, X2, hxl, F2⟩
  have gd : x ≠ d := by have := lt_of_block HD.out.blk; omega
  have gn : x ≠ bn := by have := lt_of_block HD.out.now; omega
  have gl : x ≠ bl := by have := lt_of_block HD.out.las; omega
  have HD2 := Lib.hid (HD.out.fr F2 (fun _ _ h => h))
  have F02 := F.trans F2 (fun _ h => h.elim)
  have HX2 := Lib.hid X2
  clear HD F F2 X2 hxl
  go_wp2_with fail
  refine (extents_any w2).mono ?_
  rintro e w3 ⟨rfl, F3⟩
  have HD3 := Lib.hid (HD2.out.fr F3 (fun _ _ h => h))
  have HX3 := Lib.hid (HX2.out.fr F3)
  have F03 := F02.trans F3 (fun _ h => h.elim)
  clear HD2 HX2 F02 F3
  go_wp2_with fail
  have FA : Fr (fun _ => False) w3 (w3.alloc (.cells #[.int .u8 0, .int .u8 0, .int .u8 0, .int .u8 0, .int .u8 0, .int .u8 0, .int .u8 0, .int .u8 0, .int .u8 0, .int .u8 0, .int .u8 0, .int .u8 0, .int .u8 0, .int .u8 0, .int .u8 0, .int .u8 0, .int .u8 0, .int .u8 0, .int .u8 0, .int .u8 0] 82)) := (Fr.refl _ w3).alloc _
  have hd : w3.heap.size ≠ d := by have := lt_of_block HD3.out.blk; omega
  have hn1 : w3.heap.size ≠ bn := by have := lt_of_block HD3.out.now; omega
  have hl1 : w3.heap.size ≠ bl := by have := lt_of_block HD3.out.las; omega
  have hx1 : w3.heap.size ≠ x := by have := lt_of_block HX3.out; omega
  have hg0 : w.heap.size ≤ w3.heap.size := F03.size
  refine zeros1 (gt := w3.heap.size) H0.out (HD3.out.fr FA (fun _ _ h => h)) (F03.trans FA (fun _ h => h.elim)) (HX3.out.fr FA) (by rw [← z20]; exact heap_alloc_new w3 _) gd gn gl hg0 hd hn1 hl1 hx1 _ rfl rfl rfl rfl rfl rfl rfl rfl ?_
  intro t w4 N ws v4 wr Wf hn p1 p2 p7 p9 p11 D4 hws hwr0 hwr1 hN hLN hv4 hv4x F4 X4 G4
  have GN := hn1
  clear FA HD3 HX3 F03 hn1 hx1 hg0
  generalize w3.heap.size = gt at *
  obtain ⟨f, hff, rfl⟩ := frame_open hn
  have e1 := hff 1 _ p1
  have e2 := hff 2 _ p2
  have e7 := hff 7 _ p7
  have e9 := hff 9 _ p9
  have e11 := hff 11 _ p11
  clear hff hn p1 p2 p7 p9 p11
  rw [lit211, e1, e2, e7, e9, e11]
  clear e1 e2 e7 e9 e11
  have HD4 := Lib.hid D4
  have HF4 := Lib.hid F4
  have HX4 := Lib.hid X4
  have HG4 := Lib.hid G4
  have HN := Lib.hid hN
  have HW0 := Lib.hid hwr0
  have HW1 := Lib.hid (show wr ≤ 1000000 by omega)
  have hLN2 := funext hLN
  have HLN := Lib.hid hLN2
  have HWS := Lib.hid (show ws.length < 1000000000000 by omega)
  clear D4 F4 X4 G4 hN hwr0 hwr1 hLN hLN2 hws hv4 hv4x
  go_wp2_with fail
  refine (sync_any HD4.out HWS.out).mono ?_
  rintro e w5 ⟨rfl, D5, F5⟩
  rw [HLN.out] at D5
  have F05 := HD4.out.grow HF4.out F5 (fun k e => e.elim .inl (fun e => .inr (.inr (.inl e))))
  have X5 : Ext w5 x (.pointer (some ⟨d, 0, none⟩)) 2 4 4 := (F5.block x (lt_of_block HX4.out) (fun e => e.elim gd gl)).trans HX4.out
  have G5 : w5.heap[gt]? = some (.cells (ub 20 Wf) 82 (0, 0)) := (F5.block gt (lt_of_block HG4.out) (fun e => e.elim hd hl1)).trans HG4.out
  have HD5 := Lib.hid D5
  have HX5 := Lib.hid X5
  have HG5 := Lib.hid G5
  have HF5 := Lib.hid F05
  clear D5 F5 X5 G5 F05 HD4 HF4 HX4 HG4 HLN HWS
  have r0 := HZ.out
  have r1 := HQ.out
  have r2 := HR.out
  go_wp2_with fail
  clear r0 r1 r2
  refine zeros2 HX5.out HD5.out HG5.out HN.out _ rfl rfl rfl rfl rfl rfl rfl rfl rfl ?_
  intro t w6 v15 hn p2 p7 p9 p11 p14 p15 O15 F6
  have HD6 := Lib.hid (HD5.out.fr F6 (fun _ _ h => h))
  have HX6 := Lib.hid (HX5.out.fr F6)
  have HG6 := Lib.hid (F6.kp HG5.out)
  have HF6 := Lib.hid (HF5.out.trans F6 (fun _ h => h.elim))
  have HO := Lib.hid O15
  clear HD5 HX5 HG5 HF5 F6 O15
  obtain ⟨f, hff, rfl⟩ := frame_open hn
  have e2 := hff 2 _ p2
  have e7 := hff 7 _ p7
  have e9 := hff 9 _ p9
  have e11 := hff 11 _ p11
  have e14 := hff 14 _ p14
  have e15 := hff 15 _ p15
  clear hff hn p2 p7 p9 p11 p14 p15
  rw [lit211, e2, e7, e9, e11, e14, e15]
  clear e2 e7 e9 e11 e14 e15
  go_wp2_with fail
  refine (foul_any (f := 2) (c := 4) (s := 4) (show Ext w6 x (.pointer (some ⟨d, 0, none⟩)) ((2 : Nat) : Int) ((4 : Nat) : Int) ((4 : Nat) : Int) from HX6.out) HD6.out (by decide) (by decide) (by decide)).mono ?_
  rintro e w7 ⟨v21, rfl, O21, F7⟩
  rw [fouls_dirty HN.out] at O21
  have O15 := own_fr HO.out F7 (fun _ _ h => h)
  have hl4 := dirtyl_len Wf 4
  generalize dirtyl Wf 4 = l at O15 O21 hl4
  obtain ⟨a15, c15, rfl⟩ := own_slice O15
  obtain ⟨a21, c21, rfl⟩ := own_slice O21
  have HD7 := Lib.hid (HD6.out.fr F7 (fun _ _ h => h))
  have HX7 := Lib.hid (HX6.out.fr F7)
  have HG7 := Lib.hid (F7.kp HG6.out)
  have HF7 := Lib.hid (HF6.out.trans F7 (fun _ h => h.elim))
  have HO15 := Lib.hid O15
  have HO21 := Lib.hid O21
  have HL4 := Lib.hid hl4
  have bb : ((l.length : Int) == (l.length : Int)) = true := beq_self_eq_true _
  clear HD6 HX6 HG6 HF6 F7 HO O15 O21 hl4
  go_wp2_with fail
  clear bb
  refine zeros4 HL4.out HO15.out HO21.out _ rfl rfl rfl rfl rfl rfl rfl rfl rfl ?_
  intro t w8 hn p2 p7 p9 p11 p14 F8
  have HD8 := Lib.hid (HD7.out.fr F8 (fun _ _ h => h))
  have HX8 := Lib.hid (HX7.out.fr F8)
  have HG8 := Lib.hid (F8.kp HG7.out)
  have HF8 := Lib.hid (HF7.out.trans F8 (fun _ h => h.elim))
  clear HD7 HX7 HG7 HF7 F8 HO15 HO21 HL4
  obtain ⟨f, hff, rfl⟩ := frame_open hn
  have e2 := hff 2 _ p2
  have e7 := hff 7 _ p7
  have e9 := hff 9 _ p9
  have e11 := hff 11 _ p11
  have e14 := hff 14 _ p14
  clear hff hn p2 p7 p9 p11 p14
  rw [lit211, e2, e7, e9, e11, e14]
  clear e2 e7 e9 e11 e14
  have hxd : ∀ j, Tch d bn bl (.slice none 0 0) j → j ≠ x := fun j hj e => by
    rw [e] at hj
    rcases hj with c | c | c | c
    · exact gd c
    · exact gn c
    · exact gl c
    · exact absurd c (by simp [Value.ownBlock])
  have hgd : ∀ j, Tch d bn bl (.slice none 0 0) j → j ≠ gt := fun j hj e => by
    rw [e] at hj
    rcases hj with c | c | c | c
    · exact hd c
    · exact GN c
    · exact hl1 c
    · exact absurd c (by simp [Value.ownBlock])
  have HXD := Lib.hid hxd
  have HGD := Lib.hid hgd
  clear hxd hgd
  go_wp2_with fail
  refine (zero_any HX8.out HXD.out HD8.out (q : Int) (Int.natCast_nonneg q) HI.out.2.2.2.1 (2 + 4 * q) 4 HI.out.2.2.1 rfl HI.out.1 HI.out.2.1 HI.out.2.2.2.2 (by simp) HW0.out HW1.out (by unfold In64; omega) (by decide)).mono ?_
  rintro e w9 (⟨us, wr9, ar9, rfl, D9, hus, hzr, hw90, hw91, ha9, F9⟩ | ⟨us, v9, wr9, ar9, rfl, ha9, _⟩)
  · have HX9 := Lib.hid (show Ext w9 x (.pointer (some ⟨d, 0, none⟩)) 2 4 4 from (F9.block x (lt_of_block HX8.out) (fun hj => HXD.out x hj rfl)).trans HX8.out)
    have HG9 := Lib.hid (show w9.heap[gt]? = some (.cells (ub 20 Wf) 82 (0, 0)) from (F9.block gt (lt_of_block HG8.out) (fun hj => HGD.out gt hj rfl)).trans HG8.out)
    have HF9 := Lib.hid (HD8.out.grow HF8.out F9 (fun _ h => h))
    have hM := laid_zero HN.out us hus hzr
    have hMe : lay (lay N ([] ++ us)) (keepOf [] ks) = lay N us := by rw [keepOf_nil]; rfl
    obtain ⟨M, hMM⟩ : ∃ M, lay N us = M := ⟨_, rfl⟩
    rw [hMM] at hM hMe D9 hzr
    have HM := Lib.hid hM
    have HME := Lib.hid hMe
    have HZR := Lib.hid hzr
    have HD9 := Lib.hid D9
    clear D9 F9 hM hMe hMM hus hzr hw90 hw91 ha9 HD8 HX8 HG8 HF8 HW0 HW1 HXD HGD HN
    go_wp2_with fail
    refine (zero_bad (.pointer (some ⟨x, 0, none⟩)) 4 4 (.inr (by decide)) w9 (fun W hF => count_ok x (.pointer (some ⟨d, 0, none⟩)) 2 4 4 W (HX9.out.fr hF))).mono ?_
    rintro e wa ⟨rfl, Fa⟩
    have HDa := Lib.hid (HD9.out.fr Fa (fun _ _ h => h))
    have HXa := Lib.hid (HX9.out.fr Fa)
    have HGa := Lib.hid (Fa.kp HG9.out)
    have HFa := Lib.hid (HF9.out.trans Fa (fun _ h => h.elim))
    clear HD9 HX9 HG9 HF9 Fa
    go_wp2_with fail
    refine (crash_any HDa.out (by simp) (HKB.out.kb HFa.out (fun k hk => by
      rcases hk with e | e | e
      · rw [e]; exact HDa.out.b1
      · rw [e]; exact HDa.out.b2
      · rw [e]; exact HDa.out.b3))).mono ?_
    rintro e wb ⟨rfl, Db, Fb⟩
    have HFb := Lib.hid (HDa.out.grow HFa.out Fb (fun k e => e.elim .inl (fun e => e.elim (fun e => .inr (.inl e)) (fun e => .inr (.inr (.inl e))))))
    have HXb := Lib.hid (show Ext wb x (.pointer (some ⟨d, 0, none⟩)) 2 4 4 from (Fb.block x (lt_of_block HXa.out) (fun e => e.elim gd (fun e => e.elim gn gl))).trans HXa.out)
    have HGb := Lib.hid (show wb.heap[gt]? = some (.cells (ub 20 Wf) 82 (0, 0)) from (Fb.block gt (lt_of_block HGa.out) (fun e => e.elim hd (fun e => e.elim GN hl1))).trans HGa.out)
    rw [HME.out] at Db
    have HDb := Lib.hid Db
    clear Db Fb HDa HXa HGa HFa HME
    go_wp2_with fail
    refine (clear_any HXb.out HDb.out (q : Int) (Int.natCast_nonneg q) HI.out.2.2.2.1 (2 + 4 * q) 4 HI.out.2.2.1 rfl HI.out.1 HI.out.2.1 HI.out.2.2.2.2).mono ?_
    rintro e wc ⟨bc, rfl, hbc, Fc⟩
    obtain rfl : bc = true := hbc.2 HZR.out
    have HDc := Lib.hid (HDb.out.fr Fc (fun _ _ h => h))
    have HGc := Lib.hid (Fc.kp HGb.out)
    have HFc := Lib.hid (HFb.out.trans Fc (fun _ h => h.elim))
    clear hbc HDb HXb HGb HFb Fc HZR
    go_wp2_with fail
    refine zeros5 H4.out HM.out HDc.out HGc.out _ rfl rfl rfl rfl rfl rfl rfl ?_
    intro t wd hn p8 p24 Fd
    have HFd := Lib.hid (HFc.out.trans Fd (fun _ h => h.elim))
    clear HDc HGc HFc Fd
    obtain ⟨f, hff, rfl⟩ := frame_open hn
    have e8 := hff 8 _ p8
    have e24 := hff 24 _ p24
    clear hff hn p8 p24
    rw [lit211, e8, e24]
    clear e8 e24
    go_wp2_with fail
    go_ret
    exact ⟨rfl, HFd.out⟩
  · exact absurd rfl ha9
end Go.Proofs.Ytgladedjgjhlaaa

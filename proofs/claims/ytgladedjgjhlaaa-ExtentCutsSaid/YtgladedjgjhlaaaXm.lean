/-
  ExtentCuts.
-/
import Derived.Test.YtgladedjgjhlaaaXl
import Derived.Test.YtgladedjgjhlaaaTg
namespace Go.Proofs.Ytgladedjgjhlaaa
open Go.RowKit
set_option linter.unusedVariables false
set_option linter.unusedSimpArgs false
theorem da_armx {w w' : World} {d bn bl n : Nat} {N L : Nat → Nat → UInt8} {ws : List (Nat × (Nat → UInt8))} {wv : Value} {wr ar ar' : Int} {dn : Bool} {base : Nat} (h : DA w d bn bl n N L ws wv wr ar dn base) (hb : w'.heap[d]? = some (.cells (dcells bn bl n wv wr ar' dn) 106 (0, 0))) (hF : Fr (fun k => k = d) w w') : DA w' d bn bl n N L ws wv wr ar' dn base :=
  ⟨hb, (hF.block bn (lt_of_block h.now) (fun e => h.d1 e.symm)).trans h.now, (hF.block bl (lt_of_block h.las) (fun e => h.d2 e.symm)).trans h.las, own_fr h.own hF (fun k hk e => h.o1 (by rw [hk, e])), h.d1, h.d2, h.d3, h.o1, h.o2, h.o3, h.b1, h.b2, h.b3, h.hn, h.hw⟩
set_option maxRecDepth 100000 in
set_option maxHeartbeats 6400000 in
theorem cuts_any {w : World} {v0 v2 : Value} (off : Int) {first : List UInt8} {ks : List Bool} (h0 : BL w v0 first) (h2 : KL w v2 ks) (hoff : In64 off) :
    Calls Try.prog 9 #[v0, .int .i64 off, v2] w fun e w' => e = .returned (.bool true) ∧ Fr (fun _ => False) w w' := by
  obtain ⟨z, q, hz, hq, hq2, hq8⟩ := spot8 off hoff
  have r1 : IntKind.u64.wrap (q : Int) = (q : Int) := IntWalk.u64_in _ (by omega)
  have r2 : IntKind.i64.wrap (q : Int) = (q : Int) := IntWalk.i64_in _ (by omega)
  have r3 : wrap64 (q : Int) = (q : Int) := IntWalk.wrap64_in _ (by omega)
  have H0 := Lib.hid h0
  have HKB := Lib.hid h2
  have hqi : In64 (q : Int) := by unfold In64; omega
  have HQI := Lib.hid hqi
  clear h0 h2 hoff hq2 hq8 hqi
  go_enter Try.func9, Try.ntmps9
  go_wp2_with fail
  refine (dnew_da 12 (by decide) (by decide) w).mono ?_
  rintro e w1 ⟨d, bn, bl, rfl, D, F⟩
  have HD := Lib.hid D
  clear D
  go_wp2_with fail
  refine (xnew_good (some ⟨d, 0, none⟩) 12 0 2 6 (by decide) (by decide) (by decide) (by decide) (by decide) (by unfold In64; omega) (by unfold In64; omega) (by unfold In64; omega) w1 (size_ok d 12 (some ⟨bn, 0, none⟩) w1 (HD.out.c 0 rfl))).mono ?_
  rintro e w2 ⟨x, rfl, X2, hxl, F2⟩
  have gd : x ≠ d := by have := lt_of_block HD.out.blk; omega
  have gn : x ≠ bn := by have := lt_of_block HD.out.now; omega
  have gl : x ≠ bl := by have := lt_of_block HD.out.las; omega
  have HD2 := Lib.hid (HD.out.fr F2 (fun _ _ h => h))
  have F02 := F.trans F2 (fun _ h => h.elim)
  have HX2 := Lib.hid X2
  clear HD F F2 X2 hxl
  go_wp2_with fail
  refine (extents_any w2).mono ?_
  rintro e w3 ⟨rfl, F3⟩
  have HD3 := Lib.hid (HD2.out.fr F3 (fun _ _ h => h))
  have HX3 := Lib.hid (HX2.out.fr F3)
  have F03 := F02.trans F3 (fun _ h => h.elim)
  clear HD2 HX2 F02 F3
  go_wp2_with fail
  refine cuts1 H0.out HD3.out F03 HX3.out gd gn gl _ rfl rfl rfl rfl rfl rfl rfl ?_
  intro t w4 v4 hn p0 p1 p2 p7 p9 D4 F4 X4 hv4
  clear HD3 HX3 F03
  obtain ⟨f, hff, rfl⟩ := frame_open hn
  have e0 := hff 0 _ p0
  have e1 := hff 1 _ p1
  have e2 := hff 2 _ p2
  have e7 := hff 7 _ p7
  have e9 := hff 9 _ p9
  clear hff hn p0 p1 p2 p7 p9
  rw [lit151, e0, e1, e2, e7, e9]
  clear e0 e1 e2 e7 e9
  have HD4 := Lib.hid D4
  have HF4 := Lib.hid F4
  have HX4 := Lib.hid X4
  clear D4 F4 X4
  go_wp2_with fail
  refine (sync_any HD4.out (by rw [gws_len]; omega)).mono ?_
  rintro e w5 ⟨rfl, D5, F5⟩
  have F05 := HD4.out.grow HF4.out F5 (fun k e => e.elim .inl (fun e => .inr (.inr (.inl e))))
  have X5 : Ext w5 x (.pointer (some ⟨d, 0, none⟩)) 0 2 6 := (F5.block x (lt_of_block HX4.out) (fun e => e.elim gd gl)).trans HX4.out
  obtain ⟨A, hA⟩ : ∃ A, lay (fun _ _ => 0) (gws first 12) = A := ⟨_, rfl⟩
  have hA2 : ∀ j, j < 12 → A j = b1 (fb first j) := fun j hj => by rw [← hA]; exact lay_gws first 12 j hj
  rw [hA] at D5
  have HA2 := Lib.hid hA2
  have HD5 := Lib.hid D5
  have HX5 := Lib.hid X5
  clear D5 F5 X5 HD4 HF4 HX4 hA hA2 hv4
  go_wp2_with fail
  refine (arm_any d bn bl 12 (.slice none 0 0) 12 0 false (q : Int) w5 HD5.out.blk).mono ?_
  rintro e w6 ⟨rfl, h6, F6⟩
  rw [if_neg (Int.not_lt.2 (Int.natCast_nonneg q))] at h6
  have D6 := da_armx HD5.out h6 F6
  have F06 := HD5.out.grow F05 F6 (fun j hs => .inl hs)
  have X6 : Ext w6 x (.pointer (some ⟨d, 0, none⟩)) 0 2 6 := (F6.block x (lt_of_block HX5.out) gd).trans HX5.out
  have HD6 := Lib.hid D6
  have HX6 := Lib.hid X6
  clear D6 F6 X6 HD5 HX5 h6 F05
  go_wp2_with fail
  have hxd : ∀ j, Tch d bn bl (.slice none 0 0) j → j ≠ x := fun j hj e => by
    rw [e] at hj
    rcases hj with c | c | c | c
    · exact gd c
    · exact gn c
    · exact gl c
    · exact absurd c (by simp [Value.ownBlock])
  have HXD := Lib.hid hxd
  clear hxd
  refine (zero_any HX6.out HXD.out HD6.out 0 (by decide) (by decide) 0 6 rfl rfl (by unfold In64; omega) (by unfold In64; omega) (by decide) (by simp) (by decide) (by decide) HQI.out (Int.natCast_nonneg q)).mono ?_
  rintro e w7 (⟨us, wr7, ar7, rfl, D7, hus, hzr, hw0, hw1, _, F7⟩ | ⟨us, v7, wr7, ar7, rfl, _, D7, hus, hul, hw0, hw1, hO, F7⟩)
  · have HXZ := Lib.hid (show Ext w7 x (.pointer (some ⟨d, 0, none⟩)) 0 2 6 from (F7.block x (lt_of_block HX6.out) (fun hj => HXD.out x hj rfl)).trans HX6.out)
    have HFZ := Lib.hid (HD6.out.grow F06 F7 (fun _ h => h))
    have hMe : lay (lay A ([] ++ us)) (keepOf [] ks) = lay A us := by rw [keepOf_nil]; rfl
    have hM : ∀ j, j < 12 → lay A us j = b1 (fb first j) ∨ (j < 6 ∧ lay A us j = fun _ => 0) := fun j hj => by
      rcases lay_zeros us A 6 (fun p hp => ⟨by have := (hus p hp).2.1; omega, (hus p hp).2.2⟩) j with c | c
      · rw [c]; exact .inl (HA2.out j hj)
      · exact .inr c
    have HZR := Lib.hid hzr
    obtain ⟨M, hMM⟩ : ∃ M, lay A us = M := ⟨_, rfl⟩
    rw [hMM] at hM hMe D7
    have HZR2 := Lib.hid (show ∀ j, 0 ≤ j → j < 0 + 6 → zr (M j) = true by rw [← hMM]; exact HZR.out)
    have HMeq := Lib.hid hMe
    have HM := Lib.hid hM
    have HDZ := Lib.hid D7
    have HW0 := Lib.hid hw0
    have HW1 := Lib.hid (show wr7 ≤ 1000000 by omega)
    have hlz : ([] : List (Nat × (Nat → UInt8))).length < 1000000000000 := by simp
    clear D7 F7 hMe hM hMM hus hzr hw0 hw1 HD6 HX6 F06 HZR
    go_wp2_with fail
    refine (down_any d false w7 (HDZ.out.c 5 rfl)).mono ?_
    rintro e wd ⟨rfl, Fd⟩
    have HDZ2 := Lib.hid (HDZ.out.fr Fd (fun _ _ h => h))
    have HXZ2 := Lib.hid (HXZ.out.fr Fd)
    have HFZ2 := Lib.hid (HFZ.out.trans Fd (fun _ h => h.elim))
    clear HDZ HXZ HFZ Fd
    have HDZ := HDZ2
    have HXZ := HXZ2
    have HFZ := HFZ2
    clear HDZ2 HXZ2 HFZ2
    go_wp2_with fail
    refine (crash_any HDZ.out hlz (HKB.out.kb HFZ.out (fun k hk => by
        rcases hk with e | e | e
        · rw [e]; exact HDZ.out.b1
        · rw [e]; exact HDZ.out.b2
        · rw [e]; exact HDZ.out.b3))).mono ?_
    rintro e w6 ⟨rfl, D6, F6⟩
    have F06 := HDZ.out.grow HFZ.out F6 (fun k e => e.elim .inl (fun e => e.elim (fun e => .inr (.inl e)) (fun e => .inr (.inr (.inl e)))))
    have X6 := (F6.block x (lt_of_block HXZ.out) (fun e => e.elim gd (fun e => e.elim gn gl))).trans HXZ.out
    rw [HMeq.out] at D6
    have HD6 := Lib.hid D6
    have HX6 := Lib.hid (show Ext w6 x (.pointer (some ⟨d, 0, none⟩)) 0 2 6 from X6)
    clear D6 F6 X6 HDZ HFZ HXZ hlz
    go_wp2_with fail
    refine cuts2 HM.out H0.out F06 HD6.out _ rfl rfl rfl rfl rfl rfl ?_
    intro t w7 hn p7 p9 p13 F7
    obtain ⟨f, hff, rfl⟩ := frame_open hn
    have e7 := hff 7 _ p7
    have e9 := hff 9 _ p9
    have e13 := hff 13 _ p13
    clear hff hn p7 p9 p13
    rw [lit151, e7, e9, e13]
    clear e7 e9 e13
    have HD7 := Lib.hid (HD6.out.fr F7 (fun _ _ h => h))
    have HX7 := Lib.hid (HX6.out.fr F7)
    have F07 := F06.trans F7 (fun _ h => h.elim)
    clear HD6 HX6 F06 F7
    go_wp2_with fail
    refine (clear_any HX7.out HD7.out 0 (by decide) (by decide) 0 6 rfl rfl (by unfold In64; omega) (by unfold In64; omega) (by decide)).mono ?_
    rintro e w8 ⟨b8, rfl, hb8, F8⟩
    have HD8 := Lib.hid (HD7.out.fr F8 (fun _ _ h => h))
    have HX8 := Lib.hid (HX7.out.fr F8)
    have F08 := F07.trans F8 (fun _ h => h.elim)
    obtain rfl : b8 = true := hb8.2 HZR2.out
    clear hb8
    clear HD7 HX7 F07 F8
    go_wp2_with fail
    refine (zero_any HX8.out (fun j hj e => by
        rw [e] at hj
        rcases hj with c | c | c | c
        · exact gd c
        · exact gn c
        · exact gl c
        · exact absurd c (by simp [Value.ownBlock])) HD8.out 0 (by decide) (by decide) 0 6 rfl rfl (by unfold In64; omega) (by unfold In64; omega) (by decide) (by simp) HW0.out HW1.out (by unfold In64; omega) (by decide)).mono ?_
    rintro e w9 (⟨us9, wr9, ar9, rfl, D9, hus9, hz9, hw90, hw91, ha9, F9⟩ | ⟨us9, v9, wr9, ar9, rfl, ha9, _⟩)
    · have X9 : Ext w9 x (.pointer (some ⟨d, 0, none⟩)) 0 2 6 := (F9.block x (lt_of_block HX8.out) (fun hj => by
        rcases hj with c | c | c | c
        · exact gd c
        · exact gn c
        · exact gl c
        · exact absurd c (by simp [Value.ownBlock]))).trans HX8.out
      have F09 := HD8.out.grow F08 F9 (fun _ h => h)
      have HD9 := Lib.hid D9
      have HZ9 := Lib.hid hz9
      have HX9 := Lib.hid X9
      clear D9 hus9 hz9 hw90 hw91 ha9 F9 X9 HD8 HX8 F08
      go_wp2_with fail
      refine (clear_any HX9.out HD9.out 0 (by decide) (by decide) 0 6 rfl rfl (by unfold In64; omega) (by unfold In64; omega) (by decide)).mono ?_
      rintro e wa ⟨b9, rfl, hb9, Fa⟩
      obtain rfl : b9 = true := hb9.2 HZ9.out
      have HDa := Lib.hid (HD9.out.fr Fa (fun _ _ h => h))
      have F0a := F09.trans Fa (fun _ h => h.elim)
      clear hb9 HD9 HX9 F09 Fa HZ9
      go_wp2_with fail
      refine HDa.out.waits.mono ?_
      rintro e wb ⟨rfl, Fb⟩
      go_wp2_with fail
      go_ret
      exact ⟨rfl, F0a.trans Fb (fun _ h => h.elim)⟩
    · exact absurd rfl ha9
  · have HXZ := Lib.hid (show Ext w7 x (.pointer (some ⟨d, 0, none⟩)) 0 2 6 from (F7.block x (lt_of_block HX6.out) (fun hj => HXD.out x hj rfl)).trans HX6.out)
    have HFZ := Lib.hid (HD6.out.grow F06 F7 (fun _ h => h))
    have hM : ∀ j, j < 12 → lay A (keepOf us ks) j = b1 (fb first j) ∨ (j < 6 ∧ lay A (keepOf us ks) j = fun _ => 0) := fun j hj => by
      rcases lay_zeros (keepOf us ks) A 6 (fun p hp => ⟨by have := (hus p (keepOf_mem us ks p hp)).2.1; omega, (hus p (keepOf_mem us ks p hp)).2.2⟩) j with c | c
      · rw [c]; exact .inl (HA2.out j hj)
      · exact .inr c
    obtain ⟨M, hMM⟩ : ∃ M, lay A (keepOf us ks) = M := ⟨_, rfl⟩
    rw [hMM] at hM
    rw [List.nil_append] at D7
    have HMeq := Lib.hid hMM
    have HM := Lib.hid hM
    have HDZ := Lib.hid D7
    have HW0 := Lib.hid hw0
    have HW1 := Lib.hid (show wr7 ≤ 1000000 by omega)
    have hlz : us.length < 1000000000000 := by omega
    clear D7 F7 hM hMM hus hul hw0 hw1 HD6 HX6 F06 hO
    go_wp2_with fail
    refine (down_any d true w7 (HDZ.out.c 5 rfl)).mono ?_
    rintro e wd ⟨rfl, Fd⟩
    have HDZ2 := Lib.hid (HDZ.out.fr Fd (fun _ _ h => h))
    have HXZ2 := Lib.hid (HXZ.out.fr Fd)
    have HFZ2 := Lib.hid (HFZ.out.trans Fd (fun _ h => h.elim))
    clear HDZ HXZ HFZ Fd
    have HDZ := HDZ2
    have HXZ := HXZ2
    have HFZ := HFZ2
    clear HDZ2 HXZ2 HFZ2
    go_wp2_with fail
    refine (crash_any HDZ.out hlz (HKB.out.kb HFZ.out (fun k hk => by
        rcases hk with e | e | e
        · rw [e]; exact HDZ.out.b1
        · rw [e]; exact HDZ.out.b2
        · rw [e]; exact HDZ.out.b3))).mono ?_
    rintro e w6 ⟨rfl, D6, F6⟩
    have F06 := HDZ.out.grow HFZ.out F6 (fun k e => e.elim .inl (fun e => e.elim (fun e => .inr (.inl e)) (fun e => .inr (.inr (.inl e)))))
    have X6 := (F6.block x (lt_of_block HXZ.out) (fun e => e.elim gd (fun e => e.elim gn gl))).trans HXZ.out
    rw [HMeq.out] at D6
    have HD6 := Lib.hid D6
    have HX6 := Lib.hid (show Ext w6 x (.pointer (some ⟨d, 0, none⟩)) 0 2 6 from X6)
    clear D6 F6 X6 HDZ HFZ HXZ hlz
    go_wp2_with fail
    refine cuts2 HM.out H0.out F06 HD6.out _ rfl rfl rfl rfl rfl rfl ?_
    intro t w7 hn p7 p9 p13 F7
    obtain ⟨f, hff, rfl⟩ := frame_open hn
    have e7 := hff 7 _ p7
    have e9 := hff 9 _ p9
    have e13 := hff 13 _ p13
    clear hff hn p7 p9 p13
    rw [lit151, e7, e9, e13]
    clear e7 e9 e13
    have HD7 := Lib.hid (HD6.out.fr F7 (fun _ _ h => h))
    have HX7 := Lib.hid (HX6.out.fr F7)
    have F07 := F06.trans F7 (fun _ h => h.elim)
    clear HD6 HX6 F06 F7
    go_wp2_with fail
    refine (clear_any HX7.out HD7.out 0 (by decide) (by decide) 0 6 rfl rfl (by unfold In64; omega) (by unfold In64; omega) (by decide)).mono ?_
    rintro e w8 ⟨b8, rfl, hb8, F8⟩
    have HD8 := Lib.hid (HD7.out.fr F8 (fun _ _ h => h))
    have HX8 := Lib.hid (HX7.out.fr F8)
    have F08 := F07.trans F8 (fun _ h => h.elim)
    clear hb8
    clear HD7 HX7 F07 F8
    go_wp2_with fail
    refine (zero_any HX8.out (fun j hj e => by
        rw [e] at hj
        rcases hj with c | c | c | c
        · exact gd c
        · exact gn c
        · exact gl c
        · exact absurd c (by simp [Value.ownBlock])) HD8.out 0 (by decide) (by decide) 0 6 rfl rfl (by unfold In64; omega) (by unfold In64; omega) (by decide) (by simp) HW0.out HW1.out (by unfold In64; omega) (by decide)).mono ?_
    rintro e w9 (⟨us9, wr9, ar9, rfl, D9, hus9, hz9, hw90, hw91, ha9, F9⟩ | ⟨us9, v9, wr9, ar9, rfl, ha9, _⟩)
    · have X9 : Ext w9 x (.pointer (some ⟨d, 0, none⟩)) 0 2 6 := (F9.block x (lt_of_block HX8.out) (fun hj => by
        rcases hj with c | c | c | c
        · exact gd c
        · exact gn c
        · exact gl c
        · exact absurd c (by simp [Value.ownBlock]))).trans HX8.out
      have F09 := HD8.out.grow F08 F9 (fun _ h => h)
      have HD9 := Lib.hid D9
      have HZ9 := Lib.hid hz9
      have HX9 := Lib.hid X9
      clear D9 hus9 hz9 hw90 hw91 ha9 F9 X9 HD8 HX8 F08
      go_wp2_with fail
      refine (clear_any HX9.out HD9.out 0 (by decide) (by decide) 0 6 rfl rfl (by unfold In64; omega) (by unfold In64; omega) (by decide)).mono ?_
      rintro e wa ⟨b9, rfl, hb9, Fa⟩
      obtain rfl : b9 = true := hb9.2 HZ9.out
      have HDa := Lib.hid (HD9.out.fr Fa (fun _ _ h => h))
      have F0a := F09.trans Fa (fun _ h => h.elim)
      clear hb9 HD9 HX9 F09 Fa HZ9
      go_wp2_with fail
      refine HDa.out.waits.mono ?_
      rintro e wb ⟨rfl, Fb⟩
      go_wp2_with fail
      go_ret
      exact ⟨rfl, F0a.trans Fb (fun _ h => h.elim)⟩
    · exact absurd rfl ha9
end Go.Proofs.Ytgladedjgjhlaaa

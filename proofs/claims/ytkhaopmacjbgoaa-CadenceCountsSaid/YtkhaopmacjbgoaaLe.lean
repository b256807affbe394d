/-
  CadenceCounts: its loop.
-/
import Derived.Test.YtkhaopmacjbgoaaLd
namespace Go.Proofs.Ytkhaopmacjbgoaa
open Go.RowKit
set_option linter.unusedVariables false
set_option linter.unusedSimpArgs false
set_option maxRecDepth 100000 in
theorem lit93 (f : Nat → Value) : ((List.range 93).map f).toArray = (f 0 :: f 1 :: f 2 :: f 3 :: f 4 :: f 5 :: f 6 :: f 7 :: f 8 :: f 9 :: f 10 :: f 11 :: f 12 :: f 13 :: f 14 :: f 15 :: f 16 :: f 17 :: f 18 :: f 19 :: f 20 :: f 21 :: f 22 :: f 23 :: f 24 :: f 25 :: f 26 :: f 27 :: f 28 :: f 29 :: f 30 :: f 31 :: f 32 :: f 33 :: f 34 :: f 35 :: f 36 :: f 37 :: f 38 :: f 39 :: f 40 :: f 41 :: f 42 :: f 43 :: f 44 :: f 45 :: f 46 :: f 47 :: f 48 :: f 49 :: f 50 :: f 51 :: f 52 :: f 53 :: f 54 :: f 55 :: f 56 :: f 57 :: f 58 :: f 59 :: f 60 :: f 61 :: f 62 :: f 63 :: f 64 :: f 65 :: f 66 :: f 67 :: f 68 :: f 69 :: f 70 :: f 71 :: f 72 :: f 73 :: f 74 :: f 75 :: f 76 :: f 77 :: f 78 :: f 79 :: f 80 :: f 81 :: f 82 :: f 83 :: f 84 :: f 85 :: f 86 :: f 87 :: f 88 :: f 89 :: f 90 :: f 91 :: f 92 :: []).toArray := by kernel_rfl
set_option maxRecDepth 100000 in
set_option maxHeartbeats 6400000 in
theorem round_yes {K : Act → World → Prop} {Q : Exit → Act → World → Prop} {w0 w : World} {ps gm c P A T k : Nat} (hA : A < 1000) (hP1 : 1 ≤ P) (hP2 : P ≤ 20) (HS : S1 w ps gm c (k : Int) ⟨#[120]⟩ (P : Int) (agk A k)) (HF : Fr (fun _ => False) w0 w) (hps : w0.heap.size ≤ ps) (hgm : w0.heap.size ≤ gm) (hk : k < T) (hk9 : k ≤ 99) {r : Nat} {t : Int} (hrt : (agk A k).tmod (P : Int) = (r : Int)) (hrP : r < P) (htd : (k : Int) + ((P : Int) - (r : Int)) = t) (hmod : (agk A k + 1).tmod (P : Int) = 0) (ht1 : t = (k : Int) + 1) (hn1 : cnt A P k + 1 = cnt A P (k + 1)) (fr : Array Value) (hn : fr.size = 93) (p0 : fr[0]? = some (.int .i64 (P : Int))) (p1 : fr[1]? = some (.int .i64 (A : Int))) (p2 : fr[2]? = some (.int .i64 (T : Int))) (p7 : fr[7]? = some (.pointer (some ⟨ps, 0, none⟩))) (p10 : fr[10]? = some (.int .i64 (cnt A P k))) (p11 : fr[11]? = some (.int .i64 ((k : Int))))
    (hK : ∀ t' w', t'.size = 93 → t'[0]? = some (.int .i64 (P : Int)) → t'[1]? = some (.int .i64 (A : Int)) → t'[2]? = some (.int .i64 (T : Int)) → t'[7]? = some (.pointer (some ⟨ps, 0, none⟩)) → t'[10]? = some (.int .i64 (cnt A P (k + 1))) → t'[11]? = some (.int .i64 (((k + 1 : Nat) : Int))) → S1 w' ps gm c ((k + 1 : Nat) : Int) ⟨#[120]⟩ (P : Int) (agk A (k + 1)) → Fr (fun _ => False) w0 w' → K ⟨t', []⟩ w') :
    Code.wp Try.prog (loopAt Try.f3 0) (Exit.then K Q) ⟨fr, []⟩ w := by
  have q1 : (k : Int) < (T : Int) := Int.ofNat_lt.2 hk
  have HAG := agk_bnd A k hA hk9
  have hC := (next_one ps gm c (k : Int) (P : Int) (agk A k) (r : Int) hrt ⟨#[120]⟩ own_x (by omega) (by omega) (Int.natCast_nonneg _) (Int.ofNat_lt.2 hrP) (Int.natCast_nonneg _) (by omega) HAG.1 HAG.2 w HS)
  rw [htd] at hC
  have HC := Lib.hid hC
  have hY := fun w4 h4 => tick_yes ps gm c (k : Int) (P : Int) (agk A k) hmod ⟨#[120]⟩ (by omega) (Int.natCast_nonneg _) (by omega) HAG.1 HAG.2 w4 h4
  have m1 : wrap64 (cnt A P k + 1) = cnt A P (k + 1) := (cnt_wrap A P k hA hk9).trans hn1
  have hk1 : (k : Int) + 1 = ((k + 1 : Nat) : Int) := by omega
  have HY := Lib.hid hY
  have M1 := Lib.hid m1
  have m2 : wrap64 ((k : Int) + 1) = (k : Int) + 1 := succ_wrap k hk9
  have M2 := Lib.hid m2
  have HN := Lib.hid hn1
  have HK1 := Lib.hid hk1
  have HKK := Lib.hid hK
  have HSs := Lib.hid HS
  have HFf := Lib.hid HF
  have HPS := Lib.hid hps
  have HGM := Lib.hid hgm
  have HT1 := Lib.hid ht1
  clear ht1
  clear hC hY m1 m2 hn1 hk1 hK HS HF hps hgm HAG hmod hA hP1 hP2 hk hk9 hrt hrP htd
  obtain ⟨f, hff, rfl⟩ := frame_open hn
  have e0 := hff 0 _ p0
  have e1 := hff 1 _ p1
  have e2 := hff 2 _ p2
  have e7 := hff 7 _ p7
  have e10 := hff 10 _ p10
  have e11 := hff 11 _ p11
  clear hff hn p0 p1 p2 p7 p10 p11
  rw [lit93, e0, e1, e2, e7, e10, e11]
  clear e0 e1 e2 e7 e10 e11
  conv => arg 2; whnf
  go_wp2_with fail
  refine HC.out.mono ?_
  rintro e w4 ⟨rfl, F4⟩
  have HS4 := Lib.hid (HSs.out.fr F4)
  have HF4 := Lib.hid (HFf.out.trans F4 (fun _ h => h.elim))
  clear F4 q1
  go_wp2_with fail
  refine (HY.out w4 HS4.out).mono ?_
  rintro e w5 ⟨g, c', rfl, hc0, hg, hS5, F5⟩
  have HF5 := Lib.hid (fr_new HF4.out F5 (fun i e => by have := HPS.out; have := HGM.out; omega))
  clear hc0 hg
  rw [agk_succ, HK1.out] at hS5
  have HS5 := Lib.hid hS5
  clear hS5 F5
  have hnw := now_any ps (((k + 1 : Nat)) : Int) _ w5 HS5.out.blk
  have HNW := Lib.hid hnw
  clear hnw
  obtain ⟨k1, ek1⟩ : ∃ z : Int, z = ((k + 1 : Nat) : Int) := ⟨_, rfl⟩
  have ht2 : t = ((k + 1 : Nat) : Int) := by rw [HT1.out]; exact HK1.out
  rw [ht2, ← ek1]
  rw [← ek1] at HNW
  have MM := M1.out
  have m2 : wrap64 ((k : Int) + 1) = k1 := by rw [M2.out, HK1.out, ek1]
  have E1 := Lib.hid ek1
  clear ht2 ek1
  go_wp2_with fail
  refine HNW.out.mono ?_
  rintro e w6 ⟨rfl, rfl⟩
  go_wp2_with fail
  rw [M1.out, M2.out, HK1.out]
  exact HKK.out _ _ (by simp) rfl rfl rfl rfl rfl rfl HS5.out HF5.out
set_option maxRecDepth 100000 in
set_option maxHeartbeats 6400000 in
theorem round_no {K : Act → World → Prop} {Q : Exit → Act → World → Prop} {w0 w : World} {ps gm c P A T k : Nat} (hA : A < 1000) (hP1 : 1 ≤ P) (hP2 : P ≤ 20) (HS : S1 w ps gm c (k : Int) ⟨#[120]⟩ (P : Int) (agk A k)) (HF : Fr (fun _ => False) w0 w) (hps : w0.heap.size ≤ ps) (hgm : w0.heap.size ≤ gm) (hk : k < T) (hk9 : k ≤ 99) {r : Nat} {t : Int} (hrt : (agk A k).tmod (P : Int) = (r : Int)) (hrP : r < P) (htd : (k : Int) + ((P : Int) - (r : Int)) = t) {r' : Int} (hmod : (agk A k + 1).tmod (P : Int) = r') (hr0 : (r' == 0) = false) (hne : (t == (k : Int) + 1) = false) (hn1 : cnt A P k = cnt A P (k + 1)) (fr : Array Value) (hn : fr.size = 93) (p0 : fr[0]? = some (.int .i64 (P : Int))) (p1 : fr[1]? = some (.int .i64 (A : Int))) (p2 : fr[2]? = some (.int .i64 (T : Int))) (p7 : fr[7]? = some (.pointer (some ⟨ps, 0, none⟩))) (p10 : fr[10]? = some (.int .i64 (cnt A P k))) (p11 : fr[11]? = some (.int .i64 ((k : Int))))
    (hK : ∀ t' w', t'.size = 93 → t'[0]? = some (.int .i64 (P : Int)) → t'[1]? = some (.int .i64 (A : Int)) → t'[2]? = some (.int .i64 (T : Int)) → t'[7]? = some (.pointer (some ⟨ps, 0, none⟩)) → t'[10]? = some (.int .i64 (cnt A P (k + 1))) → t'[11]? = some (.int .i64 (((k + 1 : Nat) : Int))) → S1 w' ps gm c ((k + 1 : Nat) : Int) ⟨#[120]⟩ (P : Int) (agk A (k + 1)) → Fr (fun _ => False) w0 w' → K ⟨t', []⟩ w') :
    Code.wp Try.prog (loopAt Try.f3 0) (Exit.then K Q) ⟨fr, []⟩ w := by
  have q1 : (k : Int) < (T : Int) := Int.ofNat_lt.2 hk
  have HAG := agk_bnd A k hA hk9
  have hC := (next_one ps gm c (k : Int) (P : Int) (agk A k) (r : Int) hrt ⟨#[120]⟩ own_x (by omega) (by omega) (Int.natCast_nonneg _) (Int.ofNat_lt.2 hrP) (Int.natCast_nonneg _) (by omega) HAG.1 HAG.2 w HS)
  rw [htd] at hC
  have HC := Lib.hid hC
  have hY := fun w4 h4 => tick_no ps gm c (k : Int) (P : Int) (agk A k) hmod hr0 ⟨#[120]⟩ (by omega) (Int.natCast_nonneg _) (by omega) HAG.1 HAG.2 w4 h4
  have m1 := cnt_wrap0 A P k hA hk9
  have hk1 : (k : Int) + 1 = ((k + 1 : Nat) : Int) := by omega
  have HY := Lib.hid hY
  have M1 := Lib.hid m1
  have m2 : wrap64 ((k : Int) + 1) = (k : Int) + 1 := succ_wrap k hk9
  have M2 := Lib.hid m2
  have HN := Lib.hid hn1
  have HK1 := Lib.hid hk1
  have HKK := Lib.hid hK
  have HSs := Lib.hid HS
  have HFf := Lib.hid HF
  have HPS := Lib.hid hps
  have HGM := Lib.hid hgm
  have HNE := Lib.hid hne
  clear hr0 hne
  clear hC hY m1 m2 hn1 hk1 hK HS HF hps hgm HAG hmod hA hP1 hP2 hk hk9 hrt hrP htd
  obtain ⟨f, hff, rfl⟩ := frame_open hn
  have e0 := hff 0 _ p0
  have e1 := hff 1 _ p1
  have e2 := hff 2 _ p2
  have e7 := hff 7 _ p7
  have e10 := hff 10 _ p10
  have e11 := hff 11 _ p11
  clear hff hn p0 p1 p2 p7 p10 p11
  rw [lit93, e0, e1, e2, e7, e10, e11]
  clear e0 e1 e2 e7 e10 e11
  conv => arg 2; whnf
  go_wp2_with fail
  refine HC.out.mono ?_
  rintro e w4 ⟨rfl, F4⟩
  have HS4 := Lib.hid (HSs.out.fr F4)
  have HF4 := Lib.hid (HFf.out.trans F4 (fun _ h => h.elim))
  clear F4 q1
  go_wp2_with fail
  refine (HY.out w4 HS4.out).mono ?_
  rintro e w5 ⟨rfl, hS5, F5⟩
  have HF5 := Lib.hid (fr_new HF4.out F5 (fun i e => by have := HPS.out; have := HGM.out; omega))
  rw [agk_succ, HK1.out] at hS5
  have HS5 := Lib.hid hS5
  clear hS5 F5
  have hnw := now_any ps (((k + 1 : Nat)) : Int) _ w5 HS5.out.blk
  have HNW := Lib.hid hnw
  clear hnw
  obtain ⟨k1, ek1⟩ : ∃ z : Int, z = ((k + 1 : Nat) : Int) := ⟨_, rfl⟩
  have hne : (t == k1) = false := by rw [ek1, ← HK1.out]; exact HNE.out
  rw [← ek1] at HNW
  have MM := M1.out
  have m2 : wrap64 ((k : Int) + 1) = k1 := by rw [M2.out, HK1.out, ek1]
  have E1 := Lib.hid ek1
  clear ek1
  go_wp2_with fail
  refine HNW.out.mono ?_
  rintro e w6 ⟨rfl, rfl⟩
  go_wp2_with fail
  rw [M1.out, HN.out, M2.out, HK1.out]
  exact HKK.out _ _ (by simp) rfl rfl rfl rfl rfl rfl HS5.out HF5.out
end Go.Proofs.Ytkhaopmacjbgoaa

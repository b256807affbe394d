/-
  CadenceCounts: the law.
-/
import Derived.Test.YtkhaopmacjbgoaaLe
namespace Go.Proofs.Ytkhaopmacjbgoaa
open Go.RowKit
set_option linter.unusedVariables false
set_option linter.unusedSimpArgs false
set_option maxRecDepth 100000 in
set_option maxHeartbeats 6400000 in
theorem counts_loop {Q : Exit → Act → World → Prop} {w0 w : World} {ps gm c P A T : Nat} (hA : A < 1000) (hT : T < 100) (hP1 : 1 ≤ P) (hP2 : P ≤ 20) (HS : S1 w ps gm c 0 ⟨#[120]⟩ (P : Int) (agk A 0)) (HF : Fr (fun _ => False) w0 w) (hps : w0.heap.size ≤ ps) (hgm : w0.heap.size ≤ gm) (fr : Array Value) (hn : fr.size = 93) (p0 : fr[0]? = some (.int .i64 (P : Int))) (p1 : fr[1]? = some (.int .i64 (A : Int))) (p2 : fr[2]? = some (.int .i64 (T : Int))) (p7 : fr[7]? = some (.pointer (some ⟨ps, 0, none⟩))) (p10 : fr[10]? = some (.int .i64 (0))) (p11 : fr[11]? = some (.int .i64 (0)))
    (hexit : ∀ t' w', t'.size = 93 → t'[0]? = some (.int .i64 (P : Int)) → t'[1]? = some (.int .i64 (A : Int)) → t'[2]? = some (.int .i64 (T : Int)) → t'[7]? = some (.pointer (some ⟨ps, 0, none⟩)) → t'[10]? = some (.int .i64 (cnt A P T)) → t'[11]? = some (.int .i64 ((T : Int))) → Fr (fun _ => False) w0 w' → Q (.exit 0) ⟨t', []⟩ w') :
    Code.wp Try.prog (.loop (loopAt Try.f3 0)) Q ⟨fr, []⟩ w := by
  refine wp_loop_up T (fun k t w' => t.size = 93 ∧ t[0]? = some (.int .i64 (P : Int)) ∧ t[1]? = some (.int .i64 (A : Int)) ∧ t[2]? = some (.int .i64 (T : Int)) ∧ t[7]? = some (.pointer (some ⟨ps, 0, none⟩)) ∧ t[10]? = some (.int .i64 (cnt A P k)) ∧ t[11]? = some (.int .i64 ((k : Int))) ∧ S1 w' ps gm c (k : Int) ⟨#[120]⟩ (P : Int) (agk A k) ∧ Fr (fun _ => False) w0 w') fr w ⟨hn, p0, p1, p2, p7, by rw [cnt_zero]; exact p10, p11, HS, HF⟩ ?_
  clear hn p0 p1 p2 p7 p10 p11 fr HS HF
  rintro k fr w1 hk ⟨hn, p0, p1, p2, p7, p10, p11, HS, HF⟩ K hK
  by_cases hlt : k < T
  · obtain ⟨r, t, hrt, hrP, htd, hc⟩ := at_any A P k hP1
    have hK2 : ∀ t' w', t'.size = 93 → t'[0]? = some (.int .i64 (P : Int)) → t'[1]? = some (.int .i64 (A : Int)) → t'[2]? = some (.int .i64 (T : Int)) → t'[7]? = some (.pointer (some ⟨ps, 0, none⟩)) → t'[10]? = some (.int .i64 (cnt A P (k + 1))) → t'[11]? = some (.int .i64 (((k + 1 : Nat) : Int))) → S1 w' ps gm c ((k + 1 : Nat) : Int) ⟨#[120]⟩ (P : Int) (agk A (k + 1)) → Fr (fun _ => False) w0 w' → K ⟨t', []⟩ w' := fun t' w' a0 a1 a2 a3 a4 a5 a6 a7 a8 => hK t' w' hlt ⟨a0, a1, a2, a3, a4, a5, a6, a7, a8⟩
    rcases hc with ⟨hmod, ht1, hn1, _⟩ | ⟨r', hmod, hr0, hne, hn1, _⟩
    · exact round_yes (K := K) (Q := Q) (k := k) (T := T) (r := r) (t := t) hA hP1 hP2 HS HF hps hgm hlt (by omega) hrt hrP htd hmod ht1 hn1 fr hn p0 p1 p2 p7 p10 p11 hK2
    · exact round_no (K := K) (Q := Q) (k := k) (T := T) (r := r) (t := t) (r' := r') hA hP1 hP2 HS HF hps hgm hlt (by omega) hrt hrP htd hmod hr0 hne hn1 fr hn p0 p1 p2 p7 p10 p11 hK2
  · obtain rfl : k = T := by omega
    have q1 : ¬ ((k : Int) < (k : Int)) := by omega
    have HE := Lib.hid hexit
    have HFf := Lib.hid HF
    clear hexit HF HS hK hk hlt hA hT hP1 hP2 hps hgm
    obtain ⟨f, hff, rfl⟩ := frame_open hn
    have e0 := hff 0 _ p0
    have e1 := hff 1 _ p1
    have e2 := hff 2 _ p2
    have e7 := hff 7 _ p7
    have e10 := hff 10 _ p10
    have e11 := hff 11 _ p11
    clear hff hn p0 p1 p2 p7 p10 p11
    rw [lit93, e0, e1, e2, e7, e10, e11]
    clear e0 e1 e2 e7 e10 e11
    conv => arg 2; whnf
    go_wp2_with fail
    exact HE.out _ _ (by simp) rfl rfl rfl rfl rfl rfl HFf.out
set_option maxRecDepth 100000 in
set_option maxHeartbeats 6400000 in
theorem counts_any (period age ticks : Int) (w : World) : Calls Try.prog 3 #[.int .i64 period, .int .i64 age, .int .i64 ticks] w fun e w' => e = .returned (.bool true) ∧ Fr (fun _ => False) w w' := by
  obtain ⟨z1, q1, hz1, hq1, hl1⟩ := spot 20 (by decide) period
  obtain ⟨z2, A, hz2, hq2, hl2⟩ := spot 1000 (by decide) age
  obtain ⟨z3, T, hz3, hq3, hl3⟩ := spot 100 (by decide) ticks
  obtain ⟨b1, d1, v1, w1'⟩ := bnd q1 20 hl1 (by decide)
  obtain ⟨b2, d2, v2, y2⟩ := bnd A 1000 hl2 (by decide)
  obtain ⟨b3, d3, v3, y3⟩ := bnd T 100 hl3 (by decide)
  change z1.tmod 20 = (q1 : Int) at hq1
  change z2.tmod 1000 = (A : Int) at hq2
  change z3.tmod 100 = (T : Int) at hq3
  have HL1 := Lib.hid hl1
  have HL2 := Lib.hid hl2
  have HL3 := Lib.hid hl3
  clear hl1 hl2 hl3
  have Vhz1 := congrArg (Value.int .u64) hz1
  have Vhz2 := congrArg (Value.int .u64) hz2
  have Vhz3 := congrArg (Value.int .u64) hz3
  have Vhq1 := congrArg (Value.int .u64) hq1
  have Vhq2 := congrArg (Value.int .u64) hq2
  have Vhq3 := congrArg (Value.int .u64) hq3
  have Vv1 := congrArg (Value.int .i64) v1
  have Vv2 := congrArg (Value.int .i64) v2
  have Vv3 := congrArg (Value.int .i64) v3
  have Vw1' := congrArg (Value.int .i64) w1'
  clear hz1 hz2 hz3 hq1 hq2 hq3 v1 v2 v3 w1' y2 y3 b1 b2 b3 d1 d2 d3
  go_enter Try.func3, Try.ntmps3
  go_wp2_with fail
  clear Vhq1 Vhq2 Vhq3 Vw1' Vv1 Vv2 Vv3
  obtain ⟨P, hP⟩ : ∃ P : Nat, P = q1 + 1 := ⟨_, rfl⟩
  have hPi : 1 + (q1 : Int) = (P : Int) := by omega
  have hWP : wrap64 (P : Int) = (P : Int) := IntWalk.wrap64_in _ (by have := HL1.out; omega)
  rw [hPi, hWP]
  clear hWP
  have HP1 := Lib.hid (show 1 ≤ P ∧ P ≤ 20 by have := HL1.out; omega)
  clear hP hPi HL1
  refine (new0 w).mono ?_
  rintro e w1 ⟨rfl, hB, F1⟩
  have HB := Lib.hid hB
  have HF1 := Lib.hid F1
  clear hB F1
  obtain ⟨ps, hps⟩ : ∃ ps, ps = w.heap.size := ⟨_, rfl⟩
  rw [← hps] at HB ⊢
  have HPS := Lib.hid hps
  clear hps
  go_wp2_with fail
  refine (add_new ps 0 (P : Int) (A : Int) ⟨#[120]⟩ w1 HB.out (by have := HP1.out; omega) (by have := HP1.out; omega) (by omega)).mono ?_
  rintro e w2 ⟨rfl, gm, c, hS, hgm, F2⟩
  have HS2 := Lib.hid hS
  have hgw : w.heap.size ≤ gm := Nat.le_trans HF1.out.size hgm
  have HGW := Lib.hid hgw
  have HF2 := Lib.hid (fr_new HF1.out F2 (fun i e => by have := HPS.out; omega))
  clear hS hgm F2 hgw
  go_wp2_with fail
  refine (beats_any w2).mono ?_
  rintro e w3 ⟨rfl, F3⟩
  have HS3 := Lib.hid (HS2.out.fr F3)
  have HF3 := Lib.hid (HF2.out.trans F3 (fun _ h => h.elim))
  clear F3
  go_wp2_with fail
  have HA0 := Lib.hid (show S1 w3 ps gm c 0 ⟨#[120]⟩ (P : Int) (agk A 0) from by rw [agk_zero]; exact HS3.out)
  clear HS3 HS2 HB HF1 HF2
  refine counts_loop (w0 := w) (ps := ps) (gm := gm) (c := c) (P := P) (A := A) (T := T) HL2.out HL3.out HP1.out.1 HP1.out.2 HA0.out HF3.out (by have := HPS.out; omega) HGW.out _ (by simp) rfl rfl rfl rfl rfl rfl ?_
  intro t' w' hn p0 p1 p2 p7 p10 p11 F'
  have HFA := Lib.hid (fin_any A P T HP1.out.1 HL2.out (by have := HL3.out; omega))
  have hP0 : ¬ ((P : Int) = 0) := by have := HP1.out; omega
  have HF9 := Lib.hid F'
  clear F'
  obtain ⟨f, hff, rfl⟩ := frame_open hn
  have e0 := hff 0 _ p0
  have e1 := hff 1 _ p1
  have e2 := hff 2 _ p2
  have e7 := hff 7 _ p7
  have e10 := hff 10 _ p10
  have e11 := hff 11 _ p11
  clear hff hn p0 p1 p2 p7 p10 p11
  rw [lit93, e0, e1, e2, e7, e10, e11]
  clear e0 e1 e2 e7 e10 e11
  obtain ⟨ha, x, y, hx, hy, hwx, hwy, hc⟩ := HFA.out
  have hc' : (cnt A P T == cnt A P T) = true := beq_self_eq_true _
  clear HFA
  go_wp2_with fail
  refine wp_region_keep (by kernel_rfl) (by kernel_rfl) ?_
  repeat (any_goals (first | go_big_quiet_step (fail) | quiet_step (fail)))
  refine wpQuiet_nil ?_
  intro _ hwz
  obtain ⟨y9, rfl⟩ := hwz
  have HZ := Lib.hid (HF9.out.trans y9.h (fun _ h => h.elim))
  go_wp2_with fail
  go_ret
  exact ⟨rfl, HZ.out⟩
end Go.Proofs.Ytkhaopmacjbgoaa

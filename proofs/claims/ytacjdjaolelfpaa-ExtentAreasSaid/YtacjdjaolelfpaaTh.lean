/-
  The walk of ExtentAreas.
-/
import Derived.Test.YtacjdjaolelfpaaTg
namespace Go.Proofs.Ytacjdjaolelfpaa
open Go.RowKit
set_option linter.unusedVariables false
set_option linter.unusedSimpArgs false

set_option maxRecDepth 100000 in
set_option maxHeartbeats 6400000 in
theorem careas_any (z f c s : Int) (rf : In64 f) (rc : In64 c) (rs : In64 s) (w : World) :
    Calls Try.prog 7 #[.int .i64 z, .int .i64 f, .agg #[.int .i64 c, .int .i64 s]] w fun e w' => e = .returned (.bool true) ∧ Fr (fun _ => False) w w' := by
  obtain ⟨r, hr, hr1⟩ : ∃ r : Nat, (IntKind.u64.wrap z).tmod 100 = (r : Int) ∧ r < 100 := by
    rw [IntKind.wrap_u64]
    have h1 : 0 ≤ z % 18446744073709551616 := Int.emod_nonneg _ (by decide)
    refine ⟨((z % 18446744073709551616) % 100).toNat, ?_, by omega⟩
    rw [Int.tmod_eq_emod_of_nonneg h1]
    omega
  have v1 : wrap64 (r : Int) = (r : Int) := IntWalk.wrap64_in _ (by omega)
  have v2 : IntKind.i64.wrap (r : Int) = (r : Int) := IntWalk.i64_in _ (by omega)
  have v3 : wrap64 (1 + (r : Int)) = ((1 + r : Nat) : Int) := by rw [IntWalk.wrap64_in _ (by omega)]; omega
  have v4 : IntKind.i64.wrap (1 + (r : Int)) = ((1 + r : Nat) : Int) := by rw [IntWalk.i64_in _ (by omega)]; omega
  obtain ⟨n, hn⟩ : ∃ n, n = 1 + r := ⟨_, rfl⟩
  rw [← hn] at v3 v4
  have n1 : 1 ≤ n := by omega
  have n2 : n ≤ 100 := by omega
  have HR := Lib.hid hr
  obtain ⟨Z, _, _, hmk⟩ := mk_blocks n (by omega)
  have HD := Lib.hid (fun W : World => dnew_ok n n1 (by omega) Z hmk W)
  have B0 := heap_alloc_new w (.cells #[.int .i64 c, .int .i64 s] 65)
  have F0 := (Fr.refl (fun _ => False) w).alloc (.cells #[.int .i64 c, .int .i64 s] 65)
  clear hmk hn hr1
  go_enter Try.func7, Try.ntmps7
  go_wp2_with fail
  refine (HD.out _).mono ?_
  rintro e w1 ⟨d, bn, bl, rfl, hF, F1⟩
  have B1 := (F1.block _ (lt_of_block B0) (fun h => h)).trans B0
  have G1 := F0.trans F1 (fun _ h => h.elim)
  have hsz : ∀ W : World, Ex w1 W → Calls Try.prog 21 #[.pointer (some ⟨d, 0, none⟩)] W fun e w' => e = .returned (.int .i64 (n : Int)) ∧ Fr (fun _ => False) W w' := fun W hx =>
    size_ok d n (some ⟨bn, 0, none⟩) W (by rw [cell_of_block ((hx.block _ (lt_of_block hF.blk) (fun h => h)).trans hF.blk)]; rfl)
  have c0 : w1.cell? ⟨w.heap.size, 0, none⟩ = some (.int .i64 c) := by rw [cell_of_block B1]; rfl
  have c1 : w1.cell? ⟨w.heap.size, 1, none⟩ = some (.int .i64 s) := by rw [cell_of_block B1]; rfl
  have HSZ := Lib.hid (hsz w1 (Fr.refl _ _))
  clear HD B0 F0 F1 hF v1 v2 v3 v4 HR hsz
  go_wp2_with fail
  by_cases hfine : FineP n f c s
  · obtain ⟨h0, h1, h2, h3⟩ := (fine_iff n f c s).1 hfine
    refine (xnew_good (some ⟨d, 0, none⟩) n f c s (by omega) h0 h1 h2 h3 rf rc rs w1 HSZ.out).mono ?_
    clear h0 h1 h2 h3
    rintro e w2 ⟨x, rfl, hX, _, F2⟩
    have B2 := (F2.block _ (lt_of_block B1) (fun h => h)).trans B1
    have G2 := G1.trans F2 (fun _ h => h.elim)
    clear B1 G1 F2 c0 c1 HSZ
    go_wp2_with fail
    refine (xnew_bad none 0 0 1 1 (by omega) (by decide) ⟨by omega, by omega⟩ ⟨by omega, by omega⟩ ⟨by omega, by omega⟩ w2 (size_nil w2)).mono ?_
    rintro e w3 ⟨rfl, F3⟩
    go_wp2_with fail
    refine (none12 w3).mono ?_
    rintro e w4 ⟨rfl, F4⟩
    go_wp2_with fail
    refine (area_nil w4).mono ?_
    rintro e w5 ⟨rfl, F5⟩
    go_wp2_with fail
    refine (none12 w5).mono ?_
    rintro e w6 ⟨rfl, F6⟩
    go_wp2_with fail
    refine (clear_nil w6).mono ?_
    rintro e w7 ⟨rfl, F7⟩
    go_wp2_with fail
    refine (none12 w7).mono ?_
    rintro e w8 ⟨rfl, F8⟩
    go_wp2_with fail
    refine (foul_nil w8).mono ?_
    rintro e w9 ⟨rfl, F9⟩
    go_wp2_with fail
    refine (extents_any w9).mono ?_
    rintro e wa ⟨rfl, Fa⟩
    go_wp2_with fail
    refine (none12 wa).mono ?_
    rintro e wb ⟨rfl, Fb⟩
    go_wp2_with fail
    refine (zero_nil wb).mono ?_
    rintro e wc ⟨rfl, Fc⟩
    go_wp2_with fail
    refine (none12 wc).mono ?_
    rintro e wd ⟨rfl, Fd⟩
    go_wp2_with fail
    refine (count_nil wd).mono ?_
    rintro e we ⟨rfl, Fe⟩
    go_wp2_with fail
    refine (none12 we).mono ?_
    rintro e wf ⟨rfl, Ff⟩
    go_wp2_with fail
    refine (of_nil 0 wf).mono ?_
    rintro e wg ⟨rfl, Fg⟩
    have Gx : Ex w2 wg := Ex.tr (Ex.tr (Ex.tr (Ex.tr (Ex.tr (Ex.tr (Ex.tr (Ex.tr (Ex.tr (Ex.tr (Ex.tr (Ex.tr (Ex.tr F3 F4) F5) F6) F7) F8) F9) Fa) Fb) Fc) Fd) Fe) Ff) Fg
    have Bg := (Gx.block _ (lt_of_block B2) (fun h => h)).trans B2
    have Gg := G2.trans Gx (fun _ h => h.elim)
    have c0 : wg.cell? ⟨w.heap.size, 0, none⟩ = some (.int .i64 c) := by rw [cell_of_block Bg]; rfl
    have c1 : wg.cell? ⟨w.heap.size, 1, none⟩ = some (.int .i64 s) := by rw [cell_of_block Bg]; rfl
    have hXg := hX.fr Gx
    clear F3 F4 F5 F6 F7 F8 F9 Fa Fb Fc Fd Fe Ff Fg Gx B2 G2 hX
    go_wp2_with fail
    refine (fine_ok n f c s (by omega) hfine wg).mono ?_
    rintro e wh ⟨rfl, Fh⟩
    have hXh := hXg.fr Fh
    have Bh := (Fh.block _ (lt_of_block Bg) (fun h => h)).trans Bg
    have Gh := Ex.tr Gg Fh
    clear hXg Bg Gg Fh c0 c1
    obtain ⟨g1, g2, g3, g4, g5, g6⟩ := hfine
    obtain ⟨F, rfl⟩ := Int.eq_ofNat_of_zero_le g3
    obtain ⟨C, rfl⟩ := Int.eq_ofNat_of_zero_le (show 0 ≤ c by omega)
    obtain ⟨S, rfl⟩ := Int.eq_ofNat_of_zero_le (show 0 ≤ s by omega)
    obtain ⟨m0, m1⟩ := mul_in (n := n) (c := (C : Int)) (s := (S : Int)) (by omega) (by omega) g4 (by omega) g5
    have b1 : 1 ≤ S := by omega
    have b2 : C ≤ 100 := by omega
    have b3 : S ≤ 100 := by omega
    have b4 : F ≤ 100 := by omega
    clear g1 g2 g3 g4 g5 g6 m0 m1 rf rc rs hr
    go_wp2_with fail
    have hct := fun y : Wd wh => count_ok x _ _ _ _ y.w (hXh.fr y.h)
    have hof := fun y : Wd wh => of_any x _ F C S z (by omega) (by omega) (by omega) b1 y.w (hXh.fr y.h)
    have hrf := fun y : Wd wh => rof_val F C S z (by omega) (by omega) (by omega) b1 y.w
    have c0 : ∀ y : Wd wh, y.w.cell? ⟨w.heap.size, 0, none⟩ = some (.int .i64 (C : Int)) := fun y => by rw [cell_of_block ((y.h.block _ (lt_of_block Bh) (fun h => h)).trans Bh)]; rfl
    have c1 : ∀ y : Wd wh, y.w.cell? ⟨w.heap.size, 1, none⟩ = some (.int .i64 (S : Int)) := fun y => by rw [cell_of_block ((y.h.block _ (lt_of_block Bh) (fun h => h)).trans Bh)]; rfl
    generalize ofv F C S z = v0 at hof hrf
    refine wp_region_keep (by kernel_rfl) (by kernel_rfl) ?_
    repeat (any_goals (first | go_big_quiet_step ((first | (go_at_call 46; with_reducible exact Calls.keep (hct _)) | (go_at_call 47; with_reducible exact Calls.keep (hof _)) | (go_at_call 49; with_reducible exact Calls.keep (hrf _)))) | quiet_step ((first | (go_at_call 46; with_reducible exact Calls.keep (hct _)) | (go_at_call 47; with_reducible exact Calls.keep (hof _)) | (go_at_call 49; with_reducible exact Calls.keep (hrf _))))))
    refine wpQuiet_nil ?_
    intro _ hwz
    obtain ⟨y, rfl⟩ := hwz
    clear hct hof hrf c0 c1
    have hXi := hXh.fr y.h
    have Bi := (y.h.block _ (lt_of_block Bh) (fun h => h)).trans Bh
    have Gi := Ex.tr Gh y.h
    clear hXh Bh Gh
    generalize y.w = wi at *
    clear y
    go_wp2_with fail
    go_loopw [21] (fun i wr => ∃ k : Nat, k ≤ n + 2 ∧ i = .int .i64 ((k : Int) - 1) ∧ Fr (fun _ => False) wi wr) (fun i _ => (n + 2) - (intOf i + 1).toNat)
    case atStart => exact ⟨0, by omega, by simp, Fr.refl _ wi⟩
    case round =>
      obtain ⟨k, hk, rfl, hFr⟩ := hrel
      obtain ⟨j, hj⟩ : ∃ j : Int, j = (k : Int) - 1 := ⟨_, rfl⟩
      rw [← hj]
      have HJ := Lib.hid hj
      have hXr := hXi.fr hFr
      have Br := (hFr.block _ (lt_of_block Bi) (fun h => h)).trans Bi
      by_cases hlt : k ≤ n + 1
      · have t1 : decide (j ≤ (n : Int)) = true := by simp; omega
        have w1 : wrap64 (j + 1) = j + 1 := IntWalk.wrap64_in _ (by omega)
        have w2 : IntKind.i64.wrap (j + 1) = j + 1 := IntWalk.i64_in _ (by omega)
        have hof := fun y : Wd wr => of_any x _ F C S j (by omega) (by omega) (by omega) b1 y.w (hXr.fr y.h)
        have hrf := fun y : Wd wr => rof_val F C S j (by omega) (by omega) (by omega) b1 y.w
        have c0 : ∀ y : Wd wr, y.w.cell? ⟨w.heap.size, 0, none⟩ = some (.int .i64 (C : Int)) := fun y => by rw [cell_of_block ((y.h.block _ (lt_of_block Br) (fun h => h)).trans Br)]; rfl
        have c1 : ∀ y : Wd wr, y.w.cell? ⟨w.heap.size, 1, none⟩ = some (.int .i64 (S : Int)) := fun y => by rw [cell_of_block ((y.h.block _ (lt_of_block Br) (fun h => h)).trans Br)]; rfl
        generalize ofv F C S j = v0 at hof hrf
        clear hj
        go_wp2_with fail
        refine wp_region_keep (by kernel_rfl) (by kernel_rfl) ?_
        repeat (any_goals (first | go_big_quiet_step ((first | (go_at_call 46; with_reducible exact Calls.keep (hct _)) | (go_at_call 47; with_reducible exact Calls.keep (hof _)) | (go_at_call 49; with_reducible exact Calls.keep (hrf _)))) | quiet_step ((first | (go_at_call 46; with_reducible exact Calls.keep (hct _)) | (go_at_call 47; with_reducible exact Calls.keep (hof _)) | (go_at_call 49; with_reducible exact Calls.keep (hrf _))))))
        refine wpQuiet_nil ?_
        intro _ hwz
        obtain ⟨y, rfl⟩ := hwz
        clear hof hrf c0 c1
        go_wp2_with fail
        go_roundw
        case rel => exact ⟨k + 1, by omega, by rw [HJ.out]; congr 1; omega, hFr.trans y.h (fun _ h => h.elim)⟩
        case measure => have := HJ.out; simp [intOf]; omega
      · have t1 : decide (j ≤ (n : Int)) = false := by simp; omega
        have Gr := Ex.tr Gi hFr
        clear hj HJ hXi Bi Gi hFr
        go_wp2_with fail
        go_loopw [22] (fun i w3 => ∃ k : Nat, k ≤ C + 2 ∧ i = .int .i64 ((k : Int) - 1) ∧ Fr (fun _ => False) wr w3) (fun i _ => (C + 2) - (intOf i + 1).toNat)
        case atStart => exact ⟨0, by omega, by simp, Fr.refl _ wr⟩
        case round =>
          obtain ⟨k2, hk2, rfl, hF2⟩ := hrel
          obtain ⟨i, hi⟩ : ∃ i : Int, i = (k2 : Int) - 1 := ⟨_, rfl⟩
          rw [← hi]
          have HI := Lib.hid hi
          have hX2 := hXr.fr hF2
          have B2 := (hF2.block _ (lt_of_block Br) (fun h => h)).trans Br
          have G2 := Ex.tr Gr hF2
          have c0 := cell_of_block B2 0
          have c1 := cell_of_block B2 1
          simp at c0 c1
          by_cases hlt2 : k2 ≤ C + 1
          · have u1 : decide (i ≤ (C : Int)) = true := by simp; omega
            have w1 : wrap64 (i + 1) = i + 1 := IntWalk.wrap64_in _ (by omega)
            have w2 : IntKind.i64.wrap (i + 1) = i + 1 := IntWalk.i64_in _ (by omega)
            by_cases hin : 0 ≤ i ∧ i < (C : Int)
            · obtain ⟨m0, m1⟩ := mul_in (n := 100) (c := i) (s := (S : Int)) (by omega) hin.1 (by omega) (by omega) (by omega)
              have r1 : In64 (i * (S : Int)) := ⟨by omega, by omega⟩
              have r2 : In64 ((F : Int) + i * (S : Int)) := ⟨by omega, by omega⟩
              have w3 := r1.w
              have w4 := r1.k
              have w5 := r2.w
              have w6 := r2.k
              have u2 : decide (i < 0) = false := by simp; omega
              have u3 : decide ((C : Int) ≤ i) = false := by simp; omega
              have har := area_ok x _ _ _ _ i _ hX2 hin.1 hin.2 r1 r2
              clear hi hin m0 m1 r1 r2
              go_wp2_with fail
              refine har.mono ?_
              clear har
              rintro e w7 ⟨rfl, F7⟩
              have B7 := (F7.block _ (lt_of_block B2) (fun h => h)).trans B2
              have c0 := cell_of_block B7 0
              have c1 := cell_of_block B7 1
              simp at c0 c1
              go_wp2_with fail
              go_roundw
              case rel => exact ⟨k2 + 1, by omega, by rw [HI.out]; congr 1; omega, hF2.trans F7 (fun _ h => h.elim)⟩
              case measure => have := HI.out; simp [intOf]; omega
            · have har := area_bad (.pointer (some ⟨x, 0, none⟩)) (C : Int) i (by omega) _ (fun W hW => count_ok x _ _ _ _ W (hX2.fr hW))
              by_cases hneg : i < 0
              · have u2 : decide (i < 0) = true := by simpa using hneg
                clear hi hin hneg
                go_wp2_with fail
                refine har.mono ?_
                clear har
                rintro e w7 ⟨rfl, F7⟩
                go_wp2_with fail
                go_roundw
                case rel => exact ⟨k2 + 1, by omega, by rw [HI.out]; congr 1; omega, hF2.trans F7 (fun _ h => h.elim)⟩
                case measure => have := HI.out; simp [intOf]; omega
              · have u2 : decide (i < 0) = false := by simpa using hneg
                have u3 : decide ((C : Int) ≤ i) = true := by simp; omega
                clear hi hin hneg
                go_wp2_with fail
                refine har.mono ?_
                clear har
                rintro e w7 ⟨rfl, F7⟩
                have B7 := (F7.block _ (lt_of_block B2) (fun h => h)).trans B2
                have c0 := cell_of_block B7 0
                have c1 := cell_of_block B7 1
                simp at c0 c1
                go_wp2_with fail
                go_roundw
                case rel => exact ⟨k2 + 1, by omega, by rw [HI.out]; congr 1; omega, hF2.trans F7 (fun _ h => h.elim)⟩
                case measure => have := HI.out; simp [intOf]; omega
          · have u1 : decide (i ≤ (C : Int)) = false := by simp; omega
            clear hi
            go_wp2_with fail
            go_ret
            exact ⟨rfl, G2⟩
  · refine (xnew_bad (some ⟨d, 0, none⟩) n f c s (by omega) (fun h => hfine ((fine_iff n f c s).2 h)) rf rc rs w1 HSZ.out).mono ?_
    rintro e w2 ⟨rfl, F2⟩
    have B2 := (F2.block _ (lt_of_block B1) (fun h => h)).trans B1
    have G2 := G1.trans F2 (fun _ h => h.elim)
    clear B1 G1 F2 c0 c1 HSZ
    go_wp2_with fail
    refine (xnew_bad none 0 0 1 1 (by omega) (by decide) ⟨by omega, by omega⟩ ⟨by omega, by omega⟩ ⟨by omega, by omega⟩ w2 (size_nil w2)).mono ?_
    rintro e w3 ⟨rfl, F3⟩
    go_wp2_with fail
    refine (none12 w3).mono ?_
    rintro e w4 ⟨rfl, F4⟩
    go_wp2_with fail
    refine (area_nil w4).mono ?_
    rintro e w5 ⟨rfl, F5⟩
    go_wp2_with fail
    refine (none12 w5).mono ?_
    rintro e w6 ⟨rfl, F6⟩
    go_wp2_with fail
    refine (clear_nil w6).mono ?_
    rintro e w7 ⟨rfl, F7⟩
    go_wp2_with fail
    refine (none12 w7).mono ?_
    rintro e w8 ⟨rfl, F8⟩
    go_wp2_with fail
    refine (foul_nil w8).mono ?_
    rintro e w9 ⟨rfl, F9⟩
    go_wp2_with fail
    refine (extents_any w9).mono ?_
    rintro e wa ⟨rfl, Fa⟩
    go_wp2_with fail
    refine (none12 wa).mono ?_
    rintro e wb ⟨rfl, Fb⟩
    go_wp2_with fail
    refine (zero_nil wb).mono ?_
    rintro e wc ⟨rfl, Fc⟩
    go_wp2_with fail
    refine (none12 wc).mono ?_
    rintro e wd ⟨rfl, Fd⟩
    go_wp2_with fail
    refine (count_nil wd).mono ?_
    rintro e we ⟨rfl, Fe⟩
    go_wp2_with fail
    refine (none12 we).mono ?_
    rintro e wf ⟨rfl, Ff⟩
    go_wp2_with fail
    refine (of_nil 0 wf).mono ?_
    rintro e wg ⟨rfl, Fg⟩
    have Gx : Ex w2 wg := Ex.tr (Ex.tr (Ex.tr (Ex.tr (Ex.tr (Ex.tr (Ex.tr (Ex.tr (Ex.tr (Ex.tr (Ex.tr (Ex.tr (Ex.tr F3 F4) F5) F6) F7) F8) F9) Fa) Fb) Fc) Fd) Fe) Ff) Fg
    have Bg := (Gx.block _ (lt_of_block B2) (fun h => h)).trans B2
    have Gg := G2.trans Gx (fun _ h => h.elim)
    have c0 : wg.cell? ⟨w.heap.size, 0, none⟩ = some (.int .i64 c) := by rw [cell_of_block Bg]; rfl
    have c1 : wg.cell? ⟨w.heap.size, 1, none⟩ = some (.int .i64 s) := by rw [cell_of_block Bg]; rfl

    clear F3 F4 F5 F6 F7 F8 F9 Fa Fb Fc Fd Fe Ff Fg Gx B2 G2
    go_wp2_with fail
    refine (fine_bad n f c s (by omega) hfine wg).mono ?_
    rintro e wh ⟨rfl, Fh⟩
    go_wp2_with fail
    go_ret
    exact ⟨rfl, Ex.tr Gg Fh⟩
end Go.Proofs.Ytacjdjaolelfpaa

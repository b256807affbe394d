/-
  The schedule's loop of Sum of package custumalref02, whole.
-/
import Derived.Test.YtmoepalhoaekgaaDoorUb
namespace Go.Proofs.YtmoepalhoaekgaaDoor
open Go.RowKit
set_option linter.unusedVariables false

theorem hi_end5 {w wq : World} {B8 k W : Nat} {l : List UInt8} (hk : k < 80) (hA : Wd5 wq B8 l k 0) (hF : Fr (fun k => k = B8) w wq) (v : Int) (hv : v = (W : Int)) (hW : W = S5.W l k) (q : Nat) :
    Wd5 ((wq.drewN q).setCell ⟨B8, k, none⟩ (.int .u64 v)) B8 l (k + 1) 0 ∧ Fr (fun k => k = B8) w ((wq.drewN q).setCell ⟨B8, k, none⟩ (.int .u64 v)) :=
  ⟨((hA.fr ((Fr.refl (fun _ => False) wq).drewN q) (fun h => h)).set hk (S5.W l k) v (by rw [hv, hW])).next, (hF.drewN q).setCell (Or.inl rfl) _⟩

set_option maxRecDepth 100000 in
set_option maxHeartbeats 1600000 in
theorem us_loop3 {Q : Exit → Act → World → Prop} (l : List UInt8) (g off N c B6 B8 : Nat) (hN : off + 128 ≤ N) (hN2 : N ≤ 1000000000300) (w : World) (hb : Blk5 w g off l) (hA : Wd5 w B8 l 0 0) (hgB : g ≠ B8) (t : Array Value) (hp : UPin t g N c B6 B8 off) (p9 : t[9]? = some (.int .i64 0))
    (hexit : ∀ t' w', UPin t' g N c B6 B8 off → Wd5 w' B8 l 80 0 → Fr (fun k => k = B8) w w' → Q (.exit 6) ⟨t', []⟩ w') :
    Code.wp Tryd.prog (.loop (loopAt Tryd.f16 3)) Q ⟨t, []⟩ w := by
  refine wp_loop_up 80 (fun k t w' => UPin t g N c B6 B8 off ∧ t[9]? = some (.int .i64 (k : Int)) ∧ Wd5 w' B8 l k 0 ∧ Fr (fun k => k = B8) w w') t w ⟨hp, p9, hA, Fr.refl _ _⟩ ?_
  clear hA hp p9 t
  rintro k t wr hk ⟨hp, p9, hA, hF⟩ K hK
  obtain ⟨f, hf, rfl⟩ := hp.open
  have e9 := hf 9 _ p9
  clear hf hp p9
  rw [e9]
  clear e9
  conv => arg 2; whnf
  by_cases hk80 : k < 80
  · by_cases hk16 : k < 16
    · have hbr := hb.fr hF hgB
      have hk1 : (k : Int) < 16 := by omega
      have hk2 : (k : Int) < 80 := by omega
      have HK := Lib.hid hK
      have HF := Lib.hid hF
      have HA := Lib.hid hA
      clear hK hF hA
      go_wp2_with fail
      refine us_loop4 l k hk16 g off N c B6 B8 hN hN2 wr hbr HA.out hgB _ ⟨rfl, rfl, rfl, rfl, rfl⟩ rfl rfl ?_
      intro t1 w1 hp1 p91 hA1 hF1
      obtain ⟨f1, hf1, rfl⟩ := hp1.open
      have e91 := hf1 9 _ p91
      clear hf1 hp1 p91
      rw [e91]
      clear e91
      have E2 : Fr (fun k => k = B8) w w1 := HF.out.trans hF1 (fun i hi => Or.inl hi)
      clear hF1 HF HA hbr
      go_wp2_with fail
      exact HK.out _ _ hk80 ⟨⟨rfl, rfl, rfl, rfl, rfl⟩, rfl, hA1, E2⟩
    · obtain ⟨j, rfl⟩ : ∃ j, k = j + 16 := ⟨k - 16, by omega⟩
      have c0 := hA.cell j (by omega) (by omega)
      have c1 := hA.cell (j + 1) (by omega) (by omega)
      have c2 := hA.cell (j + 9) (by omega) (by omega)
      have c3 := hA.cell (j + 14) (by omega) (by omega)
      have hvo := hA.at (by omega)
      have hfo := hA.free (j + 16)
      have y0 := S5.W_lt l j (by omega)
      have y1 := S5.W_lt l (j + 1) (by omega)
      have y2 := S5.W_lt l (j + 9) (by omega)
      have y3 := S5.W_lt l (j + 14) (by omega)
      have hW := S5.W_hi l j (by omega)
      simp only [S5.M] at y0 y1 y2 y3 hW
      generalize hz0 : S5.W l j = z0 at c0 y0 hW
      generalize hz1 : S5.W l (j + 1) = z1 at c1 y1 hW
      generalize hz2 : S5.W l (j + 9) = z2 at c2 y2 hW
      generalize hz3 : S5.W l (j + 14) = z3 at c3 y3 hW
      have Hz : Hid (S5.W l (j + 16) = (z0 + S5.ss0 z1 + z2 + S5.ss1 z3) % 18446744073709551616) := hW
      clear hz0 hz1 hz2 hz3 hW
      rw [show ((j + 16 : Nat) : Int) = (j : Int) + 16 by omega]
      have HK := Lib.hid hK
      clear hK
      have t1 : (j : Int) + 16 < 80 := by omega
      have t2 : ¬ (j : Int) + 16 < 16 := by omega
      have w0 : IntKind.i64.wrap ((j : Int) + 16 - 16) = (j : Int) := by rw [IntWalk.i64_in _ (by omega)]; omega
      have w1 : IntKind.i64.wrap ((j : Int) + 16 - 15) = (j : Int) + 1 := by rw [IntWalk.i64_in _ (by omega)]; omega
      have w2 : IntKind.i64.wrap ((j : Int) + 16 - 7) = (j : Int) + 9 := by rw [IntWalk.i64_in _ (by omega)]; omega
      have w3 : IntKind.i64.wrap ((j : Int) + 16 - 2) = (j : Int) + 14 := by rw [IntWalk.i64_in _ (by omega)]; omega
      have v0 : IntKind.i64.wrap (j : Int) = (j : Int) := IntWalk.i64_in _ (by omega)
      have v1 : IntKind.i64.wrap ((j : Int) + 1) = (j : Int) + 1 := IntWalk.i64_in _ (by omega)
      have v2 : IntKind.i64.wrap ((j : Int) + 9) = (j : Int) + 9 := IntWalk.i64_in _ (by omega)
      have v3 : IntKind.i64.wrap ((j : Int) + 14) = (j : Int) + 14 := IntWalk.i64_in _ (by omega)
      have n1 : ((j : Int) + 1).toNat = j + 1 := by omega
      have n2 : ((j : Int) + 9).toNat = j + 9 := by omega
      have n3 : ((j : Int) + 14).toNat = j + 14 := by omega
      have n4 : ((j : Int) + 16).toNat = j + 16 := by omega
      have p0 : (0 : Int) ≤ (j : Int) := by omega
      have p1 : (0 : Int) ≤ (j : Int) + 1 := by omega
      have p2 : (0 : Int) ≤ (j : Int) + 9 := by omega
      have p3 : (0 : Int) ≤ (j : Int) + 14 := by omega
      have p4 : (0 : Int) ≤ (j : Int) + 16 := by omega
      have q0 : (j : Int) < 80 := by omega
      have q1 : (j : Int) + 1 < 80 := by omega
      have q2 : (j : Int) + 9 < 80 := by omega
      have q3 : (j : Int) + 14 < 80 := by omega
      go_wp2_with fail
      go_quiet (fail)
      have F0 : Fr (fun _ => False) wr (wr.drewN nq) := (Fr.refl _ wr).drewN nq
      replace hA := hA.fr F0 (fun h => h)
      replace hF : Fr (fun k => k = B8) w (wr.drewN nq) := hF.drewN nq
      replace c0 : (wr.drewN nq).cell? ⟨B8, j, none⟩ = some (.int .u64 z0) := c0
      replace c2 : (wr.drewN nq).cell? ⟨B8, j + 9, none⟩ = some (.int .u64 z2) := c2
      replace hvo : (wr.drewN nq).cell? ⟨B8, j + 16, none⟩ = some (.int .u64 ((0 : Nat) : Int)) := hvo
      replace hfo : (wr.drewN nq).frozen? ⟨B8, j + 16, none⟩ = false := hfo
      clear F0 c1 c3
      generalize wr.drewN nq = wq at *
      go_wp2_with fail
      go_region_held3 (fun w' => w'.cell? ⟨B8, j, none⟩ = some (.int .u64 z0) ∧ w'.cell? ⟨B8, j + 9, none⟩ = some (.int .u64 z2))
        (first | go_keep | (exact ⟨(World.cell?_setCell_other _ _ _ _ (addr_ne (by omega))).trans (by simp [c0]), (World.cell?_setCell_other _ _ _ _ (addr_ne (by omega))).trans (by simp [c2])⟩))
        ((first
          | ((with_reducible refine (turn5_any z1 1 1 rfl y1 (by decide) (by decide) _).mono ?_); rintro e w' ⟨rfl, nn, rfl⟩)
          | ((with_reducible refine (turn5_any z1 8 8 rfl y1 (by decide) (by decide) _).mono ?_); rintro e w' ⟨rfl, nn, rfl⟩)
          | ((with_reducible refine (turn5_any z3 19 19 rfl y3 (by decide) (by decide) _).mono ?_); rintro e w' ⟨rfl, nn, rfl⟩)
          | ((with_reducible refine (turn5_any z3 61 61 rfl y3 (by decide) (by decide) _).mono ?_); rintro e w' ⟨rfl, nn, rfl⟩)))
      have hh := hi_u64 z0 z1 z2 z3 _ y0 y1 y2 y3 Hz.out
      have HH := Lib.hid hh
      have HA := Lib.hid hA
      have HF := Lib.hid hF
      clear hh hA hF c0 c2 w0 w1 w2 w3 v0 v1 v2 v3 n1 n2 n3 n4 p0 p1 p2 p3 p4 q0 q1 q2 q3 hvo hfo t1 t2
      go_wp2_with fail
      have R := hi_end5 (k := j + 16) (by omega) HA.out HF.out _ HH.out rfl
      exact HK.out _ _ (by omega) ⟨⟨rfl, rfl, rfl, rfl, rfl⟩, rfl, (R _).1, (R _).2⟩
  · obtain rfl : k = 80 := by omega
    have HE := Lib.hid hexit
    clear hexit
    go_wp2_with fail
    exact HE.out _ _ ⟨rfl, rfl, rfl, rfl, rfl⟩ hA hF
end Go.Proofs.YtmoepalhoaekgaaDoor

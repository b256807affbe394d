/-
  CacheApart: a round.
-/
import Derived.Test.YtkigdgkklninoaaWl
import Derived.Test.YtkigdgkklninoaaKz
namespace Go.Proofs.Ytkigdgkklninoaa
open Go.RowKit
set_option linter.unusedVariables false
set_option linter.unusedSimpArgs false
set_option maxRecDepth 100000 in
theorem lit141 (f : Nat → Value) : ((List.range 141).map f).toArray = (f 0 :: f 1 :: f 2 :: f 3 :: f 4 :: f 5 :: f 6 :: f 7 :: f 8 :: f 9 :: f 10 :: f 11 :: f 12 :: f 13 :: f 14 :: f 15 :: f 16 :: f 17 :: f 18 :: f 19 :: f 20 :: f 21 :: f 22 :: f 23 :: f 24 :: f 25 :: f 26 :: f 27 :: f 28 :: f 29 :: f 30 :: f 31 :: f 32 :: f 33 :: f 34 :: f 35 :: f 36 :: f 37 :: f 38 :: f 39 :: f 40 :: f 41 :: f 42 :: f 43 :: f 44 :: f 45 :: f 46 :: f 47 :: f 48 :: f 49 :: f 50 :: f 51 :: f 52 :: f 53 :: f 54 :: f 55 :: f 56 :: f 57 :: f 58 :: f 59 :: f 60 :: f 61 :: f 62 :: f 63 :: f 64 :: f 65 :: f 66 :: f 67 :: f 68 :: f 69 :: f 70 :: f 71 :: f 72 :: f 73 :: f 74 :: f 75 :: f 76 :: f 77 :: f 78 :: f 79 :: f 80 :: f 81 :: f 82 :: f 83 :: f 84 :: f 85 :: f 86 :: f 87 :: f 88 :: f 89 :: f 90 :: f 91 :: f 92 :: f 93 :: f 94 :: f 95 :: f 96 :: f 97 :: f 98 :: f 99 :: f 100 :: f 101 :: f 102 :: f 103 :: f 104 :: f 105 :: f 106 :: f 107 :: f 108 :: f 109 :: f 110 :: f 111 :: f 112 :: f 113 :: f 114 :: f 115 :: f 116 :: f 117 :: f 118 :: f 119 :: f 120 :: f 121 :: f 122 :: f 123 :: f 124 :: f 125 :: f 126 :: f 127 :: f 128 :: f 129 :: f 130 :: f 131 :: f 132 :: f 133 :: f 134 :: f 135 :: f 136 :: f 137 :: f 138 :: f 139 :: f 140 :: []).toArray := by kernel_rfl
/-- Between the rounds. -/
def Rd (w0 w : World) (ca cb k : Nat) : Prop := ∃ d, Two w0 w ca cb (3 * (k : Int)) d d []
set_option maxRecDepth 100000 in
set_option maxHeartbeats 6400000 in
theorem apart_none {K : Act → World → Prop} {Q : Exit → Act → World → Prop} {w0 w : World} {ca cb c1 c2 k : Nat} {a1 a2 : Option Addr} {l1 l2 : List Jb} {x : Jb} (hl1 : ∀ j x, l1[j]? = some x → ∃ g o, a1 = some ⟨g, o, none⟩ ∧ g < w0.heap.size ∧ w0.cell? ⟨g, o + j * 4, none⟩ = some (.int .i64 x.what) ∧ w0.cell? ⟨g, o + j * 4 + 1, none⟩ = some (.int .i64 x.part) ∧ w0.cell? ⟨g, o + j * 4 + 2, none⟩ = some (.string x.name) ∧ w0.cell? ⟨g, o + j * 4 + 3, none⟩ = some (.string x.kept) ∧ In64 x.what ∧ In64 x.part) (hk : l1[k]? = some x) (hm1 : l1.length ≤ maxLen) (h40 : k < 40) (S : Rd w0 w ca cb k) (h2 : l2.length ≤ k) (fr : Array Value) (hn : fr.size = 141) (p0 : fr[0]? = some (.slice a1 l1.length c1)) (p1 : fr[1]? = some (.slice a2 l2.length c2)) (p5 : fr[5]? = some (.pointer (some ⟨ca, 0, none⟩))) (p7 : fr[7]? = some (.pointer (some ⟨cb, 0, none⟩))) (p9 : fr[9]? = some (.int .i64 (k : Int)))
    (hK : ∀ t' w', t'.size = 141 → t'[0]? = some (.slice a1 l1.length c1) → t'[1]? = some (.slice a2 l2.length c2) → t'[5]? = some (.pointer (some ⟨ca, 0, none⟩)) → t'[7]? = some (.pointer (some ⟨cb, 0, none⟩)) → t'[9]? = some (.int .i64 ((k + 1 : Nat) : Int)) → Rd w0 w' ca cb (k + 1) → K ⟨t', []⟩ w') :
    Code.wp Try.prog (loopAt Try.f5 0) (Exit.then K Q) ⟨fr, []⟩ w := by
  obtain ⟨d, T⟩ := S
  obtain ⟨ga, oa, rfl, hga, z0, z1, z2, z3, in1, in2⟩ := hl1 k x hk
  have HJ1 := Lib.hid (And.intro z0 (And.intro z1 (And.intro z2 z3)))
  have hkl := (List.getElem?_eq_some_iff.1 hk).1
  have q1 : (k : Int) < (l1.length : Int) := by omega
  have q2 : (k : Int) < 40 := by omega
  have q0 : (0 : Int) ≤ (k : Int) := Int.natCast_nonneg k
  have w1 : wrap64 ((k : Int) + 1) = ((k + 1 : Nat) : Int) := by rw [IntWalk.wrap64_in _ (by omega)]; omega
  have W1 := Lib.hid w1
  have HQ := Lib.hid (show 0 ≤ (k : Int) ∧ (k : Int) < 40 from ⟨q0, q2⟩)
  have HT := Lib.hid T
  have HK := Lib.hid hK
  clear hl1 hk hm1 h40 T z0 z1 z2 z3 in1 in2 hga hkl w1 hK
  have q3 : ¬ ((k : Int) < (l2.length : Int)) := by omega
  clear h2
  obtain ⟨f, hff, rfl⟩ := frame_open hn
  have e0 := hff 0 _ p0
  have e1 := hff 1 _ p1
  have e5 := hff 5 _ p5
  have e7 := hff 7 _ p7
  have e9 := hff 9 _ p9
  clear hff hn p0 p1 p5 p7 p9
  rw [lit141, e0, e1, e5, e7, e9]
  clear e0 e1 e5 e7 e9
  conv => arg 2; whnf
  have c0 : w.cell? ⟨ga, oa + k * 4, none⟩ = some (.int .i64 x.what) := (HT.out.fr).cellSome (fun h => h) HJ1.out.1
  have c1 : w.cell? ⟨ga, oa + k * 4 + 1, none⟩ = some (.int .i64 x.part) := (HT.out.fr).cellSome (fun h => h) HJ1.out.2.1
  have c2 : w.cell? ⟨ga, oa + k * 4 + 2, none⟩ = some (.string x.name) := (HT.out.fr).cellSome (fun h => h) HJ1.out.2.2.1
  have c3 : w.cell? ⟨ga, oa + k * 4 + 3, none⟩ = some (.string x.kept) := (HT.out.fr).cellSome (fun h => h) HJ1.out.2.2.2
  by_cases hev : x.what.tmod 2 = 0
  · have ev : (x.what.tmod 2 == 0) = true := by rw [hev]; rfl
    have T0 := HT.out.add (.cells #[.int .i64 x.what, .int .i64 x.part, .string x.name, .string x.kept] 42)
    obtain ⟨J, hJ⟩ : ∃ J, J = w.heap.size := ⟨_, rfl⟩
    have e0 := (cell_of_block T0.job 0).trans (show _ = some (Value.int .i64 x.what) from rfl)
    have e2 := (cell_of_block T0.job 2).trans (show _ = some (Value.string x.name) from rfl)
    have e3 := (cell_of_block T0.job 3).trans (show _ = some (Value.string x.kept) from rfl)
    have HT0 := Lib.hid T0
    clear T0
    go_wp2_with fail
    refine (HT0.out.put0 x.name x.kept).mono ?_
    rintro e wp ⟨rfl, TP⟩
    clear c0 c1 c2 c3 e0 e2 e3
    have e2 := (cell_of_block (TP).job 2).trans (show _ = some (Value.string x.name) from rfl)
    have e3 := (cell_of_block (TP).job 3).trans (show _ = some (Value.string x.kept) from rfl)
    have HTP := Lib.hid TP
    clear TP
    go_wp2_with fail
    refine (HTP.out.swap.put0 x.name x.kept).mono ?_
    rintro e wq ⟨rfl, TQ⟩
    clear e2 e3
    have e2 := (cell_of_block (TQ).job 2).trans (show _ = some (Value.string x.name) from rfl)
    have e3 := (cell_of_block (TQ).job 3).trans (show _ = some (Value.string x.kept) from rfl)
    have HTQ := Lib.hid TQ.swap
    clear TQ
    go_wp2_with fail
    refine (HTQ.out.get0 (by have := HQ.out; omega) x.name).mono ?_
    rintro e wr ⟨rfl, TR⟩
    clear e2 e3
    have e2 := (cell_of_block (TR).job 2).trans (show _ = some (Value.string x.name) from rfl)
    have e3 := (cell_of_block (TR).job 3).trans (show _ = some (Value.string x.kept) from rfl)
    have HTR := Lib.hid TR
    clear TR
    go_wp2_with fail
    refine (HTR.out.swap.get0 (by have := HQ.out; omega) x.name).mono ?_
    rintro e ws ⟨rfl, TS⟩
    clear e2 e3
    have HTS := Lib.hid TS.swap.fewer
    clear TS
    generalize getV x.name (dput x.name x.kept d).L = X at *
    generalize getB x.name (dput x.name x.kept d).L = Y at *
    generalize dget x.name (dput x.name x.kept d) = d9 at *
    go_wp2_with fail
    refine HTS.out.hits0.mono ?_
    rintro e wt ⟨rfl, TT⟩
    have HTT := Lib.hid TT
    clear TT
    go_wp2_with fail
    refine HTT.out.swap.hits0.mono ?_
    rintro e wu ⟨rfl, TU⟩
    have HTU := Lib.hid TU.swap
    clear TU
    generalize d9.h = H at *
    generalize d9.m = M at *
    have y1 : (X.toList == X.toList) = true := beq_self_eq_true _
    have y2 : (H == H) = true := beq_self_eq_true _
    have y3 : (M == M) = true := beq_self_eq_true _
    have y4 : (Y == Y) = true := beq_self_eq_true _
    go_wp2_with fail
    (try rw [W1.out])
    exact HK.out _ _ rfl rfl rfl rfl rfl rfl ⟨_, HTU.out.more _ (by have := HQ.out; omega)⟩
  · have ev : (x.what.tmod 2 == 0) = false := beq_eq_false_iff_ne.2 hev
    have T0 := HT.out.add (.cells #[.int .i64 x.what, .int .i64 x.part, .string x.name, .string x.kept] 42)
    obtain ⟨J, hJ⟩ : ∃ J, J = w.heap.size := ⟨_, rfl⟩
    have e0 := (cell_of_block T0.job 0).trans (show _ = some (Value.int .i64 x.what) from rfl)
    have e2 := (cell_of_block T0.job 2).trans (show _ = some (Value.string x.name) from rfl)
    have e3 := (cell_of_block T0.job 3).trans (show _ = some (Value.string x.kept) from rfl)
    have HT0 := Lib.hid T0
    clear T0
    go_wp2_with fail
    refine (HT0.out.get0 (by have := HQ.out; omega) x.name).mono ?_
    rintro e wr ⟨rfl, TR⟩
    clear c0 c1 c2 c3 e0 e2 e3
    have e2 := (cell_of_block (TR).job 2).trans (show _ = some (Value.string x.name) from rfl)
    have e3 := (cell_of_block (TR).job 3).trans (show _ = some (Value.string x.kept) from rfl)
    have HTR := Lib.hid TR
    clear TR
    go_wp2_with fail
    refine (HTR.out.swap.get0 (by have := HQ.out; omega) x.name).mono ?_
    rintro e ws ⟨rfl, TS⟩
    clear e2 e3
    have HTS := Lib.hid TS.swap.fewer
    clear TS
    generalize getV x.name d.L = X at *
    generalize getB x.name d.L = Y at *
    generalize dget x.name d = d9 at *
    go_wp2_with fail
    refine HTS.out.hits0.mono ?_
    rintro e wt ⟨rfl, TT⟩
    have HTT := Lib.hid TT
    clear TT
    go_wp2_with fail
    refine HTT.out.swap.hits0.mono ?_
    rintro e wu ⟨rfl, TU⟩
    have HTU := Lib.hid TU.swap
    clear TU
    generalize d9.h = H at *
    generalize d9.m = M at *
    have y1 : (X.toList == X.toList) = true := beq_self_eq_true _
    have y2 : (H == H) = true := beq_self_eq_true _
    have y3 : (M == M) = true := beq_self_eq_true _
    have y4 : (Y == Y) = true := beq_self_eq_true _
    go_wp2_with fail
    (try rw [W1.out])
    exact HK.out _ _ rfl rfl rfl rfl rfl rfl ⟨_, HTU.out.more _ (by have := HQ.out; omega)⟩
set_option maxRecDepth 100000 in
set_option maxHeartbeats 6400000 in
theorem apart_some {K : Act → World → Prop} {Q : Exit → Act → World → Prop} {w0 w : World} {ca cb c1 c2 k : Nat} {a1 a2 : Option Addr} {l1 l2 : List Jb} {x : Jb} (hl1 : ∀ j x, l1[j]? = some x → ∃ g o, a1 = some ⟨g, o, none⟩ ∧ g < w0.heap.size ∧ w0.cell? ⟨g, o + j * 4, none⟩ = some (.int .i64 x.what) ∧ w0.cell? ⟨g, o + j * 4 + 1, none⟩ = some (.int .i64 x.part) ∧ w0.cell? ⟨g, o + j * 4 + 2, none⟩ = some (.string x.name) ∧ w0.cell? ⟨g, o + j * 4 + 3, none⟩ = some (.string x.kept) ∧ In64 x.what ∧ In64 x.part) (hk : l1[k]? = some x) (hm1 : l1.length ≤ maxLen) (h40 : k < 40) (S : Rd w0 w ca cb k) (hl2 : ∀ j x, l2[j]? = some x → ∃ g o, a2 = some ⟨g, o, none⟩ ∧ g < w0.heap.size ∧ w0.cell? ⟨g, o + j * 4, none⟩ = some (.int .i64 x.what) ∧ w0.cell? ⟨g, o + j * 4 + 1, none⟩ = some (.int .i64 x.part) ∧ w0.cell? ⟨g, o + j * 4 + 2, none⟩ = some (.string x.name) ∧ w0.cell? ⟨g, o + j * 4 + 3, none⟩ = some (.string x.kept) ∧ In64 x.what ∧ In64 x.part) {y : Jb} (hk2 : l2[k]? = some y) (fr : Array Value) (hn : fr.size = 141) (p0 : fr[0]? = some (.slice a1 l1.length c1)) (p1 : fr[1]? = some (.slice a2 l2.length c2)) (p5 : fr[5]? = some (.pointer (some ⟨ca, 0, none⟩))) (p7 : fr[7]? = some (.pointer (some ⟨cb, 0, none⟩))) (p9 : fr[9]? = some (.int .i64 (k : Int)))
    (hK : ∀ t' w', t'.size = 141 → t'[0]? = some (.slice a1 l1.length c1) → t'[1]? = some (.slice a2 l2.length c2) → t'[5]? = some (.pointer (some ⟨ca, 0, none⟩)) → t'[7]? = some (.pointer (some ⟨cb, 0, none⟩)) → t'[9]? = some (.int .i64 ((k + 1 : Nat) : Int)) → Rd w0 w' ca cb (k + 1) → K ⟨t', []⟩ w') :
    Code.wp Try.prog (loopAt Try.f5 0) (Exit.then K Q) ⟨fr, []⟩ w := by
  obtain ⟨d, T⟩ := S
  obtain ⟨ga, oa, rfl, hga, z0, z1, z2, z3, in1, in2⟩ := hl1 k x hk
  have HJ1 := Lib.hid (And.intro z0 (And.intro z1 (And.intro z2 z3)))
  have hkl := (List.getElem?_eq_some_iff.1 hk).1
  have q1 : (k : Int) < (l1.length : Int) := by omega
  have q2 : (k : Int) < 40 := by omega
  have q0 : (0 : Int) ≤ (k : Int) := Int.natCast_nonneg k
  have w1 : wrap64 ((k : Int) + 1) = ((k + 1 : Nat) : Int) := by rw [IntWalk.wrap64_in _ (by omega)]; omega
  have W1 := Lib.hid w1
  have HQ := Lib.hid (show 0 ≤ (k : Int) ∧ (k : Int) < 40 from ⟨q0, q2⟩)
  have HT := Lib.hid T
  have HK := Lib.hid hK
  clear hl1 hk hm1 h40 T z0 z1 z2 z3 in1 in2 hga hkl w1 hK
  obtain ⟨gb, ob, rfl, hgb, u0, u1, u2, u3, in3, in4⟩ := hl2 k y hk2
  have HGB := Lib.hid hgb
  have HJ2 := Lib.hid (And.intro u0 (And.intro u1 (And.intro u2 u3)))
  have hkl2 := (List.getElem?_eq_some_iff.1 hk2).1
  have q3 : (k : Int) < (l2.length : Int) := by omega
  clear hl2 hk2 u0 u1 u2 u3 in3 in4 hgb hkl2
  obtain ⟨f, hff, rfl⟩ := frame_open hn
  have e0 := hff 0 _ p0
  have e1 := hff 1 _ p1
  have e5 := hff 5 _ p5
  have e7 := hff 7 _ p7
  have e9 := hff 9 _ p9
  clear hff hn p0 p1 p5 p7 p9
  rw [lit141, e0, e1, e5, e7, e9]
  clear e0 e1 e5 e7 e9
  conv => arg 2; whnf
  have c0 : w.cell? ⟨ga, oa + k * 4, none⟩ = some (.int .i64 x.what) := (HT.out.fr).cellSome (fun h => h) HJ1.out.1
  have c1 : w.cell? ⟨ga, oa + k * 4 + 1, none⟩ = some (.int .i64 x.part) := (HT.out.fr).cellSome (fun h => h) HJ1.out.2.1
  have c2 : w.cell? ⟨ga, oa + k * 4 + 2, none⟩ = some (.string x.name) := (HT.out.fr).cellSome (fun h => h) HJ1.out.2.2.1
  have c3 : w.cell? ⟨ga, oa + k * 4 + 3, none⟩ = some (.string x.kept) := (HT.out.fr).cellSome (fun h => h) HJ1.out.2.2.2
  by_cases hev : x.what.tmod 2 = 0
  · have ev : (x.what.tmod 2 == 0) = true := by rw [hev]; rfl
    by_cases hfv : y.what.tmod 5 = 0
    · have fv : (y.what.tmod 5 == 0) = true := by rw [hfv]; rfl
      have T9 := HT.out.swap
      have d0 : w.cell? ⟨gb, ob + k * 4, none⟩ = some (.int .i64 y.what) := (HT.out.fr).cellSome (fun h => h) HJ2.out.1
      have d1 : w.cell? ⟨gb, ob + k * 4 + 1, none⟩ = some (.int .i64 y.part) := (HT.out.fr).cellSome (fun h => h) HJ2.out.2.1
      have d2 : w.cell? ⟨gb, ob + k * 4 + 2, none⟩ = some (.string y.name) := (HT.out.fr).cellSome (fun h => h) HJ2.out.2.2.1
      have d3 : w.cell? ⟨gb, ob + k * 4 + 3, none⟩ = some (.string y.kept) := (HT.out.fr).cellSome (fun h => h) HJ2.out.2.2.2
      go_wp2_with fail
      refine Ks.wp_region_mono (fun b => w0.heap.size ≤ b) (sg 0 11 ++ ((11, true) :: [])) (by kernel_rfl) (by kernel_rfl) ?_
      refine Ks.Wk.seg 0 11 (by kernel_rfl) (by kernel_rfl) ?_
      apply Exists.intro
      refine ⟨?wk1, ?fin1⟩
      case wk1 =>
        intro γ
        have f2 : ∀ z : Ks.Ws γ, z.w.cell? ⟨gb, ob + k * 4 + 2, none⟩ = some (.string y.name) := fun z => z.h.cellSome (Nat.not_le.2 HGB.out) d2
        have f3 : ∀ z : Ks.Ws γ, z.w.cell? ⟨gb, ob + k * 4 + 3, none⟩ = some (.string y.kept) := fun z => z.h.cellSome (Nat.not_le.2 HGB.out) d3
        simp only [List.drop_succ_cons, List.drop_zero, List.take_succ_cons, List.take_zero]
        repeat (any_goals (first | go_big_quiet_step (fail) | quiet_step (fail)))
        exact wpQuiet_nil rfl
      case fin1 =>
      (try simp only [Act.put, List.setIfInBounds_toArray, List.set_cons_zero, List.set_cons_succ])
      refine Ks.Wk.one rfl (fun w6 X6 => ?_)
      go_wp2_with fail
      refine ((T9.ext X6).put1 y.name y.kept).mono ?_
      rintro e w7 ⟨rfl, T7, G7⟩
      have HT7 := Lib.hid T7
      have HG7 := Lib.hid G7
      clear T7 T9 X6 d0 d1 d2 d3 c0 c1 c2 c3 G7
      go_wp2_with fail
      refine ⟨HG7.out, ?_⟩
      (try simp only [Act.put, List.setIfInBounds_toArray, List.set_cons_zero, List.set_cons_succ])
      intro w8 X8
      have HT8 := Lib.hid (HT7.out.ext X8)
      clear X8
      have d0 : w8.cell? ⟨gb, ob + k * 4, none⟩ = some (.int .i64 y.what) := (HT8.out.fr).cellSome (fun h => h) HJ2.out.1
      have d1 : w8.cell? ⟨gb, ob + k * 4 + 1, none⟩ = some (.int .i64 y.part) := (HT8.out.fr).cellSome (fun h => h) HJ2.out.2.1
      have d2 : w8.cell? ⟨gb, ob + k * 4 + 2, none⟩ = some (.string y.name) := (HT8.out.fr).cellSome (fun h => h) HJ2.out.2.2.1
      have d3 : w8.cell? ⟨gb, ob + k * 4 + 3, none⟩ = some (.string y.kept) := (HT8.out.fr).cellSome (fun h => h) HJ2.out.2.2.2
      go_wp2_with fail
      refine (HT8.out.get1 (by have := HQ.out; omega) y.kept).mono ?_
      rintro e w9 ⟨⟨xx, yy, rfl⟩, TA⟩
      have HTA := Lib.hid TA
      clear TA d0 d1 d2 d3
      have d0 : w9.cell? ⟨gb, ob + k * 4, none⟩ = some (.int .i64 y.what) := (HTA.out.fr).cellSome (fun h => h) HJ2.out.1
      have d1 : w9.cell? ⟨gb, ob + k * 4 + 1, none⟩ = some (.int .i64 y.part) := (HTA.out.fr).cellSome (fun h => h) HJ2.out.2.1
      have d2 : w9.cell? ⟨gb, ob + k * 4 + 2, none⟩ = some (.string y.name) := (HTA.out.fr).cellSome (fun h => h) HJ2.out.2.2.1
      have d3 : w9.cell? ⟨gb, ob + k * 4 + 3, none⟩ = some (.string y.kept) := (HTA.out.fr).cellSome (fun h => h) HJ2.out.2.2.2
      go_wp2_with fail
      refine HTA.out.drop1.mono ?_
      rintro e wd ⟨rfl, TD⟩
      have HTZ := Lib.hid TD.swap
      clear TD d0 d1 d2 d3
      have c0 : wd.cell? ⟨ga, oa + k * 4, none⟩ = some (.int .i64 x.what) := (HTZ.out.fr).cellSome (fun h => h) HJ1.out.1
      have c1 : wd.cell? ⟨ga, oa + k * 4 + 1, none⟩ = some (.int .i64 x.part) := (HTZ.out.fr).cellSome (fun h => h) HJ1.out.2.1
      have c2 : wd.cell? ⟨ga, oa + k * 4 + 2, none⟩ = some (.string x.name) := (HTZ.out.fr).cellSome (fun h => h) HJ1.out.2.2.1
      have c3 : wd.cell? ⟨ga, oa + k * 4 + 3, none⟩ = some (.string x.kept) := (HTZ.out.fr).cellSome (fun h => h) HJ1.out.2.2.2
      have T0 := HTZ.out.add (.cells #[.int .i64 x.what, .int .i64 x.part, .string x.name, .string x.kept] 42)
      obtain ⟨J, hJ⟩ : ∃ J, J = wd.heap.size := ⟨_, rfl⟩
      have e0 := (cell_of_block T0.job 0).trans (show _ = some (Value.int .i64 x.what) from rfl)
      have e2 := (cell_of_block T0.job 2).trans (show _ = some (Value.string x.name) from rfl)
      have e3 := (cell_of_block T0.job 3).trans (show _ = some (Value.string x.kept) from rfl)
      have HT0 := Lib.hid T0
      clear T0
      go_wp2_with fail
      refine (HT0.out.put0 x.name x.kept).mono ?_
      rintro e wp ⟨rfl, TP⟩
      clear c0 c1 c2 c3 e0 e2 e3
      have e2 := (cell_of_block (TP).job 2).trans (show _ = some (Value.string x.name) from rfl)
      have e3 := (cell_of_block (TP).job 3).trans (show _ = some (Value.string x.kept) from rfl)
      have HTP := Lib.hid TP
      clear TP
      go_wp2_with fail
      refine (HTP.out.swap.put0 x.name x.kept).mono ?_
      rintro e wq ⟨rfl, TQ⟩
      clear e2 e3
      have e2 := (cell_of_block (TQ).job 2).trans (show _ = some (Value.string x.name) from rfl)
      have e3 := (cell_of_block (TQ).job 3).trans (show _ = some (Value.string x.kept) from rfl)
      have HTQ := Lib.hid TQ.swap
      clear TQ
      go_wp2_with fail
      refine (HTQ.out.get0 (by have := HQ.out; omega) x.name).mono ?_
      rintro e wr ⟨rfl, TR⟩
      clear e2 e3
      have e2 := (cell_of_block (TR).job 2).trans (show _ = some (Value.string x.name) from rfl)
      have e3 := (cell_of_block (TR).job 3).trans (show _ = some (Value.string x.kept) from rfl)
      have HTR := Lib.hid TR
      clear TR
      go_wp2_with fail
      refine (HTR.out.swap.get0 (by have := HQ.out; omega) x.name).mono ?_
      rintro e ws ⟨rfl, TS⟩
      clear e2 e3
      have HTS := Lib.hid TS.swap.fewer
      clear TS
      generalize getV x.name (dput x.name x.kept d).L = X at *
      generalize getB x.name (dput x.name x.kept d).L = Y at *
      generalize dget x.name (dput x.name x.kept d) = d9 at *
      go_wp2_with fail
      refine HTS.out.hits0.mono ?_
      rintro e wt ⟨rfl, TT⟩
      have HTT := Lib.hid TT
      clear TT
      go_wp2_with fail
      refine HTT.out.swap.hits0.mono ?_
      rintro e wu ⟨rfl, TU⟩
      have HTU := Lib.hid TU.swap
      clear TU
      generalize d9.h = H at *
      generalize d9.m = M at *
      have y1 : (X.toList == X.toList) = true := beq_self_eq_true _
      have y2 : (H == H) = true := beq_self_eq_true _
      have y3 : (M == M) = true := beq_self_eq_true _
      have y4 : (Y == Y) = true := beq_self_eq_true _
      go_wp2_with fail
      (try rw [W1.out])
      exact HK.out _ _ rfl rfl rfl rfl rfl rfl ⟨_, HTU.out.more _ (by have := HQ.out; omega)⟩
    · have fv : (y.what.tmod 5 == 0) = false := beq_eq_false_iff_ne.2 hfv
      have T9 := HT.out.swap
      have d0 : w.cell? ⟨gb, ob + k * 4, none⟩ = some (.int .i64 y.what) := (HT.out.fr).cellSome (fun h => h) HJ2.out.1
      have d1 : w.cell? ⟨gb, ob + k * 4 + 1, none⟩ = some (.int .i64 y.part) := (HT.out.fr).cellSome (fun h => h) HJ2.out.2.1
      have d2 : w.cell? ⟨gb, ob + k * 4 + 2, none⟩ = some (.string y.name) := (HT.out.fr).cellSome (fun h => h) HJ2.out.2.2.1
      have d3 : w.cell? ⟨gb, ob + k * 4 + 3, none⟩ = some (.string y.kept) := (HT.out.fr).cellSome (fun h => h) HJ2.out.2.2.2
      go_wp2_with fail
      refine Ks.wp_region_mono (fun b => w0.heap.size ≤ b) (sg 0 11 ++ ((11, true) :: [])) (by kernel_rfl) (by kernel_rfl) ?_
      refine Ks.Wk.seg 0 11 (by kernel_rfl) (by kernel_rfl) ?_
      apply Exists.intro
      refine ⟨?wk1, ?fin1⟩
      case wk1 =>
        intro γ
        have f2 : ∀ z : Ks.Ws γ, z.w.cell? ⟨gb, ob + k * 4 + 2, none⟩ = some (.string y.name) := fun z => z.h.cellSome (Nat.not_le.2 HGB.out) d2
        have f3 : ∀ z : Ks.Ws γ, z.w.cell? ⟨gb, ob + k * 4 + 3, none⟩ = some (.string y.kept) := fun z => z.h.cellSome (Nat.not_le.2 HGB.out) d3
        simp only [List.drop_succ_cons, List.drop_zero, List.take_succ_cons, List.take_zero]
        repeat (any_goals (first | go_big_quiet_step (fail) | quiet_step (fail)))
        exact wpQuiet_nil rfl
      case fin1 =>
      (try simp only [Act.put, List.setIfInBounds_toArray, List.set_cons_zero, List.set_cons_succ])
      refine Ks.Wk.one rfl (fun w6 X6 => ?_)
      go_wp2_with fail
      refine ((T9.ext X6).put1 y.name y.kept).mono ?_
      rintro e w7 ⟨rfl, T7, G7⟩
      have HT7 := Lib.hid T7
      have HG7 := Lib.hid G7
      clear T7 T9 X6 d0 d1 d2 d3 c0 c1 c2 c3 G7
      go_wp2_with fail
      refine ⟨HG7.out, ?_⟩
      (try simp only [Act.put, List.setIfInBounds_toArray, List.set_cons_zero, List.set_cons_succ])
      intro w8 X8
      have HT8 := Lib.hid (HT7.out.ext X8)
      clear X8
      have d0 : w8.cell? ⟨gb, ob + k * 4, none⟩ = some (.int .i64 y.what) := (HT8.out.fr).cellSome (fun h => h) HJ2.out.1
      have d1 : w8.cell? ⟨gb, ob + k * 4 + 1, none⟩ = some (.int .i64 y.part) := (HT8.out.fr).cellSome (fun h => h) HJ2.out.2.1
      have d2 : w8.cell? ⟨gb, ob + k * 4 + 2, none⟩ = some (.string y.name) := (HT8.out.fr).cellSome (fun h => h) HJ2.out.2.2.1
      have d3 : w8.cell? ⟨gb, ob + k * 4 + 3, none⟩ = some (.string y.kept) := (HT8.out.fr).cellSome (fun h => h) HJ2.out.2.2.2
      go_wp2_with fail
      refine (HT8.out.get1 (by have := HQ.out; omega) y.kept).mono ?_
      rintro e w9 ⟨⟨xx, yy, rfl⟩, TA⟩
      have HTA := Lib.hid TA
      clear TA d0 d1 d2 d3
      have d0 : w9.cell? ⟨gb, ob + k * 4, none⟩ = some (.int .i64 y.what) := (HTA.out.fr).cellSome (fun h => h) HJ2.out.1
      have d1 : w9.cell? ⟨gb, ob + k * 4 + 1, none⟩ = some (.int .i64 y.part) := (HTA.out.fr).cellSome (fun h => h) HJ2.out.2.1
      have d2 : w9.cell? ⟨gb, ob + k * 4 + 2, none⟩ = some (.string y.name) := (HTA.out.fr).cellSome (fun h => h) HJ2.out.2.2.1
      have d3 : w9.cell? ⟨gb, ob + k * 4 + 3, none⟩ = some (.string y.kept) := (HTA.out.fr).cellSome (fun h => h) HJ2.out.2.2.2
      have c0 : w9.cell? ⟨ga, oa + k * 4, none⟩ = some (.int .i64 x.what) := (HTA.out.fr).cellSome (fun h => h) HJ1.out.1
      have c1 : w9.cell? ⟨ga, oa + k * 4 + 1, none⟩ = some (.int .i64 x.part) := (HTA.out.fr).cellSome (fun h => h) HJ1.out.2.1
      have c2 : w9.cell? ⟨ga, oa + k * 4 + 2, none⟩ = some (.string x.name) := (HTA.out.fr).cellSome (fun h => h) HJ1.out.2.2.1
      have c3 : w9.cell? ⟨ga, oa + k * 4 + 3, none⟩ = some (.string x.kept) := (HTA.out.fr).cellSome (fun h => h) HJ1.out.2.2.2
      have HTZ := Lib.hid HTA.out.swap
      have T0 := HTZ.out.add (.cells #[.int .i64 x.what, .int .i64 x.part, .string x.name, .string x.kept] 42)
      obtain ⟨J, hJ⟩ : ∃ J, J = w9.heap.size := ⟨_, rfl⟩
      have e0 := (cell_of_block T0.job 0).trans (show _ = some (Value.int .i64 x.what) from rfl)
      have e2 := (cell_of_block T0.job 2).trans (show _ = some (Value.string x.name) from rfl)
      have e3 := (cell_of_block T0.job 3).trans (show _ = some (Value.string x.kept) from rfl)
      have HT0 := Lib.hid T0
      clear T0
      go_wp2_with fail
      refine (HT0.out.put0 x.name x.kept).mono ?_
      rintro e wp ⟨rfl, TP⟩
      clear c0 c1 c2 c3 e0 e2 e3
      have e2 := (cell_of_block (TP).job 2).trans (show _ = some (Value.string x.name) from rfl)
      have e3 := (cell_of_block (TP).job 3).trans (show _ = some (Value.string x.kept) from rfl)
      have HTP := Lib.hid TP
      clear TP
      go_wp2_with fail
      refine (HTP.out.swap.put0 x.name x.kept).mono ?_
      rintro e wq ⟨rfl, TQ⟩
      clear e2 e3
      have e2 := (cell_of_block (TQ).job 2).trans (show _ = some (Value.string x.name) from rfl)
      have e3 := (cell_of_block (TQ).job 3).trans (show _ = some (Value.string x.kept) from rfl)
      have HTQ := Lib.hid TQ.swap
      clear TQ
      go_wp2_with fail
      refine (HTQ.out.get0 (by have := HQ.out; omega) x.name).mono ?_
      rintro e wr ⟨rfl, TR⟩
      clear e2 e3
      have e2 := (cell_of_block (TR).job 2).trans (show _ = some (Value.string x.name) from rfl)
      have e3 := (cell_of_block (TR).job 3).trans (show _ = some (Value.string x.kept) from rfl)
      have HTR := Lib.hid TR
      clear TR
      go_wp2_with fail
      refine (HTR.out.swap.get0 (by have := HQ.out; omega) x.name).mono ?_
      rintro e ws ⟨rfl, TS⟩
      clear e2 e3
      have HTS := Lib.hid TS.swap.fewer
      clear TS
      generalize getV x.name (dput x.name x.kept d).L = X at *
      generalize getB x.name (dput x.name x.kept d).L = Y at *
      generalize dget x.name (dput x.name x.kept d) = d9 at *
      go_wp2_with fail
      refine HTS.out.hits0.mono ?_
      rintro e wt ⟨rfl, TT⟩
      have HTT := Lib.hid TT
      clear TT
      go_wp2_with fail
      refine HTT.out.swap.hits0.mono ?_
      rintro e wu ⟨rfl, TU⟩
      have HTU := Lib.hid TU.swap
      clear TU
      generalize d9.h = H at *
      generalize d9.m = M at *
      have y1 : (X.toList == X.toList) = true := beq_self_eq_true _
      have y2 : (H == H) = true := beq_self_eq_true _
      have y3 : (M == M) = true := beq_self_eq_true _
      have y4 : (Y == Y) = true := beq_self_eq_true _
      go_wp2_with fail
      (try rw [W1.out])
      exact HK.out _ _ rfl rfl rfl rfl rfl rfl ⟨_, HTU.out.more _ (by have := HQ.out; omega)⟩
  · have ev : (x.what.tmod 2 == 0) = false := beq_eq_false_iff_ne.2 hev
    by_cases hfv : y.what.tmod 5 = 0
    · have fv : (y.what.tmod 5 == 0) = true := by rw [hfv]; rfl
      have T9 := HT.out.swap
      have d0 : w.cell? ⟨gb, ob + k * 4, none⟩ = some (.int .i64 y.what) := (HT.out.fr).cellSome (fun h => h) HJ2.out.1
      have d1 : w.cell? ⟨gb, ob + k * 4 + 1, none⟩ = some (.int .i64 y.part) := (HT.out.fr).cellSome (fun h => h) HJ2.out.2.1
      have d2 : w.cell? ⟨gb, ob + k * 4 + 2, none⟩ = some (.string y.name) := (HT.out.fr).cellSome (fun h => h) HJ2.out.2.2.1
      have d3 : w.cell? ⟨gb, ob + k * 4 + 3, none⟩ = some (.string y.kept) := (HT.out.fr).cellSome (fun h => h) HJ2.out.2.2.2
      go_wp2_with fail
      refine Ks.wp_region_mono (fun b => w0.heap.size ≤ b) (sg 0 11 ++ ((11, true) :: [])) (by kernel_rfl) (by kernel_rfl) ?_
      refine Ks.Wk.seg 0 11 (by kernel_rfl) (by kernel_rfl) ?_
      apply Exists.intro
      refine ⟨?wk1, ?fin1⟩
      case wk1 =>
        intro γ
        have f2 : ∀ z : Ks.Ws γ, z.w.cell? ⟨gb, ob + k * 4 + 2, none⟩ = some (.string y.name) := fun z => z.h.cellSome (Nat.not_le.2 HGB.out) d2
        have f3 : ∀ z : Ks.Ws γ, z.w.cell? ⟨gb, ob + k * 4 + 3, none⟩ = some (.string y.kept) := fun z => z.h.cellSome (Nat.not_le.2 HGB.out) d3
        simp only [List.drop_succ_cons, List.drop_zero, List.take_succ_cons, List.take_zero]
        repeat (any_goals (first | go_big_quiet_step (fail) | quiet_step (fail)))
        exact wpQuiet_nil rfl
      case fin1 =>
      (try simp only [Act.put, List.setIfInBounds_toArray, List.set_cons_zero, List.set_cons_succ])
      refine Ks.Wk.one rfl (fun w6 X6 => ?_)
      go_wp2_with fail
      refine ((T9.ext X6).put1 y.name y.kept).mono ?_
      rintro e w7 ⟨rfl, T7, G7⟩
      have HT7 := Lib.hid T7
      have HG7 := Lib.hid G7
      clear T7 T9 X6 d0 d1 d2 d3 c0 c1 c2 c3 G7
      go_wp2_with fail
      refine ⟨HG7.out, ?_⟩
      (try simp only [Act.put, List.setIfInBounds_toArray, List.set_cons_zero, List.set_cons_succ])
      intro w8 X8
      have HT8 := Lib.hid (HT7.out.ext X8)
      clear X8
      have d0 : w8.cell? ⟨gb, ob + k * 4, none⟩ = some (.int .i64 y.what) := (HT8.out.fr).cellSome (fun h => h) HJ2.out.1
      have d1 : w8.cell? ⟨gb, ob + k * 4 + 1, none⟩ = some (.int .i64 y.part) := (HT8.out.fr).cellSome (fun h => h) HJ2.out.2.1
      have d2 : w8.cell? ⟨gb, ob + k * 4 + 2, none⟩ = some (.string y.name) := (HT8.out.fr).cellSome (fun h => h) HJ2.out.2.2.1
      have d3 : w8.cell? ⟨gb, ob + k * 4 + 3, none⟩ = some (.string y.kept) := (HT8.out.fr).cellSome (fun h => h) HJ2.out.2.2.2
      go_wp2_with fail
      refine (HT8.out.get1 (by have := HQ.out; omega) y.kept).mono ?_
      rintro e w9 ⟨⟨xx, yy, rfl⟩, TA⟩
      have HTA := Lib.hid TA
      clear TA d0 d1 d2 d3
      have d0 : w9.cell? ⟨gb, ob + k * 4, none⟩ = some (.int .i64 y.what) := (HTA.out.fr).cellSome (fun h => h) HJ2.out.1
      have d1 : w9.cell? ⟨gb, ob + k * 4 + 1, none⟩ = some (.int .i64 y.part) := (HTA.out.fr).cellSome (fun h => h) HJ2.out.2.1
      have d2 : w9.cell? ⟨gb, ob + k * 4 + 2, none⟩ = some (.string y.name) := (HTA.out.fr).cellSome (fun h => h) HJ2.out.2.2.1
      have d3 : w9.cell? ⟨gb, ob + k * 4 + 3, none⟩ = some (.string y.kept) := (HTA.out.fr).cellSome (fun h => h) HJ2.out.2.2.2
      go_wp2_with fail
      refine HTA.out.drop1.mono ?_
      rintro e wd ⟨rfl, TD⟩
      have HTZ := Lib.hid TD.swap
      clear TD d0 d1 d2 d3
      have c0 : wd.cell? ⟨ga, oa + k * 4, none⟩ = some (.int .i64 x.what) := (HTZ.out.fr).cellSome (fun h => h) HJ1.out.1
      have c1 : wd.cell? ⟨ga, oa + k * 4 + 1, none⟩ = some (.int .i64 x.part) := (HTZ.out.fr).cellSome (fun h => h) HJ1.out.2.1
      have c2 : wd.cell? ⟨ga, oa + k * 4 + 2, none⟩ = some (.string x.name) := (HTZ.out.fr).cellSome (fun h => h) HJ1.out.2.2.1
      have c3 : wd.cell? ⟨ga, oa + k * 4 + 3, none⟩ = some (.string x.kept) := (HTZ.out.fr).cellSome (fun h => h) HJ1.out.2.2.2
      have T0 := HTZ.out.add (.cells #[.int .i64 x.what, .int .i64 x.part, .string x.name, .string x.kept] 42)
      obtain ⟨J, hJ⟩ : ∃ J, J = wd.heap.size := ⟨_, rfl⟩
      have e0 := (cell_of_block T0.job 0).trans (show _ = some (Value.int .i64 x.what) from rfl)
      have e2 := (cell_of_block T0.job 2).trans (show _ = some (Value.string x.name) from rfl)
      have e3 := (cell_of_block T0.job 3).trans (show _ = some (Value.string x.kept) from rfl)
      have HT0 := Lib.hid T0
      clear T0
      go_wp2_with fail
      refine (HT0.out.get0 (by have := HQ.out; omega) x.name).mono ?_
      rintro e wr ⟨rfl, TR⟩
      clear c0 c1 c2 c3 e0 e2 e3
      have e2 := (cell_of_block (TR).job 2).trans (show _ = some (Value.string x.name) from rfl)
      have e3 := (cell_of_block (TR).job 3).trans (show _ = some (Value.string x.kept) from rfl)
      have HTR := Lib.hid TR
      clear TR
      go_wp2_with fail
      refine (HTR.out.swap.get0 (by have := HQ.out; omega) x.name).mono ?_
      rintro e ws ⟨rfl, TS⟩
      clear e2 e3
      have HTS := Lib.hid TS.swap.fewer
      clear TS
      generalize getV x.name d.L = X at *
      generalize getB x.name d.L = Y at *
      generalize dget x.name d = d9 at *
      go_wp2_with fail
      refine HTS.out.hits0.mono ?_
      rintro e wt ⟨rfl, TT⟩
      have HTT := Lib.hid TT
      clear TT
      go_wp2_with fail
      refine HTT.out.swap.hits0.mono ?_
      rintro e wu ⟨rfl, TU⟩
      have HTU := Lib.hid TU.swap
      clear TU
      generalize d9.h = H at *
      generalize d9.m = M at *
      have y1 : (X.toList == X.toList) = true := beq_self_eq_true _
      have y2 : (H == H) = true := beq_self_eq_true _
      have y3 : (M == M) = true := beq_self_eq_true _
      have y4 : (Y == Y) = true := beq_self_eq_true _
      go_wp2_with fail
      (try rw [W1.out])
      exact HK.out _ _ rfl rfl rfl rfl rfl rfl ⟨_, HTU.out.more _ (by have := HQ.out; omega)⟩
    · have fv : (y.what.tmod 5 == 0) = false := beq_eq_false_iff_ne.2 hfv
      have T9 := HT.out.swap
      have d0 : w.cell? ⟨gb, ob + k * 4, none⟩ = some (.int .i64 y.what) := (HT.out.fr).cellSome (fun h => h) HJ2.out.1
      have d1 : w.cell? ⟨gb, ob + k * 4 + 1, none⟩ = some (.int .i64 y.part) := (HT.out.fr).cellSome (fun h => h) HJ2.out.2.1
      have d2 : w.cell? ⟨gb, ob + k * 4 + 2, none⟩ = some (.string y.name) := (HT.out.fr).cellSome (fun h => h) HJ2.out.2.2.1
      have d3 : w.cell? ⟨gb, ob + k * 4 + 3, none⟩ = some (.string y.kept) := (HT.out.fr).cellSome (fun h => h) HJ2.out.2.2.2
      go_wp2_with fail
      refine Ks.wp_region_mono (fun b => w0.heap.size ≤ b) (sg 0 11 ++ ((11, true) :: [])) (by kernel_rfl) (by kernel_rfl) ?_
      refine Ks.Wk.seg 0 11 (by kernel_rfl) (by kernel_rfl) ?_
      apply Exists.intro
      refine ⟨?wk1, ?fin1⟩
      case wk1 =>
        intro γ
        have f2 : ∀ z : Ks.Ws γ, z.w.cell? ⟨gb, ob + k * 4 + 2, none⟩ = some (.string y.name) := fun z => z.h.cellSome (Nat.not_le.2 HGB.out) d2
        have f3 : ∀ z : Ks.Ws γ, z.w.cell? ⟨gb, ob + k * 4 + 3, none⟩ = some (.string y.kept) := fun z => z.h.cellSome (Nat.not_le.2 HGB.out) d3
        simp only [List.drop_succ_cons, List.drop_zero, List.take_succ_cons, List.take_zero]
        repeat (any_goals (first | go_big_quiet_step (fail) | quiet_step (fail)))
        exact wpQuiet_nil rfl
      case fin1 =>
      (try simp only [Act.put, List.setIfInBounds_toArray, List.set_cons_zero, List.set_cons_succ])
      refine Ks.Wk.one rfl (fun w6 X6 => ?_)
      go_wp2_with fail
      refine ((T9.ext X6).put1 y.name y.kept).mono ?_
      rintro e w7 ⟨rfl, T7, G7⟩
      have HT7 := Lib.hid T7
      have HG7 := Lib.hid G7
      clear T7 T9 X6 d0 d1 d2 d3 c0 c1 c2 c3 G7
      go_wp2_with fail
      refine ⟨HG7.out, ?_⟩
      (try simp only [Act.put, List.setIfInBounds_toArray, List.set_cons_zero, List.set_cons_succ])
      intro w8 X8
      have HT8 := Lib.hid (HT7.out.ext X8)
      clear X8
      have d0 : w8.cell? ⟨gb, ob + k * 4, none⟩ = some (.int .i64 y.what) := (HT8.out.fr).cellSome (fun h => h) HJ2.out.1
      have d1 : w8.cell? ⟨gb, ob + k * 4 + 1, none⟩ = some (.int .i64 y.part) := (HT8.out.fr).cellSome (fun h => h) HJ2.out.2.1
      have d2 : w8.cell? ⟨gb, ob + k * 4 + 2, none⟩ = some (.string y.name) := (HT8.out.fr).cellSome (fun h => h) HJ2.out.2.2.1
      have d3 : w8.cell? ⟨gb, ob + k * 4 + 3, none⟩ = some (.string y.kept) := (HT8.out.fr).cellSome (fun h => h) HJ2.out.2.2.2
      go_wp2_with fail
      refine (HT8.out.get1 (by have := HQ.out; omega) y.kept).mono ?_
      rintro e w9 ⟨⟨xx, yy, rfl⟩, TA⟩
      have HTA := Lib.hid TA
      clear TA d0 d1 d2 d3
      have d0 : w9.cell? ⟨gb, ob + k * 4, none⟩ = some (.int .i64 y.what) := (HTA.out.fr).cellSome (fun h => h) HJ2.out.1
      have d1 : w9.cell? ⟨gb, ob + k * 4 + 1, none⟩ = some (.int .i64 y.part) := (HTA.out.fr).cellSome (fun h => h) HJ2.out.2.1
      have d2 : w9.cell? ⟨gb, ob + k * 4 + 2, none⟩ = some (.string y.name) := (HTA.out.fr).cellSome (fun h => h) HJ2.out.2.2.1
      have d3 : w9.cell? ⟨gb, ob + k * 4 + 3, none⟩ = some (.string y.kept) := (HTA.out.fr).cellSome (fun h => h) HJ2.out.2.2.2
      have c0 : w9.cell? ⟨ga, oa + k * 4, none⟩ = some (.int .i64 x.what) := (HTA.out.fr).cellSome (fun h => h) HJ1.out.1
      have c1 : w9.cell? ⟨ga, oa + k * 4 + 1, none⟩ = some (.int .i64 x.part) := (HTA.out.fr).cellSome (fun h => h) HJ1.out.2.1
      have c2 : w9.cell? ⟨ga, oa + k * 4 + 2, none⟩ = some (.string x.name) := (HTA.out.fr).cellSome (fun h => h) HJ1.out.2.2.1
      have c3 : w9.cell? ⟨ga, oa + k * 4 + 3, none⟩ = some (.string x.kept) := (HTA.out.fr).cellSome (fun h => h) HJ1.out.2.2.2
      have HTZ := Lib.hid HTA.out.swap
      have T0 := HTZ.out.add (.cells #[.int .i64 x.what, .int .i64 x.part, .string x.name, .string x.kept] 42)
      obtain ⟨J, hJ⟩ : ∃ J, J = w9.heap.size := ⟨_, rfl⟩
      have e0 := (cell_of_block T0.job 0).trans (show _ = some (Value.int .i64 x.what) from rfl)
      have e2 := (cell_of_block T0.job 2).trans (show _ = some (Value.string x.name) from rfl)
      have e3 := (cell_of_block T0.job 3).trans (show _ = some (Value.string x.kept) from rfl)
      have HT0 := Lib.hid T0
      clear T0
      go_wp2_with fail
      refine (HT0.out.get0 (by have := HQ.out; omega) x.name).mono ?_
      rintro e wr ⟨rfl, TR⟩
      clear c0 c1 c2 c3 e0 e2 e3
      have e2 := (cell_of_block (TR).job 2).trans (show _ = some (Value.string x.name) from rfl)
      have e3 := (cell_of_block (TR).job 3).trans (show _ = some (Value.string x.kept) from rfl)
      have HTR := Lib.hid TR
      clear TR
      go_wp2_with fail
      refine (HTR.out.swap.get0 (by have := HQ.out; omega) x.name).mono ?_
      rintro e ws ⟨rfl, TS⟩
      clear e2 e3
      have HTS := Lib.hid TS.swap.fewer
      clear TS
      generalize getV x.name d.L = X at *
      generalize getB x.name d.L = Y at *
      generalize dget x.name d = d9 at *
      go_wp2_with fail
      refine HTS.out.hits0.mono ?_
      rintro e wt ⟨rfl, TT⟩
      have HTT := Lib.hid TT
      clear TT
      go_wp2_with fail
      refine HTT.out.swap.hits0.mono ?_
      rintro e wu ⟨rfl, TU⟩
      have HTU := Lib.hid TU.swap
      clear TU
      generalize d9.h = H at *
      generalize d9.m = M at *
      have y1 : (X.toList == X.toList) = true := beq_self_eq_true _
      have y2 : (H == H) = true := beq_self_eq_true _
      have y3 : (M == M) = true := beq_self_eq_true _
      have y4 : (Y == Y) = true := beq_self_eq_true _
      go_wp2_with fail
      (try rw [W1.out])
      exact HK.out _ _ rfl rfl rfl rfl rfl rfl ⟨_, HTU.out.more _ (by have := HQ.out; omega)⟩
end Go.Proofs.Ytkigdgkklninoaa

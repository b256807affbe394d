/-
  CadenceApart: its loop within.
-/
import Derived.Test.YtcpapielklplcaaAk
import Derived.Test.YtcpapielklplcaaAm
import Derived.Test.YtcpapielklplcaaAn
import Derived.Test.YtcpapielklplcaaLp
namespace Go.Proofs.Ytcpapielklplcaa
open Go.RowKit
set_option linter.unusedVariables false
set_option linter.unusedSimpArgs false
set_option maxRecDepth 100000 in
theorem lit135 (f : Nat → Value) : ((List.range 135).map f).toArray = (f 0 :: f 1 :: f 2 :: f 3 :: f 4 :: f 5 :: f 6 :: f 7 :: f 8 :: f 9 :: f 10 :: f 11 :: f 12 :: f 13 :: f 14 :: f 15 :: f 16 :: f 17 :: f 18 :: f 19 :: f 20 :: f 21 :: f 22 :: f 23 :: f 24 :: f 25 :: f 26 :: f 27 :: f 28 :: f 29 :: f 30 :: f 31 :: f 32 :: f 33 :: f 34 :: f 35 :: f 36 :: f 37 :: f 38 :: f 39 :: f 40 :: f 41 :: f 42 :: f 43 :: f 44 :: f 45 :: f 46 :: f 47 :: f 48 :: f 49 :: f 50 :: f 51 :: f 52 :: f 53 :: f 54 :: f 55 :: f 56 :: f 57 :: f 58 :: f 59 :: f 60 :: f 61 :: f 62 :: f 63 :: f 64 :: f 65 :: f 66 :: f 67 :: f 68 :: f 69 :: f 70 :: f 71 :: f 72 :: f 73 :: f 74 :: f 75 :: f 76 :: f 77 :: f 78 :: f 79 :: f 80 :: f 81 :: f 82 :: f 83 :: f 84 :: f 85 :: f 86 :: f 87 :: f 88 :: f 89 :: f 90 :: f 91 :: f 92 :: f 93 :: f 94 :: f 95 :: f 96 :: f 97 :: f 98 :: f 99 :: f 100 :: f 101 :: f 102 :: f 103 :: f 104 :: f 105 :: f 106 :: f 107 :: f 108 :: f 109 :: f 110 :: f 111 :: f 112 :: f 113 :: f 114 :: f 115 :: f 116 :: f 117 :: f 118 :: f 119 :: f 120 :: f 121 :: f 122 :: f 123 :: f 124 :: f 125 :: f 126 :: f 127 :: f 128 :: f 129 :: f 130 :: f 131 :: f 132 :: f 133 :: f 134 :: []).toArray := by kernel_rfl
theorem any_succ {y : List ByteArray} {k : Nat} {s : ByteArray} (h : y[k]? = some s) : (y.take (k + 1)).any isM = ((y.take k).any isM || isM s) := by
  rw [List.take_add_one, h, List.any_append]; simp
theorem dr_cell {w : World} {base c : Nat} {a : Option Addr} {y : List ByteArray} (h : DR w base (.slice a y.length c) y) {k : Nat} {s : ByteArray} (hs : y[k]? = some s) : ∃ g, a = some ⟨g, 0, none⟩ ∧ w.cell? ⟨g, k, none⟩ = some (.string s) := by
  have hk := (List.getElem?_eq_some_iff.1 hs).1
  rcases h.2 with ⟨_, h0⟩ | ⟨g, cap, gc, e, hb, hg, _, _, _, ht⟩
  · omega
  · obtain ⟨rfl, rfl⟩ : a = some ⟨g, 0, none⟩ ∧ c = cap := by simpa using e
    refine ⟨g, rfl, ?_⟩
    rw [cell_of_block hg, ← Array.getElem?_toList, ← List.getElem?_take_of_lt (show k < y.length * 1 by omega), ht, sv, List.getElem?_map, hs]
    rfl
set_option maxRecDepth 100000 in
set_option maxHeartbeats 6400000 in
theorem due_loop {Q : Exit → Act → World → Prop} {base pa pb c xn xc yc : Nat} {a xa ya : Option Addr} {l : List Jc} {y : List ByteArray} {z13 : Int} {w : World} (hD : DR w base (.slice ya y.length yc) y) (hyl : y.length ≤ 1000) (fr : Array Value) (hn : fr.size = 135) (p2 : fr[2]? = some (.slice a l.length c)) (p7 : fr[7]? = some (.pointer (some ⟨pa, 0, none⟩))) (p9 : fr[9]? = some (.pointer (some ⟨pb, 0, none⟩))) (p13 : fr[13]? = some (.int .i64 (z13))) (p14 : fr[14]? = some (.slice xa xn xc)) (p15 : fr[15]? = some (.int .i64 0)) (p16 : fr[16]? = some (.slice ya y.length yc)) (p17 : fr[17]? = some (.int .i64 0)) (p18 : fr[18]? = some (.bool (false))) (p19 : fr[19]? = some (.int .i64 (0)))
    (hexit : ∀ t' w', t'.size = 135 → t'[2]? = some (.slice a l.length c) → t'[7]? = some (.pointer (some ⟨pa, 0, none⟩)) → t'[9]? = some (.pointer (some ⟨pb, 0, none⟩)) → t'[13]? = some (.int .i64 (z13)) → t'[14]? = some (.slice xa xn xc) → t'[15]? = some (.int .i64 0) → t'[16]? = some (.slice ya y.length yc) → t'[17]? = some (.int .i64 0) → t'[18]? = some (.bool (y.any isM)) → Fr (fun _ => False) w w' → Q (.exit 2) ⟨t', []⟩ w') :
    Code.wp Try.prog (.loop (loopAt Try.f3 1)) Q ⟨fr, []⟩ w := by
  refine wp_loop_up y.length (fun k t w' => t.size = 135 ∧ t[2]? = some (.slice a l.length c) ∧ t[7]? = some (.pointer (some ⟨pa, 0, none⟩)) ∧ t[9]? = some (.pointer (some ⟨pb, 0, none⟩)) ∧ t[13]? = some (.int .i64 (z13)) ∧ t[14]? = some (.slice xa xn xc) ∧ t[15]? = some (.int .i64 0) ∧ t[16]? = some (.slice ya y.length yc) ∧ t[17]? = some (.int .i64 0) ∧ t[18]? = some (.bool ((y.take k).any isM)) ∧ t[19]? = some (.int .i64 (k : Int)) ∧ Fr (fun _ => False) w w') fr w ⟨hn, p2, p7, p9, p13, p14, p15, p16, p17, p18, p19, Fr.refl _ w⟩ ?_
  clear hn p2 p7 p9 p13 p14 p15 p16 p17 p18 p19 fr
  rintro k fr w1 hk ⟨hn, p2, p7, p9, p13, p14, p15, p16, p17, p18, p19, F⟩ K hK
  by_cases hlt : k < y.length
  · obtain ⟨s, hs⟩ : ∃ s, y[k]? = some s := ⟨_, List.getElem?_eq_getElem hlt⟩
    obtain ⟨g, rfl, c0⟩ := dr_cell (F.own hD (fun _ _ h => h)) hs
    have q1 : (k : Int) < (y.length : Int) := by omega
    have q0 : (0 : Int) ≤ (k : Int) := Int.natCast_nonneg k
    have w1' : wrap64 ((k : Int) + 1) = ((k + 1 : Nat) : Int) := by rw [IntWalk.wrap64_in _ (by omega)]; omega
    have W1 := Lib.hid w1'
    have HA := Lib.hid (any_succ hs)
    have HK := Lib.hid hK
    have HF := Lib.hid F
    have HLT := Lib.hid hlt
    clear hexit hK hk hlt F hs hD hyl w1'
    cases hacc : (y.take k).any isM with
    | true =>
      rw [hacc] at p18
      have HAC := Lib.hid hacc
      clear hacc
      obtain ⟨f, hff, rfl⟩ := frame_open hn
      have e2 := hff 2 _ p2
      have e7 := hff 7 _ p7
      have e9 := hff 9 _ p9
      have e13 := hff 13 _ p13
      have e14 := hff 14 _ p14
      have e15 := hff 15 _ p15
      have e16 := hff 16 _ p16
      have e17 := hff 17 _ p17
      have e18 := hff 18 _ p18
      have e19 := hff 19 _ p19
      clear hff hn p2 p7 p9 p13 p14 p15 p16 p17 p18 p19
      rw [lit135, e2, e7, e9, e13, e14, e15, e16, e17, e18, e19]
      clear e2 e7 e9 e13 e14 e15 e16 e17 e18 e19
      conv => arg 2; whnf
      go_wp2_with fail
      (try rw [W1.out])
      exact HK.out _ _ HLT.out ⟨rfl, rfl, rfl, rfl, rfl, rfl, rfl, rfl, rfl, by rw [HA.out, HAC.out]; rfl, rfl, HF.out⟩
    | false =>
      rw [hacc] at p18
      have HAC := Lib.hid hacc
      clear hacc
      obtain ⟨f, hff, rfl⟩ := frame_open hn
      have e2 := hff 2 _ p2
      have e7 := hff 7 _ p7
      have e9 := hff 9 _ p9
      have e13 := hff 13 _ p13
      have e14 := hff 14 _ p14
      have e15 := hff 15 _ p15
      have e16 := hff 16 _ p16
      have e17 := hff 17 _ p17
      have e18 := hff 18 _ p18
      have e19 := hff 19 _ p19
      clear hff hn p2 p7 p9 p13 p14 p15 p16 p17 p18 p19
      rw [lit135, e2, e7, e9, e13, e14, e15, e16, e17, e18, e19]
      clear e2 e7 e9 e13 e14 e15 e16 e17 e18 e19
      conv => arg 2; whnf
      go_wp2_with fail
      (try rw [W1.out])
      exact HK.out _ _ HLT.out ⟨rfl, rfl, rfl, rfl, rfl, rfl, rfl, rfl, rfl, by rw [HA.out, HAC.out]; rfl, rfl, HF.out⟩
  · obtain rfl : k = y.length := by omega
    have q1 : ¬ ((y.length : Int) < (y.length : Int)) := by omega
    rw [List.take_length] at p18
    have HE := Lib.hid hexit
    have HF := Lib.hid F
    clear hexit hK hk hlt F hD hyl
    obtain ⟨f, hff, rfl⟩ := frame_open hn
    have e2 := hff 2 _ p2
    have e7 := hff 7 _ p7
    have e9 := hff 9 _ p9
    have e13 := hff 13 _ p13
    have e14 := hff 14 _ p14
    have e15 := hff 15 _ p15
    have e16 := hff 16 _ p16
    have e17 := hff 17 _ p17
    have e18 := hff 18 _ p18
    have e19 := hff 19 _ p19
    clear hff hn p2 p7 p9 p13 p14 p15 p16 p17 p18 p19
    rw [lit135, e2, e7, e9, e13, e14, e15, e16, e17, e18, e19]
    clear e2 e7 e9 e13 e14 e15 e16 e17 e18 e19
    conv => arg 2; whnf
    go_wp2_with fail
    exact HE.out _ _ rfl rfl rfl rfl rfl rfl rfl rfl rfl rfl HF.out
end Go.Proofs.Ytcpapielklplcaa

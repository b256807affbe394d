/-
  ExtentZeros: the lists compared; what is read behind the crash.
-/
import Derived.Test.YtgladedjgjhlaaaXr
namespace Go.Proofs.Ytgladedjgjhlaaa
open Go.RowKit
set_option linter.unusedVariables false
set_option linter.unusedSimpArgs false
theorem own1_cell {w : World} {base : Nat} {e : TypeId} {v : Value} {n : Nat} {xs : List Value} (h : w.ownsRow base e 1 v n xs) (k : Nat) (u : Value) (hk : xs[k]? = some u) (hkn : k < n) : ∃ g cap cur, v = .slice (some ⟨g, 0, none⟩) n cap ∧ w.heap[g]? = some (.cells cur e (0, 0)) ∧ cur[k]? = some u := by
  rcases h.2 with ⟨_, h0⟩ | ⟨g, cap, cur, e1, hb, hg, _, _, _, hx⟩
  · omega
  · refine ⟨g, cap, cur, e1, hg, ?_⟩
    rw [← Array.getElem?_toList, ← hk, ← hx, List.getElem?_take_of_lt (by omega)]
theorem fouls_dirty {N : Nat → Nat → UInt8} {Wf : Nat → UInt8} (hN : ∀ j, j < 20 → N j = b127 (Wf j)) : fouls N 2 4 4 = dirtyl Wf 4 := by
  unfold fouls dirtyl
  refine List.filter_congr fun i hi => ?_
  rw [clr_dty hN i (List.mem_range.1 hi), Bool.not_not]
theorem bld127_0 : Try.zeroCells30.setIfInBounds 127 (.int .u8 0) = ub 128 (b127 0) := bld127 0
theorem dr6 (i : Nat) (h : i < 4) : IntKind.i64.wrap (6 + ((4 * i : Nat) : Int)) = ((6 + 4 * i : Nat) : Int) := by rw [IntWalk.i64_in _ (by omega)]; simp
theorem ds6 (i : Nat) (h : i < 4) : wrap64 (6 + ((4 * i : Nat) : Int)) = ((6 + 4 * i : Nat) : Int) := by rw [IntWalk.wrap64_in _ (by omega)]; simp
set_option maxRecDepth 100000 in
set_option maxHeartbeats 6400000 in
theorem zero_bad (px : Value) (c i : Int) (h : i < 0 ∨ c ≤ i) (w : World) (hct : ∀ W : World, Fr (fun _ => False) w W → Calls Try.prog 46 #[px] W fun e w' => e = .returned (.int .i64 c) ∧ Fr (fun _ => False) W w') :
    Calls Try.prog 45 #[px, .int .i64 i] w fun e w' => e = .returned (.int .i64 1) ∧ Fr (fun _ => False) w w' := by
  have HA := Lib.hid (area_bad px c i h w hct)
  clear hct h
  go_enter Try.func45, Try.ntmps45
  go_wp2_with fail
  refine HA.out.mono ?_
  rintro e w2 ⟨rfl, F2⟩
  go_wp2_with fail
  go_ret
  exact ⟨rfl, F2⟩
set_option maxRecDepth 100000 in
set_option maxHeartbeats 6400000 in
theorem zeros4 {Q : Exit → Act → World → Prop} {w : World} {s2 s7 s9 s11 s14 v15 v21 : Value} {b1 b2 : Nat} {l : List Nat} (hl : l.length ≤ 4) (O15 : w.ownsRow b1 3 1 v15 l.length (ints l)) (O21 : w.ownsRow b2 3 1 v21 l.length (ints l)) (t : Array Value) (hn : t.size = 211)
    (p2 : t[2]? = some s2) (p7 : t[7]? = some s7) (p9 : t[9]? = some s9) (p11 : t[11]? = some s11) (p14 : t[14]? = some s14) (p15 : t[15]? = some v15) (p21 : t[21]? = some v21) (p23 : t[23]? = some (.int .i64 0))
    (hexit : ∀ t' w', t'.size = 211 → t'[2]? = some s2 → t'[7]? = some s7 → t'[9]? = some s9 → t'[11]? = some s11 → t'[14]? = some s14 → Fr (fun _ => False) w w' → Q (.exit 6) ⟨t', []⟩ w') :
    Code.wp Try.prog (.loop (loopAt Try.f8 3)) Q ⟨t, []⟩ w := by
  obtain ⟨a15, c15, rfl⟩ := own_slice O15
  obtain ⟨a21, c21, rfl⟩ := own_slice O21
  refine wp_loop_up l.length (fun k t w' => t.size = 211 ∧ t[2]? = some s2 ∧ t[7]? = some s7 ∧ t[9]? = some s9 ∧ t[11]? = some s11 ∧ t[14]? = some s14 ∧ t[15]? = some (.slice a15 l.length c15) ∧ t[21]? = some (.slice a21 l.length c21) ∧ t[23]? = some (.int .i64 (k : Int)) ∧ Fr (fun _ => False) w w') t w ⟨hn, p2, p7, p9, p11, p14, p15, p21, p23, Fr.refl _ _⟩ ?_
  clear hn p2 p7 p9 p11 p14 p15 p21 p23 t
  rintro k t w1 hk ⟨hn, p2, p7, p9, p11, p14, p15, p21, p23, F1⟩ K hK
  obtain ⟨f, hff, rfl⟩ := frame_open hn
  have e2 := hff 2 _ p2
  have e7 := hff 7 _ p7
  have e9 := hff 9 _ p9
  have e11 := hff 11 _ p11
  have e14 := hff 14 _ p14
  have e15 := hff 15 _ p15
  have e21 := hff 21 _ p21
  have e23 := hff 23 _ p23
  clear hff hn p2 p7 p9 p11 p14 p15 p21 p23
  rw [lit211, e2, e7, e9, e11, e14, e15, e21, e23]
  clear e2 e7 e9 e11 e14 e15 e21 e23
  conv => arg 2; whnf
  have HE := Lib.hid hexit
  have HK := Lib.hid hK
  have HF := Lib.hid F1
  have hk8 : k ≤ 8192 := by omega
  clear hexit hK
  by_cases hlt : k < l.length
  · have q1 : (k : Int) < (l.length : Int) := Int.ofNat_lt.2 hlt
    have q0 : (0 : Int) ≤ (k : Int) := Int.natCast_nonneg k
    obtain ⟨y, hy⟩ : ∃ y, l[k]? = some y := ⟨_, List.getElem?_eq_getElem hlt⟩
    have hyv : (ints l)[k]? = some (.int .i64 (y : Int)) := by simp [ints, hy]
    obtain ⟨g1, d1, cu1, e1, hg1, hu1⟩ := own1_cell (own_fr O15 F1 (fun _ _ h => h)) k _ hyv hlt
    obtain ⟨g2, d2, cu2, e2, hg2, hu2⟩ := own1_cell (own_fr O21 F1 (fun _ _ h => h)) k _ hyv hlt
    have ea1 : a15 = some ⟨g1, 0, none⟩ := by injection e1
    have ea2 : a21 = some ⟨g2, 0, none⟩ := by injection e2
    subst ea1
    subst ea2
    have x1 : ∀ y' : Wd w1, y'.w.cell? ⟨g1, k, none⟩ = some (.int .i64 (y : Int)) := fun y' => (cell_of_block (y'.blk hg1) k).trans hu1
    have x2 : ∀ y' : Wd w1, y'.w.cell? ⟨g2, k, none⟩ = some (.int .i64 (y : Int)) := fun y' => (cell_of_block (y'.blk hg2) k).trans hu2
    have bb : ((y : Int) == (y : Int)) = true := beq_self_eq_true _
    have r1 := wrs k hk8
    have r2 := wrs2 k hk8
    clear hy hyv e1 e2 hg1 hg2 hu1 hu2 O15 O21 F1 hl
    go_wp2_with fail
    refine wp_region_keep (by kernel_rfl) (by kernel_rfl) ?_
    repeat (any_goals (first | go_big_quiet_step (fail) | quiet_step (fail)))
    refine wpQuiet_nil ?_
    intro _ hwz
    obtain ⟨yy, rfl⟩ := hwz
    have FY := HF.out.trans yy.h (fun _ h => h.elim)
    have HFY := Lib.hid FY
    clear x1 x2 FY
    go_wp2_with fail
    exact HK.out _ _ hlt ⟨rfl, rfl, rfl, rfl, rfl, rfl, rfl, rfl, by simp, HFY.out⟩
  · obtain rfl : k = l.length := by omega
    clear O15 O21 hl
    go_wp2_with fail
    exact HE.out _ _ rfl rfl rfl rfl rfl rfl HF.out
end Go.Proofs.Ytgladedjgjhlaaa

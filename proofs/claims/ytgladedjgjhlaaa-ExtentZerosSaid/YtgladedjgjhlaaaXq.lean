/-
  ExtentZeros: is an extent dirty? The loop in the loop.
-/
import Derived.Test.YtgladedjgjhlaaaXp
namespace Go.Proofs.Ytgladedjgjhlaaa
open Go.RowKit
set_option linter.unusedVariables false
set_option linter.unusedSimpArgs false
/-- Is one of the first k bytes not nought? -/
def dty (Wf : Nat → UInt8) (i k : Nat) : Bool := (List.range k).any fun j => Wf (2 + 4 * i + j) != 0
theorem dty_succ (Wf : Nat → UInt8) (i k : Nat) : dty Wf i (k + 1) = (dty Wf i k || (Wf (2 + 4 * i + k) != 0)) := by simp [dty, List.range_succ]
theorem dr1 (i : Nat) (h : i < 4) : IntKind.i64.wrap (4 * (i : Int)) = ((4 * i : Nat) : Int) := by rw [IntWalk.i64_in _ (by omega)]; simp
theorem dr2 (i : Nat) (h : i < 4) : IntKind.i64.wrap (2 + ((4 * i : Nat) : Int)) = ((2 + 4 * i : Nat) : Int) := by rw [IntWalk.i64_in _ (by omega)]; simp
theorem dr3 (i k : Nat) (h : i < 4) (hk : k < 4) : IntKind.i64.wrap (((2 + 4 * i : Nat) : Int) + (k : Int)) = ((2 + 4 * i + k : Nat) : Int) := by rw [IntWalk.i64_in _ (by omega)]; simp
theorem ds1 (i : Nat) (h : i < 4) : wrap64 (4 * (i : Int)) = ((4 * i : Nat) : Int) := by rw [IntWalk.wrap64_in _ (by omega)]; simp
theorem ds2 (i : Nat) (h : i < 4) : wrap64 (2 + ((4 * i : Nat) : Int)) = ((2 + 4 * i : Nat) : Int) := by rw [IntWalk.wrap64_in _ (by omega)]; simp
theorem ds3 (i k : Nat) (h : i < 4) (hk : k < 4) : wrap64 (((2 + 4 * i : Nat) : Int) + (k : Int)) = ((2 + 4 * i + k : Nat) : Int) := by rw [IntWalk.wrap64_in _ (by omega)]; simp
set_option maxRecDepth 100000 in
set_option maxHeartbeats 6400000 in
theorem zeros3 {Q : Exit → Act → World → Prop} {w : World} {gt i : Nat} {s1 s2 s7 s9 s14 s15 : Value} {Wf : Nat → UInt8} (hi : i < 4) (G : w.heap[gt]? = some (.cells (ub 20 Wf) 82 (0, 0))) (t : Array Value) (hn : t.size = 211)
    (p1 : t[1]? = some s1) (p2 : t[2]? = some s2) (p7 : t[7]? = some s7) (p9 : t[9]? = some s9) (p11 : t[11]? = some (.pointer (some ⟨gt, 0, none⟩))) (p14 : t[14]? = some s14) (p15 : t[15]? = some s15) (p16 : t[16]? = some (.int .i64 (i : Int))) (p17 : t[17]? = some (.bool false)) (p18 : t[18]? = some (.int .i64 0))
    (hexit : ∀ t', t'.size = 211 → t'[1]? = some s1 → t'[2]? = some s2 → t'[7]? = some s7 → t'[9]? = some s9 → t'[11]? = some (.pointer (some ⟨gt, 0, none⟩)) → t'[14]? = some s14 → t'[15]? = some s15 → t'[16]? = some (.int .i64 (i : Int)) → t'[17]? = some (.bool (dty Wf i 4)) → Q (.exit 4) ⟨t', []⟩ w) :
    Code.wp Try.prog (.loop (loopAt Try.f8 2)) Q ⟨t, []⟩ w := by
  refine wp_loop_up 4 (fun k t w' => t.size = 211 ∧ t[1]? = some s1 ∧ t[2]? = some s2 ∧ t[7]? = some s7 ∧ t[9]? = some s9 ∧ t[11]? = some (.pointer (some ⟨gt, 0, none⟩)) ∧ t[14]? = some s14 ∧ t[15]? = some s15 ∧ t[16]? = some (.int .i64 (i : Int)) ∧ t[17]? = some (.bool (dty Wf i k)) ∧ t[18]? = some (.int .i64 (k : Int)) ∧ w' = w) t w ⟨hn, p1, p2, p7, p9, p11, p14, p15, p16, p17, p18, rfl⟩ ?_
  clear hn p1 p2 p7 p9 p11 p14 p15 p16 p17 p18 t
  rintro k t w1 hk ⟨hn, p1, p2, p7, p9, p11, p14, p15, p16, p17, p18, rfl⟩ K hK
  obtain ⟨f, hff, rfl⟩ := frame_open hn
  have e1 := hff 1 _ p1
  have e2 := hff 2 _ p2
  have e7 := hff 7 _ p7
  have e9 := hff 9 _ p9
  have e11 := hff 11 _ p11
  have e14 := hff 14 _ p14
  have e15 := hff 15 _ p15
  have e16 := hff 16 _ p16
  have e17 := hff 17 _ p17
  have e18 := hff 18 _ p18
  clear hff hn p1 p2 p7 p9 p11 p14 p15 p16 p17 p18
  rw [lit211, e1, e2, e7, e9, e11, e14, e15, e16, e17, e18]
  clear e1 e2 e7 e9 e11 e14 e15 e16 e17 e18
  conv => arg 2; whnf
  have HE := Lib.hid hexit
  have HK := Lib.hid hK
  clear hexit hK
  by_cases hlt : k < 4
  · have q1 : (k : Int) < 4 := by omega
    have c1 : w1.cell? ⟨gt, 2 + 4 * i + k, none⟩ = some (.int .u8 ((Wf (2 + 4 * i + k)).toNat : Int)) := (cell_of_block G _).trans (ub_get 20 Wf _ (by omega))
    have j0 : (0 : Int) ≤ ((2 + 4 * i + k : Nat) : Int) := Int.natCast_nonneg _
    have j20 : ((2 + 4 * i + k : Nat) : Int) < 20 := Int.ofNat_lt.2 (show 2 + 4 * i + k < 20 by omega)
    have r1 := dr1 i hi
    have r2 := dr2 i hi
    have r3 := dr3 i k hi hlt
    have u1 := ds1 i hi
    have u2 := ds2 i hi
    have u3 := ds3 i k hi hlt
    have r4 := wrs k (by omega)
    have r5 := wrs2 k (by omega)
    have hs := dty_succ Wf i k
    have HS := Lib.hid hs
    clear hs
    generalize hj : 2 + 4 * i + k = j at *
    generalize ha : 4 * i = a at *
    generalize hb : 2 + a = b at *
    have HJ := Lib.hid hj
    have HA := Lib.hid ha
    have HB := Lib.hid hb
    clear hj ha hb
    cases hd : dty Wf i k with
    | true =>
      rw [hd] at HS
      have HD := Lib.hid hd
      clear hd
      go_wp2_with fail
      exact HK.out _ _ hlt ⟨rfl, rfl, rfl, rfl, rfl, rfl, rfl, rfl, rfl, by rw [HS.out]; rfl, by simp, rfl⟩
    | false =>
      rw [hd] at HS
      have HD := Lib.hid hd
      clear hd
      by_cases hz : Wf j = 0
      · have hz2 : ((Wf j).toNat : Int) = 0 := by rw [hz]; rfl
        have HZ := Lib.hid hz
        rw [hz2] at c1
        clear hz hz2
        go_wp2_with fail
        exact HK.out _ _ hlt ⟨rfl, rfl, rfl, rfl, rfl, rfl, rfl, rfl, rfl, by rw [HS.out, HZ.out]; rfl, by simp, rfl⟩
      · have hz2 : ¬ (((Wf j).toNat : Int) = 0) := fun e => hz (UInt8.toNat_inj.1 (by simpa using e))
        have t1 : (((Wf j).toNat : Int) == 0) = false := by simpa using hz2
        have t2 : decide (((Wf j).toNat : Int) = 0) = false := by simpa using hz2
        have HZ := Lib.hid hz
        generalize hy : ((Wf j).toNat : Int) = y at c1 t1 t2
        have HT1 := Lib.hid t1
        clear hz hz2 hy
        go_wp2_with fail
        exact HK.out _ _ hlt ⟨rfl, rfl, rfl, rfl, rfl, rfl, rfl, rfl, rfl, by rw [HS.out]; have a1 : (y != 0) = true := (by rw [bne, HT1.out]; rfl); have a2 : (Wf j != 0) = true := (by simpa using HZ.out); simp [a1, a2], by simp, rfl⟩
  · obtain rfl : k = 4 := by omega
    go_wp2_with fail
    exact HE.out _ rfl rfl rfl rfl rfl rfl rfl rfl rfl rfl
end Go.Proofs.Ytgladedjgjhlaaa

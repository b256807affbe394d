/-
  DiskLasts: the second loop: what is written since.
-/
import Derived.Test.YtgladedjgjhlaaaTx
namespace Go.Proofs.Ytgladedjgjhlaaa
open Go.RowKit
set_option linter.unusedVariables false
set_option linter.unusedSimpArgs false
/-- Two bytes, and noughts. -/
def b2 (x : UInt8) : Nat → UInt8 := fun j => if j = 1 then 1 else b1 x j
theorem bld2b (x : UInt8) : (Try.zeroCells30.setIfInBounds 0 (.int .u8 (x.toNat : Int))).setIfInBounds 1 (.int .u8 1) = ub 128 (b2 x) := by
  rw [bld, show (Value.int .u8 1) = .int .u8 ((1 : UInt8).toNat : Int) from rfl, ub_set 128 _ 1 1 (by decide)]; rfl
/-- Which blocks were touched. -/
def tbl (T : Nat → Bool) : Array Value := ((List.range 8).map fun j => Value.bool (T j)).toArray
theorem tbl_size (T : Nat → Bool) : (tbl T).size = 8 := by simp [tbl]
theorem tbl_get (T : Nat → Bool) (j : Nat) (hj : j < 8) : (tbl T)[j]? = some (.bool (T j)) := by simp [tbl, hj]
theorem tbl_set (T : Nat → Bool) (q : Nat) (hq : q < 8) : (tbl T).setIfInBounds q (.bool true) = tbl (fun j => if j = q then true else T j) := by
  apply Array.ext
  · simp [tbl]
  · intro i h1 h2
    have hi : i < 8 := by rw [tbl_size] at h2; exact h2
    have e := tbl_get (fun j => if j = q then true else T j) i hi
    have a := tbl_get T i hi
    rw [Array.getElem?_eq_getElem h2] at e
    have h1' : i < (tbl T).size := by rw [tbl_size]; exact hi
    rw [Array.getElem?_eq_getElem h1'] at a
    rw [Option.some.inj e, Array.getElem_setIfInBounds]
    by_cases h : q = i
    · subst h; simp
    · rw [if_neg h, if_neg (fun c => h c.symm), Option.some.inj a]
    all_goals first | exact h1' | skip
/-- The place that a job names. -/
theorem spot8 (s : Int) (h : In64 s) : ∃ z : Int, ∃ q : Nat, IntKind.u64.wrap s = z ∧ z.tmod 8 = (q : Int) ∧ z % 8 = (q : Int) ∧ q < 8 := by
  have e : IntKind.u64.wrap s = s % 18446744073709551616 := by
    unfold IntKind.wrap
    first | rfl | simp
  refine ⟨s % 18446744073709551616, (s % 8).toNat, e, ?_, ?_, ?_⟩
  · rw [Int.tmod_eq_emod_of_nonneg (by omega)]; omega
  · omega
  · omega
set_option maxRecDepth 100000 in
set_option maxHeartbeats 6400000 in
theorem lasts2 {Q : Exit → Act → World → Prop} {w0 w : World} {d bn bl gt : Nat} {v0 v1 v2 vw : Value} {js : List Jb} {N L : Nat → Nat → UInt8} {wr0 : Int} (hr0 : 0 ≤ wr0) (hr1 : wr0 ≤ 8) (hb : JL w0 v1 js) (D : DA w d bn bl 8 N L [] vw wr0 0 false w0.heap.size) (hvw : vw.ownBlock ≠ some gt) (F : Fr (fun _ => False) w0 w) (G : w.heap[gt]? = some (.cells (tbl fun _ => false) 54 (0, 0))) (hg0 : w0.heap.size ≤ gt) (hg1 : gt ≠ d) (hg2 : gt ≠ bn) (hg3 : gt ≠ bl) (t : Array Value) (hn : t.size = 112)
    (p0 : t[0]? = some v0) (p1 : t[1]? = some v1) (p2 : t[2]? = some v2) (p7 : t[7]? = some (.pointer (some ⟨d, 0, none⟩))) (p9 : t[9]? = some (.pointer (some ⟨gt, 0, none⟩))) (p11 : t[11]? = some (.int .i64 0))
    (hexit : ∀ t' w' N v' wr ws Tf, t'.size = 112 → t'[0]? = some v0 → t'[2]? = some v2 → t'[7]? = some (.pointer (some ⟨d, 0, none⟩)) → t'[9]? = some (.pointer (some ⟨gt, 0, none⟩)) → DA w' d bn bl 8 N L ws v' wr 0 false w0.heap.size → ws.length ≤ 20 → (∀ j, Tf j = false → ∀ p ∈ ws, p.1 ≠ j) → Fr (fun _ => False) w0 w' → w'.heap[gt]? = some (.cells (tbl Tf) 54 (0, 0)) → Q (.exit 2) ⟨t', []⟩ w') :
    Code.wp Try.prog (.loop (loopAt Try.f5 1)) Q ⟨t, []⟩ w := by
  obtain ⟨a, cap, rfl, hl, hc⟩ := hb
  have hmx : js.length < 9223372036854775808 := by simp only [maxLen] at hl; omega
  refine wp_loop_up (min js.length 20) (fun k t w' => t.size = 112 ∧ t[0]? = some v0 ∧ t[1]? = some (.slice a js.length cap) ∧ t[2]? = some v2 ∧ t[7]? = some (.pointer (some ⟨d, 0, none⟩)) ∧ t[9]? = some (.pointer (some ⟨gt, 0, none⟩)) ∧ t[11]? = some (.int .i64 (k : Int)) ∧ (∃ N ws v wr Tf, DA w' d bn bl 8 N L ws v wr 0 false w0.heap.size ∧ v.ownBlock ≠ some gt ∧ ws.length ≤ k ∧ 0 ≤ wr ∧ wr ≤ 8 + (k : Int) ∧ (∀ j, Tf j = false → ∀ p ∈ ws, p.1 ≠ j) ∧ w'.heap[gt]? = some (.cells (tbl Tf) 54 (0, 0))) ∧ Fr (fun _ => False) w0 w') t w ⟨hn, p0, p1, p2, p7, p9, p11, ⟨N, [], vw, wr0, fun _ => false, D, hvw, Nat.zero_le _, hr0, by omega, fun j _ p hp => by simp at hp, G⟩, F⟩ ?_
  clear hn p0 p1 p2 p7 p9 p11 t D F G N hr0 hr1 hvw vw wr0
  rintro k t w1 hk ⟨hn, p0, p1, p2, p7, p9, p11, ⟨N, ws, v, wr, Tf, D, hv, hws, hr0, hr1, hT, G1⟩, F1⟩ K hK
  obtain ⟨f, hff, rfl⟩ := frame_open hn
  have e0 := hff 0 _ p0
  have e1 := hff 1 _ p1
  have e2 := hff 2 _ p2
  have e7 := hff 7 _ p7
  have e9 := hff 9 _ p9
  have e11 := hff 11 _ p11
  clear hff hn p0 p1 p2 p7 p9 p11
  rw [lit112, e0, e1, e2, e7, e9, e11]
  clear e0 e1 e2 e7 e9 e11
  conv => arg 2; whnf
  have HE := Lib.hid hexit
  have HK := Lib.hid hK
  have HD := Lib.hid D
  have HF := Lib.hid F1
  have HC := Lib.hid hc
  have HT := Lib.hid hT
  clear hexit hK D hc hT
  have w4 : wrap64 ((k : Int) + 1) = (k : Int) + 1 := IntWalk.wrap64_in _ (by omega)
  have v4 : IntKind.i64.wrap ((k : Int) + 1) = (k : Int) + 1 := IntWalk.i64_in _ (by omega)
  by_cases hlt : k < min js.length 20
  · have q8 : (k : Int) < 20 := by omega
    have ql : (k : Int) < (js.length : Int) := by omega
    have q0 : (0 : Int) ≤ (k : Int) := by omega
    obtain ⟨x, hx⟩ : ∃ x, js[k]? = some x := ⟨_, List.getElem?_eq_getElem (by omega)⟩
    obtain ⟨g, o, kv, rfl, hgl, hc0, hc1, hc2, hc3, _, hs0, hs1⟩ := HC.out k x hx
    obtain ⟨z, q, hz, hq, hq2, hq8⟩ := spot8 x.spot hs1
    have c1 : w1.cell? ⟨g, o + k * 4 + 1, none⟩ = some (.int .i64 x.spot) := by rw [cell_fr F1 hgl (fun h => h)]; exact hc1
    have c2 : w1.cell? ⟨g, o + k * 4 + 2, none⟩ = some (.int .u8 (x.by1.toNat : Int)) := by rw [cell_fr F1 hgl (fun h => h)]; exact hc2
    have r1 : IntKind.u64.wrap (q : Int) = (q : Int) := IntWalk.u64_in _ (by omega)
    have r2 : IntKind.i64.wrap (q : Int) = (q : Int) := IntWalk.i64_in _ (by omega)
    have r3 : wrap64 (q : Int) = (q : Int) := IntWalk.wrap64_in _ (by omega)
    obtain ⟨sp, hsp⟩ : ∃ sp, x.spot = sp := ⟨_, rfl⟩
    obtain ⟨xb, hxb⟩ : ∃ xb, x.by1 = xb := ⟨_, rfl⟩
    rw [hsp] at c1 hz
    rw [hxb] at c2
    have qi8 : (q : Int) < 8 := Int.ofNat_lt.2 hq8
    have qi0 : (0 : Int) ≤ (q : Int) := Int.natCast_nonneg q
    clear hc0 hc1 hc2 hc3 F1 hs0 hs1 hx hsp hxb
    go_wp2_with fail
    rw [bld2b xb]
    have hlen : ws.length < 1000000000000 := by omega
    have hin : In64 (wr + 1) := by unfold In64; omega
    refine (write_any HD.out hlen hin (by unfold In64; omega) (by decide) q hq8 (b2 xb)).mono ?_
    rintro e w2 ⟨rfl, v', D2, O2, F2⟩
    have F02 := HD.out.grow HF.out F2 wt_tch
    have G2 := (F2.block gt (lt_of_block G1) (wt_not hg1 hg2 hv)).trans G1
    have hv2 := own_not O2 hv (lt_of_block G1)
    have HD2 := Lib.hid D2
    have szb : (Try.prog.info? 4).map (·.size) = some 1 := by kernel_rfl
    clear F2 O2 D2 c1 c2
    go_wp2_with (focus ((with_reducible refine wpList_store_one ?p0 4 (.tmp 76) (.const (.bool true)) ?p1 gt q ?p2 (.bool true) ?p3 ?p4 ?p5 szb 54 _ G2 ?p6 ?p7); (case p0 => rfl); (case p1 => rfl); (case p2 => rfl); (case p3 => rfl); (case p4 => rfl); (case p5 => rfl); (case p6 => rw [tbl_size]; exact hq8); intro w3 G3 F3; (simp only [Act.put, List.setIfInBounds_toArray, List.set_cons_zero, List.set_cons_succ])))
    rw [tbl_set Tf q hq8] at G3
    have D3 : DA w3 d bn bl 8 (bset N q (b2 xb)) L (ws ++ [(q, b2 xb)]) v' (wr + 1) 0 false w0.heap.size := HD2.out.fr F3 (fun j hj e => by
      have e : j = gt := e
      subst e
      rcases hj with e | e | e | e
      · exact hg1 e
      · exact hg2 e
      · exact hg3 e
      · exact hv2 e)
    refine HK.out _ _ hlt ⟨rfl, rfl, rfl, rfl, rfl, rfl, by simp, ⟨_, _, v', wr + 1, _, D3, hv2, by simp; omega, by omega, by omega, ?_, G3⟩, F02.trans F3 (fun j e => Or.inr (by have e : j = gt := e; omega))⟩
    intro j hj p hp
    have hj2 : j ≠ q ∧ Tf j = false := by
      by_cases e : j = q
      · simp [e] at hj
      · simpa [e] using hj
    rcases List.mem_append.1 hp with hp | hp
    · exact HT.out j hj2.2 p hp
    · have : p = (q, b2 xb) := by simpa using hp
      rw [this]; exact fun e => hj2.1 e.symm
  · have hkm : k = min js.length 20 := by omega
    by_cases h8 : k < js.length
    · have ql : (k : Int) < (js.length : Int) := by omega
      have q8 : ¬ ((k : Int) < 20) := by omega
      have t2 : decide ((k : Int) < 20) = false := by simpa using q8
      have hw20 : ws.length ≤ 20 := by omega
      clear hkm hr0 hr1
      go_wp2_with fail
      exact HE.out _ _ _ v _ _ _ rfl rfl rfl rfl rfl HD.out hw20 HT.out HF.out G1
    · have ql : ¬ ((k : Int) < (js.length : Int)) := by omega
      have t2 : decide ((k : Int) < (js.length : Int)) = false := by simpa using ql
      have hw20 : ws.length ≤ 20 := by omega
      clear hkm hr0 hr1
      go_wp2_with fail
      exact HE.out _ _ _ v _ _ _ rfl rfl rfl rfl rfl HD.out hw20 HT.out HF.out G1
end Go.Proofs.Ytgladedjgjhlaaa

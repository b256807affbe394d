/-
  CacheApart: the law.
-/
import Derived.Test.YtkigdgkklninoaaWm
namespace Go.Proofs.Ytkigdgkklninoaa
open Go.RowKit
set_option linter.unusedVariables false
set_option linter.unusedSimpArgs false
theorem own_down {w : World} {b b' : Nat} {e : TypeId} {size : Nat} {v : Value} {n : Nat} {xs : List Value} (h : w.ownsRow b e size v n xs) (hb : b' ≤ b) : w.ownsRow b' e size v n xs := by
  refine ⟨h.1, ?_⟩
  rcases h.2 with h2 | ⟨g, c, gc, e1, e2, r⟩
  · exact .inl h2
  · exact .inr ⟨g, c, gc, e1, Nat.le_trans hb e2, r⟩
theorem CS.down {w : World} {b b' cb pb n sz : Nat} {cur : Array Value} {f : Nat → Ps} {q : Int} (C : CS w b cb pb n sz cur f q) (hb : b' ≤ b) : CS w b' cb pb n sz cur f q :=
  ⟨C.blk, fun i hi => ⟨(C.pt i hi).blk, (C.pt i hi).kept, (C.pt i hi).hits, (C.pt i hi).miss, own_down (C.pt i hi).own hb, (C.pt i hi).apart⟩, C.cp, C.cv, C.vv, C.len, C.s1, C.s2, C.cnt, Nat.le_trans hb C.b1, Nat.le_trans hb C.b2, C.n0⟩
set_option maxRecDepth 100000 in
set_option maxHeartbeats 6400000 in
theorem apart_loop {Q : Exit → Act → World → Prop} {w0 w : World} {ca cb c1 c2 : Nat} {a1 a2 : Option Addr} {l1 l2 : List Jb} (hl1 : ∀ j x, l1[j]? = some x → ∃ g o, a1 = some ⟨g, o, none⟩ ∧ g < w0.heap.size ∧ w0.cell? ⟨g, o + j * 4, none⟩ = some (.int .i64 x.what) ∧ w0.cell? ⟨g, o + j * 4 + 1, none⟩ = some (.int .i64 x.part) ∧ w0.cell? ⟨g, o + j * 4 + 2, none⟩ = some (.string x.name) ∧ w0.cell? ⟨g, o + j * 4 + 3, none⟩ = some (.string x.kept) ∧ In64 x.what ∧ In64 x.part) (hl2 : ∀ j x, l2[j]? = some x → ∃ g o, a2 = some ⟨g, o, none⟩ ∧ g < w0.heap.size ∧ w0.cell? ⟨g, o + j * 4, none⟩ = some (.int .i64 x.what) ∧ w0.cell? ⟨g, o + j * 4 + 1, none⟩ = some (.int .i64 x.part) ∧ w0.cell? ⟨g, o + j * 4 + 2, none⟩ = some (.string x.name) ∧ w0.cell? ⟨g, o + j * 4 + 3, none⟩ = some (.string x.kept) ∧ In64 x.what ∧ In64 x.part) (hm1 : l1.length ≤ maxLen) (S : Rd w0 w ca cb 0) (fr : Array Value) (hn : fr.size = 141) (p0 : fr[0]? = some (.slice a1 l1.length c1)) (p1 : fr[1]? = some (.slice a2 l2.length c2)) (p5 : fr[5]? = some (.pointer (some ⟨ca, 0, none⟩))) (p7 : fr[7]? = some (.pointer (some ⟨cb, 0, none⟩))) (p9 : fr[9]? = some (.int .i64 (0)))
    (hexit : ∀ t' w', t'.size = 141 → Fr (fun _ => False) w0 w' → Q (.exit 0) ⟨t', []⟩ w') :
    Code.wp Try.prog (.loop (loopAt Try.f5 0)) Q ⟨fr, []⟩ w := by
  refine wp_loop_up (min l1.length 40) (fun k t w' => t.size = 141 ∧ t[0]? = some (.slice a1 l1.length c1) ∧ t[1]? = some (.slice a2 l2.length c2) ∧ t[5]? = some (.pointer (some ⟨ca, 0, none⟩)) ∧ t[7]? = some (.pointer (some ⟨cb, 0, none⟩)) ∧ t[9]? = some (.int .i64 (k : Int)) ∧ Rd w0 w' ca cb k) fr w ⟨hn, p0, p1, p5, p7, p9, S⟩ ?_
  clear hn p0 p1 p5 p7 p9 fr S
  rintro k fr w1 hk ⟨hn, p0, p1, p5, p7, p9, S⟩ K hK
  by_cases hlt : k < min l1.length 40
  · obtain ⟨x, hx⟩ : ∃ x, l1[k]? = some x := ⟨_, List.getElem?_eq_getElem (by omega)⟩
    have hK2 := fun t' w' b0 b1 b2 b3 b4 b5 b6 => hK t' w' hlt ⟨b0, b1, b2, b3, b4, b5, b6⟩
    by_cases h2 : k < l2.length
    · obtain ⟨y, hy⟩ : ∃ y, l2[k]? = some y := ⟨_, List.getElem?_eq_getElem h2⟩
      exact apart_some (K := K) (Q := Q) (k := k) hl1 hx hm1 (by omega) S hl2 hy fr hn p0 p1 p5 p7 p9 hK2
    · exact apart_none (K := K) (Q := Q) (k := k) hl1 hx hm1 (by omega) S (by omega) fr hn p0 p1 p5 p7 p9 hK2
  · have hor : ¬ ((k : Int) < (l1.length : Int)) ∨ ((k : Int) < (l1.length : Int)) ∧ ¬ ((k : Int) < 40) := by omega
    obtain ⟨d, T⟩ := S
    have HE := Lib.hid hexit
    have HF := Lib.hid T.fr
    clear hexit T hK hk hlt hl1 hl2 hm1
    obtain ⟨f, hff, rfl⟩ := frame_open hn
    have e0 := hff 0 _ p0
    have e1 := hff 1 _ p1
    have e5 := hff 5 _ p5
    have e7 := hff 7 _ p7
    have e9 := hff 9 _ p9
    clear hff hn p0 p1 p5 p7 p9
    rw [lit141, e0, e1, e5, e7, e9]
    clear e0 e1 e5 e7 e9
    conv => arg 2; whnf
    rcases hor with h1 | ⟨h1, h2⟩
    · go_wp2_with fail
      exact HE.out _ _ rfl HF.out
    · go_wp2_with fail
      exact HE.out _ _ rfl HF.out
set_option maxRecDepth 100000 in
set_option maxHeartbeats 6400000 in
theorem apart_any (v0 v1 : Value) (l1 l2 : List Jb) (w : World) (h0 : JL w v0 l1) (h1 : JL w v1 l2) : Calls Try.prog 5 #[v0, v1] w fun e w' => e = .returned (.bool true) ∧ Fr (fun _ => False) w w' := by
  obtain ⟨a1, c1, rfl, hm1, hl1⟩ := h0
  obtain ⟨a2, c2, rfl, hm2, hl2⟩ := h1
  have HM := Lib.hid hm1
  have HL1 := Lib.hid hl1
  have HL2 := Lib.hid hl2
  clear hm1 hm2 hl1 hl2
  go_enter Try.func5, Try.ntmps5
  go_wp2_with fail
  refine (new_cs 2 3 (by decide) (by decide) (by decide) (by decide) w).mono ?_
  rintro e w1 ⟨ca, pa, xa, rfl, CA, FA⟩
  have HCA := Lib.hid CA
  have HFA := Lib.hid FA
  clear CA FA
  go_wp2_with fail
  refine (new_cs 2 3 (by decide) (by decide) (by decide) (by decide) w1).mono ?_
  rintro e w2 ⟨cb, pb, xb, rfl, CB, FB⟩
  have T : Rd w w2 ca cb 0 := ⟨⟨[], 0, 0⟩, ⟨⟨pa, xa, _, pb, xb, _, HCA.out.fr FB (fun _ _ h => h), CB.down HFA.out.size, ⟨rfl, rfl, rfl⟩, ⟨rfl, rfl, rfl⟩, fun k k1 k2 => by
    have g1 := (HCA.out.lt k k1).2
    have g2 := (CB.lt k k2).1
    omega, fun p hp => by cases hp⟩, HFA.out.trans FB (fun _ h => h.elim)⟩⟩
  obtain ⟨d, T⟩ := T
  have HT := Lib.hid T
  clear CB FB T
  go_wp2_with fail
  refine (caches_any w2).mono ?_
  rintro e w3 ⟨rfl, F3⟩
  have HS := Lib.hid (show Rd w w3 ca cb 0 from ⟨d, HT.out.ext F3⟩)
  clear F3
  go_wp2_with fail
  refine apart_loop (w0 := w) (ca := ca) (cb := cb) (c1 := c1) (c2 := c2) HL1.out HL2.out HM.out HS.out _ rfl rfl rfl rfl rfl rfl ?_
  intro t' w4 hn F4
  have HF4 := Lib.hid F4
  obtain ⟨ff, hff, rfl⟩ := frame_open hn
  rw [lit141]
  clear hff hn F4
  go_wp2_with fail
  go_ret
  exact ⟨rfl, HF4.out⟩
end Go.Proofs.Ytkigdgkklninoaa

/-
  CadenceApart: the loop, and the law.
-/
import Derived.Test.YtcpapielklplcaaAq
namespace Go.Proofs.Ytcpapielklplcaa
open Go.RowKit
set_option linter.unusedVariables false
set_option linter.unusedSimpArgs false
set_option maxRecDepth 100000 in
set_option maxHeartbeats 6400000 in
theorem apart_loop {Q : Exit → Act → World → Prop} {w0 w : World} {pa pb c : Nat} {a : Option Addr} {l : List Jc} (hl : ∀ j x, l[j]? = some x → ∃ g o, a = some ⟨g, o, none⟩ ∧ g < w0.heap.size ∧ JC w0 g (o + j * 4) x) (hm : l.length ≤ maxLen) (S : Rd w0 w pa pb 0) (fr : Array Value) (hn : fr.size = 135) (p2 : fr[2]? = some (.slice a l.length c)) (p7 : fr[7]? = some (.pointer (some ⟨pa, 0, none⟩))) (p9 : fr[9]? = some (.pointer (some ⟨pb, 0, none⟩))) (p13 : fr[13]? = some (.int .i64 (0)))
    (hexit : ∀ t' w', t'.size = 135 → Fr (fun _ => False) w0 w' → Q (.exit 0) ⟨t', []⟩ w') :
    Code.wp Try.prog (.loop (loopAt Try.f3 0)) Q ⟨fr, []⟩ w := by
  refine wp_loop_up 40 (fun k t w' => t.size = 135 ∧ t[2]? = some (.slice a l.length c) ∧ t[7]? = some (.pointer (some ⟨pa, 0, none⟩)) ∧ t[9]? = some (.pointer (some ⟨pb, 0, none⟩)) ∧ t[13]? = some (.int .i64 (k : Int)) ∧ Rd w0 w' pa pb k) fr w ⟨hn, p2, p7, p9, p13, S⟩ ?_
  clear hn p2 p7 p9 p13 fr S
  rintro k fr w1 hk ⟨hn, p2, p7, p9, p13, S⟩ K hK
  by_cases hlt : k < 40
  · have hK2 := fun t' w' b0 b1 b2 b3 b4 b5 => hK t' w' hlt ⟨b0, b1, b2, b3, b4, b5⟩
    by_cases h2 : k < l.length
    · obtain ⟨x, hx⟩ : ∃ x, l[k]? = some x := ⟨_, List.getElem?_eq_getElem h2⟩
      cases hi : isM x.id with
      | true => exact skip_m (K := K) (Q := Q) hl hm hlt S hx hi fr hn p2 p7 p9 p13 hK2
      | false => exact add_round (K := K) (Q := Q) hl hm hlt S hx hi fr hn p2 p7 p9 p13 hK2
    · exact skip_end (K := K) (Q := Q) hl hm hlt S (by omega) fr hn p2 p7 p9 p13 hK2
  · obtain rfl : k = 40 := by omega
    have q1 : ¬ (((40 : Nat) : Int) < 40) := by omega
    obtain ⟨A, B, T, R, _⟩ := S
    have HE := Lib.hid hexit
    have HF := Lib.hid T.fr
    clear hexit T R hK hk hlt hl hm
    obtain ⟨f, hff, rfl⟩ := frame_open hn
    have e2 := hff 2 _ p2
    have e7 := hff 7 _ p7
    have e9 := hff 9 _ p9
    have e13 := hff 13 _ p13
    clear hff hn p2 p7 p9 p13
    rw [lit135, e2, e7, e9, e13]
    clear e2 e7 e9 e13
    conv => arg 2; whnf
    go_wp2_with fail
    exact HE.out _ _ rfl HF.out
theorem rr_start (X : List Mb) (z0 z1 : Int) (h1 : z1 ≤ 9223372036854775807) (hX : X = if z0 < 1 ∨ 1000 < z0 ∨ z1 < 0 then [] else [⟨⟨#[109]⟩, z0, z1⟩]) : RR X X ∧ X.length ≤ 0 + 1 := by
  by_cases hbad : z0 < 1 ∨ 1000 < z0 ∨ z1 < 0
  · rw [if_pos hbad] at hX
    subst hX
    exact ⟨⟨fun x hx => (by cases hx), fun x hx => (by cases hx), by decide, .inl ⟨rfl, fun x hx => (by cases hx)⟩⟩, by decide⟩
  · rw [if_neg hbad] at hX
    subst hX
    have hg : Good [⟨⟨#[109]⟩, z0, z1⟩] := fun x hx => by
      obtain rfl := List.mem_singleton.1 hx
      refine ⟨?_, ?_, ?_, h1⟩ <;> (show _ ≤ _; simp only; omega)
    exact ⟨⟨hg, hg, Nat.le_refl _, .inr ⟨_, rfl, by kernel_rfl, List.mem_singleton.2 rfl, fun x hx _ => List.mem_singleton.1 hx⟩⟩, Nat.le_refl _⟩
set_option maxRecDepth 100000 in
set_option maxHeartbeats 6400000 in
theorem apart_any (z0 z1 : Int) (hz : z1 ≤ 9223372036854775807) (v : Value) (l : List Jc) (w : World) (hv : JL w v l) : Calls Try.prog 3 #[.int .i64 z0, .int .i64 z1, v] w fun e w' => e = .returned (.bool true) ∧ Fr (fun _ => False) w w' := by
  obtain ⟨a, cap, rfl, hm, hl⟩ := hv
  obtain ⟨r, hr⟩ : ∃ r : Int, r = if z0 < 1 ∨ 1000 < z0 ∨ z1 < 0 then 1 else 0 := ⟨_, rfl⟩
  obtain ⟨X, hX⟩ : ∃ X : List Mb, X = if z0 < 1 ∨ 1000 < z0 ∨ z1 < 0 then [] else [⟨⟨#[109]⟩, z0, z1⟩] := ⟨_, rfl⟩
  have HM := Lib.hid hm
  have HL := Lib.hid hl
  have HRX := Lib.hid (And.intro hr hX)
  have HRR := Lib.hid (rr_start X z0 z1 hz hX)
  clear hm hl hr hX hz
  go_enter Try.func3, Try.ntmps3
  go_wp2_with fail
  refine (new5 w).mono ?_
  rintro e w1 ⟨rfl, hA, F1⟩
  obtain ⟨pa, hpa⟩ : ∃ pa, pa = w.heap.size := ⟨_, rfl⟩
  rw [← hpa]
  have hA' : Sd w1 w.heap.size pa 5 (.slice none 0 0) [] := by rw [hpa]; exact hA
  have HA := Lib.hid hA'
  have HF1 := Lib.hid F1
  clear hA hA' F1 hpa
  go_wp2_with fail
  refine (new_tw w w1 HA.out HF1.out).mono ?_
  rintro e w2 ⟨pb, rfl, T2⟩
  have HT2 := Lib.hid T2
  clear T2
  go_wp2_with fail
  have HA1 := HT2.out.addm ⟨#[109]⟩ z0 z1
  rw [← HRX.out.1, ← HRX.out.2] at HA1
  refine HA1.mono ?_
  rintro e w3 ⟨rfl, T3⟩
  have HT3 := Lib.hid T3
  clear T3 HA1
  go_wp2_with fail
  have HA2 := HT3.out.swap.addm ⟨#[109]⟩ z0 z1
  rw [← HRX.out.1, ← HRX.out.2] at HA2
  refine HA2.mono ?_
  rintro e w4 ⟨rfl, T4⟩
  have HT4 := Lib.hid T4.swap
  clear T4 HA2
  go_wp2_with fail
  refine (beats_any w4).mono ?_
  rintro e w5 ⟨rfl, F5⟩
  have HS := Lib.hid (show Rd w w5 pa pb 0 from ⟨X, X, by simpa using HT4.out.ext F5, HRR.out.1, HRR.out.2⟩)
  clear F5
  have y1 : (r == r) = true := beq_self_eq_true _
  go_wp2_with fail
  refine apart_loop (w0 := w) (pa := pa) (pb := pb) (c := cap) HL.out HM.out HS.out _ rfl rfl rfl rfl rfl ?_
  intro t' w6 hn F6
  have HF6 := Lib.hid F6
  obtain ⟨ff, hff, rfl⟩ := frame_open hn
  rw [lit135]
  clear hff hn F6
  go_wp2_with fail
  go_ret
  exact ⟨rfl, HF6.out⟩
end Go.Proofs.Ytcpapielklplcaa

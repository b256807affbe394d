/-
  CacheJobs: the loop over the jobs, and the law.
-/
import Derived.Test.YtkigdgkklninoaaWw
import Derived.Test.YtkigdgkklninoaaWn
namespace Go.Proofs.Ytkigdgkklninoaa
open Go.RowKit
set_option linter.unusedVariables false
set_option linter.unusedSimpArgs false
theorem spot4 (s : Int) : ∃ z : Int, IntKind.u64.wrap s = z ∧ (z.tmod 4 = 0 ∨ z.tmod 4 = 1 ∨ z.tmod 4 = 2 ∨ z.tmod 4 = 3) := by
  obtain ⟨u, hu⟩ : ∃ u : Nat, IntKind.u64.wrap s = (u : Int) := ⟨(IntKind.u64.wrap s).toNat, by rw [IntKind.wrap_u64]; omega⟩
  refine ⟨u, hu, ?_⟩
  rw [Int.tmod_eq_emod_of_nonneg (by omega)]
  omega
set_option maxRecDepth 100000 in
set_option maxHeartbeats 6400000 in
theorem jobs_loop {Q : Exit → Act → World → Prop} {w0 w : World} {cb pw n sz c : Nat} {a : Option Addr} {l : List Jb} (hl : ∀ j x, l[j]? = some x → ∃ g o, a = some ⟨g, o, none⟩ ∧ g < w0.heap.size ∧ w0.cell? ⟨g, o + j * 4, none⟩ = some (.int .i64 x.what) ∧ w0.cell? ⟨g, o + j * 4 + 1, none⟩ = some (.int .i64 x.part) ∧ w0.cell? ⟨g, o + j * 4 + 2, none⟩ = some (.string x.name) ∧ w0.cell? ⟨g, o + j * 4 + 3, none⟩ = some (.string x.kept) ∧ In64 x.what ∧ In64 x.part) (hm : l.length ≤ maxLen) (hn8 : n ≤ 8) (S : Ro w0 w cb pw n sz 0) (fr : Array Value) (hn : fr.size = 252) (p0 : fr[0]? = some (.int .i64 (n : Int))) (p1 : fr[1]? = some (.int .i64 (sz : Int))) (p2 : fr[2]? = some (.slice a l.length c)) (p11 : fr[11]? = some (.pointer (some ⟨cb, 0, none⟩))) (p12 : fr[12]? = some (.int .i64 0)) (p13 : fr[13]? = some (.pointer (some ⟨pw, 0, none⟩))) (p15 : fr[15]? = some (.int .i64 (0)))
    (hexit : ∀ t' w', t'.size = 252 → t'[12]? = some (.int .i64 0) → Fr (fun _ => False) w0 w' → Q (.exit 2) ⟨t', []⟩ w') :
    Code.wp Try.prog (.loop (loopAt Try.f3 1)) Q ⟨fr, []⟩ w := by
  refine wp_loop_up (min l.length 50) (fun k t w' => t.size = 252 ∧ t[0]? = some (.int .i64 (n : Int)) ∧ t[1]? = some (.int .i64 (sz : Int)) ∧ t[2]? = some (.slice a l.length c) ∧ t[11]? = some (.pointer (some ⟨cb, 0, none⟩)) ∧ t[12]? = some (.int .i64 0) ∧ t[13]? = some (.pointer (some ⟨pw, 0, none⟩)) ∧ t[15]? = some (.int .i64 (k : Int)) ∧ Ro w0 w' cb pw n sz k) fr w ⟨hn, p0, p1, p2, p11, p12, p13, p15, S⟩ ?_
  clear hn p0 p1 p2 p11 p12 p13 p15 fr S
  rintro k fr w1 hk ⟨hn, p0, p1, p2, p11, p12, p13, p15, S⟩ K hK
  by_cases hlt : k < min l.length 50
  · obtain ⟨⟨wh, pt, nam, kep⟩, hx⟩ : ∃ x, l[k]? = some x := ⟨_, List.getElem?_eq_getElem (by omega)⟩
    have hK2 := fun t' w' b0 b1 b2 b3 b4 b5 b6 b7 b8 => hK t' w' hlt ⟨b0, b1, b2, b3, b4, b5, b6, b7, b8⟩
    have h50 : k < 50 := by omega
    by_cases hbad : pt < 0 ∨ (n : Int) ≤ pt
    · exact job_bad (K := K) (Q := Q) hl hx hm h50 hn8 S hbad fr hn p0 p1 p2 p11 p12 p13 p15 hK2
    obtain ⟨i, hi⟩ : ∃ i : Nat, pt = (i : Int) := ⟨pt.toNat, by omega⟩
    have hin : i < n := by omega
    obtain ⟨z, hz, hq | hq | hq | hq⟩ := spot4 wh
    · exact job_none (K := K) (Q := Q) hl hx hm h50 hn8 S hi hin hz hq fr hn p0 p1 p2 p11 p12 p13 p15 hK2
    · exact job_get (K := K) (Q := Q) hl hx hm h50 hn8 S hi hin hz hq fr hn p0 p1 p2 p11 p12 p13 p15 hK2
    · exact job_put (K := K) (Q := Q) hl hx hm h50 hn8 S hi hin hz hq fr hn p0 p1 p2 p11 p12 p13 p15 hK2
    · exact job_drop (K := K) (Q := Q) hl hx hm h50 hn8 S hi hin hz hq fr hn p0 p1 p2 p11 p12 p13 p15 hK2
  · have hor : ¬ ((k : Int) < (l.length : Int)) ∨ ((k : Int) < (l.length : Int)) ∧ ¬ ((k : Int) < 50) := by omega
    obtain ⟨df, dr, T, R⟩ := S
    have HE := Lib.hid hexit
    have HF := Lib.hid T.fr
    clear hexit T R hK hk hlt hl hm hn8
    obtain ⟨f, hff, rfl⟩ := frame_open hn
    have e0 := hff 0 _ p0
    have e1 := hff 1 _ p1
    have e2 := hff 2 _ p2
    have e11 := hff 11 _ p11
    have e12 := hff 12 _ p12
    have e13 := hff 13 _ p13
    have e15 := hff 15 _ p15
    clear hff hn p0 p1 p2 p11 p12 p13 p15
    rw [lit252, e0, e1, e2, e11, e12, e13, e15]
    clear e0 e1 e2 e11 e12 e13 e15
    conv => arg 2; whnf
    rcases hor with h1 | ⟨h1, h2⟩
    · go_wp2_with fail
      exact HE.out _ _ rfl rfl HF.out
    · go_wp2_with fail
      exact HE.out _ _ rfl rfl HF.out
set_option maxRecDepth 100000 in
set_option maxHeartbeats 6400000 in
theorem bad1 (z0 z1 : Int) (h0 : z0 < 1) (v : Value) (l : List Jb) (w : World) (hv : JL w v l) : Calls Try.prog 3 #[.int .i64 z0, .int .i64 z1, v] w fun e w' => e = .returned (.bool true) ∧ Fr (fun _ => False) w w' := by
  obtain ⟨a, cap, rfl, hm, hl⟩ := hv
  have HB := Lib.hid (show z0 < 1 ∨ 8 < z0 ∨ z1 < 1 ∨ 256 < z1 from Or.inl h0)
  clear hm hl
  go_enter Try.func3, Try.ntmps3
  go_wp2_with fail
  refine (none_any w).mono ?_
  rintro e w1 ⟨rfl, rfl⟩
  go_wp2_with fail
  refine (get_bad _ _ _ w (part_nil 0 w)).mono ?_
  rintro e w1 ⟨rfl, rfl⟩
  go_wp2_with fail
  refine (none_any w).mono ?_
  rintro e w1 ⟨rfl, rfl⟩
  go_wp2_with fail
  refine (hits_bad _ _ w (part_nil 0 w)).mono ?_
  rintro e w1 ⟨rfl, rfl⟩
  go_wp2_with fail
  refine (caches_any w).mono ?_
  rintro e w1 ⟨rfl, F1⟩
  have HF1 := Lib.hid F1
  clear F1
  go_wp2_with fail
  refine (none_any w1).mono ?_
  rintro e w2 ⟨rfl, rfl⟩
  go_wp2_with fail
  refine (put_bad _ _ _ _ w1 (part_nil 0 w1)).mono ?_
  rintro e w2 ⟨rfl, rfl⟩
  go_wp2_with fail
  refine (none_any w1).mono ?_
  rintro e w2 ⟨rfl, rfl⟩
  go_wp2_with fail
  refine (drop_bad _ _ w1 (part_nil 0 w1)).mono ?_
  rintro e w2 ⟨rfl, rfl⟩
  go_wp2_with fail
  refine (none_any w1).mono ?_
  rintro e w2 ⟨rfl, rfl⟩
  go_wp2_with fail
  refine (names_bad _ _ w1 (part_nil 0 w1)).mono ?_
  rintro e w2 ⟨rfl, rfl⟩
  go_wp2_with fail
  refine (new_bad _ _ HB.out w1).mono ?_
  rintro e w2 ⟨rfl, rfl⟩
  go_wp2_with fail
  go_ret
  exact ⟨rfl, HF1.out⟩
set_option maxRecDepth 100000 in
set_option maxHeartbeats 6400000 in
theorem bad2 (z0 z1 : Int) (h0 : ¬ z0 < 1) (h1 : 8 < z0) (v : Value) (l : List Jb) (w : World) (hv : JL w v l) : Calls Try.prog 3 #[.int .i64 z0, .int .i64 z1, v] w fun e w' => e = .returned (.bool true) ∧ Fr (fun _ => False) w w' := by
  obtain ⟨a, cap, rfl, hm, hl⟩ := hv
  have HB := Lib.hid (show z0 < 1 ∨ 8 < z0 ∨ z1 < 1 ∨ 256 < z1 from Or.inr (Or.inl h1))
  clear hm hl
  go_enter Try.func3, Try.ntmps3
  go_wp2_with fail
  refine (none_any w).mono ?_
  rintro e w1 ⟨rfl, rfl⟩
  go_wp2_with fail
  refine (get_bad _ _ _ w (part_nil 0 w)).mono ?_
  rintro e w1 ⟨rfl, rfl⟩
  go_wp2_with fail
  refine (none_any w).mono ?_
  rintro e w1 ⟨rfl, rfl⟩
  go_wp2_with fail
  refine (hits_bad _ _ w (part_nil 0 w)).mono ?_
  rintro e w1 ⟨rfl, rfl⟩
  go_wp2_with fail
  refine (caches_any w).mono ?_
  rintro e w1 ⟨rfl, F1⟩
  have HF1 := Lib.hid F1
  clear F1
  go_wp2_with fail
  refine (none_any w1).mono ?_
  rintro e w2 ⟨rfl, rfl⟩
  go_wp2_with fail
  refine (put_bad _ _ _ _ w1 (part_nil 0 w1)).mono ?_
  rintro e w2 ⟨rfl, rfl⟩
  go_wp2_with fail
  refine (none_any w1).mono ?_
  rintro e w2 ⟨rfl, rfl⟩
  go_wp2_with fail
  refine (drop_bad _ _ w1 (part_nil 0 w1)).mono ?_
  rintro e w2 ⟨rfl, rfl⟩
  go_wp2_with fail
  refine (none_any w1).mono ?_
  rintro e w2 ⟨rfl, rfl⟩
  go_wp2_with fail
  refine (names_bad _ _ w1 (part_nil 0 w1)).mono ?_
  rintro e w2 ⟨rfl, rfl⟩
  go_wp2_with fail
  refine (new_bad _ _ HB.out w1).mono ?_
  rintro e w2 ⟨rfl, rfl⟩
  go_wp2_with fail
  go_ret
  exact ⟨rfl, HF1.out⟩
set_option maxRecDepth 100000 in
set_option maxHeartbeats 6400000 in
theorem bad3 (z0 z1 : Int) (h0 : ¬ z0 < 1) (h1 : ¬ 8 < z0) (h2 : z1 < 1) (v : Value) (l : List Jb) (w : World) (hv : JL w v l) : Calls Try.prog 3 #[.int .i64 z0, .int .i64 z1, v] w fun e w' => e = .returned (.bool true) ∧ Fr (fun _ => False) w w' := by
  obtain ⟨a, cap, rfl, hm, hl⟩ := hv
  have HB := Lib.hid (show z0 < 1 ∨ 8 < z0 ∨ z1 < 1 ∨ 256 < z1 from Or.inr (Or.inr (Or.inl h2)))
  clear hm hl
  go_enter Try.func3, Try.ntmps3
  go_wp2_with fail
  refine (none_any w).mono ?_
  rintro e w1 ⟨rfl, rfl⟩
  go_wp2_with fail
  refine (get_bad _ _ _ w (part_nil 0 w)).mono ?_
  rintro e w1 ⟨rfl, rfl⟩
  go_wp2_with fail
  refine (none_any w).mono ?_
  rintro e w1 ⟨rfl, rfl⟩
  go_wp2_with fail
  refine (hits_bad _ _ w (part_nil 0 w)).mono ?_
  rintro e w1 ⟨rfl, rfl⟩
  go_wp2_with fail
  refine (caches_any w).mono ?_
  rintro e w1 ⟨rfl, F1⟩
  have HF1 := Lib.hid F1
  clear F1
  go_wp2_with fail
  refine (none_any w1).mono ?_
  rintro e w2 ⟨rfl, rfl⟩
  go_wp2_with fail
  refine (put_bad _ _ _ _ w1 (part_nil 0 w1)).mono ?_
  rintro e w2 ⟨rfl, rfl⟩
  go_wp2_with fail
  refine (none_any w1).mono ?_
  rintro e w2 ⟨rfl, rfl⟩
  go_wp2_with fail
  refine (drop_bad _ _ w1 (part_nil 0 w1)).mono ?_
  rintro e w2 ⟨rfl, rfl⟩
  go_wp2_with fail
  refine (none_any w1).mono ?_
  rintro e w2 ⟨rfl, rfl⟩
  go_wp2_with fail
  refine (names_bad _ _ w1 (part_nil 0 w1)).mono ?_
  rintro e w2 ⟨rfl, rfl⟩
  go_wp2_with fail
  refine (new_bad _ _ HB.out w1).mono ?_
  rintro e w2 ⟨rfl, rfl⟩
  go_wp2_with fail
  go_ret
  exact ⟨rfl, HF1.out⟩
set_option maxRecDepth 100000 in
set_option maxHeartbeats 6400000 in
theorem bad4 (z0 z1 : Int) (h0 : ¬ z0 < 1) (h1 : ¬ 8 < z0) (h2 : ¬ z1 < 1) (h3 : 256 < z1) (v : Value) (l : List Jb) (w : World) (hv : JL w v l) : Calls Try.prog 3 #[.int .i64 z0, .int .i64 z1, v] w fun e w' => e = .returned (.bool true) ∧ Fr (fun _ => False) w w' := by
  obtain ⟨a, cap, rfl, hm, hl⟩ := hv
  have HB := Lib.hid (show z0 < 1 ∨ 8 < z0 ∨ z1 < 1 ∨ 256 < z1 from Or.inr (Or.inr (Or.inr h3)))
  clear hm hl
  go_enter Try.func3, Try.ntmps3
  go_wp2_with fail
  refine (none_any w).mono ?_
  rintro e w1 ⟨rfl, rfl⟩
  go_wp2_with fail
  refine (get_bad _ _ _ w (part_nil 0 w)).mono ?_
  rintro e w1 ⟨rfl, rfl⟩
  go_wp2_with fail
  refine (none_any w).mono ?_
  rintro e w1 ⟨rfl, rfl⟩
  go_wp2_with fail
  refine (hits_bad _ _ w (part_nil 0 w)).mono ?_
  rintro e w1 ⟨rfl, rfl⟩
  go_wp2_with fail
  refine (caches_any w).mono ?_
  rintro e w1 ⟨rfl, F1⟩
  have HF1 := Lib.hid F1
  clear F1
  go_wp2_with fail
  refine (none_any w1).mono ?_
  rintro e w2 ⟨rfl, rfl⟩
  go_wp2_with fail
  refine (put_bad _ _ _ _ w1 (part_nil 0 w1)).mono ?_
  rintro e w2 ⟨rfl, rfl⟩
  go_wp2_with fail
  refine (none_any w1).mono ?_
  rintro e w2 ⟨rfl, rfl⟩
  go_wp2_with fail
  refine (drop_bad _ _ w1 (part_nil 0 w1)).mono ?_
  rintro e w2 ⟨rfl, rfl⟩
  go_wp2_with fail
  refine (none_any w1).mono ?_
  rintro e w2 ⟨rfl, rfl⟩
  go_wp2_with fail
  refine (names_bad _ _ w1 (part_nil 0 w1)).mono ?_
  rintro e w2 ⟨rfl, rfl⟩
  go_wp2_with fail
  refine (new_bad _ _ HB.out w1).mono ?_
  rintro e w2 ⟨rfl, rfl⟩
  go_wp2_with fail
  go_ret
  exact ⟨rfl, HF1.out⟩
set_option maxRecDepth 100000 in
set_option maxHeartbeats 6400000 in
theorem zero32 : (#[.int .i64 0, .slice none 0 0, .int .i64 0, .int .i64 0, .int .i64 0, .slice none 0 0, .int .i64 0, .int .i64 0, .int .i64 0, .slice none 0 0, .int .i64 0, .int .i64 0, .int .i64 0, .slice none 0 0, .int .i64 0, .int .i64 0, .int .i64 0, .slice none 0 0, .int .i64 0, .int .i64 0, .int .i64 0, .slice none 0 0, .int .i64 0, .int .i64 0, .int .i64 0, .slice none 0 0, .int .i64 0, .int .i64 0, .int .i64 0, .slice none 0 0, .int .i64 0, .int .i64 0] : Array Value).size = 32 ∧ ∀ j, j < 8 → (#[.int .i64 0, .slice none 0 0, .int .i64 0, .int .i64 0, .int .i64 0, .slice none 0 0, .int .i64 0, .int .i64 0, .int .i64 0, .slice none 0 0, .int .i64 0, .int .i64 0, .int .i64 0, .slice none 0 0, .int .i64 0, .int .i64 0, .int .i64 0, .slice none 0 0, .int .i64 0, .int .i64 0, .int .i64 0, .slice none 0 0, .int .i64 0, .int .i64 0, .int .i64 0, .slice none 0 0, .int .i64 0, .int .i64 0, .int .i64 0, .slice none 0 0, .int .i64 0, .int .i64 0] : Array Value)[j * 4 + 1]? = some (.slice none 0 0) ∧ (#[.int .i64 0, .slice none 0 0, .int .i64 0, .int .i64 0, .int .i64 0, .slice none 0 0, .int .i64 0, .int .i64 0, .int .i64 0, .slice none 0 0, .int .i64 0, .int .i64 0, .int .i64 0, .slice none 0 0, .int .i64 0, .int .i64 0, .int .i64 0, .slice none 0 0, .int .i64 0, .int .i64 0, .int .i64 0, .slice none 0 0, .int .i64 0, .int .i64 0, .int .i64 0, .slice none 0 0, .int .i64 0, .int .i64 0, .int .i64 0, .slice none 0 0, .int .i64 0, .int .i64 0] : Array Value)[j * 4 + 2]? = some (.int .i64 0) ∧ (#[.int .i64 0, .slice none 0 0, .int .i64 0, .int .i64 0, .int .i64 0, .slice none 0 0, .int .i64 0, .int .i64 0, .int .i64 0, .slice none 0 0, .int .i64 0, .int .i64 0, .int .i64 0, .slice none 0 0, .int .i64 0, .int .i64 0, .int .i64 0, .slice none 0 0, .int .i64 0, .int .i64 0, .int .i64 0, .slice none 0 0, .int .i64 0, .int .i64 0, .int .i64 0, .slice none 0 0, .int .i64 0, .int .i64 0, .int .i64 0, .slice none 0 0, .int .i64 0, .int .i64 0] : Array Value)[j * 4 + 3]? = some (.int .i64 0) := by
  refine ⟨rfl, fun j hj => ?_⟩
  have h : j = 0 ∨ j = 1 ∨ j = 2 ∨ j = 3 ∨ j = 4 ∨ j = 5 ∨ j = 6 ∨ j = 7 := by omega
  rcases h with rfl | rfl | rfl | rfl | rfl | rfl | rfl | rfl <;> exact ⟨rfl, rfl, rfl⟩
theorem ro_start {w w2 w3 : World} {cb pb n sz : Nat} {cur cu cu0 : Array Value} (C : CS w2 w.heap.size cb pb n sz cur (fun _ => ⟨.slice none 0 0, [], 0, 0⟩ : Nat → Ps) 0) (F : Fr (fun _ => False) w w2) (hb : w3.heap[w2.heap.size]? = some (.cells cu 40 (0, 0))) (hz : ∀ j, j < 8 → cu[j * 4]? = some (.int .i64 (sz : Int)) ∧ cu[j * 4 + 1]? = some (.slice none 0 0) ∧ cu[j * 4 + 2]? = some (.int .i64 0) ∧ cu[j * 4 + 3]? = some (.int .i64 0)) (G : Fr (fun b => b = w2.heap.size) (w2.alloc (.cells cu0 40)) w3) : Ro w w3 cb w2.heap.size n sz 0 := by
  have G2 : Fr (fun b => b = w2.heap.size) w2 w3 := ((Fr.refl (fun b => b = w2.heap.size) w2).alloc (.cells cu0 40)).trans G (fun _ h => .inl h)
  refine ⟨(fun _ => ⟨[], 0, 0⟩ : Nat → Dt), (fun _ => ⟨[], 0, 0⟩ : Nat → Dt), ⟨⟨pb, cur, (fun _ => ⟨.slice none 0 0, [], 0, 0⟩ : Nat → Ps), cu, (fun _ => ⟨.slice none 0 0, [], 0, 0⟩ : Nat → Ps), C.fr G2 (fun k hk e => ?_), ⟨fun i hi => ⟨hb, (hz i hi).1, (hz i hi).2.1, (hz i hi).2.2.1, (hz i hi).2.2.2, World.ownsRow_nil _ _ _ _, by simp [Value.ownBlock]⟩, F.size⟩, fun i hi => ⟨rfl, rfl, rfl⟩, fun i hi => ⟨rfl, rfl, rfl⟩, fun k k1 k2 => ?_, fun p hp => by cases hp⟩, fr_up F G2 (fun k e => by have := F.size; omega)⟩, fun i hi => ⟨Rl.nil, rfl, rfl⟩⟩
  · have := (C.lt k hk).2; omega
  · have g1 := (C.lt k k1).2
    rcases k2 with e | ⟨i, hi, e⟩
    · omega
    · simp [Value.ownBlock] at e
set_option maxRecDepth 100000 in
set_option maxHeartbeats 6400000 in
theorem good_any (n sz : Nat) (n1 : 1 ≤ n) (n8 : n ≤ 8) (s1 : 1 ≤ sz) (s2 : sz ≤ 256) (v : Value) (l : List Jb) (w : World) (hv : JL w v l) : Calls Try.prog 3 #[.int .i64 (n : Int), .int .i64 (sz : Int), v] w fun e w' => e = .returned (.bool true) ∧ Fr (fun _ => False) w w' := by
  obtain ⟨a, cap, rfl, hm, hl⟩ := hv
  have HM := Lib.hid hm
  have HL := Lib.hid hl
  have HN := Lib.hid (show 1 ≤ n ∧ n ≤ 8 ∧ 1 ≤ sz ∧ sz ≤ 256 from ⟨n1, n8, s1, s2⟩)
  have g0 : ¬ ((n : Int) < 1) := by omega
  have g1 : ¬ (8 < (n : Int)) := by omega
  have g2 : ¬ ((sz : Int) < 1) := by omega
  have g3 : ¬ (256 < (sz : Int)) := by omega
  clear hm hl n1 n8 s1 s2
  go_enter Try.func3, Try.ntmps3
  go_wp2_with fail
  refine (none_any w).mono ?_
  rintro e w1 ⟨rfl, rfl⟩
  go_wp2_with fail
  refine (get_bad _ _ _ w (part_nil 0 w)).mono ?_
  rintro e w1 ⟨rfl, rfl⟩
  go_wp2_with fail
  refine (none_any w).mono ?_
  rintro e w1 ⟨rfl, rfl⟩
  go_wp2_with fail
  refine (hits_bad _ _ w (part_nil 0 w)).mono ?_
  rintro e w1 ⟨rfl, rfl⟩
  go_wp2_with fail
  refine (caches_any w).mono ?_
  rintro e w1 ⟨rfl, F1⟩
  have HF1 := Lib.hid F1
  clear F1
  go_wp2_with fail
  refine (none_any w1).mono ?_
  rintro e w2 ⟨rfl, rfl⟩
  go_wp2_with fail
  refine (put_bad _ _ _ _ w1 (part_nil 0 w1)).mono ?_
  rintro e w2 ⟨rfl, rfl⟩
  go_wp2_with fail
  refine (none_any w1).mono ?_
  rintro e w2 ⟨rfl, rfl⟩
  go_wp2_with fail
  refine (drop_bad _ _ w1 (part_nil 0 w1)).mono ?_
  rintro e w2 ⟨rfl, rfl⟩
  go_wp2_with fail
  refine (none_any w1).mono ?_
  rintro e w2 ⟨rfl, rfl⟩
  go_wp2_with fail
  refine (names_bad _ _ w1 (part_nil 0 w1)).mono ?_
  rintro e w2 ⟨rfl, rfl⟩
  go_wp2_with fail
  refine (new_cs n sz HN.out.1 HN.out.2.1 HN.out.2.2.1 HN.out.2.2.2 w1).mono ?_
  rintro e w2 ⟨cb, pb, cur, rfl, C, F⟩
  have HC := Lib.hid (C.down HF1.out.size)
  have HF := Lib.hid (HF1.out.trans F (fun _ h => h.elim))
  clear C F
  go_wp2_with fail
  refine init_loop (n := n) (sz := sz) (cb := cb) (c := cap) (a := a) (l := l) (pw := w2.heap.size) (heap_alloc_new w2 _) zero32.1 zero32.2 _ rfl rfl rfl rfl rfl rfl rfl rfl ?_
  intro t3 w3 cu hn p0 p1 p2 p11 p12 p13 hb hz G
  have HS := Lib.hid (ro_start HC.out HF.out hb hz G)
  clear hb hz G HC
  obtain ⟨f, hff, rfl⟩ := frame_open hn
  have e0 := hff 0 _ p0
  have e1 := hff 1 _ p1
  have e2 := hff 2 _ p2
  have e11 := hff 11 _ p11
  have e12 := hff 12 _ p12
  have e13 := hff 13 _ p13
  clear hff hn p0 p1 p2 p11 p12 p13
  rw [lit252, e0, e1, e2, e11, e12, e13]
  clear e0 e1 e2 e11 e12 e13
  go_wp2_with fail
  refine jobs_loop (c := cap) HL.out HM.out HN.out.2.1 HS.out _ rfl rfl rfl rfl rfl rfl rfl rfl ?_
  intro t4 w4 hn p12 F4
  have HF4 := Lib.hid F4
  clear F4
  obtain ⟨f, hff, rfl⟩ := frame_open hn
  have e12 := hff 12 _ p12
  clear hff hn p12
  rw [lit252, e12]
  clear e12
  go_wp2_with fail
  go_ret
  exact ⟨rfl, HF4.out⟩
theorem jobs_any (z0 z1 : Int) (v : Value) (l : List Jb) (w : World) (hv : JL w v l) : Calls Try.prog 3 #[.int .i64 z0, .int .i64 z1, v] w fun e w' => e = .returned (.bool true) ∧ Fr (fun _ => False) w w' := by
  by_cases h0 : z0 < 1
  · exact bad1 z0 z1 h0 v l w hv
  by_cases h1 : 8 < z0
  · exact bad2 z0 z1 h0 h1 v l w hv
  by_cases h2 : z1 < 1
  · exact bad3 z0 z1 h0 h1 h2 v l w hv
  by_cases h3 : 256 < z1
  · exact bad4 z0 z1 h0 h1 h2 h3 v l w hv
  obtain ⟨n, rfl⟩ : ∃ n : Nat, z0 = (n : Int) := ⟨z0.toNat, by omega⟩
  obtain ⟨sz, rfl⟩ : ∃ n : Nat, z1 = (n : Int) := ⟨z1.toNat, by omega⟩
  exact good_any n sz (by omega) (by omega) (by omega) (by omega) v l w hv
end Go.Proofs.Ytkigdgkklninoaa

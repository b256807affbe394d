/-
  Of of the document's answer: two loops, with a way out of both.
-/
import Derived.Test.YtgladedjgjhlaaaTc
namespace Go.Proofs.Ytgladedjgjhlaaa
open Go.RowKit
set_option linter.unusedVariables false
set_option linter.unusedSimpArgs false

def allLoops : Code → List Code
  | .loop c => c :: allLoops c
  | .seq a b => allLoops a ++ allLoops b
  | .block _ c => allLoops c
  | .scope c => allLoops c
  | .cond _ a b => allLoops a ++ allLoops b
  | _ => []
noncomputable def loopAt (F : Func) (k : Nat) : Code := (((F.body.map allLoops).getD [])[k]?).getD .skip
theorem getD_pin {t : Array Value} {i : Nat} {v : Value} (h : t[i]? = some v) : t.getD i undef = v := by
  rw [Array.getD_eq_getD_getElem?, h]; rfl
theorem frame_map {t : Array Value} {n : Nat} (h : t.size = n) : t = ((List.range n).map fun i => t.getD i undef).toArray := by
  apply Array.ext
  · simp [h]
  · intro i h1 h2
    simp [Array.getD, h1]
theorem frame_open {t : Array Value} {n : Nat} (h : t.size = n) : ∃ f : Nat → Value, (∀ i v, t[i]? = some v → f i = v) ∧ t = ((List.range n).map f).toArray :=
  ⟨fun i => t.getD i undef, fun _ _ h => getD_pin h, frame_map h⟩
/-- A loop that counts up: the relation at k, for k up to n; the frame as an array. -/
theorem wp_loop_up {P : Program} {Q : Exit → Act → World → Prop} {c : Code} (n : Nat) (R : Nat → Array Value → World → Prop) (t : Array Value) (w : World) (h0 : R 0 t w)
    (round : ∀ k t w, k ≤ n → R k t w → ∀ (K : Act → World → Prop), (∀ t' w', k < n → R (k + 1) t' w' → K ⟨t', []⟩ w') → c.wp P (Exit.then K Q) ⟨t, []⟩ w) : (Code.loop c).wp P Q ⟨t, []⟩ w := by
  refine wp_loop_ghost (fun m a w => a.defers = [] ∧ ∃ k, k + m = n ∧ R k a.tmps w) n ⟨rfl, 0, by omega, h0⟩ ?_
  rintro m ⟨t, ds⟩ w ⟨rfl, k, hk, hR⟩
  exact round k t w (by omega) hR _ (fun t' w' hlt hR' => ⟨m - 1, by omega, rfl, k + 1, by omega, hR'⟩)

set_option maxRecDepth 100000 in
theorem lit31 (f : Nat → Value) : ((List.range 31).map f).toArray = #[f 0, f 1, f 2, f 3, f 4, f 5, f 6, f 7, f 8, f 9, f 10, f 11, f 12, f 13, f 14, f 15, f 16, f 17, f 18, f 19, f 20, f 21, f 22, f 23, f 24, f 25, f 26, f 27, f 28, f 29, f 30] := by kernel_rfl
set_option maxRecDepth 100000 in
set_option maxHeartbeats 1600000 in
theorem rof_inner {Q : Exit → Act → World → Prop} (f0 c s : Nat) (b : Int) (i : Nat) (hf : f0 ≤ 1000) (hs : s ≤ 1000) (hi : i ≤ 1000) (his : i * s ≤ 1000000) (w : World) (t : Array Value) (hn : t.size = 31)
    (p0 : t[0]? = some (.int .i64 (f0 : Int))) (p1 : t[1]? = some (.int .i64 (c : Int))) (p2 : t[2]? = some (.int .i64 (s : Int))) (p3 : t[3]? = some (.int .i64 b)) (p9 : t[9]? = some (.int .i64 (i : Int))) (p10 : t[10]? = some (.int .i64 0))
    (hexit : ∀ t', t'.size = 31 → t'[0]? = some (.int .i64 (f0 : Int)) → t'[1]? = some (.int .i64 (c : Int)) → t'[2]? = some (.int .i64 (s : Int)) → t'[3]? = some (.int .i64 b) → t'[9]? = some (.int .i64 (i : Int)) → (∀ k, k < s → ((f0 + i * s + k : Nat) : Int) ≠ b) → Q (.exit 2) ⟨t', []⟩ w)
    (hret : ∀ t' k, t'.size = 31 → t'[8]? = some (.int .i64 (i : Int)) → k < s → ((f0 + i * s + k : Nat) : Int) = b → Q .ret ⟨t', []⟩ w) :
    Code.wp Try.prog (.loop (loopAt Try.f49 1)) Q ⟨t, []⟩ w := by
  refine wp_loop_up s (fun k t w' => t.size = 31 ∧ t[0]? = some (.int .i64 (f0 : Int)) ∧ t[1]? = some (.int .i64 (c : Int)) ∧ t[2]? = some (.int .i64 (s : Int)) ∧ t[3]? = some (.int .i64 b) ∧ t[9]? = some (.int .i64 (i : Int)) ∧ t[10]? = some (.int .i64 (k : Int)) ∧ w' = w ∧ ∀ k', k' < k → ((f0 + i * s + k' : Nat) : Int) ≠ b) t w ⟨hn, p0, p1, p2, p3, p9, p10, rfl, fun k' h => absurd h (by omega)⟩ ?_
  clear hn p0 p1 p2 p3 p9 p10 t
  rintro k t wr hk ⟨hn, p0, p1, p2, p3, p9, p10, rfl, hno⟩ K hK
  obtain ⟨f, hff, rfl⟩ := frame_open hn
  have e0 := hff 0 _ p0
  have e1 := hff 1 _ p1
  have e2 := hff 2 _ p2
  have e3 := hff 3 _ p3
  have e9 := hff 9 _ p9
  have e10 := hff 10 _ p10
  clear hff hn p0 p1 p2 p3 p9 p10
  rw [lit31, e0, e1, e2, e3, e9, e10]
  clear e0 e1 e2 e3 e9 e10
  conv => arg 2; whnf
  have HE := Lib.hid hexit
  have HT := Lib.hid hret
  have HK := Lib.hid hK
  have HN := Lib.hid hno
  clear hexit hret hK hno
  obtain ⟨m, hm⟩ : ∃ m, m = i * s := ⟨_, rfl⟩
  have hmi : (i : Int) * (s : Int) = (m : Int) := by rw [hm]; simp
  have w1 : wrap64 (m : Int) = (m : Int) := IntWalk.wrap64_in _ (by omega)
  have w2 : wrap64 ((f0 : Int) + (m : Int)) = (f0 : Int) + (m : Int) := IntWalk.wrap64_in _ (by omega)
  have w3 : wrap64 ((f0 : Int) + (m : Int) + (k : Int)) = (f0 : Int) + (m : Int) + (k : Int) := IntWalk.wrap64_in _ (by omega)
  have w4 : wrap64 ((k : Int) + 1) = (k : Int) + 1 := IntWalk.wrap64_in _ (by omega)
  have v1 : IntKind.i64.wrap (m : Int) = (m : Int) := IntWalk.i64_in _ (by omega)
  have v2 : IntKind.i64.wrap ((f0 : Int) + (m : Int)) = (f0 : Int) + (m : Int) := IntWalk.i64_in _ (by omega)
  have v3 : IntKind.i64.wrap ((f0 : Int) + (m : Int) + (k : Int)) = (f0 : Int) + (m : Int) + (k : Int) := IntWalk.i64_in _ (by omega)
  have v4 : IntKind.i64.wrap ((k : Int) + 1) = (k : Int) + 1 := IntWalk.i64_in _ (by omega)
  have HM := Lib.hid hm
  clear hm his
  by_cases hlt : k < s
  · have q3 : (k : Int) < (s : Int) := by omega
    by_cases hb : (f0 : Int) + (m : Int) + (k : Int) = b
    · have t1 : ((f0 : Int) + (m : Int) + (k : Int) == b) = true := by simpa using hb
      have t2 : decide ((f0 : Int) + (m : Int) + (k : Int) = b) = true := by simpa using hb
      have HB := Lib.hid hb
      clear hb
      go_wp2_with fail
      exact HT.out _ k rfl rfl hlt (by rw [← HB.out, ← HM.out]; simp)
    · have t1 : ((f0 : Int) + (m : Int) + (k : Int) == b) = false := by simpa using hb
      have t2 : decide ((f0 : Int) + (m : Int) + (k : Int) = b) = false := by simpa using hb
      have HB := Lib.hid hb
      clear hb
      go_wp2_with fail
      exact HK.out _ _ hlt ⟨rfl, rfl, rfl, rfl, rfl, rfl, by simp, rfl, fun k' h => by
        rcases Nat.lt_or_ge k' k with h2 | h2
        · exact HN.out k' h2
        · obtain rfl : k' = k := by omega
          rw [← HM.out]
          simpa using HB.out⟩
  · obtain rfl : k = s := by omega
    go_wp2_with fail
    exact HE.out _ rfl rfl rfl rfl rfl rfl HN.out
set_option maxRecDepth 100000 in
set_option maxHeartbeats 1600000 in
theorem rof_outer {Q : Exit → Act → World → Prop} (f0 c s : Nat) (b : Int) (hf : f0 ≤ 1000) (hs : s ≤ 1000) (hc : c ≤ 1000) (w : World) (t : Array Value) (hn : t.size = 31)
    (p0 : t[0]? = some (.int .i64 (f0 : Int))) (p1 : t[1]? = some (.int .i64 (c : Int))) (p2 : t[2]? = some (.int .i64 (s : Int))) (p3 : t[3]? = some (.int .i64 b)) (p9 : t[9]? = some (.int .i64 0))
    (hexit : ∀ t', t'.size = 31 → (∀ i k, i < c → k < s → ((f0 + i * s + k : Nat) : Int) ≠ b) → Q (.exit 0) ⟨t', []⟩ w)
    (hret : ∀ t' i k, t'.size = 31 → t'[8]? = some (.int .i64 (i : Int)) → i < c → k < s → ((f0 + i * s + k : Nat) : Int) = b → Q .ret ⟨t', []⟩ w) :
    Code.wp Try.prog (.loop (loopAt Try.f49 0)) Q ⟨t, []⟩ w := by
  refine wp_loop_up c (fun i t w' => t.size = 31 ∧ t[0]? = some (.int .i64 (f0 : Int)) ∧ t[1]? = some (.int .i64 (c : Int)) ∧ t[2]? = some (.int .i64 (s : Int)) ∧ t[3]? = some (.int .i64 b) ∧ t[9]? = some (.int .i64 (i : Int)) ∧ w' = w ∧ ∀ i', i' < i → ∀ k, k < s → ((f0 + i' * s + k : Nat) : Int) ≠ b) t w ⟨hn, p0, p1, p2, p3, p9, rfl, fun i' h => absurd h (by omega)⟩ ?_
  clear hn p0 p1 p2 p3 p9 t
  rintro i t wr hi ⟨hn, p0, p1, p2, p3, p9, rfl, hno⟩ K hK
  obtain ⟨f, hff, rfl⟩ := frame_open hn
  have e0 := hff 0 _ p0
  have e1 := hff 1 _ p1
  have e2 := hff 2 _ p2
  have e3 := hff 3 _ p3
  have e9 := hff 9 _ p9
  clear hff hn p0 p1 p2 p3 p9
  rw [lit31, e0, e1, e2, e3, e9]
  clear e0 e1 e2 e3 e9
  conv => arg 2; whnf
  have HE := Lib.hid hexit
  have HT := Lib.hid hret
  have HK := Lib.hid hK
  have HN := Lib.hid hno
  clear hexit hret hK hno
  have w4 : wrap64 ((i : Int) + 1) = (i : Int) + 1 := IntWalk.wrap64_in _ (by omega)
  have v4 : IntKind.i64.wrap ((i : Int) + 1) = (i : Int) + 1 := IntWalk.i64_in _ (by omega)
  by_cases hlt : i < c
  · have q3 : (i : Int) < (c : Int) := by omega
    have his : i * s ≤ 1000000 := Nat.le_trans (Nat.mul_le_mul (show i ≤ 1000 by omega) hs) (by decide)
    go_wp2_with fail
    refine rof_inner f0 c s b i hf hs (by omega) his wr _ rfl rfl rfl rfl rfl rfl rfl ?_ ?_
    · intro t2 hn2 p0 p1 p2 p3 p9 hq
      obtain ⟨f2, hff, rfl⟩ := frame_open hn2
      have e0 := hff 0 _ p0
      have e1 := hff 1 _ p1
      have e2 := hff 2 _ p2
      have e3 := hff 3 _ p3
      have e9 := hff 9 _ p9
      clear hff hn2 p0 p1 p2 p3 p9
      rw [lit31, e0, e1, e2, e3, e9]
      clear e0 e1 e2 e3 e9
      have HQ := Lib.hid hq
      clear hq
      go_wp2_with fail
      exact HK.out _ _ hlt ⟨rfl, rfl, rfl, rfl, rfl, by simp, rfl, fun i' h => by
        rcases Nat.lt_or_ge i' i with h2 | h2
        · exact HN.out i' h2
        · obtain rfl : i' = i := by omega
          exact HQ.out⟩
    · intro t2 k hn2 p8 hk hb
      exact HT.out t2 i k hn2 p8 hlt hk hb
  · obtain rfl : i = c := by omega
    go_wp2_with fail
    exact HE.out _ rfl (fun i k h1 h2 => HN.out i h1 k h2)
set_option maxRecDepth 100000 in
set_option maxHeartbeats 1600000 in
theorem rof12_any (f0 c s : Nat) (b : Int) (hf : f0 ≤ 1000) (hs : s ≤ 1000) (hc : c ≤ 1000) (w : World) :
    Calls Try.prog 49 #[.int .i64 (f0 : Int), .int .i64 (c : Int), .int .i64 (s : Int), .int .i64 b] w fun e w' => ∃ v : Int, e = .returned (.int .i64 v) ∧ ((∃ i k, i < c ∧ k < s ∧ ((f0 + i * s + k : Nat) : Int) = b ∧ v = (i : Int)) ∨ ((∀ i k, i < c → k < s → ((f0 + i * s + k : Nat) : Int) ≠ b) ∧ v = -1)) ∧ w' = w := by
  go_enter Try.func49, Try.ntmps49
  go_wp2_with fail
  refine rof_outer f0 c s b hf hs hc w _ rfl rfl rfl rfl rfl rfl ?_ ?_
  · intro t2 hn2 hq
    obtain ⟨f, hff, rfl⟩ := frame_open hn2
    clear hff hn2
    rw [lit31]
    have HQ := Lib.hid hq
    clear hq
    go_wp2_with fail
    go_ret
    exact ⟨_, rfl, Or.inr ⟨HQ.out, rfl⟩, rfl⟩
  · intro t2 i k hn2 p8 h1 h2 h3
    obtain ⟨f, hff, rfl⟩ := frame_open hn2
    have e8 := hff 8 _ p8
    clear hff hn2 p8
    rw [lit31, e8]
    clear e8
    have HB := Lib.hid h3
    clear h3
    go_wp2_with fail
    go_ret
    exact ⟨_, rfl, Or.inl ⟨i, k, h1, h2, HB.out, rfl⟩, rfl⟩
end Go.Proofs.Ytgladedjgjhlaaa

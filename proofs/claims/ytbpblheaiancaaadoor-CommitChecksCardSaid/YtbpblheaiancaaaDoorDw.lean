/-
  The contract of Clash of package custumalref15, of two texts each.
-/
import Derived.Test.YtbpblheaiancaaaDoorDv
namespace Go.Proofs.YtbpblheaiancaaaDoor
open Go.RowKit
set_option linter.unusedVariables false
set_option linter.unusedSimpArgs false

set_option maxRecDepth 100000 in
theorem lit41 (f : Nat → Value) : ((List.range 41).map f).toArray = #[f 0, f 1, f 2, f 3, f 4, f 5, f 6, f 7, f 8, f 9, f 10, f 11, f 12, f 13, f 14, f 15, f 16, f 17, f 18, f 19, f 20, f 21, f 22, f 23, f 24, f 25, f 26, f 27, f 28, f 29, f 30, f 31, f 32, f 33, f 34, f 35, f 36, f 37, f 38, f 39, f 40] := by kernel_rfl
def hit (x y : List UInt8) : Prop := x ≠ y ∧ S2.sum x = S2.sum y
theorem str_ne (x y : List UInt8) (h : x ≠ y) : (x == y) = false := by simpa using h
theorem str_eq (x y : List UInt8) (h : x = y) : (x == y) = true := by simpa using h
/-- Two texts in a block. -/
def Two (w : World) (a : Nat) (A : Nat → List UInt8) : Prop := w.heap[a]? = some (.cells #[.string ⟨(A 0).toArray⟩, .string ⟨(A 1).toArray⟩] 9 (0, 0))
theorem Two.fr {w w' : World} {a : Nat} {A : Nat → List UInt8} (h : Two w a A) (hF : Fr (fun _ => False) w w') : Two w' a A := (hF.block _ (lt_of_block h) (fun h => h)).trans h
theorem Two.at {w : World} {a : Nat} {A : Nat → List UInt8} (h : Two w a A) {i : Nat} (hi : i < 2) : w.cell? ⟨a, i, none⟩ = some (.string ⟨(A i).toArray⟩) := by
  rw [cell_of_block h]
  match i, hi with
  | 0, _ => rfl
  | 1, _ => rfl
set_option maxRecDepth 100000 in
set_option maxHeartbeats 1600000 in
theorem clash_inner {Q : Exit → Act → World → Prop} (a b : Nat) (A B : Nat → List UInt8) (i : Nat) (hi : i < 2) (hlA : ∀ i, i < 2 → (A i).length ≤ 100000) (hlB : ∀ i, i < 2 → (B i).length ≤ 100000) (w : World) (hA : Two w a A) (hB : Two w b B) (hR : REnv w) (t : Array Value) (hn : t.size = 41)
    (p0 : t[0]? = some (.slice (some ⟨a, 0, none⟩) 2 2)) (p1 : t[1]? = some (.slice (some ⟨b, 0, none⟩) 2 2)) (p5 : t[5]? = some (.int .i64 (i : Int))) (p6 : t[6]? = some (.int .i64 0))
    (hexit : ∀ t' w', t'.size = 41 → t'[0]? = some (.slice (some ⟨a, 0, none⟩) 2 2) → t'[1]? = some (.slice (some ⟨b, 0, none⟩) 2 2) → t'[5]? = some (.int .i64 (i : Int)) → Fr (fun _ => False) w w' → (∀ k, k < 2 → ¬ hit (A i) (B k)) → Q (.exit 2) ⟨t', []⟩ w')
    (hret : ∀ t' w', t'.size = 41 → t'[4]? = some (.bool true) → Fr (fun _ => False) w w' → Q .ret ⟨t', []⟩ w') :
    Code.wp Tryd.prog (.loop (loopAt Tryd.f19 1)) Q ⟨t, []⟩ w := by
  refine wp_loop_up 2 (fun k t w' => t.size = 41 ∧ t[0]? = some (.slice (some ⟨a, 0, none⟩) 2 2) ∧ t[1]? = some (.slice (some ⟨b, 0, none⟩) 2 2) ∧ t[5]? = some (.int .i64 (i : Int)) ∧ t[6]? = some (.int .i64 (k : Int)) ∧ Fr (fun _ => False) w w' ∧ ∀ k', k' < k → ¬ hit (A i) (B k')) t w ⟨hn, p0, p1, p5, p6, Fr.refl _ _, fun k' h => absurd h (by omega)⟩ ?_
  clear hn p0 p1 p5 p6 t
  rintro k t wr hk ⟨hn, p0, p1, p5, p6, hF, hno⟩ K hK
  obtain ⟨f, hff, rfl⟩ := frame_open hn
  have e0 := hff 0 _ p0
  have e1 := hff 1 _ p1
  have e5 := hff 5 _ p5
  have e6 := hff 6 _ p6
  clear hff hn p0 p1 p5 p6
  rw [lit41, e0, e1, e5, e6]
  clear e0 e1 e5 e6
  conv => arg 2; whnf
  have q0 : (0 : Int) ≤ (i : Int) := by omega
  have q1 : (i : Int) < 2 := by omega
  have q2 : (0 : Int) ≤ (k : Int) := by omega
  have HE := Lib.hid hexit
  have HT := Lib.hid hret
  have HK := Lib.hid hK
  have HN := Lib.hid hno
  clear hexit hret hK hno
  by_cases hlt : k < 2
  · have q3 : (k : Int) < 2 := by omega
    have ca : ∀ y : Wd wr, y.w.cell? ⟨a, i, none⟩ = some (.string ⟨(A i).toArray⟩) := fun y => ((hA.fr hF).fr y.h).at hi
    have cb : ∀ y : Wd wr, y.w.cell? ⟨b, k, none⟩ = some (.string ⟨(B k).toArray⟩) := fun y => ((hB.fr hF).fr y.h).at hlt
    have hsa := fun y : Wd wr => rsum_any ⟨(A i).toArray⟩ (by show (A i).toArray.size ≤ _; have := hlA i hi; simp; omega) y.w (hR.fr (hF.trans y.h (fun _ h => h.elim)) (fun h => h) (fun h => h))
    have hsb := fun y : Wd wr => rsum_any ⟨(B k).toArray⟩ (by show (B k).toArray.size ≤ _; have := hlB k hlt; simp; omega) y.w (hR.fr (hF.trans y.h (fun _ h => h.elim)) (fun h => h) (fun h => h))
    rw [show sb ⟨(A i).toArray⟩ = A i by simp [sb]] at hsa
    rw [show sb ⟨(B k).toArray⟩ = B k by simp [sb]] at hsb
    have hnot : ∀ (hq : ¬ hit (A i) (B k)), ∀ k', k' < k + 1 → ¬ hit (A i) (B k') := fun hq k' h => by
      rcases Nat.lt_or_ge k' k with h2 | h2
      · exact HN.out k' h2
      · obtain rfl : k' = k := by omega
        exact hq
    have HNOT := Lib.hid hnot
    clear hnot
    obtain ⟨x, hx⟩ : ∃ x, x = A i := ⟨_, rfl⟩
    obtain ⟨y, hy⟩ : ∃ y, y = B k := ⟨_, rfl⟩
    obtain ⟨sx, hsx⟩ : ∃ sx, sx = S2.sum x := ⟨_, rfl⟩
    obtain ⟨sy, hsy⟩ : ∃ sy, sy = S2.sum y := ⟨_, rfl⟩
    rw [← hx] at ca hsa
    rw [← hy] at cb hsb
    rw [← hsx] at hsa
    rw [← hsy] at hsb
    have HX := Lib.hid hx
    have HY := Lib.hid hy
    have HSX := Lib.hid hsx
    have HSY := Lib.hid hsy
    clear hx hy hsx hsy
    by_cases hxy : x = y
    · as_aux_lemma =>
      have E0 := str_eq x y hxy
      have hq : ¬ hit (A i) (B k) := fun h => h.1 (by rw [← HX.out, ← HY.out]; exact hxy)
      have HQ := Lib.hid (HNOT.out hq)
      clear hxy hq
      go_wp2_with fail
      refine wp_region_keep (by kernel_rfl) (by kernel_rfl) ?_
      repeat (any_goals (first | go_big_quiet_step ((first | (go_at_call 18; first | with_reducible exact Calls.keep (hsa _) | with_reducible exact Calls.keep (hsb _)))) | quiet_step ((first | (go_at_call 18; first | with_reducible exact Calls.keep (hsa _) | with_reducible exact Calls.keep (hsb _))))))
      refine wpQuiet_nil ?_
      intro _ hwz
      obtain ⟨y2, rfl⟩ := hwz
      go_wp2_with fail
      exact HK.out _ _ hlt ⟨rfl, rfl, rfl, rfl, by simp, hF.trans y2.h (fun _ h => h.elim), HQ.out⟩
    · have E0 := str_ne x y hxy
      by_cases hs : sx = sy
      · as_aux_lemma =>
        have E1 := str_eq sx sy hs
        clear hs HNOT
        go_wp2_with fail
        refine wp_region_keep (by kernel_rfl) (by kernel_rfl) ?_
        repeat (any_goals (first | go_big_quiet_step ((first | (go_at_call 18; first | with_reducible exact Calls.keep (hsa _) | with_reducible exact Calls.keep (hsb _)))) | quiet_step ((first | (go_at_call 18; first | with_reducible exact Calls.keep (hsa _) | with_reducible exact Calls.keep (hsb _))))))
        refine wpQuiet_nil ?_
        intro _ hwz
        obtain ⟨y2, rfl⟩ := hwz
        go_wp2_with fail
        exact HT.out _ _ rfl rfl (hF.trans y2.h (fun _ h => h.elim))
      · as_aux_lemma =>
        have E1 := str_ne sx sy hs
        have hq : ¬ hit (A i) (B k) := fun h => hs (by rw [HSX.out, HSY.out, HX.out, HY.out]; exact h.2)
        have HQ := Lib.hid (HNOT.out hq)
        clear hs hq
        go_wp2_with fail
        refine wp_region_keep (by kernel_rfl) (by kernel_rfl) ?_
        repeat (any_goals (first | go_big_quiet_step ((first | (go_at_call 18; first | with_reducible exact Calls.keep (hsa _) | with_reducible exact Calls.keep (hsb _)))) | quiet_step ((first | (go_at_call 18; first | with_reducible exact Calls.keep (hsa _) | with_reducible exact Calls.keep (hsb _))))))
        refine wpQuiet_nil ?_
        intro _ hwz
        obtain ⟨y2, rfl⟩ := hwz
        go_wp2_with fail
        exact HK.out _ _ hlt ⟨rfl, rfl, rfl, rfl, by simp, hF.trans y2.h (fun _ h => h.elim), HQ.out⟩
  · obtain rfl : k = 2 := by omega
    go_wp2_with fail
    exact HE.out _ _ rfl rfl rfl rfl hF HN.out
end Go.Proofs.YtbpblheaiancaaaDoor

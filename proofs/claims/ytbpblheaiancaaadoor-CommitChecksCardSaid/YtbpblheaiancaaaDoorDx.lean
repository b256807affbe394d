/-
  The contract of Clash of package custumalref15, of two texts each: where two clash it is told.
-/
import Derived.Test.YtbpblheaiancaaaDoorDw
namespace Go.Proofs.YtbpblheaiancaaaDoor
open Go.RowKit
set_option linter.unusedVariables false
set_option linter.unusedSimpArgs false

set_option maxRecDepth 100000 in
set_option maxHeartbeats 1600000 in
theorem clash_outer {Q : Exit → Act → World → Prop} (a b : Nat) (A B : Nat → List UInt8) (hlA : ∀ i, i < 2 → (A i).length ≤ 100000) (hlB : ∀ i, i < 2 → (B i).length ≤ 100000) (w : World) (hA : Two w a A) (hB : Two w b B) (hR : REnv w) (t : Array Value) (hn : t.size = 41)
    (p0 : t[0]? = some (.slice (some ⟨a, 0, none⟩) 2 2)) (p1 : t[1]? = some (.slice (some ⟨b, 0, none⟩) 2 2)) (p5 : t[5]? = some (.int .i64 0))
    (hsome : ∃ i k, i < 2 ∧ k < 2 ∧ hit (A i) (B k))
    (hret : ∀ t' w', t'.size = 41 → t'[4]? = some (.bool true) → Fr (fun _ => False) w w' → Q .ret ⟨t', []⟩ w') :
    Code.wp Tryd.prog (.loop (loopAt Tryd.f19 0)) Q ⟨t, []⟩ w := by
  refine wp_loop_up 2 (fun i t w' => t.size = 41 ∧ t[0]? = some (.slice (some ⟨a, 0, none⟩) 2 2) ∧ t[1]? = some (.slice (some ⟨b, 0, none⟩) 2 2) ∧ t[5]? = some (.int .i64 (i : Int)) ∧ Fr (fun _ => False) w w' ∧ ∀ i', i' < i → ∀ k, k < 2 → ¬ hit (A i') (B k)) t w ⟨hn, p0, p1, p5, Fr.refl _ _, fun i' h => absurd h (by omega)⟩ ?_
  clear hn p0 p1 p5 t
  rintro i t wr hi ⟨hn, p0, p1, p5, hF, hno⟩ K hK
  obtain ⟨f, hff, rfl⟩ := frame_open hn
  have e0 := hff 0 _ p0
  have e1 := hff 1 _ p1
  have e5 := hff 5 _ p5
  clear hff hn p0 p1 p5
  rw [lit41, e0, e1, e5]
  clear e0 e1 e5
  conv => arg 2; whnf
  have q0 : (0 : Int) ≤ (i : Int) := by omega
  have HT := Lib.hid hret
  have HK := Lib.hid hK
  have HN := Lib.hid hno
  have HS := Lib.hid hsome
  clear hret hK hno hsome
  by_cases hlt : i < 2
  · have q3 : (i : Int) < 2 := by omega
    go_wp2_with fail
    refine clash_inner a b A B i hlt hlA hlB wr (hA.fr hF) (hB.fr hF) (hR.fr hF (fun h => h) (fun h => h)) _ rfl rfl rfl rfl rfl ?_ ?_
    · intro t2 w2 hn2 p0 p1 p5 F2 hq
      obtain ⟨f2, hff, rfl⟩ := frame_open hn2
      have e0 := hff 0 _ p0
      have e1 := hff 1 _ p1
      have e5 := hff 5 _ p5
      clear hff hn2 p0 p1 p5
      rw [lit41, e0, e1, e5]
      clear e0 e1 e5
      have HQ := Lib.hid hq
      clear hq
      go_wp2_with fail
      exact HK.out _ _ hlt ⟨rfl, rfl, rfl, by simp, hF.trans F2 (fun _ h => h.elim), fun i' h => by
        rcases Nat.lt_or_ge i' i with h2 | h2
        · exact HN.out i' h2
        · obtain rfl : i' = i := by omega
          exact HQ.out⟩
    · intro t2 w2 hn2 p4 F2
      exact HT.out _ _ hn2 p4 (hF.trans F2 (fun _ h => h.elim))
  · exfalso
    obtain ⟨i', k, h1, h2, h3⟩ := HS.out
    exact HN.out i' (by omega) k h2 h3
set_option maxRecDepth 100000 in
set_option maxHeartbeats 1600000 in
theorem clash_any (a b : Nat) (A B : Nat → List UInt8) (hlA : ∀ i, i < 2 → (A i).length ≤ 100000) (hlB : ∀ i, i < 2 → (B i).length ≤ 100000) (w : World) (hA : Two w a A) (hB : Two w b B) (hR : REnv w) (hsome : ∃ i k, i < 2 ∧ k < 2 ∧ hit (A i) (B k)) :
    Calls Tryd.prog 19 #[.slice (some ⟨a, 0, none⟩) 2 2, .slice (some ⟨b, 0, none⟩) 2 2] w fun e w' => e = .returned (.bool true) ∧ Fr (fun _ => False) w w' := by
  go_enter Tryd.func19, Tryd.ntmps19
  go_wp2_with fail
  refine clash_outer a b A B hlA hlB w hA hB hR _ rfl rfl rfl rfl hsome ?_
  intro t2 w2 hn2 p4 F2
  obtain ⟨f, hff, rfl⟩ := frame_open hn2
  have e4 := hff 4 _ p4
  clear hff hn2 p4
  rw [lit41, e4]
  clear e4
  go_wp2_with fail
  go_ret
  exact ⟨rfl, F2⟩
end Go.Proofs.YtbpblheaiancaaaDoor

/-
  TenantNil.
-/
import Derived.Test.YtipdlahoagdicaaBl
import Derived.Deep.Slices
namespace Go.Proofs.Ytipdlahoagdicaa
open Go.ChangeShapes Go.WideShapes Go.ChangeAt Go.RowKit Go.Deep
set_option linter.unusedVariables false
set_option linter.unusedSimpArgs false
section
variable {H : Type} {enc : TypeId × Value → H} {W : World} {base : Nat}
theorem open_b {v : Value} {d : DataW H} {p : List MemPlace} (hval : Value.okWide Try.prog W .any base 22 v) (h1 : DataW.Trod enc Try.prog W 0 (fun _ => true) true 22 v d p) : ∃ l : Option Addr × Nat × Nat, v = .slice l.1 l.2.1 l.2.2 ∧ l.2.1 ≤ l.2.2 ∧ l.2.2 ≤ maxLen := by
  obtain ⟨a0, len0, cap0, rfl⟩ := okWide_slice Try.underlying22 hval
  obtain ⟨fuel, hf⟩ := h1
  rcases Deep.open_slice1 Try.underlying22 (by kernel_rfl) hf with ⟨hcs, hx⟩ | ⟨a, len, cap, m, n, V, D, Pl, hcs, hb, hl, hm, hmm, hx, hc⟩
  · have : Value.slice a0 len0 cap0 = .slice none 0 0 := by simpa [Value.cells] using hcs
    exact ⟨(none, 0, 0), this, Nat.le_refl _, by simp [maxLen]⟩
  · have e0 : Value.slice a0 len0 cap0 = .slice (some a) len cap := by simpa [Value.cells] using hcs
    exact ⟨(some a, len, cap), e0, hl, hm⟩
end
set_option maxRecDepth 100000 in
set_option maxHeartbeats 3200000 in
theorem nil_few (a : Option Addr) (n c : Nat) (hnc : n ≤ c) (hc : c ≤ maxLen) (hn : n ≤ 20) (w : World) : Calls Try.prog 3 #[.slice a n c] w fun e w' => e = .returned (.bool true) ∧ Fr (fun _ => False) w w' := by
  have q1 : (n : Int) ≤ 20 := by omega
  have q2 : ¬ (20 < (n : Int)) := by omega
  have q3 : min (n : Int) 20 = (n : Int) := by omega
  clear hc
  go_enter Try.func3, Try.ntmps3
  go_wp2_with fail
  refine (new_any 2 (by decide) (by decide) w).mono ?_
  rintro e w1 ⟨tb, pb, rfl, hT, _, _, F1⟩
  have HT := Lib.hid (show TB w1 tb pb [nob, nob] (.slice none 0 0) from hT)
  have HF1 := Lib.hid F1
  clear hT F1
  go_wp2_with fail
  refine (imp_nil tb _ _ _ w1).mono ?_
  rintro e w2 ⟨rfl, rfl⟩
  go_wp2_with fail
  refine (tables_any w1).mono ?_
  rintro e w2 ⟨rfl, F2⟩
  have HT2 := Lib.hid (HT.out.ext F2)
  have HF2 := Lib.hid (HF1.out.trans F2 (fun _ h => h.elim))
  clear F2
  go_wp2_with fail
  refine (room_any tb pb [nob, nob] _ (by decide) w2 HT2.out).mono ?_
  rintro e w3 ⟨rfl, F3⟩
  have HF3 := Lib.hid (HF2.out.trans F3 (fun _ h => h.elim))
  clear F3
  rw [show frees [nob, nob] = 2 from rfl]
  go_wp2_with fail
  go_ret
  exact ⟨rfl, HF3.out⟩
set_option maxRecDepth 100000 in
set_option maxHeartbeats 3200000 in
theorem nil_many (a : Option Addr) (n c : Nat) (hnc : n ≤ c) (hc : c ≤ maxLen) (hn : 20 < n) (w : World) : Calls Try.prog 3 #[.slice a n c] w fun e w' => e = .returned (.bool true) ∧ Fr (fun _ => False) w w' := by
  have q1 : ¬ ((n : Int) ≤ 20) := by omega
  have q2 : 20 < (n : Int) := by omega
  have q3 : min (n : Int) 20 = 20 := by omega
  have q4 : 20 ≤ c := by omega
  clear hc
  go_enter Try.func3, Try.ntmps3
  go_wp2_with fail
  refine (new_any 2 (by decide) (by decide) w).mono ?_
  rintro e w1 ⟨tb, pb, rfl, hT, _, _, F1⟩
  have HT := Lib.hid (show TB w1 tb pb [nob, nob] (.slice none 0 0) from hT)
  have HF1 := Lib.hid F1
  clear hT F1
  go_wp2_with fail
  refine (imp_nil tb _ _ _ w1).mono ?_
  rintro e w2 ⟨rfl, rfl⟩
  go_wp2_with fail
  refine (tables_any w1).mono ?_
  rintro e w2 ⟨rfl, F2⟩
  have HT2 := Lib.hid (HT.out.ext F2)
  have HF2 := Lib.hid (HF1.out.trans F2 (fun _ h => h.elim))
  clear F2
  go_wp2_with fail
  refine (room_any tb pb [nob, nob] _ (by decide) w2 HT2.out).mono ?_
  rintro e w3 ⟨rfl, F3⟩
  have HF3 := Lib.hid (HF2.out.trans F3 (fun _ h => h.elim))
  clear F3
  rw [show frees [nob, nob] = 2 from rfl]
  go_wp2_with fail
  go_ret
  exact ⟨rfl, HF3.out⟩
theorem nil_any (v : Value) (l : Option Addr × Nat × Nat) (w : World) (h : v = .slice l.1 l.2.1 l.2.2 ∧ l.2.1 ≤ l.2.2 ∧ l.2.2 ≤ maxLen) : Calls Try.prog 3 #[v] w fun e w' => e = .returned (.bool true) ∧ Fr (fun _ => False) w w' := by
  obtain ⟨rfl, h1, h2⟩ := h
  by_cases hn : l.2.1 ≤ 20
  · exact nil_few _ _ _ h1 h2 hn w
  · exact nil_many _ _ _ h1 h2 (by omega) w
end Go.Proofs.Ytipdlahoagdicaa

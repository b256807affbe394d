/-
  Two whole numbers that came in as an argument.
-/
import Derived.Test.YtacjdjaolelfpaaTh
import Derived.Test.YtacjdjaolelfpaaOn
namespace Go.Proofs.Ytacjdjaolelfpaa
open Go.ChangeShapes Go.WideShapes Go.ChangeAt Go.RowKit
set_option linter.unusedVariables false

theorem key_two : WideMaps.ArrKey Try.prog 65 3 2 := ⟨Try.underlying65, by kernel_rfl, by kernel_rfl, by kernel_rfl⟩
theorem in_of_wf {z : Int} (h : (Lit.int .i64 z).wf = true) : In64 z := by
  have h2 : IntKind.i64.min ≤ z ∧ z ≤ IntKind.i64.max := by simpa [Lit.wf] using h
  have e1 : IntKind.i64.min = -9223372036854775808 := by decide
  have e2 : IntKind.i64.max = 9223372036854775807 := by decide
  rw [e1, e2] at h2
  exact h2
set_option maxRecDepth 100000 in
theorem open_ints2 {H : Type} {enc : TypeId × Value → H} {W : World} {base : Nat} {v : Value} {d : DataW H} {p : List MemPlace} (hval : Value.okWide Try.prog W .any base 65 v) (h1 : DataW.Trod enc Try.prog W 0 (fun _ => true) true 65 v d p) :
    ∃ c s : Int, In64 c ∧ In64 s ∧ v = .agg #[.int .i64 c, .int .i64 s] := by
  have A := key_two
  obtain ⟨cs, rfl, hn⟩ := WideMaps.okWide_arr A hval
  obtain ⟨fuel, hf⟩ := h1
  have hce : Try.prog.cellsOf 3 = 1 := A.one
  have hct : Try.prog.cellsOf 65 = 2 := A.size
  cases fuel with
  | zero => simp [DataW.trod] at hf
  | succ fuel =>
    simp only [DataW.trod, A.hu, hce, hct, Nat.mul_one, Value.cells] at hf
    split at hf
    · obtain ⟨xs, hm, hx⟩ := Option.map_eq_some_iff.1 hf
      have key : ∀ i, i < 2 → ∃ y : Int, In64 y ∧ cs[i]? = some (.int .i64 y) := by
        intro i hi
        obtain ⟨b, hb, hf2⟩ := Lib.mapM_at hm i i (by simp [hi])
        obtain ⟨z, hc, _, hwf⟩ := DataW.trod_int Try.underlying3 hf2
        refine ⟨z, in_of_wf hwf, ?_⟩
        have h2 : cs.toList[i]? = some (.int .i64 z) := by
          have := congrArg (·[0]?) hc
          simpa [List.getElem?_take, List.getElem?_drop] using this
        rw [← Array.getElem?_toList, h2]
      obtain ⟨c, hc, e0⟩ := key 0 (by decide)
      obtain ⟨s, hs, e1⟩ := key 1 (by decide)
      refine ⟨c, s, hc, hs, ?_⟩
      congr 1
      apply Array.ext
      · simpa using hn
      · intro i h1 h2
        have h3 : i < 2 := by simpa using h2
        match i, h3 with
        | 0, _ => rw [Array.getElem?_eq_getElem h1] at e0; simpa using e0
        | 1, _ => rw [Array.getElem?_eq_getElem h1] at e1; simpa using e1
    · cases hf
end Go.Proofs.Ytacjdjaolelfpaa

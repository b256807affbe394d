/-
  Plain laws of this verifier: numbers of four words that came in as arguments.
-/
import Derived.Test.YtgladedjgjhlaaaLaw
import Derived.Test.YtgladedjgjhlaaaSl
import Derived.WideKeyArr2
import Derived.Lib.LaidTab
namespace Go.Proofs.Ytgladedjgjhlaaa
open Go.ChangeShapes Go.WideShapes Go.ChangeAt Go.RowKit
set_option linter.unusedVariables false

set_option maxRecDepth 100000 in
theorem open_words {t : TypeId} (A : WideMaps.ArrKey Try.prog t 39 4) {H : Type} {enc : TypeId × Value → H} {W : World} {base : Nat} {v : Value} {d : DataW H} {p : List MemPlace} (hval : Value.okWide Try.prog W .any base t v) (h1 : DataW.Trod enc Try.prog W 0 (fun _ => true) true t v d p) :
    ∃ X : Nat, X < 115792089237316195423570985008687907853269984665640564039457584007913129639936 ∧ v = .agg (nc X) := by
  obtain ⟨cs, rfl, hn⟩ := WideMaps.okWide_arr A hval
  obtain ⟨fuel, hf⟩ := h1
  have hce : Try.prog.cellsOf 39 = 1 := A.one
  have hct : Try.prog.cellsOf t = 4 := A.size
  cases fuel with
  | zero => simp [DataW.trod] at hf
  | succ fuel =>
    simp only [DataW.trod, A.hu, hce, hct, Nat.mul_one, Value.cells] at hf
    split at hf
    · obtain ⟨xs, hm, hx⟩ := Option.map_eq_some_iff.1 hf
      have key : ∀ i, i < 4 → ∃ y : Nat, y < 18446744073709551616 ∧ cs[i]? = some (.int .u64 (y : Int)) := by
        intro i hi
        obtain ⟨b, hb, hf2⟩ := Lib.mapM_at hm i i (by simp [hi])
        obtain ⟨z, hc, _, hwf⟩ := DataW.trod_int Try.underlying39 hf2
        have hb8 := bounds_u64 hwf
        refine ⟨z.toNat, by omega, ?_⟩
        have h2 : cs.toList[i]? = some (.int .u64 z) := by
          have := congrArg (·[0]?) hc
          simpa [List.getElem?_take, List.getElem?_drop] using this
        rw [← Array.getElem?_toList, h2]
        congr 2
        omega
      obtain ⟨f, hf3⟩ : ∃ f : Nat → Nat, ∀ i, i < 4 → f i < 18446744073709551616 ∧ cs[i]? = some (.int .u64 (f i : Int)) :=
        ⟨fun i => if h : i < 4 then Classical.choose (key i h) else 0, fun i hi => by show (if h : i < 4 then Classical.choose (key i h) else 0) < _ ∧ cs[i]? = some (Value.int .u64 ((if h : i < 4 then Classical.choose (key i h) else 0 : Nat) : Int)); rw [dif_pos hi]; exact Classical.choose_spec (key i hi)⟩
      refine ⟨nv (f 0) (f 1) (f 2) (f 3), nv_lt _ _ _ _ (hf3 0 (by decide)).1 (hf3 1 (by decide)).1 (hf3 2 (by decide)).1 (hf3 3 (by decide)).1, ?_⟩
      rw [← nc_of _ _ _ _ (hf3 0 (by decide)).1 (hf3 1 (by decide)).1 (hf3 2 (by decide)).1 (hf3 3 (by decide)).1]
      congr 1
      exact (uq_ext hn (fun j hj => (hf3 j hj).2)).trans rfl
    · cases hf
end Go.Proofs.Ytgladedjgjhlaaa


/-
  A key that came in as an argument, as a list of 32 bytes.
-/
import Derived.Test.YtghjcppafkaopaaOn
import Derived.Test.YtghjcppafkaopaaBy
import Derived.WideKeyArr2
namespace Go.Proofs.Ytghjcppafkaopaa
open Go.ChangeShapes Go.WideShapes Go.ChangeAt Go.RowKit
set_option linter.unusedVariables false

set_option maxRecDepth 100000 in
theorem open_key {H : Type} {enc : TypeId × Value → H} {W : World} {base : Nat} {v : Value} {d : DataW H} {p : List MemPlace} (hval : Value.okWide Try.prog W .any base 88 v) (h1 : DataW.Trod enc Try.prog W 0 (fun _ => true) true 88 v d p) :
    ∃ l : List UInt8, l.length = 32 ∧ v = .agg (bv l).toArray := by
  have A : WideMaps.ArrKey Try.prog 88 5 32 := ⟨Try.underlying88, by kernel_rfl, by kernel_rfl, by kernel_rfl⟩
  obtain ⟨cs, rfl, hn⟩ := WideMaps.okWide_arr A hval
  obtain ⟨fuel, hf⟩ := h1
  have hce : Try.prog.cellsOf 5 = 1 := A.one
  have hct : Try.prog.cellsOf 88 = 32 := A.size
  cases fuel with
  | zero => simp [DataW.trod] at hf
  | succ fuel =>
    simp only [DataW.trod, A.hu, hce, hct, Nat.mul_one, Value.cells] at hf
    split at hf
    · obtain ⟨xs, hm, hx⟩ := Option.map_eq_some_iff.1 hf
      have key : ∀ i, i < 32 → ∃ y : UInt8, cs[i]? = some (.int .u8 (y.toNat : Int)) := by
        intro i hi
        obtain ⟨b, hb, hf2⟩ := Lib.mapM_at hm i i (by simp [hi])
        obtain ⟨z, hc, _, hwf⟩ := DataW.trod_int Try.underlying5 hf2
        have hb8 := bounds_u8 hwf
        refine ⟨UInt8.ofNat z.toNat, ?_⟩
        have h2 : cs.toList[i]? = some (.int .u8 z) := by
          have := congrArg (·[0]?) hc
          simpa [List.getElem?_take, List.getElem?_drop] using this
        rw [← Array.getElem?_toList, h2]
        congr 2
        have : (UInt8.ofNat z.toNat).toNat = z.toNat % 256 := rfl
        omega
      refine ⟨(List.range 32).map (fun i => if h : i < 32 then Classical.choose (key i h) else 0), by simp, ?_⟩
      congr 1
      apply Array.toList_inj.1
      apply List.ext_getElem?
      intro i
      by_cases hi : i < 32
      · have hk := Classical.choose_spec (key i hi)
        rw [Array.getElem?_toList, hk]
        simp [bv, hi]
      · rw [Array.getElem?_toList, Array.getElem?_eq_none (by omega)]
        symm
        apply List.getElem?_eq_none
        simp only [bv, List.length_map, List.length_range]
        omega
    · cases hf
end Go.Proofs.Ytghjcppafkaopaa

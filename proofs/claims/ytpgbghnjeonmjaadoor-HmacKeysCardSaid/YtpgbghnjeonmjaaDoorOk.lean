/-
  Plain laws of this verifier: 32 bytes by value that came in as an argument.
-/
import Derived.Test.YtpgbghnjeonmjaaDoorEn
import Derived.WideKeyArr2
namespace Go.Proofs.YtpgbghnjeonmjaaDoor
open Go.ChangeShapes Go.WideShapes Go.ChangeAt Go.RowKit
set_option linter.unusedVariables false

set_option maxRecDepth 100000 in
theorem open_key {H : Type} {enc : TypeId × Value → H} {W : World} {base : Nat} {v : Value} {d : DataW H} {p : List MemPlace} (hval : Value.okWide Tryd.prog W .any base 34 v) (h1 : DataW.Trod enc Tryd.prog W 0 (fun _ => true) true 34 v d p) :
    ∃ f : Nat → UInt8, v = .agg (ub 32 f) := by
  have A : WideMaps.ArrKey Tryd.prog 34 5 32 := ⟨Tryd.underlying34, by kernel_rfl, by kernel_rfl, by kernel_rfl⟩
  obtain ⟨cs, rfl, hn⟩ := WideMaps.okWide_arr A hval
  obtain ⟨fuel, hf⟩ := h1
  have hce : Tryd.prog.cellsOf 5 = 1 := A.one
  have hct : Tryd.prog.cellsOf 34 = 32 := A.size
  cases fuel with
  | zero => simp [DataW.trod] at hf
  | succ fuel =>
    simp only [DataW.trod, A.hu, hce, hct, Nat.mul_one, Value.cells] at hf
    split at hf
    · obtain ⟨xs, hm, hx⟩ := Option.map_eq_some_iff.1 hf
      have key : ∀ i, i < 32 → ∃ y : UInt8, cs[i]? = some (.int .u8 (y.toNat : Int)) := by
        intro i hi
        obtain ⟨b, hb, hf2⟩ := Lib.mapM_at hm i i (by simp [hi])
        obtain ⟨z, hc, _, hwf⟩ := DataW.trod_int Tryd.underlying5 hf2
        have hb8 := bounds_u8 hwf
        refine ⟨UInt8.ofNat z.toNat, ?_⟩
        have h2 : cs.toList[i]? = some (.int .u8 z) := by
          have := congrArg (·[0]?) hc
          simpa [List.getElem?_take, List.getElem?_drop] using this
        rw [← Array.getElem?_toList, h2]
        congr 2
        have : (UInt8.ofNat z.toNat).toNat = z.toNat % 256 := rfl
        omega
      refine ⟨fun i => if h : i < 32 then Classical.choose (key i h) else 0, ?_⟩
      congr 1
      refine ub_ext hn (fun j hj => ?_)
      rw [dif_pos hj]
      exact Classical.choose_spec (key j hj)
    · cases hf
end Go.Proofs.YtpgbghnjeonmjaaDoor


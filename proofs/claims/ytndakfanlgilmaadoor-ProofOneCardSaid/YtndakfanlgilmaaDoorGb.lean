/-
  The greatest power of two below a number: math/bits.Len64, Len; split.
-/
import Derived.Test.YtndakfanlgilmaaDoorGa
import Derived.Test.YtndakfanlgilmaaDoorKo
import Derived.Lib.BitFns
import Derived.Lib.Walk
import Derived.Lib.Small
import Derived.Handy
namespace Go.Proofs.YtndakfanlgilmaaDoor
open Go.RowKit
set_option linter.unusedVariables false
set_option linter.unusedSimpArgs false
set_option maxRecDepth 100000 in
theorem aux_log : ∀ (f x : Nat), 0 < x → x < 2 ^ f → Go.Lib.bitLenAux f x = Nat.log2 x + 1
  | 0, x, h0, h => by simp at h; omega
  | f + 1, x, h0, h => by
    rw [Go.Lib.bitLenAux, if_neg (by omega)]
    by_cases h1 : x = 1
    · subst h1
      cases f <;> simp [Go.Lib.bitLenAux] <;> decide
    · rw [aux_log f (x / 2) (by omega) (by rw [Nat.pow_succ] at h; omega)]
      have : Nat.log2 x = Nat.log2 (x / 2) + 1 := by rw [Nat.log2_def, if_pos (by omega)]
      omega
set_option maxRecDepth 100000 in
theorem bitLen_log (x : Nat) (h0 : 0 < x) (h : x < 2 ^ 64) : Go.Lib.bitLen x = Nat.log2 x + 1 := aux_log 64 x h0 h
set_option maxRecDepth 100000 in
theorem fin0 (y : Int) (h0 : 0 ≤ y) (h1 : y ≤ 255) : wrap64 (wrap64 (Go.Lib.len8 y)) = (Go.Lib.bitLen y.toNat : Int) := by
  have l := Go.Lib.bitLen_le8' y h0 h1
  rw [Go.Lib.len8_of y h0 h1, IntWalk.wrap64_in (Go.Lib.bitLen y.toNat : Int) (by omega), IntWalk.wrap64_in _ (by omega)]
set_option maxRecDepth 100000 in
theorem fin8 (x y : Int) (s : Nat) (h0 : 0 ≤ y) (h1 : y ≤ 255) (hs : s ≤ 56) (h : Go.Lib.bitLen x.toNat = s + Go.Lib.bitLen y.toNat) : wrap64 ((s : Int) + wrap64 (Go.Lib.len8 y)) = (Go.Lib.bitLen x.toNat : Int) := by
  have l := Go.Lib.bitLen_le8' y h0 h1
  rw [Go.Lib.len8_of y h0 h1, IntWalk.wrap64_in (Go.Lib.bitLen y.toNat : Int) (by omega), IntWalk.wrap64_in _ (by omega), h]
  omega
set_option maxRecDepth 100000 in
theorem tab_get (i : Int) (h : i.toNat < Go.Lib.len8tab.size) : ((Go.Lib.len8tab[i.toNat]'h).toNat : Int) = Go.Lib.len8 i := by
  unfold Go.Lib.len8
  rw [getElem?_pos Go.Lib.len8tab i.toNat h]
  rfl
set_option maxRecDepth 100000 in
theorem shl_one (k : Nat) (h : k < 63) : wrap64 (2 ^ k) = ((2 ^ k : Nat) : Int) := by
  have : (2 ^ k : Nat) ≤ 2 ^ 62 := Nat.pow_le_pow_right (by decide) (by omega)
  have e : ((2 ^ k : Nat) : Int) = 2 ^ k := by simp
  rw [← e]
  exact IntWalk.wrap64_in _ (by generalize (2 : Nat) ^ k = q at *; omega)
end Go.Proofs.YtndakfanlgilmaaDoor


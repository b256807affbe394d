/-
  Bytes that came in as an argument.
-/
import Derived.Test.YtancppfkkepdiaaBy
import Derived.Test.YtancppfkkepdiaaLaw
import Derived.Lib.LaidU8
namespace Go.Proofs.Ytancppfkkepdiaa
open Go.ChangeShapes Go.WideShapes Go.ChangeAt Go.RowKit
set_option linter.unusedVariables false

theorem Lies.lt {w : World} {a : Option Addr} {l : List UInt8} (h : Lies w a l) (hl : l ≠ []) : ∀ k, inBlk a k → k < w.heap.size := by
  rintro k ⟨ad, rfl, rfl⟩
  rcases h with h | ⟨g, o, e, hc⟩
  · exact absurd h hl
  · cases e
    have := hc 0 (List.length_pos_iff.2 hl)
    exact World.block_lt_of_cell? w ⟨g, o + 0, none⟩ this
theorem Lies.grow {w w2 : World} {a : Option Addr} {l : List UInt8} (h : Lies w a l) (hF : Fr (fun _ => False) w w2) : Lies w2 a l := h.fr hF (fun _ _ h => h)
/-- Bytes that came in as a slice. -/
structure Came (w : World) (a : Option Addr) (n c : Nat) (l : List UInt8) : Prop where
  len : l.length = n
  le : n ≤ c
  mx : c ≤ maxLen
  lies : Lies w a l
  nil : a = none → n = 0 ∧ c = 0

theorem Came.cut {w w2 : World} {a : Option Addr} {n c : Nat} {l : List UInt8} (h : Came w a n c l) (m : Nat) (hm : m ≤ n) (hF : Fr (fun _ => False) w w2) : Came w2 a m c (l.take m) :=
  ⟨by rw [List.length_take, h.len]; omega, by have := h.le; omega, h.mx, (h.lies.grow hF).take m, fun e => by have := h.nil e; omega⟩
theorem Came.grow {w w2 : World} {a : Option Addr} {n c : Nat} {l : List UInt8} (h : Came w a n c l) {S : Nat → Prop} (hF : Fr S w w2) (hS : ∀ k, k < w.heap.size → ¬ S k) : Came w2 a n c l := by
  refine ⟨h.len, h.le, h.mx, ?_, h.nil⟩
  by_cases e : l = []
  · exact Or.inl e
  · exact h.lies.fr hF (fun k hk => hS k (h.lies.lt e k hk))
set_option maxRecDepth 100000 in
theorem came_of {H : Type} {enc : TypeId × Value → H} {W : World} {base : Nat} {v1 : Value} {d1 : DataW H} {p1 : List MemPlace} (hval : Value.okWide Try.prog W .any base 51 v1) (h1 : DataW.Trod enc Try.prog W 0 (fun _ => true) true 51 v1 d1 p1) :
    ∃ a n c l, v1 = .slice a n c ∧ Came W a n c l := by
  obtain ⟨a1, len, cap, rfl⟩ := okWide_slice Try.underlying51 hval
  obtain ⟨fuel, hf⟩ := h1
  rcases open_ints Try.underlying51 Try.underlying5 (by kernel_rfl) hf with ⟨hcs, hx⟩ | ⟨a, len', cap', zs, hcs, _, hl, hm, hz, hx, hcell, hwz⟩
  · simp [Value.cells] at hcs
    obtain ⟨rfl, rfl, rfl⟩ := hcs
    exact ⟨none, 0, 0, [], rfl, ⟨rfl, Nat.le_refl _, Nat.zero_le _, Or.inl rfl, fun _ => ⟨rfl, rfl⟩⟩⟩
  · simp [Value.cells] at hcs
    obtain ⟨rfl, rfl, rfl⟩ := hcs
    simp only [if_true] at hz
    have hlen : ((zs.take len).map fun n => UInt8.ofNat n.toNat).length = len := by simp; omega
    refine ⟨some a, len, cap, (zs.take len).map fun n => UInt8.ofNat n.toNat, rfl, ⟨hlen, hl, hm, ?_, fun h => by cases h⟩⟩
    by_cases h0 : len = 0
    · exact Or.inl (List.eq_nil_of_length_eq_zero (by rw [hlen, h0]))
    · refine Or.inr ?_
      obtain ⟨ab, ao, spot⟩ := a
      have hspot : spot = none := by simpa [Addr.add] using World.cell?_spot (hcell 0 (by omega))
      subst hspot
      refine ⟨ab, ao, rfl, fun j hj => ?_⟩
      rw [hlen] at hj
      have hc := hcell j (by omega)
      have hmem : zs.getD j 0 ∈ zs := by rw [List.getD_eq_getElem?_getD, List.getElem?_eq_getElem (by omega), Option.getD_some]; exact List.getElem_mem _
      have hb := bounds_u8 (hwz _ hmem)
      have he : zs.getD j 0 = zs[j]'(by omega) := by rw [List.getD_eq_getElem?_getD, List.getElem?_eq_getElem (by omega), Option.getD_some]
      have hc2 : W.cell? ⟨ab, ao + j, none⟩ = some (.int .u8 (zs.getD j 0)) := by rcases j with _ | j <;> simpa [Addr.add] using hc
      rw [hc2]
      simp only [List.getElem_map, List.getElem_take]
      rw [he] at hb ⊢
      generalize zs[j]'(by omega) = z at hb ⊢
      congr 2
      have : (UInt8.ofNat z.toNat).toNat = z.toNat % 256 := rfl
      omega

end Go.Proofs.Ytancppfkkepdiaa


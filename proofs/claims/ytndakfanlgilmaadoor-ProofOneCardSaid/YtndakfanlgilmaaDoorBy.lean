/-
  Plain laws of this verifier on bytes in memory: a list of bytes as cells; what is owned as a source of an append; the string of owned bytes.
-/
import Derived.Test.YtndakfanlgilmaaDoorFr
import Derived.Test.YtndakfanlgilmaaDoorProg
import Derived.Laws.BytesArg
import Derived.WalkSpells
import Derived.Deep.RegionHeld3
namespace Go.Proofs.YtndakfanlgilmaaDoor
open Go.RowKit
set_option linter.unusedVariables false

set_option maxRecDepth 100000 in
theorem Tryd.infoB : (Tryd.prog.info? 5).map (fun i => (i.zero, i.size, i.bytes)) = some (some (.int .u8 0), 1, 1) := by kernel_rfl

/-- Bytes as cells. -/
def bv (l : List UInt8) : List Value := l.map fun b => Value.int .u8 b.toNat
@[simp] theorem bv_length (l : List UInt8) : (bv l).length = l.length := by simp [bv]
set_option maxRecDepth 100000 in
theorem bv_append (a b : List UInt8) : bv (a ++ b) = bv a ++ bv b := by simp [bv]
set_option maxRecDepth 100000 in
theorem bv_cons (a : UInt8) (b : List UInt8) : bv (a :: b) = Value.int .u8 a.toNat :: bv b := rfl
set_option maxRecDepth 100000 in
theorem bv_nil : bv [] = [] := rfl
set_option maxRecDepth 100000 in
theorem bv_one (l : List UInt8) : ∀ u ∈ bv l, u.oneCell' = true := by
  intro u hu
  obtain ⟨b, _, rfl⟩ := List.mem_map.1 hu
  rfl
set_option maxRecDepth 100000 in
theorem bv_get (l : List UInt8) (j : Nat) : (bv l)[j]? = (l[j]?).map fun b => Value.int .u8 b.toNat := by simp [bv]
set_option maxRecDepth 100000 in
theorem bv_get' (l : List UInt8) (j : Nat) (h : j < l.length) : (bv l)[j]? = some (Value.int .u8 (l[j].toNat : Int)) := by simp [bv, h]
set_option maxRecDepth 100000 in
theorem u8_val (n : Int) (h0 : 0 ≤ n) (h1 : n < 256) : Value.int .u8 n = Value.int .u8 ((UInt8.ofNat n.toNat).toNat : Int) := by
  congr 1
  rw [UInt8.toNat_ofNat']
  omega
set_option maxRecDepth 100000 in
theorem bv_single (n : Int) (h0 : 0 ≤ n) (h1 : n < 256) : [Value.int .u8 n] = bv [UInt8.ofNat n.toNat] := by
  rw [bv_cons, bv_nil, ← u8_val n h0 h1]

/-- A string's list of bytes. -/
def sb (s : ByteArray) : List UInt8 := s.data.toList
set_option maxRecDepth 100000 in
theorem sb_length (s : ByteArray) : (sb s).length = s.size := Array.length_toList
set_option maxRecDepth 100000 in
theorem sb_mk (l : List UInt8) : sb ⟨l.toArray⟩ = l := by simp [sb]
set_option maxRecDepth 100000 in
theorem mk_sb (s : ByteArray) : (⟨(sb s).toArray⟩ : ByteArray) = s := by simp [sb]
set_option maxRecDepth 100000 in
theorem byteCells_sb (s : ByteArray) : byteCells s = bv (sb s) := rfl

set_option maxRecDepth 100000 in
/-- A block that is known whole, as the source of an append of bytes. -/
theorem src_block {w : World} {k : Nat} {cs : Array Value} {t : TypeId} {fr : Nat × Nat} (h : w.heap[k]? = some (.cells cs t fr)) (h1 : ∀ u ∈ cs.toList, u.oneCell' = true) (c : Nat) : Src Tryd.prog 1 39 (.slice (some ⟨k, 0, none⟩) cs.size c) cs.size cs.toList w := by
  refine Src.ofSlice w Tryd.underlying39 _ _ _ _ (by simp) ?_ h1
  intro j u hj
  have : (⟨k, 0, none⟩ : Addr).add j = ⟨k, j, none⟩ := by unfold Addr.add; split <;> simp_all
  rw [this, cell_of_block h]
  simpa using hj
set_option maxRecDepth 100000 in
theorem src_own {w : World} {B n : Nat} {v : Value} {xs : List Value} (h : w.ownsRow B 5 1 v n xs) (h1 : ∀ u ∈ xs, u.oneCell' = true) : Src Tryd.prog 1 39 v n xs w := by
  have hl := h.1
  rcases h.2 with ⟨rfl, rfl⟩ | ⟨g, cap, cur, rfl, _, hg, _, _, _, ht⟩
  · obtain rfl : xs = [] := List.eq_nil_of_length_eq_zero (by simpa using hl)
    exact Src.ofNil w Tryd.underlying39 0
  · exact Src.ofSlice w Tryd.underlying39 _ _ _ _ hl (h.cells rfl) h1

/-- Bytes that lie at an address, or nowhere if there are none. -/
def Lies (w : World) (a : Option Addr) (l : List UInt8) : Prop := l = [] ∨ ∃ g off, a = some ⟨g, off, none⟩ ∧ ∀ j (h : j < l.length), w.cell? ⟨g, off + j, none⟩ = some (.int .u8 (l[j].toNat : Int))
def inBlk (a : Option Addr) (k : Nat) : Prop := ∃ ad, a = some ad ∧ ad.block = k
set_option maxRecDepth 100000 in
theorem Lies.fr {w w2 : World} {a : Option Addr} {l : List UInt8} {S : Nat → Prop} (h : Lies w a l) (hF : Fr S w w2) (hs : ∀ k, inBlk a k → ¬ S k) : Lies w2 a l := by
  rcases h with h | ⟨g, off, rfl, hc⟩
  · exact Or.inl h
  · exact Or.inr ⟨g, off, rfl, fun j hj => hF.cellSome (p := ⟨g, off + j, none⟩) (hs g ⟨_, rfl, rfl⟩) (hc j hj)⟩
set_option maxRecDepth 100000 in
theorem addr_add (g off j : Nat) : (⟨g, off, none⟩ : Addr).add j = ⟨g, off + j, none⟩ := by unfold Addr.add; split <;> simp_all
set_option maxRecDepth 100000 in
theorem Lies.src {w : World} {a : Option Addr} {l : List UInt8} (h : Lies w a l) (c : Nat) : Src Tryd.prog 1 39 (.slice a l.length c) l.length (bv l) w := by
  cases a with
  | none =>
    rcases h with rfl | ⟨g, off, h, _⟩
    · exact Src.ofNil w Tryd.underlying39 c
    · cases h
  | some ad =>
    refine Src.ofSlice w Tryd.underlying39 _ _ _ _ (by simp) ?_ (bv_one l)
    intro j u hj
    rcases h with rfl | ⟨g, off, e, hc⟩
    · simp [bv] at hj
    · obtain rfl := Option.some.inj e
      have hlt : j < l.length := by have := (List.getElem?_eq_some_iff.1 hj).1; simpa using this
      rw [addr_add, hc j hlt]
      rw [bv_get' l j hlt] at hj
      exact hj
set_option maxRecDepth 100000 in
theorem Lies.drop {w : World} {g off : Nat} {l : List UInt8} (h : Lies w (some ⟨g, off, none⟩) l) (n : Nat) : Lies w (some ⟨g, off + n, none⟩) (l.drop n) := by
  rcases h with rfl | ⟨g2, off2, e, hc⟩
  · exact Or.inl (by simp)
  · obtain ⟨rfl, rfl⟩ : g2 = g ∧ off2 = off := by simpa [eq_comm] using Option.some.inj e
    refine Or.inr ⟨g2, off2 + n, rfl, fun j hj => ?_⟩
    have hj2 : n + j < l.length := by simp at hj; omega
    have := hc (n + j) hj2
    rw [Nat.add_assoc, this]
    simp
set_option maxRecDepth 100000 in
theorem Lies.take {w : World} {a : Option Addr} {l : List UInt8} (h : Lies w a l) (n : Nat) : Lies w a (l.take n) := by
  rcases h with rfl | ⟨g2, off2, rfl, hc⟩
  · exact Or.inl (by simp)
  · refine Or.inr ⟨g2, off2, rfl, fun j hj => ?_⟩
    have hj2 : j < l.length := by simp at hj; omega
    rw [hc j hj2]
    simp
set_option maxRecDepth 100000 in
theorem lies_own {w : World} {B n : Nat} {a : Option Addr} {c : Nat} {l : List UInt8} (h : w.ownsRow B 5 1 (.slice a n c) n (bv l)) : n = l.length ∧ n ≤ c ∧ c ≤ maxLen ∧ Lies w a l := by
  have hl := h.1
  simp at hl
  refine ⟨hl.symm, ?_⟩
  rcases h.2 with ⟨e, rfl⟩ | ⟨g, cap, cur, e, _, hg, hc, hm, _, ht⟩
  · obtain ⟨rfl, rfl⟩ : a = none ∧ c = 0 := by simpa using e
    exact ⟨Nat.le_refl _, by simp [maxLen], Or.inl (List.eq_nil_of_length_eq_zero hl)⟩
  · obtain ⟨rfl, rfl⟩ : a = some ⟨g, 0, none⟩ ∧ c = cap := by simpa using e
    refine ⟨hc, hm, Or.inr ⟨g, 0, rfl, fun j hj => ?_⟩⟩
    have := h.cells (g := g) rfl j _ (bv_get' l j hj)
    rwa [addr_add] at this

set_option maxRecDepth 100000 in
/-- The string of bytes in memory. -/
theorem run_str {w : World} {a : Option Addr} {l : List UInt8} (h : Lies w a l) (c : Nat) : ∀ dst, Tryd.prog.underlying dst = some .string → (convert 39 dst (.slice a l.length c)).run Tryd.prog w = .ok (.string ⟨l.toArray⟩) w := by
  intro dst hd
  have key : ∀ b off, (∀ j (h : j < l.length), w.cell? ⟨b, off + j, none⟩ = some (.int .u8 (l[j].toNat : Int))) → (convert 39 dst (.slice (some ⟨b, off, none⟩) l.length c)).run Tryd.prog w = .ok (.string ⟨l.toArray⟩) w := by
    intro b off hc
    have := run_convert_bytes_arg (P := Tryd.prog) w 39 5 Tryd.underlying39 Tryd.underlying5 b off l.length c (l.map fun b => (b.toNat : Int)) (by simp) (fun i hi => by rw [hc i hi]; simp [List.getD, hi]) dst hd
    rw [this]
    congr 2
    unfold strOfNums
    congr 2
    rw [List.map_map]
    conv => rhs; rw [← List.map_id l]
    exact List.map_congr_left fun x _ => by simp
  rcases h with rfl | ⟨g, off, rfl, hc⟩
  · cases a with
    | none => exact run_convert_bytes_nil (P := Tryd.prog) w 39 5 Tryd.underlying39 Tryd.underlying5 0 c dst hd
    | some ad =>
      simp only [List.length_nil]
      rw [run_convert_bytes_string w 39 dst 5 _ _ c Tryd.underlying39 Tryd.underlying5 hd]
      rw [run_bytesToString w ad 0 c [] (by simp [loadCells, loadCellsFrom])]
      rfl
  · exact key g off hc
end Go.Proofs.YtndakfanlgilmaaDoor



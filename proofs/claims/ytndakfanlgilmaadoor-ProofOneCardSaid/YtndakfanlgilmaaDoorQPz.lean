/-
  Keys of 256 bits: what they begin with alike. Plain mathematics.
  The functions of package path and of the document's answer on bits of keys.
  Bit of package path and of the document's answer, over what they call.
  Order, Less, Under, Flip of package path and Less of the document's answer, over what they call.
  Common of package path and of the document's answer, over what they call.
  The contracts of package path and of the document's answer on bits of keys.
-/
import Derived.Test.YtndakfanlgilmaaDoorKo
import Derived.Test.YtndakfanlgilmaaDoorBy
namespace Go.Proofs.YtndakfanlgilmaaDoor
set_option linter.unusedVariables false

/-- The i-th bit of a key, from the highest of the first byte on. -/
def kb (l : List UInt8) (i : Nat) : Bool := ((l.getD (i / 8) 0).toNat).testBit (7 - i % 8)
/-- So many bits do two keys begin with alike. -/
structure IsC (k l : List UInt8) (c : Nat) : Prop where
  le : c ≤ 256
  eq : ∀ i, i < c → kb k i = kb l i
  ne : c < 256 → kb k c ≠ kb l c
set_option maxRecDepth 100000 in
theorem IsC.some (k l : List UInt8) : ∃ c, IsC k l c := by
  have h : ∀ n, n ≤ 256 → (∃ c, IsC k l c) ∨ ∀ i, i < n → kb k i = kb l i := by
    intro n
    induction n with
    | zero => intro _; exact .inr (fun i h => by omega)
    | succ n ih =>
      intro hn
      rcases ih (by omega) with h | h
      · exact .inl h
      · by_cases e : kb k n = kb l n
        · exact .inr (fun i hi => by
            by_cases c : i = n
            · rw [c]; exact e
            · exact h i (by omega))
        · exact .inl ⟨n, by omega, h, fun _ => e⟩
  rcases h 256 (by omega) with h | h
  · exact h
  · exact ⟨256, by omega, h, fun c => by omega⟩
set_option maxRecDepth 100000 in
theorem IsC.one {k l : List UInt8} {c d : Nat} (h : IsC k l c) (g : IsC k l d) : c = d := by
  have h1 := h.le
  have h2 := g.le
  rcases Nat.lt_trichotomy c d with e | e | e
  · exact absurd (g.eq c e) (h.ne (by omega))
  · exact e
  · exact absurd (h.eq d e) (g.ne (by omega))
set_option maxRecDepth 100000 in
theorem IsC.symm {k l : List UInt8} {c : Nat} (h : IsC k l c) : IsC l k c := ⟨h.le, fun i hi => (h.eq i hi).symm, fun hc e => h.ne hc e.symm⟩
set_option maxRecDepth 100000 in
theorem IsC.self (k : List UInt8) : IsC k k 256 := ⟨by omega, fun _ _ => rfl, fun h => by omega⟩
set_option maxRecDepth 100000 in
theorem byte_eq {a b : UInt8} (h : ∀ j, j < 8 → a.toNat.testBit (7 - j) = b.toNat.testBit (7 - j)) : a = b := by
  apply UInt8.toNat_inj.1
  apply Nat.eq_of_testBit_eq
  intro i
  by_cases hi : i < 8
  · have := h (7 - i) (by omega)
    rwa [show 7 - (7 - i) = i by omega] at this
  · have ha : a.toNat < 2 ^ i := Nat.lt_of_lt_of_le a.toNat_lt (Nat.pow_le_pow_right (n := 2) (by decide) (show 8 ≤ i by omega))
    have hb : b.toNat < 2 ^ i := Nat.lt_of_lt_of_le b.toNat_lt (Nat.pow_le_pow_right (n := 2) (by decide) (show 8 ≤ i by omega))
    rw [Nat.testBit_lt_two_pow ha, Nat.testBit_lt_two_pow hb]
set_option maxRecDepth 100000 in
theorem kb_at (l : List UInt8) (i j : Nat) (hj : j < 8) : kb l (8 * i + j) = ((l.getD i 0).toNat).testBit (7 - j) := by
  unfold kb
  rw [show (8 * i + j) / 8 = i by omega, show (8 * i + j) % 8 = j by omega]
set_option maxRecDepth 100000 in
theorem bytes_of_bits {k l : List UInt8} (i : Nat) (h : ∀ j, j < 8 → kb k (8 * i + j) = kb l (8 * i + j)) : k.getD i 0 = l.getD i 0 :=
  byte_eq fun j hj => by rw [← kb_at k i j hj, ← kb_at l i j hj]; exact h j hj
set_option maxRecDepth 100000 in
theorem bits_of_bytes {k l : List UInt8} (i : Nat) (h : k.getD (i / 8) 0 = l.getD (i / 8) 0) : kb k i = kb l i := by unfold kb; rw [h]
set_option maxRecDepth 100000 in
theorem list_of_bytes {k l : List UInt8} (hk : k.length = 32) (hl : l.length = 32) (h : ∀ i, i < 32 → k.getD i 0 = l.getD i 0) : k = l := by
  apply List.ext_getElem (by omega)
  intro i h1 h2
  have := h i (by omega)
  rw [List.getD_eq_getElem?_getD, List.getD_eq_getElem?_getD, List.getElem?_eq_getElem h1, List.getElem?_eq_getElem h2] at this
  exact this
set_option maxRecDepth 100000 in
theorem list_of_bits {k l : List UInt8} (hk : k.length = 32) (hl : l.length = 32) (h : ∀ i, i < 256 → kb k i = kb l i) : k = l :=
  list_of_bytes hk hl fun i hi => bytes_of_bits i fun j hj => h _ (by omega)
set_option maxRecDepth 100000 in
theorem IsC.full {k l : List UInt8} (h : IsC k l 256) (hk : k.length = 32) (hl : l.length = 32) : k = l := list_of_bits hk hl h.eq
set_option maxRecDepth 100000 in
theorem IsC.part {k l : List UInt8} {c : Nat} (h : IsC k l c) (i : Nat) (hi : 8 * i + 8 ≤ c) : k.getD i 0 = l.getD i 0 := bytes_of_bits i fun j hj => h.eq _ (by omega)

set_option maxRecDepth 100000 in
theorem xor_zero {a b : Nat} (h : a ^^^ b = 0) : a = b := by
  apply Nat.eq_of_testBit_eq
  intro i
  have := congrArg (fun x => Nat.testBit x i) h
  simp only [Nat.testBit_xor, Nat.zero_testBit] at this
  cases ha : a.testBit i <;> cases hb : b.testBit i <;> simp_all
/-- How many bits a number below 256 has. -/
def len8 (x : Nat) : Nat := if x = 0 then 0 else Nat.log2 x + 1
set_option maxRecDepth 100000 in
theorem len8_fact : ∀ x, x < 256 → x ≠ 0 → 1 ≤ len8 x ∧ len8 x ≤ 8 ∧ x.testBit (len8 x - 1) = true ∧ ∀ j, j < 8 → len8 x ≤ j → x.testBit j = false := by decide +kernel
set_option maxRecDepth 100000 in
theorem IsC.of_byte {k l : List UInt8} (i : Nat) (hi : i < 32) (h : ∀ j, j < i → k.getD j 0 = l.getD j 0) (hne : k.getD i 0 ≠ l.getD i 0) :
    IsC k l (8 * i + (8 - len8 ((k.getD i 0).toNat ^^^ (l.getD i 0).toNat))) ∧ 1 ≤ len8 ((k.getD i 0).toNat ^^^ (l.getD i 0).toNat) ∧ len8 ((k.getD i 0).toNat ^^^ (l.getD i 0).toNat) ≤ 8 := by
  have hx : (k.getD i 0).toNat ^^^ (l.getD i 0).toNat < 256 := Nat.xor_lt_two_pow (n := 8) (k.getD i 0).toNat_lt (l.getD i 0).toNat_lt
  have h0 : (k.getD i 0).toNat ^^^ (l.getD i 0).toNat ≠ 0 := fun e => hne (UInt8.toNat_inj.1 (xor_zero e))
  obtain ⟨h1, h2, h3, h4⟩ := len8_fact _ hx h0
  refine ⟨⟨by omega, ?_, ?_⟩, h1, h2⟩
  · intro m hm
    by_cases c : m < 8 * i
    · exact bits_of_bytes m (h _ (by omega))
    · obtain ⟨j, rfl⟩ : ∃ j, m = 8 * i + j := ⟨m - 8 * i, by omega⟩
      rw [kb_at k i j (by omega), kb_at l i j (by omega)]
      have := h4 (7 - j) (by omega) (by omega)
      rw [Nat.testBit_xor] at this
      simpa using this
  · intro _
    rw [kb_at k i _ (by omega), kb_at l i _ (by omega)]
    rw [Nat.testBit_xor] at h3
    rw [show 7 - (8 - len8 ((k.getD i 0).toNat ^^^ (l.getD i 0).toNat)) = len8 ((k.getD i 0).toNat ^^^ (l.getD i 0).toNat) - 1 by omega]
    simpa using h3
/-- Does one stand ahead of the other? -/
def ahead (k l : List UInt8) (c : Nat) : Bool := decide (c < 256) && !kb k c
set_option maxRecDepth 100000 in
theorem ahead_self (k : List UInt8) : ahead k k 256 = false := by unfold ahead; rw [decide_eq_false (by omega)]; rfl
set_option maxRecDepth 100000 in
theorem ahead_two {k l : List UInt8} {c : Nat} (h : IsC k l c) : (c = 256 ∧ ahead k l c = false ∧ ahead l k c = false) ∨ (c < 256 ∧ ahead k l c = true ∧ ahead l k c = false) ∨ (c < 256 ∧ ahead k l c = false ∧ ahead l k c = true) := by
  have h1 := h.le
  by_cases e : c = 256
  · left; subst e; exact ⟨rfl, by unfold ahead; rw [decide_eq_false (by omega)]; rfl, by unfold ahead; rw [decide_eq_false (by omega)]; rfl⟩
  · have hc : c < 256 := by omega
    have hn := h.ne hc
    unfold ahead
    rw [decide_eq_true hc]
    cases hk : kb k c <;> cases hl : kb l c <;> rw [hk, hl] at hn
    · exact absurd rfl hn
    · right; left; exact ⟨hc, rfl, rfl⟩
    · right; right; exact ⟨hc, rfl, rfl⟩
    · exact absurd rfl hn
set_option maxRecDepth 100000 in
theorem IsC.third {a b c : List UInt8} {x y z : Nat} (h : IsC a b x) (g : IsC b c y) (f : IsC a c z) : (x = y ∧ x ≤ z) ∨ (x = z ∧ x < y) ∨ (y = z ∧ y < x) := by
  have h1 := h.le
  have h2 := g.le
  have h3 := f.le
  rcases Nat.lt_trichotomy x y with e | e | e
  · right; left
    refine ⟨IsC.one ⟨h1, fun i hi => (h.eq i hi).trans (g.eq i (by omega)), fun hc he => h.ne hc ?_⟩ f, e⟩
    rw [he, g.eq x e]
  · left
    refine ⟨e, Nat.le_of_not_lt fun hz => f.ne (by omega) ?_⟩
    rw [h.eq z hz, g.eq z (by omega)]
  · right; right
    refine ⟨IsC.one ⟨h2, fun i hi => (h.eq i (by omega)).trans (g.eq i hi), fun hc he => g.ne hc ?_⟩ f, e⟩
    rw [← h.eq y e, he]
end Go.Proofs.YtndakfanlgilmaaDoor
namespace Go.Proofs.YtndakfanlgilmaaDoor
open Go.RowKit
set_option linter.unusedVariables false
set_option linter.unusedSimpArgs false

set_option maxRecDepth 100000 in
theorem wpList_value {P : Program} {ops : Array Oper} {rest : List Oper} {a : Act} {w : World} {Q : Exit → Act → World → Prop} (t : Tmp) (ty ty2 : TypeId) (x i : Operand) (pos : String) (after : Array Edge) {o : Oper} (v : Value)
    (ho : o = { dst := some t, op := .index ty x i, type := ty2, pos := pos, after := after, guard := none })
    (hz : (Instr.index ty (a.eval x) (a.eval i)).run P w = .ok v w)
    (h : wpList P ops Q rest (a.put (some t) v) w) : wpList P ops Q (o :: rest) a w := by
  subst ho
  refine wpList_plain rfl fun _ hK => ?_
  unfold Oper.wp execOp
  simp only [Sem.run_bind, Sem.run_pure, Result.andThen_ok, hz]
  exact hK _ _ h
set_option maxRecDepth 100000 in
theorem run_index_u8 {P : Program} {s : ByteArray} {t : TypeId} {k : Nat} {b : UInt8} (hu : P.underlying t = some .string) (h : s.data[k]? = some b) (w : World) :
    (Instr.index t (.string s) (.int .u8 (k : Int))).run P w = .ok (.int .u8 (b.toNat : Int)) w := by
  have hk : k < s.size := (Array.getElem?_eq_some_iff.1 h).1
  have hb : s[k]'hk = b := (Array.getElem?_eq_some_iff.1 h).2
  simp [Instr.index, asIntOf, run_underlying hu, hk, hb]
set_option maxRecDepth 100000 in
theorem len_tab : ∀ x, x < 256 → ({ data := (([0, 1, 2, 2, 3, 3, 3, 3, 4, 4, 4, 4, 4, 4, 4, 4, 5, 5, 5, 5, 5, 5, 5, 5, 5, 5, 5, 5, 5, 5, 5, 5, 6, 6, 6, 6, 6, 6, 6, 6, 6, 6, 6, 6, 6, 6, 6, 6, 6, 6, 6, 6, 6, 6, 6, 6, 6, 6, 6, 6, 6, 6, 6, 6].append [7, 7, 7, 7, 7, 7, 7, 7, 7, 7, 7, 7, 7, 7, 7, 7, 7, 7, 7, 7, 7, 7, 7, 7, 7, 7, 7, 7, 7, 7, 7, 7, 7, 7, 7, 7, 7, 7, 7, 7, 7, 7, 7, 7, 7, 7, 7, 7, 7, 7, 7, 7, 7, 7, 7, 7, 7, 7, 7, 7, 7, 7, 7, 7]).append ([8, 8, 8, 8, 8, 8, 8, 8, 8, 8, 8, 8, 8, 8, 8, 8, 8, 8, 8, 8, 8, 8, 8, 8, 8, 8, 8, 8, 8, 8, 8, 8, 8, 8, 8, 8, 8, 8, 8, 8, 8, 8, 8, 8, 8, 8, 8, 8, 8, 8, 8, 8, 8, 8, 8, 8, 8, 8, 8, 8, 8, 8, 8, 8].append [8, 8, 8, 8, 8, 8, 8, 8, 8, 8, 8, 8, 8, 8, 8, 8, 8, 8, 8, 8, 8, 8, 8, 8, 8, 8, 8, 8, 8, 8, 8, 8, 8, 8, 8, 8, 8, 8, 8, 8, 8, 8, 8, 8, 8, 8, 8, 8, 8, 8, 8, 8, 8, 8, 8, 8, 8, 8, 8, 8, 8, 8, 8, 8])).toArray } : ByteArray).data[x]? = some (UInt8.ofNat (len8 x)) := by decide +kernel
set_option maxRecDepth 100000 in
theorem len8_le : ∀ x, x < 256 → len8 x ≤ 8 := by decide +kernel
set_option maxRecDepth 100000 in
theorem Tryd.szKy : (Tryd.prog.info? 23).map (·.size) = some 32 := by kernel_rfl
set_option maxRecDepth 100000 in
theorem Tryd.alKy : ∀ w, (Instr.alloc 23 true (.tuple #[])).run Tryd.prog w = .ok (.pointer (some ⟨w.heap.size, 0, none⟩)) (w.alloc (.cells #[.int .u8 0, .int .u8 0, .int .u8 0, .int .u8 0, .int .u8 0, .int .u8 0, .int .u8 0, .int .u8 0, .int .u8 0, .int .u8 0, .int .u8 0, .int .u8 0, .int .u8 0, .int .u8 0, .int .u8 0, .int .u8 0, .int .u8 0, .int .u8 0, .int .u8 0, .int .u8 0, .int .u8 0, .int .u8 0, .int .u8 0, .int .u8 0, .int .u8 0, .int .u8 0, .int .u8 0, .int .u8 0, .int .u8 0, .int .u8 0, .int .u8 0, .int .u8 0] 23)) := fun w => by kernel_rfl
set_option maxRecDepth 100000 in
theorem Tryd.szBa : (Tryd.prog.info? 22).map (·.size) = some 32 := by kernel_rfl
set_option maxRecDepth 100000 in
theorem Tryd.alBa : ∀ w, (Instr.alloc 22 true (.tuple #[])).run Tryd.prog w = .ok (.pointer (some ⟨w.heap.size, 0, none⟩)) (w.alloc (.cells #[.int .u8 0, .int .u8 0, .int .u8 0, .int .u8 0, .int .u8 0, .int .u8 0, .int .u8 0, .int .u8 0, .int .u8 0, .int .u8 0, .int .u8 0, .int .u8 0, .int .u8 0, .int .u8 0, .int .u8 0, .int .u8 0, .int .u8 0, .int .u8 0, .int .u8 0, .int .u8 0, .int .u8 0, .int .u8 0, .int .u8 0, .int .u8 0, .int .u8 0, .int .u8 0, .int .u8 0, .int .u8 0, .int .u8 0, .int .u8 0, .int .u8 0, .int .u8 0] 22)) := fun w => by kernel_rfl
set_option maxRecDepth 100000 in
set_option maxHeartbeats 1600000 in
theorem len8_any (x : Nat) (hx : x < 256) (w : World) :
    Calls Tryd.prog 45 #[.int .u8 (x : Int)] w fun e w' => e = .returned (.int .i64 (len8 x : Int)) ∧ Fr (fun _ => False) w w' := by
  go_enter Tryd.func45, Tryd.ntmps45
  go_wp2_with fail
  go_ret
  refine ⟨?_, Fr.refl _ _⟩
  have e := (Array.getElem?_eq_some_iff.1 (len_tab x hx)).2
  have hl := len8_le x hx
  refine congrArg Ending.returned (congrArg (Value.int .i64) ?_)
  refine (congrArg (fun u : UInt8 => wrap64 (u.toNat : Int)) e).trans ?_
  show wrap64 ((UInt8.ofNat (len8 x)).toNat : Int) = _
  rw [UInt8.toNat_ofNat', IntWalk.wrap64_in _ (by omega)]
  omega
set_option maxRecDepth 100000 in
set_option maxHeartbeats 1600000 in
theorem lead8_any (x : Nat) (hx : x < 256) (w : World) :
    Calls Tryd.prog 42 #[.int .u8 (x : Int)] w fun e w' => e = .returned (.int .i64 ((8 - len8 x : Nat) : Int)) ∧ Fr (fun _ => False) w w' := by
  have hl := len8_le x hx
  have L := len8_any x hx
  go_enter Tryd.func42, Tryd.ntmps42
  go_wp2_with (first | (go_at_call 45; (with_reducible refine (L _).mono ?_); rintro e w' ⟨rfl, F⟩))
  go_ret
  refine ⟨?_, F⟩
  show Ending.returned (.int .i64 (8 - (len8 x : Int))) = _
  rw [show ((8 - len8 x : Nat) : Int) = 8 - (len8 x : Int) by omega]
set_option maxRecDepth 100000 in
set_option maxHeartbeats 1600000 in
theorem place_yes (i : Nat) (hi : i < 256) (w : World) :
    Calls Tryd.prog 31 #[.int .i64 (i : Int)] w fun e w' => e = .returned (.bool true) ∧ Fr (fun _ => False) w w' := by
  have h0 : (0 : Int) ≤ (i : Int) := by omega
  have h1 : (i : Int) < 256 := by omega
  go_enter Tryd.func31, Tryd.ntmps31
  go_wp2_with fail
  go_ret
  exact ⟨rfl, Fr.refl _ _⟩
set_option maxRecDepth 100000 in
set_option maxHeartbeats 1600000 in
theorem place_neg (i : Int) (hi : i < 0) (w : World) :
    Calls Tryd.prog 31 #[.int .i64 i] w fun e w' => e = .returned (.bool false) ∧ Fr (fun _ => False) w w' := by
  have h0 : ¬ (0 : Int) ≤ i := by omega
  have h1 : decide (0 ≤ i) = false := decide_eq_false h0
  go_enter Tryd.func31, Tryd.ntmps31
  go_wp2_with fail
  go_ret
  exact ⟨rfl, Fr.refl _ _⟩
set_option maxRecDepth 100000 in
set_option maxHeartbeats 1600000 in
theorem place_far (i : Int) (hi : 255 < i) (w : World) :
    Calls Tryd.prog 31 #[.int .i64 i] w fun e w' => e = .returned (.bool false) ∧ Fr (fun _ => False) w w' := by
  have h0 : (0 : Int) ≤ i := by omega
  have h1 : decide (i < 256) = false := decide_eq_false (by omega)
  have h2 : ¬ i < 256 := by omega
  go_enter Tryd.func31, Tryd.ntmps31
  go_wp2_with fail
  go_ret
  exact ⟨rfl, Fr.refl _ _⟩
set_option maxRecDepth 100000 in
theorem place_no (i : Int) (hi : i < 0 ∨ 255 < i) : Ans Tryd.prog 31 #[.int .i64 i] (.bool false) := fun W => by
  rcases hi with h | h
  · exact place_neg i h W
  · exact place_far i h W
set_option maxRecDepth 100000 in
set_option maxHeartbeats 1600000 in
theorem mask_any (i : Nat) (hi : i < 256) (w : World) :
    Calls Tryd.prog 32 #[.int .i64 (i : Int)] w fun e w' => e = .returned (.int .u8 ((128 / 2 ^ (i % 8) : Nat) : Int)) ∧ Fr (fun _ => False) w w' := by
  have h0 : (i : Int).tmod 8 = ((i % 8 : Nat) : Int) := by rw [Int.tmod_eq_emod_of_nonneg (by omega)]; simp
  have h1 : i % 8 < 8 := by omega
  go_enter Tryd.func32, Tryd.ntmps32
  go_wp2_with fail
  go_ret
  exact ⟨rfl, Fr.refl _ _⟩
end Go.Proofs.YtndakfanlgilmaaDoor
namespace Go.Proofs.YtndakfanlgilmaaDoor
open Go.RowKit
set_option linter.unusedVariables false
set_option linter.unusedSimpArgs false

set_option maxRecDepth 100000 in
set_option maxHeartbeats 3200000 in
theorem bit_one (I : Int) (q a m r : Nat) (A : Array Value) (w : World)
    (PL : Ans Tryd.prog 31 #[.int .i64 I] (.bool true))
    (MA : Ans Tryd.prog 32 #[.int .i64 I] (.int .u8 (m : Int)))
    (hq : I.tdiv 8 = (q : Int)) (hq1 : q < 32) (hA : A[q]? = some (.int .u8 (a : Int))) (ha : bits .and .u8 (a : Int) (m : Int) = (r : Int)) (hr : ((r : Int) == 0) = false) (hr2 : (r == 0) = false)
    (sA : Sz 32 A) :
    Calls Tryd.prog 19 #[.agg A, .int .i64 I] w fun e w' => e = .returned (.int .i64 1) ∧ Fr (fun _ => False) w w' := by
  have g0 : (0 : Int) ≤ (q : Int) := by omega
  have g1 : (q : Int) < 32 := by omega
  have K := ((Kn.start w).new (w.heap.size) 32 A 23 rfl sA.1)
  go_enter Tryd.func19, Tryd.ntmps19
  go_wp2_with fail
  have cx := fun y : Wd _ => K.celld y 0 rfl q hA
  refine wp_region_keep (by kernel_rfl) (by kernel_rfl) ?_
  repeat (any_goals (first | go_big_quiet_step ((first | (go_at_call 31; with_reducible exact Calls.keep (PL _)) | (go_at_call 32; with_reducible exact Calls.keep (MA _)))) | quiet_step ((first | (go_at_call 31; with_reducible exact Calls.keep (PL _)) | (go_at_call 32; with_reducible exact Calls.keep (MA _))))))
  refine wpQuiet_nil ?_
  intro _ hwz
  obtain ⟨y, rfl⟩ := hwz
  have Kz := K.call y.h
  clear K cx
  have K := Kz
  clear Kz
  generalize y.w = wz at K ⊢
  clear y
  go_wp2_with fail
  go_ret
  exact ⟨rfl, K.fr⟩
set_option maxRecDepth 100000 in
set_option maxHeartbeats 3200000 in
theorem bit_nil (I : Int) (q a m r : Nat) (A : Array Value) (w : World)
    (PL : Ans Tryd.prog 31 #[.int .i64 I] (.bool true))
    (MA : Ans Tryd.prog 32 #[.int .i64 I] (.int .u8 (m : Int)))
    (hq : I.tdiv 8 = (q : Int)) (hq1 : q < 32) (hA : A[q]? = some (.int .u8 (a : Int))) (ha : bits .and .u8 (a : Int) (m : Int) = (r : Int)) (hr : ((r : Int) == 0) = true) (hr2 : (r == 0) = true)
    (sA : Sz 32 A) :
    Calls Tryd.prog 19 #[.agg A, .int .i64 I] w fun e w' => e = .returned (.int .i64 0) ∧ Fr (fun _ => False) w w' := by
  have g0 : (0 : Int) ≤ (q : Int) := by omega
  have g1 : (q : Int) < 32 := by omega
  have K := ((Kn.start w).new (w.heap.size) 32 A 23 rfl sA.1)
  go_enter Tryd.func19, Tryd.ntmps19
  go_wp2_with fail
  have cx := fun y : Wd _ => K.celld y 0 rfl q hA
  refine wp_region_keep (by kernel_rfl) (by kernel_rfl) ?_
  repeat (any_goals (first | go_big_quiet_step ((first | (go_at_call 31; with_reducible exact Calls.keep (PL _)) | (go_at_call 32; with_reducible exact Calls.keep (MA _)))) | quiet_step ((first | (go_at_call 31; with_reducible exact Calls.keep (PL _)) | (go_at_call 32; with_reducible exact Calls.keep (MA _))))))
  refine wpQuiet_nil ?_
  intro _ hwz
  obtain ⟨y, rfl⟩ := hwz
  have Kz := K.call y.h
  clear K cx
  have K := Kz
  clear Kz
  generalize y.w = wz at K ⊢
  clear y
  go_wp2_with fail
  go_ret
  exact ⟨rfl, K.fr⟩
set_option maxRecDepth 100000 in
set_option maxHeartbeats 3200000 in
theorem bit_out (I : Int) (q a m r : Nat) (A : Array Value) (w : World)
    (PL : Ans Tryd.prog 31 #[.int .i64 I] (.bool false))
    (sA : Sz 32 A) :
    Calls Tryd.prog 19 #[.agg A, .int .i64 I] w fun e w' => e = .returned (.int .i64 0) ∧ Fr (fun _ => False) w w' := by
  have K := ((Kn.start w).new (w.heap.size) 32 A 23 rfl sA.1)
  go_enter Tryd.func19, Tryd.ntmps19
  go_wp2_with fail
  refine wp_region_keep (by kernel_rfl) (by kernel_rfl) ?_
  repeat (any_goals (first | go_big_quiet_step ((first | (go_at_call 31; with_reducible exact Calls.keep (PL _)))) | quiet_step ((first | (go_at_call 31; with_reducible exact Calls.keep (PL _))))))
  refine wpQuiet_nil ?_
  intro _ hwz
  obtain ⟨y, rfl⟩ := hwz
  have Kz := K.call y.h
  clear K 
  have K := Kz
  clear Kz
  generalize y.w = wz at K ⊢
  clear y
  go_wp2_with fail
  go_ret
  exact ⟨rfl, K.fr⟩
set_option maxRecDepth 100000 in
set_option maxHeartbeats 3200000 in
theorem rbit_in (I : Int) (q a m s v : Nat) (A : Array Value) (w : World)
    (h0 : ¬ I < 0) (h1 : ¬ 255 < I) (h2 : decide (I < 0) = false) (h3 : decide (255 < I) = false) (hq : I.tdiv 8 = (q : Int)) (hq1 : q < 32) (hA : A[q]? = some (.int .u8 (a : Int))) (hm : I.tmod 8 = (m : Int)) (hm1 : m < 8) (hs : (a : Int) / 2 ^ (7 - m) = (s : Int)) (hs1 : s < 256) (hv : (s : Int).tmod 2 = (v : Int))
    (sA : Sz 32 A) :
    Calls Tryd.prog 25 #[.agg A, .int .i64 I] w fun e w' => e = .returned (.int .i64 (v : Int)) ∧ Fr (fun _ => False) w w' := by
  have g0 : (0 : Int) ≤ (q : Int) := by omega
  have g1 : (q : Int) < 32 := by omega
  have w7 : IntKind.i64.wrap (7 - (m : Int)) = ((7 - m : Nat) : Int) := by rw [IntWalk.i64_in _ (by omega)]; omega
  have w8 : wrap64 (7 - (m : Int)) = ((7 - m : Nat) : Int) := by rw [IntWalk.wrap64_in _ (by omega)]; omega
  have w9 : (7 : Int) - (m : Int) = ((7 - m : Nat) : Int) := by omega
  have s9 : ¬ ((7 - m : Nat) : Int) < 0 := by omega
  have s8 : wrap64 (s : Int) = (s : Int) := IntWalk.wrap64_in _ (by omega)
  have K := ((Kn.start w).new (w.heap.size) 32 A 22 rfl sA.1)
  go_enter Tryd.func25, Tryd.ntmps25
  have cx := K.cell 0 rfl q hA
  go_wp2_with fail
  go_ret
  exact ⟨rfl, K.fr⟩
set_option maxRecDepth 100000 in
set_option maxHeartbeats 3200000 in
theorem rbit_neg (I : Int) (q a m s v : Nat) (A : Array Value) (w : World)
    (h0 : I < 0) (h2 : decide (I < 0) = true)
    (sA : Sz 32 A) :
    Calls Tryd.prog 25 #[.agg A, .int .i64 I] w fun e w' => e = .returned (.int .i64 0) ∧ Fr (fun _ => False) w w' := by
  have K := ((Kn.start w).new (w.heap.size) 32 A 22 rfl sA.1)
  go_enter Tryd.func25, Tryd.ntmps25
  go_wp2_with fail
  go_ret
  exact ⟨rfl, K.fr⟩
set_option maxRecDepth 100000 in
set_option maxHeartbeats 3200000 in
theorem rbit_far (I : Int) (q a m s v : Nat) (A : Array Value) (w : World)
    (h0 : ¬ I < 0) (h1 : 255 < I) (h2 : decide (I < 0) = false) (h3 : decide (255 < I) = true)
    (sA : Sz 32 A) :
    Calls Tryd.prog 25 #[.agg A, .int .i64 I] w fun e w' => e = .returned (.int .i64 0) ∧ Fr (fun _ => False) w w' := by
  have K := ((Kn.start w).new (w.heap.size) 32 A 22 rfl sA.1)
  go_enter Tryd.func25, Tryd.ntmps25
  go_wp2_with fail
  go_ret
  exact ⟨rfl, K.fr⟩
end Go.Proofs.YtndakfanlgilmaaDoor
namespace Go.Proofs.YtndakfanlgilmaaDoor
open Go.RowKit
set_option linter.unusedVariables false
set_option linter.unusedSimpArgs false

set_option maxRecDepth 100000 in
theorem Tryd.iU8 : (Tryd.prog.info? 5).map (·.size) = some 1 := by kernel_rfl
set_option maxRecDepth 100000 in
theorem wpList_load_kn_gd {P : Program} {ops : Array Oper} {rest : List Oper} {o : Oper} {a : Act} {w0 w : World} {L : List Bk} {Q : Exit → Act → World → Prop} (K : Kn w0 L w) (hw : Region.wanted o (yielded ops a.tmps) = true) (ty : TypeId) (x : Operand) (ho : o.op = .load ty x) (i g n : Nat) (cs : Array Value) (T : TypeId) (hx : a.eval x = .pointer (some ⟨g, 0, none⟩))
    (d : TypeDesc) (hu : P.underlying ty = some d) (hd : (match d with | .struct _ | .array _ _ => true | _ => false) = true) (hty : (P.info? ty).map (·.size) = some n) (hi : L[i]? = some ⟨g, n, cs, T⟩)
    (h : wpList P ops Q rest (a.put o.dst (.agg cs)) w) : wpList P ops Q (o :: rest) a w :=
  wpList_step fun Kk hK => by simp only [hw, if_true]; exact wp_load_row ty x ho g hx T cs (0, 0) d (K.heap i hi) hu hd (by rw [hty, K.size i hi]) (hK _ _ h)
set_option maxRecDepth 100000 in
set_option maxHeartbeats 3200000 in
theorem under_lo (I : Int) (c : Nat) (r : Bool) (A B : Array Value) (w : World)
    (CO : Ans Tryd.prog 34 #[.agg A, .agg B] (.int .i64 (c : Int)))
    (h1 : I ≤ 256) (h2 : ¬ 256 < I) (hr : decide (I ≤ (c : Int)) = r)
    (sA : Sz 32 A) (sB : Sz 32 B) :
    Calls Tryd.prog 24 #[.agg A, .agg B, .int .i64 I] w fun e w' => e = .returned (.bool r) ∧ Fr (fun _ => False) w w' := by
  have K := (((Kn.start w).new (w.heap.size) 32 A 23 rfl sA.1).new (w.heap.size + 1) 32 B 23 (by simp) sB.1)
  go_enter Tryd.func24, Tryd.ntmps24
  go_wp2_with (first
      | (focus (first | ((with_reducible refine' wpList_load_kn K rfl 23 (.tmp 3) rfl 1 _ _ _ _ rfl _ Tryd.underlying23 rfl Tryd.szKy _ _); rotate_left 2; (focus exact rfl)) | ((with_reducible refine' wpList_load_kn K rfl 23 (.tmp 4) rfl 0 _ _ _ _ rfl _ Tryd.underlying23 rfl Tryd.szKy _ _); rotate_left 2; (focus exact rfl))))
      | (go_at_call 34; (with_reducible refine Calls.kn K (CO _) ?_); intro wz Kz; clear K; have K := Kz; clear Kz))
  go_ret
  exact ⟨rfl, K.fr⟩
set_option maxRecDepth 100000 in
set_option maxHeartbeats 3200000 in
theorem under_hi (I : Int) (c : Nat) (r : Bool) (A B : Array Value) (w : World)
    (CO : Ans Tryd.prog 34 #[.agg A, .agg B] (.int .i64 (c : Int)))
    (h1 : 256 < I) (h2 : ¬ I ≤ 256) (h3 : ¬ I < 256) (hr : decide (256 ≤ (c : Int)) = r)
    (sA : Sz 32 A) (sB : Sz 32 B) :
    Calls Tryd.prog 24 #[.agg A, .agg B, .int .i64 I] w fun e w' => e = .returned (.bool r) ∧ Fr (fun _ => False) w w' := by
  have K := (((Kn.start w).new (w.heap.size) 32 A 23 rfl sA.1).new (w.heap.size + 1) 32 B 23 (by simp) sB.1)
  go_enter Tryd.func24, Tryd.ntmps24
  go_wp2_with (first
      | (focus (first | ((with_reducible refine' wpList_load_kn K rfl 23 (.tmp 3) rfl 1 _ _ _ _ rfl _ Tryd.underlying23 rfl Tryd.szKy _ _); rotate_left 2; (focus exact rfl)) | ((with_reducible refine' wpList_load_kn K rfl 23 (.tmp 4) rfl 0 _ _ _ _ rfl _ Tryd.underlying23 rfl Tryd.szKy _ _); rotate_left 2; (focus exact rfl))))
      | (go_at_call 34; (with_reducible refine Calls.kn K (CO _) ?_); intro wz Kz; clear K; have K := Kz; clear Kz))
  go_ret
  exact ⟨rfl, K.fr⟩
end Go.Proofs.YtndakfanlgilmaaDoor
namespace Go.Proofs.YtndakfanlgilmaaDoor
open Go.RowKit
set_option linter.unusedVariables false
set_option linter.unusedSimpArgs false

set_option maxRecDepth 100000 in
set_option maxHeartbeats 3200000 in
theorem cm_full (q x z : Nat) (A B : Array Value) (w : World)
    (a b : Nat → Nat) (hA : ∀ j, j < 32 → A[j]? = some (.int .u8 (a j : Int))) (hB : ∀ j, j < 32 → B[j]? = some (.int .u8 (b j : Int))) (he : ∀ j, j < 32 → a j = b j)
    (sA : Sz 32 A) (sB : Sz 32 B) :
    Calls Tryd.prog 34 #[.agg A, .agg B] w fun e w' => e = .returned (.int .i64 256) ∧ Fr (fun _ => False) w w' := by
  have HA := Lib.hid hA
  have HB := Lib.hid hB
  have HE := Lib.hid he
  clear hA hB he
  have K := (((Kn.start w).new (w.heap.size) 32 A 23 rfl sA.1).new (w.heap.size + 1) 32 B 23 (by simp) sB.1)
  go_enter Tryd.func34, Tryd.ntmps34
  go_wp2_with fail
  go_loopw [6] (fun i wr => ∃ k : Nat, k ≤ 32 ∧ i = .int .i64 (k : Int) ∧ Kn w [⟨w.heap.size + 1, 32, B, 23⟩, ⟨w.heap.size, 32, A, 23⟩] wr) (fun i _ => (32 - (intOf i).toNat))
  case atStart => exact ⟨0, by omega, by simp, K⟩
  case round =>
    clear K
    obtain ⟨k, hk, rfl, K⟩ := hrel
    by_cases hc : k = 32
    · subst hc
      go_wp2_with fail
      go_ret
      exact ⟨rfl, K.fr⟩
    · have hk2 : k < 32 := by omega
      have n0 : (0 : Int) ≤ (k : Int) := by omega
      have n1 : (k : Int) < 32 := by omega
      have hAk := HA.out k hk2
      have hBk := HB.out k hk2
      rw [← HE.out k (by omega)] at hBk
      generalize hak : a k = u at *
      clear HA HB HE hak
      go_wp2_with fail
      have cx := fun y : Wd _ => K.celld y 1 rfl k hAk
      have cy := fun y : Wd _ => K.celld y 0 rfl k hBk
      refine wp_region_keep (by kernel_rfl) (by kernel_rfl) ?_

      repeat (any_goals (first | go_big_quiet_step (fail) | quiet_step (fail)))
      refine wpQuiet_nil ?_
      intro _ hwz
      obtain ⟨y, rfl⟩ := hwz
      have Kz := K.call y.h
      clear K cx cy
      have K := Kz
      clear Kz
      generalize y.w = wz at K ⊢
      clear y
      go_wp2_with fail
      go_roundw
      case rel => exact ⟨k + 1, by omega, by simp, K⟩
      case measure => simp [intOf]; omega
set_option maxRecDepth 100000 in
set_option maxHeartbeats 3200000 in
theorem cm_part (q x z : Nat) (A B : Array Value) (w : World)
    (LZ : Ans Tryd.prog 42 #[.int .u8 (x : Int)] (.int .i64 (z : Int)))
    (a b : Nat → Nat) (hA : ∀ j, j < 32 → A[j]? = some (.int .u8 (a j : Int))) (hB : ∀ j, j < 32 → B[j]? = some (.int .u8 (b j : Int))) (he : ∀ j, j < q → a j = b j) (hq : q < 32) (hz : z ≤ 8) (hn : a q ≠ b q) (hx : bits .xor .u8 (a q : Int) (b q : Int) = (x : Int))
    (sA : Sz 32 A) (sB : Sz 32 B) :
    Calls Tryd.prog 34 #[.agg A, .agg B] w fun e w' => e = .returned (.int .i64 ((8 * q + z : Nat) : Int)) ∧ Fr (fun _ => False) w w' := by
  have HA := Lib.hid hA
  have HB := Lib.hid hB
  have HE := Lib.hid he
  clear hA hB he
  have K := (((Kn.start w).new (w.heap.size) 32 A 23 rfl sA.1).new (w.heap.size + 1) 32 B 23 (by simp) sB.1)
  go_enter Tryd.func34, Tryd.ntmps34
  go_wp2_with fail
  go_loopw [6] (fun i wr => ∃ k : Nat, k ≤ q ∧ i = .int .i64 (k : Int) ∧ Kn w [⟨w.heap.size + 1, 32, B, 23⟩, ⟨w.heap.size, 32, A, 23⟩] wr) (fun i _ => (32 - (intOf i).toNat))
  case atStart => exact ⟨0, by omega, by simp, K⟩
  case round =>
    clear K
    obtain ⟨k, hk, rfl, K⟩ := hrel
    by_cases hc : k = q
    · subst hc
      have n0 : (0 : Int) ≤ (k : Int) := by omega
      have n1 : (k : Int) < 32 := by omega
      have w8 : wrap64 (8 * (k : Int)) = 8 * (k : Int) := IntWalk.wrap64_in _ (by omega)
      have w7 : IntKind.i64.wrap (8 * (k : Int)) = 8 * (k : Int) := IntWalk.i64_in _ (by omega)
      have w6 : wrap64 (8 * (k : Int) + (z : Int)) = ((8 * k + z : Nat) : Int) := by rw [IntWalk.wrap64_in _ (by omega)]; omega
      have w5 : IntKind.i64.wrap (8 * (k : Int) + (z : Int)) = ((8 * k + z : Nat) : Int) := by rw [IntWalk.i64_in _ (by omega)]; omega
      have hAk := HA.out k hq
      have hBk := HB.out k hq
      generalize hak : a k = u at *
      generalize hbk : b k = v at *
      have e1 : (u == v) = false := by rw [beq_eq_false_iff_ne]; exact hn
      have e2 : ((u : Int) == (v : Int)) = false := by rw [beq_eq_false_iff_ne]; omega
      have e3 : decide ((u : Int) = (v : Int)) = false := decide_eq_false (by omega)
      have e4 : ¬ (u : Int) = (v : Int) := by omega
      clear HA HB HE hak hbk
      go_wp2_with fail
      have cx := fun y : Wd _ => K.celld y 1 rfl k hAk
      have cy := fun y : Wd _ => K.celld y 0 rfl k hBk
      refine wp_region_keep (by kernel_rfl) (by kernel_rfl) ?_

      repeat (any_goals (first | go_big_quiet_step (fail) | quiet_step (fail)))
      refine wpQuiet_nil ?_
      intro _ hwz
      obtain ⟨y, rfl⟩ := hwz
      have Kz := K.call y.h
      clear K cx cy
      have K := Kz
      clear Kz
      generalize y.w = wz at K ⊢
      clear y
      go_wp2_with fail
      have cx := fun y : Wd _ => K.celld y 1 rfl k hAk
      have cy := fun y : Wd _ => K.celld y 0 rfl k hBk
      refine wp_region_keep (by kernel_rfl) (by kernel_rfl) ?_

      repeat (any_goals (first | go_big_quiet_step ((first | (go_at_call 42; with_reducible exact Calls.keep (LZ _)))) | quiet_step ((first | (go_at_call 42; with_reducible exact Calls.keep (LZ _))))))
      refine wpQuiet_nil ?_
      intro _ hwz
      obtain ⟨y, rfl⟩ := hwz
      have Kz := K.call y.h
      clear K cx cy
      have K := Kz
      clear Kz
      generalize y.w = wz at K ⊢
      clear y
      go_wp2_with fail
      go_ret
      exact ⟨rfl, K.fr⟩
    · have hk2 : k < 32 := by omega
      have n0 : (0 : Int) ≤ (k : Int) := by omega
      have n1 : (k : Int) < 32 := by omega
      have hAk := HA.out k hk2
      have hBk := HB.out k hk2
      rw [← HE.out k (by omega)] at hBk
      generalize hak : a k = u at *
      clear HA HB HE hak
      go_wp2_with fail
      have cx := fun y : Wd _ => K.celld y 1 rfl k hAk
      have cy := fun y : Wd _ => K.celld y 0 rfl k hBk
      refine wp_region_keep (by kernel_rfl) (by kernel_rfl) ?_

      repeat (any_goals (first | go_big_quiet_step (fail) | quiet_step (fail)))
      refine wpQuiet_nil ?_
      intro _ hwz
      obtain ⟨y, rfl⟩ := hwz
      have Kz := K.call y.h
      clear K cx cy
      have K := Kz
      clear Kz
      generalize y.w = wz at K ⊢
      clear y
      go_wp2_with fail
      go_roundw
      case rel => exact ⟨k + 1, by omega, by simp, K⟩
      case measure => simp [intOf]; omega
set_option maxRecDepth 100000 in
set_option maxHeartbeats 3200000 in
theorem rcm_full (c : Nat) (a b : Nat → Nat) (A B : Array Value) (w : World)
    (BA : ∀ j : Nat, j < 256 → Ans Tryd.prog 25 #[.agg A, .int .i64 (j : Int)] (.int .i64 (a j : Int))) (BB : ∀ j : Nat, j < 256 → Ans Tryd.prog 25 #[.agg B, .int .i64 (j : Int)] (.int .i64 (b j : Int))) (he : ∀ j, j < 256 → a j = b j)
    (sA : Sz 32 A) (sB : Sz 32 B) :
    Calls Tryd.prog 26 #[.agg A, .agg B] w fun e w' => e = .returned (.int .i64 256) ∧ Fr (fun _ => False) w w' := by
  have HA := Lib.hid BA
  have HB := Lib.hid BB
  have HE := Lib.hid he
  clear BA BB he
  have K := (((Kn.start w).new (w.heap.size) 32 A 22 rfl sA.1).new (w.heap.size + 1) 32 B 22 (by simp) sB.1)
  go_enter Tryd.func26, Tryd.ntmps26
  go_wp2_with fail
  go_loopw [5] (fun i wr => ∃ k : Nat, k ≤ 256 ∧ i = .int .i64 (k : Int) ∧ Kn w [⟨w.heap.size + 1, 32, B, 22⟩, ⟨w.heap.size, 32, A, 22⟩] wr) (fun i _ => (256 - (intOf i).toNat))
  case atStart => exact ⟨0, by omega, by simp, K⟩
  case round =>
    clear K
    obtain ⟨k, hk, rfl, K⟩ := hrel
    by_cases hc : k = 256
    · subst hc
      go_wp2_with fail
      go_ret
      exact ⟨rfl, K.fr⟩
    · have hk2 : k < 256 := by omega
      have n1 : (k : Int) < 256 := by omega
      have B1 := HA.out k hk2
      have B2 := HB.out k hk2
      rw [← HE.out k (by omega)] at B2
      generalize hak : a k = u at *
      clear HA HB HE hak
      go_wp2_with fail
      refine wp_region_keep (by kernel_rfl) (by kernel_rfl) ?_

      repeat (any_goals (first | (focus (go_big_quiet_want; (first | ((with_reducible refine' quiet_load_kn K 22 (.tmp 2) rfl 1 _ _ _ _ rfl _ Tryd.underlying22 rfl Tryd.szBa _ _); rotate_left 2; (focus exact rfl)) | ((with_reducible refine' quiet_load_kn K 22 (.tmp 3) rfl 0 _ _ _ _ rfl _ Tryd.underlying22 rfl Tryd.szBa _ _); rotate_left 2; (focus exact rfl))); simp only [Act.put, List.setIfInBounds_toArray, List.set_cons_zero, List.set_cons_succ]; go_big_quiet_on)) | go_big_quiet_step ((first | (go_at_call 25; with_reducible exact Calls.keep (B1 _)) | (go_at_call 25; with_reducible exact Calls.keep (B2 _)))) | quiet_step ((first | (go_at_call 25; with_reducible exact Calls.keep (B1 _)) | (go_at_call 25; with_reducible exact Calls.keep (B2 _))))))
      refine wpQuiet_nil ?_
      intro _ hwz
      obtain ⟨y, rfl⟩ := hwz
      have Kz := K.call y.h
      clear K 
      have K := Kz
      clear Kz
      generalize y.w = wz at K ⊢
      clear y
      go_wp2_with fail
      go_roundw
      case rel => exact ⟨k + 1, by omega, by simp, K⟩
      case measure => simp [intOf]; omega
set_option maxRecDepth 100000 in
set_option maxHeartbeats 3200000 in
theorem rcm_part (c : Nat) (a b : Nat → Nat) (A B : Array Value) (w : World)
    (BA : ∀ j : Nat, j < 256 → Ans Tryd.prog 25 #[.agg A, .int .i64 (j : Int)] (.int .i64 (a j : Int))) (BB : ∀ j : Nat, j < 256 → Ans Tryd.prog 25 #[.agg B, .int .i64 (j : Int)] (.int .i64 (b j : Int))) (he : ∀ j, j < c → a j = b j) (hc2 : c < 256) (hn : a c ≠ b c)
    (sA : Sz 32 A) (sB : Sz 32 B) :
    Calls Tryd.prog 26 #[.agg A, .agg B] w fun e w' => e = .returned (.int .i64 (c : Int)) ∧ Fr (fun _ => False) w w' := by
  have HA := Lib.hid BA
  have HB := Lib.hid BB
  have HE := Lib.hid he
  clear BA BB he
  have K := (((Kn.start w).new (w.heap.size) 32 A 22 rfl sA.1).new (w.heap.size + 1) 32 B 22 (by simp) sB.1)
  go_enter Tryd.func26, Tryd.ntmps26
  go_wp2_with fail
  go_loopw [5] (fun i wr => ∃ k : Nat, k ≤ c ∧ i = .int .i64 (k : Int) ∧ Kn w [⟨w.heap.size + 1, 32, B, 22⟩, ⟨w.heap.size, 32, A, 22⟩] wr) (fun i _ => (256 - (intOf i).toNat))
  case atStart => exact ⟨0, by omega, by simp, K⟩
  case round =>
    clear K
    obtain ⟨k, hk, rfl, K⟩ := hrel
    by_cases hc : k = c
    · subst hc
      have n1 : (k : Int) < 256 := by omega
      have B1 := HA.out k hc2
      have B2 := HB.out k hc2
      generalize hak : a k = u at *
      generalize hbk : b k = v at *
      have e1 : (u == v) = false := by rw [beq_eq_false_iff_ne]; exact hn
      have e2 : ((u : Int) == (v : Int)) = false := by rw [beq_eq_false_iff_ne]; omega
      have e3 : decide ((u : Int) = (v : Int)) = false := decide_eq_false (by omega)
      have e4 : ¬ (u : Int) = (v : Int) := by omega
      clear HA HB HE hak hbk
      go_wp2_with fail
      refine wp_region_keep (by kernel_rfl) (by kernel_rfl) ?_

      repeat (any_goals (first | (focus (go_big_quiet_want; (first | ((with_reducible refine' quiet_load_kn K 22 (.tmp 2) rfl 1 _ _ _ _ rfl _ Tryd.underlying22 rfl Tryd.szBa _ _); rotate_left 2; (focus exact rfl)) | ((with_reducible refine' quiet_load_kn K 22 (.tmp 3) rfl 0 _ _ _ _ rfl _ Tryd.underlying22 rfl Tryd.szBa _ _); rotate_left 2; (focus exact rfl))); simp only [Act.put, List.setIfInBounds_toArray, List.set_cons_zero, List.set_cons_succ]; go_big_quiet_on)) | go_big_quiet_step ((first | (go_at_call 25; with_reducible exact Calls.keep (B1 _)) | (go_at_call 25; with_reducible exact Calls.keep (B2 _)))) | quiet_step ((first | (go_at_call 25; with_reducible exact Calls.keep (B1 _)) | (go_at_call 25; with_reducible exact Calls.keep (B2 _))))))
      refine wpQuiet_nil ?_
      intro _ hwz
      obtain ⟨y, rfl⟩ := hwz
      have Kz := K.call y.h
      clear K 
      have K := Kz
      clear Kz
      generalize y.w = wz at K ⊢
      clear y
      go_wp2_with fail
      go_ret
      exact ⟨rfl, K.fr⟩
    · have hk2 : k < 256 := by omega
      have n1 : (k : Int) < 256 := by omega
      have B1 := HA.out k hk2
      have B2 := HB.out k hk2
      rw [← HE.out k (by omega)] at B2
      generalize hak : a k = u at *
      clear HA HB HE hak
      go_wp2_with fail
      refine wp_region_keep (by kernel_rfl) (by kernel_rfl) ?_

      repeat (any_goals (first | (focus (go_big_quiet_want; (first | ((with_reducible refine' quiet_load_kn K 22 (.tmp 2) rfl 1 _ _ _ _ rfl _ Tryd.underlying22 rfl Tryd.szBa _ _); rotate_left 2; (focus exact rfl)) | ((with_reducible refine' quiet_load_kn K 22 (.tmp 3) rfl 0 _ _ _ _ rfl _ Tryd.underlying22 rfl Tryd.szBa _ _); rotate_left 2; (focus exact rfl))); simp only [Act.put, List.setIfInBounds_toArray, List.set_cons_zero, List.set_cons_succ]; go_big_quiet_on)) | go_big_quiet_step ((first | (go_at_call 25; with_reducible exact Calls.keep (B1 _)) | (go_at_call 25; with_reducible exact Calls.keep (B2 _)))) | quiet_step ((first | (go_at_call 25; with_reducible exact Calls.keep (B1 _)) | (go_at_call 25; with_reducible exact Calls.keep (B2 _))))))
      refine wpQuiet_nil ?_
      intro _ hwz
      obtain ⟨y, rfl⟩ := hwz
      have Kz := K.call y.h
      clear K 
      have K := Kz
      clear Kz
      generalize y.w = wz at K ⊢
      clear y
      go_wp2_with fail
      go_roundw
      case rel => exact ⟨k + 1, by omega, by simp, K⟩
      case measure => simp [intOf]; omega
end Go.Proofs.YtndakfanlgilmaaDoor
namespace Go.Proofs.YtndakfanlgilmaaDoor
open Go.RowKit
set_option linter.unusedVariables false
set_option linter.unusedSimpArgs false

set_option maxRecDepth 100000 in
theorem bv_oneA (l : List UInt8) : ((bv l).toArray).all (·.oneCell') = true := by
  rw [List.all_toArray, List.all_eq_true]; exact bv_one l
set_option maxRecDepth 100000 in
set_option maxHeartbeats 1600000 in
/-- A key's row. -/
def kr (l : List UInt8) : Array Value := (bv l).toArray
set_option maxRecDepth 100000 in
theorem sz_kr {l : List UInt8} (h : l.length = 32) : Sz 32 (kr l) := ⟨by simp [kr, bv, h], bv_oneA _⟩
def by8 (l : List UInt8) (i : Nat) : Nat := (l.getD i 0).toNat
set_option maxRecDepth 100000 in
theorem by8_lt (l : List UInt8) (i : Nat) : by8 l i < 256 := (l.getD i 0).toNat_lt
set_option maxRecDepth 100000 in
theorem kr_cell {l : List UInt8} (h : l.length = 32) (j : Nat) (hj : j < 32) : (kr l)[j]? = some (.int .u8 (by8 l j : Int)) := by
  have := bv_get' l j (by omega)
  have e : by8 l j = (l[j]'(by omega)).toNat := by unfold by8; rw [List.getD_eq_getElem?_getD, List.getElem?_eq_getElem (by omega)]; rfl
  rw [e]
  simpa [kr] using this
def bn (b : Bool) : Nat := if b then 1 else 0
set_option maxRecDepth 100000 in
theorem bn_lt (b : Bool) : bn b < 2 := by cases b <;> decide
set_option maxRecDepth 100000 in
theorem kb_by8 (l : List UInt8) (i : Nat) : kb l i = (by8 l (i / 8)).testBit (7 - i % 8) := rfl
set_option maxRecDepth 100000 in
theorem and_fact : ∀ m, m < 8 → ∀ a, a < 256 → bits .and .u8 ((a : Nat) : Int) ((128 / 2 ^ m : Nat) : Int) = ((if a.testBit (7 - m) then 128 / 2 ^ m else 0 : Nat) : Int) := by decide +kernel
set_option maxRecDepth 100000 in
theorem mask_ne : ∀ m, m < 8 → 128 / 2 ^ m ≠ 0 := by decide +kernel
set_option maxRecDepth 100000 in
theorem shr_fact : ∀ m, m < 8 → ∀ a, a < 256 → a / 2 ^ (7 - m) < 256 ∧ ((a / 2 ^ (7 - m)) % 2 : Nat) = bn (a.testBit (7 - m)) := by decide +kernel
set_option maxRecDepth 100000 in
theorem quo8 (i : Nat) : (i : Int).tdiv 8 = ((i / 8 : Nat) : Int) := by rw [Int.tdiv_eq_ediv_of_nonneg (by omega)]; simp
set_option maxRecDepth 100000 in
theorem rem8 (i : Nat) : (i : Int).tmod 8 = ((i % 8 : Nat) : Int) := by rw [Int.tmod_eq_emod_of_nonneg (by omega)]; simp
set_option maxRecDepth 100000 in
theorem place_ans (i : Nat) (hi : i < 256) : Ans Tryd.prog 31 #[.int .i64 (i : Int)] (.bool true) := fun W => place_yes i hi W
set_option maxRecDepth 100000 in
theorem mask_ans (i : Nat) (hi : i < 256) : Ans Tryd.prog 32 #[.int .i64 (i : Int)] (.int .u8 ((128 / 2 ^ (i % 8) : Nat) : Int)) := fun W => mask_any i hi W
set_option maxRecDepth 100000 in
/-- Bit: of each place. -/
theorem bit_in {l : List UInt8} (h : l.length = 32) (i : Nat) (hi : i < 256) : Ans Tryd.prog 19 #[.agg (kr l), .int .i64 (i : Int)] (.int .i64 (bn (kb l i) : Int)) := fun W => by
  have hf := and_fact (i % 8) (by omega) (by8 l (i / 8)) (by8_lt _ _)
  have hm := mask_ne (i % 8) (by omega)
  cases hk : kb l i with
  | true =>
    rw [kb_by8] at hk
    rw [hk, if_pos rfl] at hf
    exact bit_one (i : Int) (i / 8) _ _ _ (kr l) W (place_ans i hi) (mask_ans i hi) (quo8 i) (by omega) (kr_cell h _ (by omega)) hf (by rw [beq_eq_false_iff_ne]; omega) (by rw [beq_eq_false_iff_ne]; exact hm) (sz_kr h)
  | false =>
    rw [kb_by8] at hk
    rw [hk, if_neg (by decide)] at hf
    exact bit_nil (i : Int) (i / 8) _ _ _ (kr l) W (place_ans i hi) (mask_ans i hi) (quo8 i) (by omega) (kr_cell h _ (by omega)) hf rfl rfl (sz_kr h)
set_option maxRecDepth 100000 in
theorem bit_off {l : List UInt8} (h : l.length = 32) (I : Int) (hi : I < 0 ∨ 255 < I) : Ans Tryd.prog 19 #[.agg (kr l), .int .i64 I] (.int .i64 0) := fun W =>
  bit_out I 0 0 0 0 (kr l) W (place_no I hi) (sz_kr h)
set_option maxRecDepth 100000 in
theorem rbit_ans {l : List UInt8} (h : l.length = 32) (i : Nat) (hi : i < 256) : Ans Tryd.prog 25 #[.agg (kr l), .int .i64 (i : Int)] (.int .i64 (bn (kb l i) : Int)) := fun W => by
  obtain ⟨s1, s2⟩ := shr_fact (i % 8) (by omega) (by8 l (i / 8)) (by8_lt _ _)
  refine rbit_in (i : Int) (i / 8) (by8 l (i / 8)) (i % 8) (by8 l (i / 8) / 2 ^ (7 - i % 8)) (bn (kb l i)) (kr l) W (by omega) (by omega) (decide_eq_false (by omega)) (decide_eq_false (by omega)) (quo8 i) (by omega) (kr_cell h _ (by omega)) (rem8 i) (by omega) (by simp) s1 ?_ (sz_kr h)
  rw [Int.tmod_eq_emod_of_nonneg (Int.natCast_nonneg _), kb_by8, ← s2]
  simp
set_option maxRecDepth 100000 in
theorem rbit_off {l : List UInt8} (h : l.length = 32) (I : Int) (hi : I < 0 ∨ 255 < I) : Ans Tryd.prog 25 #[.agg (kr l), .int .i64 I] (.int .i64 0) := fun W => by
  rcases hi with c | c
  · exact rbit_neg I 0 0 0 0 0 (kr l) W c (decide_eq_true c) (sz_kr h)
  · exact rbit_far I 0 0 0 0 0 (kr l) W (by omega) c (decide_eq_false (by omega)) (decide_eq_true c) (sz_kr h)
set_option maxRecDepth 100000 in
theorem getD_of_by8 {k l : List UInt8} {j : Nat} (h : k.getD j 0 = l.getD j 0) : by8 k j = by8 l j := by unfold by8; rw [h]
set_option maxRecDepth 100000 in
theorem xor_u8z (a b : Nat) (ha : a < 256) (hb : b < 256) : bits .xor .u8 (a : Int) (b : Int) = ((a ^^^ b : Nat) : Int) := by
  have h1 : (BitVec.ofInt 8 (a : Int)).toNat = a := by rw [BitVec.ofInt_natCast, BitVec.toNat_ofNat]; exact Nat.mod_eq_of_lt (by omega)
  have h2 : (BitVec.ofInt 8 (b : Int)).toNat = b := by rw [BitVec.ofInt_natCast, BitVec.toNat_ofNat]; exact Nat.mod_eq_of_lt (by omega)
  show IntKind.u8.wrap ((BitVec.ofInt 8 (a : Int) ^^^ BitVec.ofInt 8 (b : Int)).toNat : Int) = _
  have := Nat.xor_lt_two_pow (n := 8) ha hb
  rw [BitVec.toNat_xor, h1, h2, IntKind.wrap_u8]
  omega
set_option maxRecDepth 100000 in
/-- Common: so many bits alike. -/
theorem common_ans {k l : List UInt8} (hk : k.length = 32) (hl : l.length = 32) {c : Nat} (h : IsC k l c) : Ans Tryd.prog 34 #[.agg (kr k), .agg (kr l)] (.int .i64 (c : Int)) := fun W => by
  have h1 := h.le
  by_cases hc : c = 256
  · subst hc
    exact cm_full 0 0 0 (kr k) (kr l) W (by8 k) (by8 l) (fun j hj => kr_cell hk j hj) (fun j hj => kr_cell hl j hj) (fun j hj => getD_of_by8 (h.part j (by omega))) (sz_kr hk) (sz_kr hl)
  · have hlt : ∀ j, j < c / 8 → k.getD j 0 = l.getD j 0 := fun j hj => h.part j (by omega)
    have hne : k.getD (c / 8) 0 ≠ l.getD (c / 8) 0 := fun e => h.ne (by omega) (by have := bits_of_bytes (k := k) (l := l) c e; exact this)
    obtain ⟨g, g1, g2⟩ := IsC.of_byte (c / 8) (by omega) hlt hne
    have e := g.one h
    have := cm_part (c / 8) (by8 k (c / 8) ^^^ by8 l (c / 8)) (8 - len8 (by8 k (c / 8) ^^^ by8 l (c / 8))) (kr k) (kr l) W (fun V => lead8_any _ (Nat.xor_lt_two_pow (n := 8) (by8_lt _ _) (by8_lt _ _)) V) (by8 k) (by8 l) (fun j hj => kr_cell hk j hj) (fun j hj => kr_cell hl j hj) (fun j hj => getD_of_by8 (hlt j hj)) (by omega) (by omega) (fun e2 => hne (UInt8.toNat_inj.1 e2)) (xor_u8z _ _ (by8_lt _ _) (by8_lt _ _)) (sz_kr hk) (sz_kr hl)
    rw [show 8 * (c / 8) + (8 - len8 (by8 k (c / 8) ^^^ by8 l (c / 8))) = c from e] at this
    exact this
set_option maxRecDepth 100000 in
theorem bn_ne {a b : Bool} (h : a ≠ b) : bn a ≠ bn b := by cases a <;> cases b <;> simp_all [bn]
set_option maxRecDepth 100000 in
theorem rcommon_ans {k l : List UInt8} (hk : k.length = 32) (hl : l.length = 32) {c : Nat} (h : IsC k l c) : Ans Tryd.prog 26 #[.agg (kr k), .agg (kr l)] (.int .i64 (c : Int)) := fun W => by
  have h1 := h.le
  by_cases hc : c = 256
  · subst hc
    exact rcm_full 0 (fun j => bn (kb k j)) (fun j => bn (kb l j)) (kr k) (kr l) W (fun j hj => rbit_ans hk j hj) (fun j hj => rbit_ans hl j hj) (fun j hj => congrArg bn (h.eq j hj)) (sz_kr hk) (sz_kr hl)
  · exact rcm_part c (fun j => bn (kb k j)) (fun j => bn (kb l j)) (kr k) (kr l) W (fun j hj => rbit_ans hk j hj) (fun j hj => rbit_ans hl j hj) (fun j hj => congrArg bn (h.eq j hj)) (by omega) (bn_ne (h.ne (by omega))) (sz_kr hk) (sz_kr hl)
/-- Bit at the place up to which two keys are alike, the end too. -/
def bo (l : List UInt8) (c : Nat) : Nat := if c < 256 then bn (kb l c) else 0
set_option maxRecDepth 100000 in
theorem bo_lt (l : List UInt8) (c : Nat) : bo l c < 2 := by unfold bo; split; exact bn_lt _; decide
set_option maxRecDepth 100000 in
theorem bit_at {l : List UInt8} (h : l.length = 32) (c : Nat) (hc : c ≤ 256) : Ans Tryd.prog 19 #[.agg (kr l), .int .i64 (c : Int)] (.int .i64 (bo l c : Int)) := by
  unfold bo
  by_cases e : c < 256
  · rw [if_pos e]; exact bit_in h c e
  · rw [if_neg e]; exact bit_off h c (by omega)
set_option maxRecDepth 100000 in
theorem ahead_bo {k l : List UInt8} {c : Nat} (h : IsC k l c) : decide ((bo k c : Int) - (bo l c : Int) < 0) = ahead k l c := by
  unfold bo ahead
  by_cases e : c < 256
  · have hn := h.ne e
    rw [if_pos e, if_pos e, decide_eq_true e]
    cases hk : kb k c <;> cases hl : kb l c <;> rw [hk, hl] at hn <;> first | exact absurd rfl hn | rfl
  · rw [if_neg e, if_neg e, decide_eq_false e]; rfl
set_option maxRecDepth 100000 in
/-- Under: are so many bits alike? -/
theorem under_ans {k l : List UInt8} (hk : k.length = 32) (hl : l.length = 32) {c : Nat} (h : IsC k l c) (I : Int) : Ans Tryd.prog 24 #[.agg (kr k), .agg (kr l), .int .i64 I] (.bool (decide (I ≤ (c : Int)) || (c == 256))) := fun W => by
  have h1 := h.le
  by_cases e : I ≤ 256
  · have hr : decide (I ≤ (c : Int)) = (decide (I ≤ (c : Int)) || (c == 256)) := by
      by_cases hc : c = 256
      · rw [decide_eq_true (by omega)]; rfl
      · rw [beq_eq_false_iff_ne.2 hc, Bool.or_false]
    exact under_lo I c _ (kr k) (kr l) W (common_ans hk hl h) e (by omega) hr (sz_kr hk) (sz_kr hl)
  · have hr : decide ((256 : Int) ≤ (c : Int)) = (decide (I ≤ (c : Int)) || (c == 256)) := by
      rw [decide_eq_false (show ¬ I ≤ (c : Int) by omega), Bool.false_or]
      by_cases hc : c = 256
      · subst hc; rfl
      · rw [beq_eq_false_iff_ne.2 hc, decide_eq_false (by omega)]
    exact under_hi I c _ (kr k) (kr l) W (common_ans hk hl h) (by omega) e (by omega) hr (sz_kr hk) (sz_kr hl)
end Go.Proofs.YtndakfanlgilmaaDoor

/-
  Keys of 256 bits: what they begin with alike. Plain mathematics.
-/
namespace Go.Proofs.Ytghjcppafkaopaa
set_option linter.unusedVariables false

/-- The i-th bit of a key, from the highest of the first byte on. -/
def kb (l : List UInt8) (i : Nat) : Bool := ((l.getD (i / 8) 0).toNat).testBit (7 - i % 8)
/-- So many bits do two keys begin with alike. -/
structure IsC (k l : List UInt8) (c : Nat) : Prop where
  le : c ≤ 256
  eq : ∀ i, i < c → kb k i = kb l i
  ne : c < 256 → kb k c ≠ kb l c
theorem IsC.some (k l : List UInt8) : ∃ c, IsC k l c := by
  have h : ∀ n, n ≤ 256 → (∃ c, IsC k l c) ∨ ∀ i, i < n → kb k i = kb l i := by
    intro n
    induction n with
    | zero => intro _; exact .inr (fun i h => by omega)
    | succ n ih =>
      intro hn
      rcases ih (by omega) with h | h
      · exact .inl h
      · by_cases e : kb k n = kb l n
        · exact .inr (fun i hi => by
            by_cases c : i = n
            · rw [c]; exact e
            · exact h i (by omega))
        · exact .inl ⟨n, by omega, h, fun _ => e⟩
  rcases h 256 (by omega) with h | h
  · exact h
  · exact ⟨256, by omega, h, fun c => by omega⟩
theorem IsC.one {k l : List UInt8} {c d : Nat} (h : IsC k l c) (g : IsC k l d) : c = d := by
  have h1 := h.le
  have h2 := g.le
  rcases Nat.lt_trichotomy c d with e | e | e
  · exact absurd (g.eq c e) (h.ne (by omega))
  · exact e
  · exact absurd (h.eq d e) (g.ne (by omega))
theorem IsC.symm {k l : List UInt8} {c : Nat} (h : IsC k l c) : IsC l k c := ⟨h.le, fun i hi => (h.eq i hi).symm, fun hc e => h.ne hc e.symm⟩
theorem IsC.self (k : List UInt8) : IsC k k 256 := ⟨by omega, fun _ _ => rfl, fun h => by omega⟩
theorem byte_eq {a b : UInt8} (h : ∀ j, j < 8 → a.toNat.testBit (7 - j) = b.toNat.testBit (7 - j)) : a = b := by
  apply UInt8.toNat_inj.1
  apply Nat.eq_of_testBit_eq
  intro i
  by_cases hi : i < 8
  · have := h (7 - i) (by omega)
    rwa [show 7 - (7 - i) = i by omega] at this
  · have ha : a.toNat < 2 ^ i := Nat.lt_of_lt_of_le a.toNat_lt (Nat.pow_le_pow_right (n := 2) (by decide) (show 8 ≤ i by omega))
    have hb : b.toNat < 2 ^ i := Nat.lt_of_lt_of_le b.toNat_lt (Nat.pow_le_pow_right (n := 2) (by decide) (show 8 ≤ i by omega))
    rw [Nat.testBit_lt_two_pow ha, Nat.testBit_lt_two_pow hb]
theorem kb_at (l : List UInt8) (i j : Nat) (hj : j < 8) : kb l (8 * i + j) = ((l.getD i 0).toNat).testBit (7 - j) := by
  unfold kb
  rw [show (8 * i + j) / 8 = i by omega, show (8 * i + j) % 8 = j by omega]
theorem bytes_of_bits {k l : List UInt8} (i : Nat) (h : ∀ j, j < 8 → kb k (8 * i + j) = kb l (8 * i + j)) : k.getD i 0 = l.getD i 0 :=
  byte_eq fun j hj => by rw [← kb_at k i j hj, ← kb_at l i j hj]; exact h j hj
theorem bits_of_bytes {k l : List UInt8} (i : Nat) (h : k.getD (i / 8) 0 = l.getD (i / 8) 0) : kb k i = kb l i := by unfold kb; rw [h]
theorem list_of_bytes {k l : List UInt8} (hk : k.length = 32) (hl : l.length = 32) (h : ∀ i, i < 32 → k.getD i 0 = l.getD i 0) : k = l := by
  apply List.ext_getElem (by omega)
  intro i h1 h2
  have := h i (by omega)
  rw [List.getD_eq_getElem?_getD, List.getD_eq_getElem?_getD, List.getElem?_eq_getElem h1, List.getElem?_eq_getElem h2] at this
  exact this
theorem list_of_bits {k l : List UInt8} (hk : k.length = 32) (hl : l.length = 32) (h : ∀ i, i < 256 → kb k i = kb l i) : k = l :=
  list_of_bytes hk hl fun i hi => bytes_of_bits i fun j hj => h _ (by omega)
theorem IsC.full {k l : List UInt8} (h : IsC k l 256) (hk : k.length = 32) (hl : l.length = 32) : k = l := list_of_bits hk hl h.eq
theorem IsC.part {k l : List UInt8} {c : Nat} (h : IsC k l c) (i : Nat) (hi : 8 * i + 8 ≤ c) : k.getD i 0 = l.getD i 0 := bytes_of_bits i fun j hj => h.eq _ (by omega)

theorem xor_zero {a b : Nat} (h : a ^^^ b = 0) : a = b := by
  apply Nat.eq_of_testBit_eq
  intro i
  have := congrArg (fun x => Nat.testBit x i) h
  simp only [Nat.testBit_xor, Nat.zero_testBit] at this
  cases ha : a.testBit i <;> cases hb : b.testBit i <;> simp_all
/-- How many bits a number below 256 has. -/
def len8 (x : Nat) : Nat := if x = 0 then 0 else Nat.log2 x + 1
theorem len8_fact : ∀ x, x < 256 → x ≠ 0 → 1 ≤ len8 x ∧ len8 x ≤ 8 ∧ x.testBit (len8 x - 1) = true ∧ ∀ j, j < 8 → len8 x ≤ j → x.testBit j = false := by decide +kernel
theorem IsC.of_byte {k l : List UInt8} (i : Nat) (hi : i < 32) (h : ∀ j, j < i → k.getD j 0 = l.getD j 0) (hne : k.getD i 0 ≠ l.getD i 0) :
    IsC k l (8 * i + (8 - len8 ((k.getD i 0).toNat ^^^ (l.getD i 0).toNat))) ∧ 1 ≤ len8 ((k.getD i 0).toNat ^^^ (l.getD i 0).toNat) ∧ len8 ((k.getD i 0).toNat ^^^ (l.getD i 0).toNat) ≤ 8 := by
  have hx : (k.getD i 0).toNat ^^^ (l.getD i 0).toNat < 256 := Nat.xor_lt_two_pow (n := 8) (k.getD i 0).toNat_lt (l.getD i 0).toNat_lt
  have h0 : (k.getD i 0).toNat ^^^ (l.getD i 0).toNat ≠ 0 := fun e => hne (UInt8.toNat_inj.1 (xor_zero e))
  obtain ⟨h1, h2, h3, h4⟩ := len8_fact _ hx h0
  refine ⟨⟨by omega, ?_, ?_⟩, h1, h2⟩
  · intro m hm
    by_cases c : m < 8 * i
    · exact bits_of_bytes m (h _ (by omega))
    · obtain ⟨j, rfl⟩ : ∃ j, m = 8 * i + j := ⟨m - 8 * i, by omega⟩
      rw [kb_at k i j (by omega), kb_at l i j (by omega)]
      have := h4 (7 - j) (by omega) (by omega)
      rw [Nat.testBit_xor] at this
      simpa using this
  · intro _
    rw [kb_at k i _ (by omega), kb_at l i _ (by omega)]
    rw [Nat.testBit_xor] at h3
    rw [show 7 - (8 - len8 ((k.getD i 0).toNat ^^^ (l.getD i 0).toNat)) = len8 ((k.getD i 0).toNat ^^^ (l.getD i 0).toNat) - 1 by omega]
    simpa using h3
/-- Does one stand ahead of the other? -/
def ahead (k l : List UInt8) (c : Nat) : Bool := decide (c < 256) && !kb k c
theorem ahead_self (k : List UInt8) : ahead k k 256 = false := by unfold ahead; rw [decide_eq_false (by omega)]; rfl
theorem ahead_two {k l : List UInt8} {c : Nat} (h : IsC k l c) : (c = 256 ∧ ahead k l c = false ∧ ahead l k c = false) ∨ (c < 256 ∧ ahead k l c = true ∧ ahead l k c = false) ∨ (c < 256 ∧ ahead k l c = false ∧ ahead l k c = true) := by
  have h1 := h.le
  by_cases e : c = 256
  · left; subst e; exact ⟨rfl, by unfold ahead; rw [decide_eq_false (by omega)]; rfl, by unfold ahead; rw [decide_eq_false (by omega)]; rfl⟩
  · have hc : c < 256 := by omega
    have hn := h.ne hc
    unfold ahead
    rw [decide_eq_true hc]
    cases hk : kb k c <;> cases hl : kb l c <;> rw [hk, hl] at hn
    · exact absurd rfl hn
    · right; left; exact ⟨hc, rfl, rfl⟩
    · right; right; exact ⟨hc, rfl, rfl⟩
    · exact absurd rfl hn
theorem IsC.third {a b c : List UInt8} {x y z : Nat} (h : IsC a b x) (g : IsC b c y) (f : IsC a c z) : (x = y ∧ x ≤ z) ∨ (x = z ∧ x < y) ∨ (y = z ∧ y < x) := by
  have h1 := h.le
  have h2 := g.le
  have h3 := f.le
  rcases Nat.lt_trichotomy x y with e | e | e
  · right; left
    refine ⟨IsC.one ⟨h1, fun i hi => (h.eq i hi).trans (g.eq i (by omega)), fun hc he => h.ne hc ?_⟩ f, e⟩
    rw [he, g.eq x e]
  · left
    refine ⟨e, Nat.le_of_not_lt fun hz => f.ne (by omega) ?_⟩
    rw [h.eq z hz, g.eq z (by omega)]
  · right; right
    refine ⟨IsC.one ⟨h2, fun i hi => (h.eq i (by omega)).trans (g.eq i hi), fun hc he => g.ne hc ?_⟩ f, e⟩
    rw [← h.eq y e, he]
end Go.Proofs.Ytghjcppafkaopaa

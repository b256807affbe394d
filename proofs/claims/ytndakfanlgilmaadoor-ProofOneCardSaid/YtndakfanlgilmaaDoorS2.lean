/-
  SHA-256 over natural numbers, as plain functions on lists of bytes, and their plain laws. It speaks of no program.
-/
import Derived.KernelRfl
namespace Go.Proofs.YtndakfanlgilmaaDoor.S2

def M : Nat := 4294967296
def rotr (x p : Nat) : Nat := (x >>> p) ||| ((x <<< (32 - p)) % 4294967296)
def bs0 (x : Nat) : Nat := rotr x 2 ^^^ rotr x 13 ^^^ rotr x 22
def bs1 (x : Nat) : Nat := rotr x 6 ^^^ rotr x 11 ^^^ rotr x 25
def ss0 (x : Nat) : Nat := rotr x 7 ^^^ rotr x 18 ^^^ (x >>> 3)
def ss1 (x : Nat) : Nat := rotr x 17 ^^^ rotr x 19 ^^^ (x >>> 10)
def ch (e f g : Nat) : Nat := (e &&& f) ^^^ ((4294967295 ^^^ e) &&& g)
def maj (a b c : Nat) : Nat := (a &&& b) ^^^ (a &&& c) ^^^ (b &&& c)
def KS : List Nat := [0x428a2f98, 0x71374491, 0xb5c0fbcf, 0xe9b5dba5, 0x3956c25b, 0x59f111f1, 0x923f82a4, 0xab1c5ed5,
    0xd807aa98, 0x12835b01, 0x243185be, 0x550c7dc3, 0x72be5d74, 0x80deb1fe, 0x9bdc06a7, 0xc19bf174,
    0xe49b69c1, 0xefbe4786, 0x0fc19dc6, 0x240ca1cc, 0x2de92c6f, 0x4a7484aa, 0x5cb0a9dc, 0x76f988da,
    0x983e5152, 0xa831c66d, 0xb00327c8, 0xbf597fc7, 0xc6e00bf3, 0xd5a79147, 0x06ca6351, 0x14292967,
    0x27b70a85, 0x2e1b2138, 0x4d2c6dfc, 0x53380d13, 0x650a7354, 0x766a0abb, 0x81c2c92e, 0x92722c85,
    0xa2bfe8a1, 0xa81a664b, 0xc24b8b70, 0xc76c51a3, 0xd192e819, 0xd6990624, 0xf40e3585, 0x106aa070,
    0x19a4c116, 0x1e376c08, 0x2748774c, 0x34b0bcb5, 0x391c0cb3, 0x4ed8aa4a, 0x5b9cca4f, 0x682e6ff3,
    0x748f82ee, 0x78a5636f, 0x84c87814, 0x8cc70208, 0x90befffa, 0xa4506ceb, 0xbef9a3f7, 0xc67178f2]
def K (i : Nat) : Nat := KS.getD i 0

/-- The state: eight words. -/
structure St where
  a : Nat
  b : Nat
  c : Nat
  d : Nat
  e : Nat
  f : Nat
  g : Nat
  h : Nat
def H0 : St := ⟨0x6a09e667, 0xbb67ae85, 0x3c6ef372, 0xa54ff53a, 0x510e527f, 0x9b05688c, 0x1f83d9ab, 0x5be0cd19⟩
def St.list (s : St) : List Nat := [s.a, s.b, s.c, s.d, s.e, s.f, s.g, s.h]
def St.ok (s : St) : Prop := s.a < M ∧ s.b < M ∧ s.c < M ∧ s.d < M ∧ s.e < M ∧ s.f < M ∧ s.g < M ∧ s.h < M

/-- Word i of a block. -/
def word (b : List UInt8) (i : Nat) : Nat := (b.getD (4 * i) 0).toNat * 16777216 + (b.getD (4 * i + 1) 0).toNat * 65536 + (b.getD (4 * i + 2) 0).toNat * 256 + (b.getD (4 * i + 3) 0).toNat
/-- The first 16 words, and n more. -/
def sch (b : List UInt8) : Nat → List Nat
  | 0 => (List.range 16).map (word b)
  | n + 1 => sch b n ++ [((sch b n).getD n 0 + ss0 ((sch b n).getD (n + 1) 0) + (sch b n).getD (n + 9) 0 + ss1 ((sch b n).getD (n + 14) 0)) % M]
def T1 (s : St) (k w : Nat) : Nat := (s.h + bs1 s.e + ch s.e s.f s.g + k + w) % M
def T2 (s : St) : Nat := (bs0 s.a + maj s.a s.b s.c) % M
def rnd (s : St) (k w : Nat) : St := ⟨(T1 s k w + T2 s) % M, s.a, s.b, s.c, (s.d + T1 s k w) % M, s.e, s.f, s.g⟩
def rnds (W : List Nat) (s : St) : Nat → St
  | 0 => s
  | n + 1 => rnd (rnds W s n) (K n) (W.getD n 0)
def St.add (s t : St) : St := ⟨(s.a + t.a) % M, (s.b + t.b) % M, (s.c + t.c) % M, (s.d + t.d) % M, (s.e + t.e) % M, (s.f + t.f) % M, (s.g + t.g) % M, (s.h + t.h) % M⟩
/-- The state behind a block more. -/
def mix (s : St) (b : List UInt8) : St := s.add (rnds (sch b 48) s 64)
/-- The state behind the first k blocks. -/
def hwN (l : List UInt8) : Nat → St
  | 0 => H0
  | k + 1 => mix (hwN l k) ((l.drop (64 * k)).take 64)
def hw (l : List UInt8) : St := hwN l (l.length / 64)
/-- A number in eight bytes, the highest first. -/
def be8 (n : Nat) : List UInt8 := (List.range 8).map fun j => UInt8.ofNat (n / 2 ^ (56 - 8 * j))
def be4 (n : Nat) : List UInt8 := [UInt8.ofNat (n / 16777216), UInt8.ofNat (n / 65536), UInt8.ofNat (n / 256), UInt8.ofNat n]
/-- So many bytes come behind n: a first one, noughts, eight of the count of bits. -/
def padLen (n : Nat) : Nat := 64 - (n % 64 + 8) % 64 + 8
def pad (n : Nat) : List UInt8 := 0x80 :: (List.replicate (padLen n - 9) 0 ++ be8 (8 * n))
def out (s : St) : List UInt8 := s.list.flatMap be4
def sum (l : List UInt8) : List UInt8 := out (hw (l ++ pad l.length))

/-- Word j of the schedule. -/
def W (b : List UInt8) (j : Nat) : Nat := (sch b 48).getD j 0
set_option maxRecDepth 100000 in
theorem sch_length (b : List UInt8) (n : Nat) : (sch b n).length = 16 + n := by
  induction n with
  | zero => simp [sch]
  | succ n ih => simp [sch, ih]; omega
set_option maxRecDepth 100000 in
theorem sch_prefix (b : List UInt8) (n k j : Nat) (hj : j < 16 + n) : (sch b (n + k)).getD j 0 = (sch b n).getD j 0 := by
  induction k with
  | zero => rfl
  | succ k ih =>
    rw [← Nat.add_assoc, sch, ← ih]
    have := sch_length b (n + k)
    simp only [List.getD]
    rw [List.getElem?_append_left (by omega)]
set_option maxRecDepth 100000 in
theorem W_of (b : List UInt8) (n j : Nat) (hn : n ≤ 48) (hj : j < 16 + n) : (sch b n).getD j 0 = W b j := by
  have := sch_prefix b n (48 - n) j hj
  rw [show n + (48 - n) = 48 by omega] at this
  exact this.symm
set_option maxRecDepth 100000 in
theorem W_lo (b : List UInt8) (j : Nat) (hj : j < 16) : W b j = word b j := by
  rw [← W_of b 0 j (by omega) (by omega)]
  simp [sch, List.getD, hj]
set_option maxRecDepth 100000 in
theorem W_hi (b : List UInt8) (n : Nat) (hn : n < 48) : W b (n + 16) = (W b n + ss0 (W b (n + 1)) + W b (n + 9) + ss1 (W b (n + 14))) % M := by
  rw [← W_of b (n + 1) (n + 16) (by omega) (by omega), sch, W_of b n n (by omega) (by omega), W_of b n (n + 1) (by omega) (by omega), W_of b n (n + 9) (by omega) (by omega), W_of b n (n + 14) (by omega) (by omega)]
  have := sch_length b n
  simp only [List.getD]
  rw [List.getElem?_append_right (by omega), this, show n + 16 - (16 + n) = 0 by omega]
  rfl
set_option maxRecDepth 100000 in
theorem word_lt (b : List UInt8) (i : Nat) : word b i < M := by
  unfold word M
  have h0 := (b.getD (4 * i) 0).toNat_lt
  have h1 := (b.getD (4 * i + 1) 0).toNat_lt
  have h2 := (b.getD (4 * i + 2) 0).toNat_lt
  have h3 := (b.getD (4 * i + 3) 0).toNat_lt
  omega
set_option maxRecDepth 100000 in
theorem W_lt (b : List UInt8) (j : Nat) (hj : j < 64) : W b j < M := by
  by_cases h : j < 16
  · rw [W_lo b j h]; exact word_lt b j
  · have := W_hi b (j - 16) (by omega)
    rw [show j - 16 + 16 = j by omega] at this
    rw [this]; exact Nat.mod_lt _ (by decide)

set_option maxRecDepth 100000 in
theorem hwN_append (l x : List UInt8) (k : Nat) (h : 64 * k ≤ l.length) : hwN (l ++ x) k = hwN l k := by
  induction k with
  | zero => rfl
  | succ k ih =>
    rw [hwN, hwN, ih (by omega)]
    congr 1
    rw [List.drop_append_of_le_length (by omega), List.take_append_of_le_length (by simp; omega)]
set_option maxRecDepth 100000 in
theorem hw_small (l x : List UInt8) (h : l.length % 64 + x.length < 64) : hw (l ++ x) = hw l := by
  unfold hw
  rw [List.length_append, show (l.length + x.length) / 64 = l.length / 64 by omega]
  exact hwN_append l x _ (by omega)
set_option maxRecDepth 100000 in
theorem hw_full (l x : List UInt8) (h : l.length % 64 + x.length = 64) : hw (l ++ x) = mix (hw l) (l.drop (64 * (l.length / 64)) ++ x) := by
  unfold hw
  rw [List.length_append, show (l.length + x.length) / 64 = l.length / 64 + 1 by omega, hwN, hwN_append l x _ (by omega)]
  congr 1
  rw [List.drop_append_of_le_length (by omega)]
  exact List.take_of_length_le (by simp; omega)
set_option maxRecDepth 100000 in
theorem mod_lt_M (n : Nat) : n % M < M := Nat.mod_lt _ (by decide)
set_option maxRecDepth 100000 in
theorem mix_ok (s : St) (b : List UInt8) : (mix s b).ok := ⟨mod_lt_M _, mod_lt_M _, mod_lt_M _, mod_lt_M _, mod_lt_M _, mod_lt_M _, mod_lt_M _, mod_lt_M _⟩
set_option maxRecDepth 100000 in
theorem H0_ok : H0.ok := by unfold St.ok H0 M; decide
set_option maxRecDepth 100000 in
theorem hwN_ok (l : List UInt8) (k : Nat) : (hwN l k).ok := by
  cases k with
  | zero => exact H0_ok
  | succ k => exact mix_ok _ _
set_option maxRecDepth 100000 in
theorem hw_ok (l : List UInt8) : (hw l).ok := hwN_ok _ _

set_option maxRecDepth 100000 in
theorem sum_abc : sum [97, 98, 99] = [0xba, 0x78, 0x16, 0xbf, 0x8f, 0x01, 0xcf, 0xea, 0x41, 0x41, 0x40, 0xde, 0x5d, 0xae, 0x22, 0x23, 0xb0, 0x03, 0x61, 0xa3, 0x96, 0x17, 0x7a, 0x9c, 0xb4, 0x10, 0xff, 0x61, 0xf2, 0x00, 0x15, 0xad] := by kernel_rfl
end Go.Proofs.YtndakfanlgilmaaDoor.S2


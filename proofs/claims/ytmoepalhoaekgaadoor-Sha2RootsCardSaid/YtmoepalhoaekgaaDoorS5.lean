/-
  SHA-512 over natural numbers, as plain functions on lists of bytes, and their plain laws. It speaks of no program.
-/
import Derived.KernelRfl
namespace Go.Proofs.YtmoepalhoaekgaaDoor.S5

def M : Nat := 18446744073709551616
def rotr (x p : Nat) : Nat := (x >>> p) ||| ((x <<< (64 - p)) % 18446744073709551616)
def bs0 (x : Nat) : Nat := rotr x 28 ^^^ rotr x 34 ^^^ rotr x 39
def bs1 (x : Nat) : Nat := rotr x 14 ^^^ rotr x 18 ^^^ rotr x 41
def ss0 (x : Nat) : Nat := rotr x 1 ^^^ rotr x 8 ^^^ (x >>> 7)
def ss1 (x : Nat) : Nat := rotr x 19 ^^^ rotr x 61 ^^^ (x >>> 6)
def ch (e f g : Nat) : Nat := (e &&& f) ^^^ ((18446744073709551615 ^^^ e) &&& g)
def maj (a b c : Nat) : Nat := (a &&& b) ^^^ (a &&& c) ^^^ (b &&& c)
def KS : List Nat := [0x428a2f98d728ae22, 0x7137449123ef65cd, 0xb5c0fbcfec4d3b2f, 0xe9b5dba58189dbbc,
    0x3956c25bf348b538, 0x59f111f1b605d019, 0x923f82a4af194f9b, 0xab1c5ed5da6d8118,
    0xd807aa98a3030242, 0x12835b0145706fbe, 0x243185be4ee4b28c, 0x550c7dc3d5ffb4e2,
    0x72be5d74f27b896f, 0x80deb1fe3b1696b1, 0x9bdc06a725c71235, 0xc19bf174cf692694,
    0xe49b69c19ef14ad2, 0xefbe4786384f25e3, 0x0fc19dc68b8cd5b5, 0x240ca1cc77ac9c65,
    0x2de92c6f592b0275, 0x4a7484aa6ea6e483, 0x5cb0a9dcbd41fbd4, 0x76f988da831153b5,
    0x983e5152ee66dfab, 0xa831c66d2db43210, 0xb00327c898fb213f, 0xbf597fc7beef0ee4,
    0xc6e00bf33da88fc2, 0xd5a79147930aa725, 0x06ca6351e003826f, 0x142929670a0e6e70,
    0x27b70a8546d22ffc, 0x2e1b21385c26c926, 0x4d2c6dfc5ac42aed, 0x53380d139d95b3df,
    0x650a73548baf63de, 0x766a0abb3c77b2a8, 0x81c2c92e47edaee6, 0x92722c851482353b,
    0xa2bfe8a14cf10364, 0xa81a664bbc423001, 0xc24b8b70d0f89791, 0xc76c51a30654be30,
    0xd192e819d6ef5218, 0xd69906245565a910, 0xf40e35855771202a, 0x106aa07032bbd1b8,
    0x19a4c116b8d2d0c8, 0x1e376c085141ab53, 0x2748774cdf8eeb99, 0x34b0bcb5e19b48a8,
    0x391c0cb3c5c95a63, 0x4ed8aa4ae3418acb, 0x5b9cca4f7763e373, 0x682e6ff3d6b2b8a3,
    0x748f82ee5defb2fc, 0x78a5636f43172f60, 0x84c87814a1f0ab72, 0x8cc702081a6439ec,
    0x90befffa23631e28, 0xa4506cebde82bde9, 0xbef9a3f7b2c67915, 0xc67178f2e372532b,
    0xca273eceea26619c, 0xd186b8c721c0c207, 0xeada7dd6cde0eb1e, 0xf57d4f7fee6ed178,
    0x06f067aa72176fba, 0x0a637dc5a2c898a6, 0x113f9804bef90dae, 0x1b710b35131c471b,
    0x28db77f523047d84, 0x32caab7b40c72493, 0x3c9ebe0a15c9bebc, 0x431d67c49c100d4c,
    0x4cc5d4becb3e42b6, 0x597f299cfc657e2a, 0x5fcb6fab3ad6faec, 0x6c44198c4a475817]
def K (i : Nat) : Nat := KS.getD i 0

/-- The state: eight words. -/
structure St where
  a : Nat
  b : Nat
  c : Nat
  d : Nat
  e : Nat
  f : Nat
  g : Nat
  h : Nat
def H0 : St := ⟨0x6a09e667f3bcc908, 0xbb67ae8584caa73b, 0x3c6ef372fe94f82b, 0xa54ff53a5f1d36f1, 0x510e527fade682d1, 0x9b05688c2b3e6c1f, 0x1f83d9abfb41bd6b, 0x5be0cd19137e2179⟩
def St.list (s : St) : List Nat := [s.a, s.b, s.c, s.d, s.e, s.f, s.g, s.h]
def St.ok (s : St) : Prop := s.a < M ∧ s.b < M ∧ s.c < M ∧ s.d < M ∧ s.e < M ∧ s.f < M ∧ s.g < M ∧ s.h < M

/-- Word i of a block. -/
def byt (b : List UInt8) (i : Nat) : Nat := (b.getD i 0).toNat
def word (b : List UInt8) (i : Nat) : Nat := ((((((byt b (8 * i) * 256 + byt b (8 * i + 1)) * 256 + byt b (8 * i + 2)) * 256 + byt b (8 * i + 3)) * 256 + byt b (8 * i + 4)) * 256 + byt b (8 * i + 5)) * 256 + byt b (8 * i + 6)) * 256 + byt b (8 * i + 7)
/-- The first 16 words, and n more. -/
def sch (b : List UInt8) : Nat → List Nat
  | 0 => (List.range 16).map (word b)
  | n + 1 => sch b n ++ [((sch b n).getD n 0 + ss0 ((sch b n).getD (n + 1) 0) + (sch b n).getD (n + 9) 0 + ss1 ((sch b n).getD (n + 14) 0)) % M]
def T1 (s : St) (k w : Nat) : Nat := (s.h + bs1 s.e + ch s.e s.f s.g + k + w) % M
def T2 (s : St) : Nat := (bs0 s.a + maj s.a s.b s.c) % M
def rnd (s : St) (k w : Nat) : St := ⟨(T1 s k w + T2 s) % M, s.a, s.b, s.c, (s.d + T1 s k w) % M, s.e, s.f, s.g⟩
def rnds (W : List Nat) (s : St) : Nat → St
  | 0 => s
  | n + 1 => rnd (rnds W s n) (K n) (W.getD n 0)
def St.add (s t : St) : St := ⟨(s.a + t.a) % M, (s.b + t.b) % M, (s.c + t.c) % M, (s.d + t.d) % M, (s.e + t.e) % M, (s.f + t.f) % M, (s.g + t.g) % M, (s.h + t.h) % M⟩
/-- The state behind a block more. -/
def mix (s : St) (b : List UInt8) : St := s.add (rnds (sch b 64) s 80)
/-- The state behind the first k blocks. -/
def hwN (l : List UInt8) : Nat → St
  | 0 => H0
  | k + 1 => mix (hwN l k) ((l.drop (128 * k)).take 128)
def hw (l : List UInt8) : St := hwN l (l.length / 128)
/-- A number in eight bytes, the highest first. -/
def be8 (n : Nat) : List UInt8 := (List.range 8).map fun j => UInt8.ofNat (n / 2 ^ (56 - 8 * j))
/-- So many bytes come behind n: a first one, noughts, eight of the count of bits. -/
def padLen (n : Nat) : Nat := 128 - (n % 128 + 16) % 128 + 16
def pad (n : Nat) : List UInt8 := 0x80 :: (List.replicate (padLen n - 9) 0 ++ be8 (8 * n))
def out (s : St) : List UInt8 := s.list.flatMap be8
def sum (l : List UInt8) : List UInt8 := out (hw (l ++ pad l.length))

/-- Word j of the schedule. -/
def W (b : List UInt8) (j : Nat) : Nat := (sch b 64).getD j 0
theorem sch_length (b : List UInt8) (n : Nat) : (sch b n).length = 16 + n := by
  induction n with
  | zero => simp [sch]
  | succ n ih => simp [sch, ih]; omega
theorem sch_prefix (b : List UInt8) (n k j : Nat) (hj : j < 16 + n) : (sch b (n + k)).getD j 0 = (sch b n).getD j 0 := by
  induction k with
  | zero => rfl
  | succ k ih =>
    rw [← Nat.add_assoc, sch, ← ih]
    have := sch_length b (n + k)
    simp only [List.getD]
    rw [List.getElem?_append_left (by omega)]
theorem W_of (b : List UInt8) (n j : Nat) (hn : n ≤ 64) (hj : j < 16 + n) : (sch b n).getD j 0 = W b j := by
  have := sch_prefix b n (64 - n) j hj
  rw [show n + (64 - n) = 64 by omega] at this
  exact this.symm
theorem W_lo (b : List UInt8) (j : Nat) (hj : j < 16) : W b j = word b j := by
  rw [← W_of b 0 j (by omega) (by omega)]
  simp [sch, List.getD, hj]
theorem W_hi (b : List UInt8) (n : Nat) (hn : n < 64) : W b (n + 16) = (W b n + ss0 (W b (n + 1)) + W b (n + 9) + ss1 (W b (n + 14))) % M := by
  rw [← W_of b (n + 1) (n + 16) (by omega) (by omega), sch, W_of b n n (by omega) (by omega), W_of b n (n + 1) (by omega) (by omega), W_of b n (n + 9) (by omega) (by omega), W_of b n (n + 14) (by omega) (by omega)]
  have := sch_length b n
  simp only [List.getD]
  rw [List.getElem?_append_right (by omega), this, show n + 16 - (16 + n) = 0 by omega]
  rfl
theorem byt_lt (b : List UInt8) (i : Nat) : byt b i < 256 := (b.getD i 0).toNat_lt
theorem word_lt (b : List UInt8) (i : Nat) : word b i < M := by
  unfold word M
  have h0 := byt_lt b (8 * i)
  have h1 := byt_lt b (8 * i + 1)
  have h2 := byt_lt b (8 * i + 2)
  have h3 := byt_lt b (8 * i + 3)
  have h4 := byt_lt b (8 * i + 4)
  have h5 := byt_lt b (8 * i + 5)
  have h6 := byt_lt b (8 * i + 6)
  have h7 := byt_lt b (8 * i + 7)
  omega
theorem W_lt (b : List UInt8) (j : Nat) (hj : j < 80) : W b j < M := by
  by_cases h : j < 16
  · rw [W_lo b j h]; exact word_lt b j
  · have := W_hi b (j - 16) (by omega)
    rw [show j - 16 + 16 = j by omega] at this
    rw [this]; exact Nat.mod_lt _ (by decide)

theorem hwN_append (l x : List UInt8) (k : Nat) (h : 128 * k ≤ l.length) : hwN (l ++ x) k = hwN l k := by
  induction k with
  | zero => rfl
  | succ k ih =>
    rw [hwN, hwN, ih (by omega)]
    congr 1
    rw [List.drop_append_of_le_length (by omega), List.take_append_of_le_length (by simp; omega)]
theorem hw_small (l x : List UInt8) (h : l.length % 128 + x.length < 128) : hw (l ++ x) = hw l := by
  unfold hw
  rw [List.length_append, show (l.length + x.length) / 128 = l.length / 128 by omega]
  exact hwN_append l x _ (by omega)
theorem hw_full (l x : List UInt8) (h : l.length % 128 + x.length = 128) : hw (l ++ x) = mix (hw l) (l.drop (128 * (l.length / 128)) ++ x) := by
  unfold hw
  rw [List.length_append, show (l.length + x.length) / 128 = l.length / 128 + 1 by omega, hwN, hwN_append l x _ (by omega)]
  congr 1
  rw [List.drop_append_of_le_length (by omega)]
  exact List.take_of_length_le (by simp; omega)
theorem mod_lt_M (n : Nat) : n % M < M := Nat.mod_lt _ (by decide)
theorem mix_ok (s : St) (b : List UInt8) : (mix s b).ok := ⟨mod_lt_M _, mod_lt_M _, mod_lt_M _, mod_lt_M _, mod_lt_M _, mod_lt_M _, mod_lt_M _, mod_lt_M _⟩
theorem H0_ok : H0.ok := by unfold St.ok H0 M; decide
theorem hwN_ok (l : List UInt8) (k : Nat) : (hwN l k).ok := by
  cases k with
  | zero => exact H0_ok
  | succ k => exact mix_ok _ _
theorem hw_ok (l : List UInt8) : (hw l).ok := hwN_ok _ _

theorem sum_abc : sum [97, 98, 99] = [0xdd, 0xaf, 0x35, 0xa1, 0x93, 0x61, 0x7a, 0xba, 0xcc, 0x41, 0x73, 0x49, 0xae, 0x20, 0x41, 0x31, 0x12, 0xe6, 0xfa, 0x4e, 0x89, 0xa9, 0x7e, 0xa2, 0x0a, 0x9e, 0xee, 0xe6, 0x4b, 0x55, 0xd3, 0x9a, 0x21, 0x92, 0x99, 0x2a, 0x27, 0x4f, 0xc1, 0xa8, 0x36, 0xba, 0x3c, 0x23, 0xa3, 0xfe, 0xeb, 0xbd, 0x45, 0x4d, 0x44, 0x23, 0x64, 0x3c, 0xe8, 0x0e, 0x2a, 0x9a, 0xc9, 0x4f, 0xa5, 0x4c, 0xa4, 0x9f] := by kernel_rfl
end Go.Proofs.YtmoepalhoaekgaaDoor.S5


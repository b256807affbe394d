/-
  Plain laws of this verifier: 'Fr S w w2': outside the blocks of S the world w2 is as w was; an append onto a row that the call owns, from any source, which also says in which block the row lies behind it.
  SHA-256 over natural numbers, as plain functions on lists of bytes, and their plain laws. It speaks of no program.
  SHA-512 over natural numbers, as plain functions on lists of bytes, and their plain laws. It speaks of no program.
  The contracts of bits.RotateLeft32, turned and shifted of package sha2.
  The contracts of bits.RotateLeft64, turned and shifted of package sha5.
  Plain laws of this verifier on bytes in memory: a list of bytes as cells; what is owned as a source of an append; the string of owned bytes.
-/
import Derived.WalkKit
import Derived.Deep.AppendSrc
import Derived.Deep.QuietTactic
import Derived.BigQuiet
import Derived.KernelRfl
import Derived.Test.YtbpblheaiancaaaDoorProg
import Derived.Lib.Hide
import Derived.Laws.BytesArg
import Derived.WalkSpells
import Derived.Deep.RegionHeld3
namespace Go.Proofs.YtbpblheaiancaaaDoor
open Go.RowKit

/-- Outside the blocks of S the world w2 is as w was. -/
structure Fr (S : Nat → Prop) (w w2 : World) : Prop where
  os : w2.os = w.os
  tape : w2.tape = w.tape
  output : w2.output = w.output
  size : w.heap.size ≤ w2.heap.size
  block : ∀ k, k < w.heap.size → ¬ S k → w2.heap[k]? = w.heap[k]?

theorem Fr.refl (S : Nat → Prop) (w : World) : Fr S w w := ⟨rfl, rfl, rfl, Nat.le_refl _, fun _ _ _ => rfl⟩
theorem Fr.trans {S T : Nat → Prop} {a b c : World} (h : Fr S a b) (k : Fr T b c) (hT : ∀ i, T i → S i ∨ a.heap.size ≤ i) : Fr S a c :=
  ⟨k.os.trans h.os, k.tape.trans h.tape, k.output.trans h.output, Nat.le_trans h.size k.size, fun i hi hs => (k.block i (Nat.lt_of_lt_of_le hi h.size) (fun ht => (hT i ht).elim hs (by omega))).trans (h.block i hi hs)⟩
theorem Fr.mono {S T : Nat → Prop} {a b : World} (h : Fr S a b) (hT : ∀ i, i < a.heap.size → S i → T i) : Fr T a b :=
  ⟨h.os, h.tape, h.output, h.size, fun i hi hs => h.block i hi (fun hS => hs (hT i hi hS))⟩
theorem Fr.drew {S : Nat → Prop} {a w : World} (h : Fr S a w) : Fr S a w.drew := ⟨h.os, h.tape, h.output, h.size, h.block⟩
theorem Fr.drewN {S : Nat → Prop} {a w : World} (h : Fr S a w) (n : Nat) : Fr S a (w.drewN n) := ⟨h.os, h.tape, h.output, h.size, h.block⟩
theorem Fr.alloc {S : Nat → Prop} {a w : World} (h : Fr S a w) (o : Obj) : Fr S a (w.alloc o) :=
  ⟨h.os, h.tape, h.output, by have := h.size; simp; omega, fun k hk hs => (Below.heap_alloc _ _ _ (by have := h.size; omega)).trans (h.block k hk hs)⟩
theorem Fr.setCell {S : Nat → Prop} {a w : World} (h : Fr S a w) {p : Addr} (hp : S p.block ∨ a.heap.size ≤ p.block) (u : Value) : Fr S a (w.setCell p u) :=
  ⟨h.os, h.tape, h.output, by have := h.size; simp [World.setCell]; omega, fun k hk hs => (Below.heap_setCell _ _ _ _ (fun e => by subst e; exact hp.elim hs (by omega))).trans (h.block k hk hs)⟩
theorem Fr.below {S : Nat → Prop} {w w2 : World} {B : Nat} (h : Fr S w w2) (hB : B ≤ w.heap.size) (hS : ∀ k, k < B → ¬ S k) : Below B w w2 :=
  ⟨h.os, h.tape, h.output, h.size, fun k hk => h.block k (by omega) (hS k hk)⟩
theorem Fr.ofGrown {w w2 : World} {row : Option Nat} (h : w.grownBy w2 row) : Fr (fun k => row = some k) w w2 :=
  ⟨h.os, h.tape, h.output, h.size, fun k hk hs => h.block k hk (fun e => hs e.symm)⟩
theorem Fr.cell {S : Nat → Prop} {w w2 : World} (h : Fr S w w2) {p : Addr} (hp : p.block < w.heap.size) (hs : ¬ S p.block) : w2.cell? p = w.cell? p := World.cell?_of_block (w := w) (h.block p.block hp hs)
theorem Fr.cellSome {S : Nat → Prop} {w w2 : World} (h : Fr S w w2) {p : Addr} {v : Value} (hs : ¬ S p.block) (hc : w.cell? p = some v) : w2.cell? p = some v :=
  (h.cell (World.block_lt_of_cell? w p hc) hs).trans hc
theorem Fr.own {S : Nat → Prop} {w w2 : World} {base : Nat} {e : TypeId} {size : Nat} {v : Value} {n : Nat} {xs : List Value} (h : Fr S w w2) (ho : w.ownsRow base e size v n xs) (hs : ∀ k, v.ownBlock = some k → ¬ S k) : w2.ownsRow base e size v n xs := by
  refine ⟨ho.1, ?_⟩
  rcases ho.2 with hn | ⟨g, cap, cur, rfl, hb, hgg, rest⟩
  · exact .inl hn
  · exact .inr ⟨g, cap, cur, rfl, hb, by rw [h.block g (Array.getElem?_eq_some_iff.1 hgg).1 (hs g rfl)]; exact hgg, rest⟩

/-- A block that is known whole: its cells, and that they may be written. -/
theorem cell_of_block {w : World} {b : Nat} {cs : Array Value} {t : TypeId} {fr : Nat × Nat} (h : w.heap[b]? = some (.cells cs t fr)) (o : Nat) : w.cell? ⟨b, o, none⟩ = cs[o]? := by simp [World.cell?, h]
theorem free_of_block {w : World} {b : Nat} {cs : Array Value} {t : TypeId} (h : w.heap[b]? = some (.cells cs t (0, 0))) (o : Nat) : w.frozen? ⟨b, o, none⟩ = false := by simp [World.frozen?, h]
theorem block_setCell {w : World} {b : Nat} {cs : Array Value} {t : TypeId} (h : w.heap[b]? = some (.cells cs t (0, 0))) (o : Nat) (u : Value) : (w.setCell ⟨b, o, none⟩ u).heap[b]? = some (.cells (cs.setIfInBounds o u) t (0, 0)) := by
  have hlt := lt_of_block h
  have h' : w.heap[b] = .cells cs t (0, 0) := by simpa [Array.getElem?_eq_getElem hlt] using h
  show (w.heap.modify b _)[b]? = _
  rw [Array.getElem?_eq_getElem (by simpa using hlt), Array.getElem_modify_self, h']
  rfl

section
variable {P : Program} (w : World)

/-- An append onto an owned row, from any source: what is owned behind it, where it lies, what else has turned. -/
theorem run_app (base : Nat) (t tx ty e : TypeId) (i : TypeInfo) (z : Value) (size bytes : Nat) (ht : P.underlying t = some (.slice e)) (hi : P.info? e = some i) (hz : i.zero = some z)
    (hsize : i.size = size) (hby : i.bytes = bytes) (hzs : z.cells.size = size) (hsz : 0 < size)
    (v : Value) (n : Nat) (xs : List Value) (hown : w.ownsRow base e size v n xs) (x : Value) (m : Nat) (news : List Value) (hsrc : Src P size tx x m news w)
    (h63 : n + m ≤ maxLen) (hbytes : (n + m) * bytes ≤ 140737488355328) (hbase : base ≤ w.heap.size) :
    ∃ v2 w2, (Builtin.append_ #[t, tx] ty #[v, x]).run P w = .ok v2 w2 ∧ w2.ownsRow base e size v2 (n + m) (xs ++ news) ∧ w.grownBy w2 v.ownBlock ∧
      (v2.ownBlock = v.ownBlock ∨ v2.ownBlock = some w.heap.size) := by
  subst hsize
  subst hby
  have hl := hsrc.newsLen
  have hsmall : n + m ≤ 9223372036854775807 := by simp only [maxLen] at h63; omega
  have hlen : (xs ++ news).length = (n + m) * i.size := by rw [List.length_append, hown.1, hl, Nat.add_mul]
  have grown : ∀ (old : Nat) (row : Option Nat),
      (w.drew.alloc (.cells ((xs ++ news).toArray ++ Builtin.zeroCells z.cells (grownCap w (n + m) old e - (n + m))) e)).ownsRow base e i.size
        (.slice (some ⟨w.heap.size, 0, none⟩) (n + m) (grownCap w (n + m) old e)) (n + m) (xs ++ news) ∧
      w.grownBy (w.drew.alloc (.cells ((xs ++ news).toArray ++ Builtin.zeroCells z.cells (grownCap w (n + m) old e - (n + m))) e)) row := by
    intro old row
    have hge := grownCap_ge w (n + m) old e
    have hcm : grownCap w (n + m) old e ≤ maxLen := grownCap_le_maxLen w (n + m) old e h63
    refine ⟨⟨hlen, .inr ⟨w.heap.size, _, _, rfl, hbase, heap_alloc_new w.drew _, hge, hcm, ?_, ?_⟩⟩, ⟨rfl, rfl, rfl, by simp, fun k hk _ => Below.heap_alloc w.drew _ k hk⟩⟩
    · simp only [Array.size_append, List.size_toArray, size_zeroCells, hzs, hlen, ← Nat.add_mul]
      congr 1
      omega
    · rw [Array.toList_append, ← hlen]
      exact List.take_left
  rcases hown.2 with ⟨rfl, rfl⟩ | ⟨g, cap, cur, rfl, hbg, hg, hnc, hcm, hcs, htake⟩
  · have hx : xs = [] := List.eq_nil_of_length_eq_zero (by simpa using hown.1)
    subst hx
    by_cases hm : m = 0
    · subst hm
      have hn : news = [] := List.eq_nil_of_length_eq_zero (by simpa using hl)
      subst hn
      refine ⟨.slice none 0 0, w, ?_, World.ownsRow_nil w base e i.size, ⟨rfl, rfl, rfl, Nat.le_refl _, fun _ _ _ => rfl⟩, .inl rfl⟩
      have hc := hsrc.cells
      rcases hsrc.kind with ⟨e2, hk⟩ | hk <;>
        simp [Builtin.append_, run_underlying ht, run_underlying hk, sizeOf, typeInfo, hi, hsrc.len, hc]
    · have hr := run_append_grow_src (P := P) w t tx ty e i z ht hi hz none 0 0 [] (run_firstCells_none w.drew i.size 0 0 0) x m news hsrc (by omega) (by omega) (growslice_fits (by omega) hbytes)
      have hgr := grown 0 (Value.ownBlock (.slice none 0 0))
      simp only [Nat.zero_add, List.nil_append] at hgr hr ⊢
      exact ⟨_, _, hr, hgr.1, hgr.2, .inr rfl⟩
  · by_cases hroom : n + m ≤ cap
    · have hfit : n * i.size + news.length ≤ cur.size := by rw [hl, hcs, ← Nat.add_mul]; exact Nat.mul_le_mul_right _ hroom
      have hf := hsrc.cells
      have hst := run_storeCells_at P g (n * i.size) e news 0 cur w hg (by simpa using hfit) hsrc.one
      simp only [Nat.add_zero] at hst
      have hr : (Builtin.append_ #[t, tx] ty #[.slice (some ⟨g, 0, none⟩) n cap, x]).run P w = .ok (.slice (some ⟨g, 0, none⟩) (n + m) cap) (w.setRow g (cur.toList.take (n * i.size) ++ news ++ cur.toList.drop (n * i.size + news.length)).toArray) := by
        rcases hsrc.kind with ⟨e2, hk⟩ | hk <;>
          simp [Builtin.append_, run_underlying ht, run_underlying hk, sizeOf, typeInfo, hi, hsrc.len, hroom, hf, Addr.add_lit, hst]
      refine ⟨_, _, hr, ⟨hlen, .inr ⟨g, cap, _, rfl, hbg, setRow_heap w g cur _ e _ hg, hroom, hcm, ?_, ?_⟩⟩, ⟨rfl, rfl, rfl, by simp, fun k _ hk => setRow_other w g k _ (fun e => hk (by simp [Value.ownBlock, e]))⟩, .inl rfl⟩
      · simp only [List.size_toArray, List.length_append, List.length_take, List.length_drop, Array.length_toList]
        omega
      · rw [htake, ← hlen]
        exact List.take_left
    · have holds : ∀ j u, xs[j]? = some u → w.drew.cell? ((⟨g, 0, none⟩ : Addr).add j) = some u := fun j u h => by simpa using hown.cells (g := g) rfl j u h
      have hr := run_append_grow_src (P := P) w t tx ty e i z ht hi hz (some ⟨g, 0, none⟩) n cap xs (run_firstCells_some w.drew i.size n ⟨g, 0, none⟩ n cap xs hown.1 holds) x m news hsrc (by omega) (by omega) (growslice_fits (by omega) hbytes)
      have hgr := grown cap (Value.ownBlock (.slice (some ⟨g, 0, none⟩) n cap))
      exact ⟨_, _, hr, hgr.1, hgr.2, .inr rfl⟩

theorem wpList_app {ops : Array Oper} {rest : List Oper} {o : Oper} {a : Act} {Q : Exit → Act → World → Prop} (hgd : o.guard = none) (s x : Operand) (t tx : TypeId)
    (ho : o.op = .call { callee := .builtin .append, args := #[s, x], argTypes := #[t, tx] })
    (base : Nat) (e : TypeId) (i : TypeInfo) (z : Value) (size bytes : Nat) (ht : P.underlying t = some (.slice e)) (hi : P.info? e = some i) (hz : i.zero = some z)
    (hsize : i.size = size) (hby : i.bytes = bytes) (hzs : z.cells.size = size) (hsz : 0 < size)
    (v : Value) (n : Nat) (xs : List Value) (hs : a.eval s = v) (hown : w.ownsRow base e size v n xs)
    (xv : Value) (hx : a.eval x = xv) (m : Nat) (news : List Value) (hsrc : Src P size tx xv m news w)
    (h63 : n + m ≤ maxLen) (hbytes : (n + m) * bytes ≤ 140737488355328) (hbase : base ≤ w.heap.size)
    (h : ∀ v2 w2, w2.ownsRow base e size v2 (n + m) (xs ++ news) → w.grownBy w2 v.ownBlock → (v2.ownBlock = v.ownBlock ∨ v2.ownBlock = some w.heap.size) → wpList P ops Q rest (a.put o.dst v2) w2) : wpList P ops Q (o :: rest) a w := by
  refine wpList_plain hgd fun _ hK => ?_
  obtain ⟨v2, w2, hr, h2, h3, h4⟩ := run_app (P := P) w base t tx o.type e i z size bytes ht hi hz hsize hby hzs hsz v n xs hown xv m news hsrc h63 hbytes hbase
  unfold Oper.wp execOp
  simp only [ho, resolve, invoke, builtin, Sem.run_bind, Sem.run_pure, Result.andThen_ok, List.map_toArray, List.map_cons, List.map_nil, hs, hx, hr]
  exact hK _ _ (h v2 w2 h2 h3 h4)

end
end Go.Proofs.YtbpblheaiancaaaDoor
namespace Go.Proofs.YtbpblheaiancaaaDoor.S2

def M : Nat := 4294967296
def rotr (x p : Nat) : Nat := (x >>> p) ||| ((x <<< (32 - p)) % 4294967296)
def bs0 (x : Nat) : Nat := rotr x 2 ^^^ rotr x 13 ^^^ rotr x 22
def bs1 (x : Nat) : Nat := rotr x 6 ^^^ rotr x 11 ^^^ rotr x 25
def ss0 (x : Nat) : Nat := rotr x 7 ^^^ rotr x 18 ^^^ (x >>> 3)
def ss1 (x : Nat) : Nat := rotr x 17 ^^^ rotr x 19 ^^^ (x >>> 10)
def ch (e f g : Nat) : Nat := (e &&& f) ^^^ ((4294967295 ^^^ e) &&& g)
def maj (a b c : Nat) : Nat := (a &&& b) ^^^ (a &&& c) ^^^ (b &&& c)
def KS : List Nat := [0x428a2f98, 0x71374491, 0xb5c0fbcf, 0xe9b5dba5, 0x3956c25b, 0x59f111f1, 0x923f82a4, 0xab1c5ed5,
    0xd807aa98, 0x12835b01, 0x243185be, 0x550c7dc3, 0x72be5d74, 0x80deb1fe, 0x9bdc06a7, 0xc19bf174,
    0xe49b69c1, 0xefbe4786, 0x0fc19dc6, 0x240ca1cc, 0x2de92c6f, 0x4a7484aa, 0x5cb0a9dc, 0x76f988da,
    0x983e5152, 0xa831c66d, 0xb00327c8, 0xbf597fc7, 0xc6e00bf3, 0xd5a79147, 0x06ca6351, 0x14292967,
    0x27b70a85, 0x2e1b2138, 0x4d2c6dfc, 0x53380d13, 0x650a7354, 0x766a0abb, 0x81c2c92e, 0x92722c85,
    0xa2bfe8a1, 0xa81a664b, 0xc24b8b70, 0xc76c51a3, 0xd192e819, 0xd6990624, 0xf40e3585, 0x106aa070,
    0x19a4c116, 0x1e376c08, 0x2748774c, 0x34b0bcb5, 0x391c0cb3, 0x4ed8aa4a, 0x5b9cca4f, 0x682e6ff3,
    0x748f82ee, 0x78a5636f, 0x84c87814, 0x8cc70208, 0x90befffa, 0xa4506ceb, 0xbef9a3f7, 0xc67178f2]
def K (i : Nat) : Nat := KS.getD i 0

/-- The state: eight words. -/
structure St where
  a : Nat
  b : Nat
  c : Nat
  d : Nat
  e : Nat
  f : Nat
  g : Nat
  h : Nat
def H0 : St := ⟨0x6a09e667, 0xbb67ae85, 0x3c6ef372, 0xa54ff53a, 0x510e527f, 0x9b05688c, 0x1f83d9ab, 0x5be0cd19⟩
def St.list (s : St) : List Nat := [s.a, s.b, s.c, s.d, s.e, s.f, s.g, s.h]
def St.ok (s : St) : Prop := s.a < M ∧ s.b < M ∧ s.c < M ∧ s.d < M ∧ s.e < M ∧ s.f < M ∧ s.g < M ∧ s.h < M

/-- Word i of a block. -/
def word (b : List UInt8) (i : Nat) : Nat := (b.getD (4 * i) 0).toNat * 16777216 + (b.getD (4 * i + 1) 0).toNat * 65536 + (b.getD (4 * i + 2) 0).toNat * 256 + (b.getD (4 * i + 3) 0).toNat
/-- The first 16 words, and n more. -/
def sch (b : List UInt8) : Nat → List Nat
  | 0 => (List.range 16).map (word b)
  | n + 1 => sch b n ++ [((sch b n).getD n 0 + ss0 ((sch b n).getD (n + 1) 0) + (sch b n).getD (n + 9) 0 + ss1 ((sch b n).getD (n + 14) 0)) % M]
def T1 (s : St) (k w : Nat) : Nat := (s.h + bs1 s.e + ch s.e s.f s.g + k + w) % M
def T2 (s : St) : Nat := (bs0 s.a + maj s.a s.b s.c) % M
def rnd (s : St) (k w : Nat) : St := ⟨(T1 s k w + T2 s) % M, s.a, s.b, s.c, (s.d + T1 s k w) % M, s.e, s.f, s.g⟩
def rnds (W : List Nat) (s : St) : Nat → St
  | 0 => s
  | n + 1 => rnd (rnds W s n) (K n) (W.getD n 0)
def St.add (s t : St) : St := ⟨(s.a + t.a) % M, (s.b + t.b) % M, (s.c + t.c) % M, (s.d + t.d) % M, (s.e + t.e) % M, (s.f + t.f) % M, (s.g + t.g) % M, (s.h + t.h) % M⟩
/-- The state behind a block more. -/
def mix (s : St) (b : List UInt8) : St := s.add (rnds (sch b 48) s 64)
/-- The state behind the first k blocks. -/
def hwN (l : List UInt8) : Nat → St
  | 0 => H0
  | k + 1 => mix (hwN l k) ((l.drop (64 * k)).take 64)
def hw (l : List UInt8) : St := hwN l (l.length / 64)
/-- A number in eight bytes, the highest first. -/
def be8 (n : Nat) : List UInt8 := (List.range 8).map fun j => UInt8.ofNat (n / 2 ^ (56 - 8 * j))
def be4 (n : Nat) : List UInt8 := [UInt8.ofNat (n / 16777216), UInt8.ofNat (n / 65536), UInt8.ofNat (n / 256), UInt8.ofNat n]
/-- So many bytes come behind n: a first one, noughts, eight of the count of bits. -/
def padLen (n : Nat) : Nat := 64 - (n % 64 + 8) % 64 + 8
def pad (n : Nat) : List UInt8 := 0x80 :: (List.replicate (padLen n - 9) 0 ++ be8 (8 * n))
def out (s : St) : List UInt8 := s.list.flatMap be4
def sum (l : List UInt8) : List UInt8 := out (hw (l ++ pad l.length))

/-- Word j of the schedule. -/
def W (b : List UInt8) (j : Nat) : Nat := (sch b 48).getD j 0
theorem sch_length (b : List UInt8) (n : Nat) : (sch b n).length = 16 + n := by
  induction n with
  | zero => simp [sch]
  | succ n ih => simp [sch, ih]; omega
theorem sch_prefix (b : List UInt8) (n k j : Nat) (hj : j < 16 + n) : (sch b (n + k)).getD j 0 = (sch b n).getD j 0 := by
  induction k with
  | zero => rfl
  | succ k ih =>
    rw [← Nat.add_assoc, sch, ← ih]
    have := sch_length b (n + k)
    simp only [List.getD]
    rw [List.getElem?_append_left (by omega)]
theorem W_of (b : List UInt8) (n j : Nat) (hn : n ≤ 48) (hj : j < 16 + n) : (sch b n).getD j 0 = W b j := by
  have := sch_prefix b n (48 - n) j hj
  rw [show n + (48 - n) = 48 by omega] at this
  exact this.symm
theorem W_lo (b : List UInt8) (j : Nat) (hj : j < 16) : W b j = word b j := by
  rw [← W_of b 0 j (by omega) (by omega)]
  simp [sch, List.getD, hj]
theorem W_hi (b : List UInt8) (n : Nat) (hn : n < 48) : W b (n + 16) = (W b n + ss0 (W b (n + 1)) + W b (n + 9) + ss1 (W b (n + 14))) % M := by
  rw [← W_of b (n + 1) (n + 16) (by omega) (by omega), sch, W_of b n n (by omega) (by omega), W_of b n (n + 1) (by omega) (by omega), W_of b n (n + 9) (by omega) (by omega), W_of b n (n + 14) (by omega) (by omega)]
  have := sch_length b n
  simp only [List.getD]
  rw [List.getElem?_append_right (by omega), this, show n + 16 - (16 + n) = 0 by omega]
  rfl
theorem word_lt (b : List UInt8) (i : Nat) : word b i < M := by
  unfold word M
  have h0 := (b.getD (4 * i) 0).toNat_lt
  have h1 := (b.getD (4 * i + 1) 0).toNat_lt
  have h2 := (b.getD (4 * i + 2) 0).toNat_lt
  have h3 := (b.getD (4 * i + 3) 0).toNat_lt
  omega
theorem W_lt (b : List UInt8) (j : Nat) (hj : j < 64) : W b j < M := by
  by_cases h : j < 16
  · rw [W_lo b j h]; exact word_lt b j
  · have := W_hi b (j - 16) (by omega)
    rw [show j - 16 + 16 = j by omega] at this
    rw [this]; exact Nat.mod_lt _ (by decide)

theorem hwN_append (l x : List UInt8) (k : Nat) (h : 64 * k ≤ l.length) : hwN (l ++ x) k = hwN l k := by
  induction k with
  | zero => rfl
  | succ k ih =>
    rw [hwN, hwN, ih (by omega)]
    congr 1
    rw [List.drop_append_of_le_length (by omega), List.take_append_of_le_length (by simp; omega)]
theorem hw_small (l x : List UInt8) (h : l.length % 64 + x.length < 64) : hw (l ++ x) = hw l := by
  unfold hw
  rw [List.length_append, show (l.length + x.length) / 64 = l.length / 64 by omega]
  exact hwN_append l x _ (by omega)
theorem hw_full (l x : List UInt8) (h : l.length % 64 + x.length = 64) : hw (l ++ x) = mix (hw l) (l.drop (64 * (l.length / 64)) ++ x) := by
  unfold hw
  rw [List.length_append, show (l.length + x.length) / 64 = l.length / 64 + 1 by omega, hwN, hwN_append l x _ (by omega)]
  congr 1
  rw [List.drop_append_of_le_length (by omega)]
  exact List.take_of_length_le (by simp; omega)
theorem mod_lt_M (n : Nat) : n % M < M := Nat.mod_lt _ (by decide)
theorem mix_ok (s : St) (b : List UInt8) : (mix s b).ok := ⟨mod_lt_M _, mod_lt_M _, mod_lt_M _, mod_lt_M _, mod_lt_M _, mod_lt_M _, mod_lt_M _, mod_lt_M _⟩
theorem H0_ok : H0.ok := by unfold St.ok H0 M; decide
theorem hwN_ok (l : List UInt8) (k : Nat) : (hwN l k).ok := by
  cases k with
  | zero => exact H0_ok
  | succ k => exact mix_ok _ _
theorem hw_ok (l : List UInt8) : (hw l).ok := hwN_ok _ _

theorem sum_abc : sum [97, 98, 99] = [0xba, 0x78, 0x16, 0xbf, 0x8f, 0x01, 0xcf, 0xea, 0x41, 0x41, 0x40, 0xde, 0x5d, 0xae, 0x22, 0x23, 0xb0, 0x03, 0x61, 0xa3, 0x96, 0x17, 0x7a, 0x9c, 0xb4, 0x10, 0xff, 0x61, 0xf2, 0x00, 0x15, 0xad] := by kernel_rfl
end Go.Proofs.YtbpblheaiancaaaDoor.S2
namespace Go.Proofs.YtbpblheaiancaaaDoor.S5

def M : Nat := 18446744073709551616
def rotr (x p : Nat) : Nat := (x >>> p) ||| ((x <<< (64 - p)) % 18446744073709551616)
def bs0 (x : Nat) : Nat := rotr x 28 ^^^ rotr x 34 ^^^ rotr x 39
def bs1 (x : Nat) : Nat := rotr x 14 ^^^ rotr x 18 ^^^ rotr x 41
def ss0 (x : Nat) : Nat := rotr x 1 ^^^ rotr x 8 ^^^ (x >>> 7)
def ss1 (x : Nat) : Nat := rotr x 19 ^^^ rotr x 61 ^^^ (x >>> 6)
def ch (e f g : Nat) : Nat := (e &&& f) ^^^ ((18446744073709551615 ^^^ e) &&& g)
def maj (a b c : Nat) : Nat := (a &&& b) ^^^ (a &&& c) ^^^ (b &&& c)
def KS : List Nat := [0x428a2f98d728ae22, 0x7137449123ef65cd, 0xb5c0fbcfec4d3b2f, 0xe9b5dba58189dbbc,
    0x3956c25bf348b538, 0x59f111f1b605d019, 0x923f82a4af194f9b, 0xab1c5ed5da6d8118,
    0xd807aa98a3030242, 0x12835b0145706fbe, 0x243185be4ee4b28c, 0x550c7dc3d5ffb4e2,
    0x72be5d74f27b896f, 0x80deb1fe3b1696b1, 0x9bdc06a725c71235, 0xc19bf174cf692694,
    0xe49b69c19ef14ad2, 0xefbe4786384f25e3, 0x0fc19dc68b8cd5b5, 0x240ca1cc77ac9c65,
    0x2de92c6f592b0275, 0x4a7484aa6ea6e483, 0x5cb0a9dcbd41fbd4, 0x76f988da831153b5,
    0x983e5152ee66dfab, 0xa831c66d2db43210, 0xb00327c898fb213f, 0xbf597fc7beef0ee4,
    0xc6e00bf33da88fc2, 0xd5a79147930aa725, 0x06ca6351e003826f, 0x142929670a0e6e70,
    0x27b70a8546d22ffc, 0x2e1b21385c26c926, 0x4d2c6dfc5ac42aed, 0x53380d139d95b3df,
    0x650a73548baf63de, 0x766a0abb3c77b2a8, 0x81c2c92e47edaee6, 0x92722c851482353b,
    0xa2bfe8a14cf10364, 0xa81a664bbc423001, 0xc24b8b70d0f89791, 0xc76c51a30654be30,
    0xd192e819d6ef5218, 0xd69906245565a910, 0xf40e35855771202a, 0x106aa07032bbd1b8,
    0x19a4c116b8d2d0c8, 0x1e376c085141ab53, 0x2748774cdf8eeb99, 0x34b0bcb5e19b48a8,
    0x391c0cb3c5c95a63, 0x4ed8aa4ae3418acb, 0x5b9cca4f7763e373, 0x682e6ff3d6b2b8a3,
    0x748f82ee5defb2fc, 0x78a5636f43172f60, 0x84c87814a1f0ab72, 0x8cc702081a6439ec,
    0x90befffa23631e28, 0xa4506cebde82bde9, 0xbef9a3f7b2c67915, 0xc67178f2e372532b,
    0xca273eceea26619c, 0xd186b8c721c0c207, 0xeada7dd6cde0eb1e, 0xf57d4f7fee6ed178,
    0x06f067aa72176fba, 0x0a637dc5a2c898a6, 0x113f9804bef90dae, 0x1b710b35131c471b,
    0x28db77f523047d84, 0x32caab7b40c72493, 0x3c9ebe0a15c9bebc, 0x431d67c49c100d4c,
    0x4cc5d4becb3e42b6, 0x597f299cfc657e2a, 0x5fcb6fab3ad6faec, 0x6c44198c4a475817]
def K (i : Nat) : Nat := KS.getD i 0

/-- The state: eight words. -/
structure St where
  a : Nat
  b : Nat
  c : Nat
  d : Nat
  e : Nat
  f : Nat
  g : Nat
  h : Nat
def H0 : St := ⟨0x6a09e667f3bcc908, 0xbb67ae8584caa73b, 0x3c6ef372fe94f82b, 0xa54ff53a5f1d36f1, 0x510e527fade682d1, 0x9b05688c2b3e6c1f, 0x1f83d9abfb41bd6b, 0x5be0cd19137e2179⟩
def St.list (s : St) : List Nat := [s.a, s.b, s.c, s.d, s.e, s.f, s.g, s.h]
def St.ok (s : St) : Prop := s.a < M ∧ s.b < M ∧ s.c < M ∧ s.d < M ∧ s.e < M ∧ s.f < M ∧ s.g < M ∧ s.h < M

/-- Word i of a block. -/
def byt (b : List UInt8) (i : Nat) : Nat := (b.getD i 0).toNat
def word (b : List UInt8) (i : Nat) : Nat := ((((((byt b (8 * i) * 256 + byt b (8 * i + 1)) * 256 + byt b (8 * i + 2)) * 256 + byt b (8 * i + 3)) * 256 + byt b (8 * i + 4)) * 256 + byt b (8 * i + 5)) * 256 + byt b (8 * i + 6)) * 256 + byt b (8 * i + 7)
/-- The first 16 words, and n more. -/
def sch (b : List UInt8) : Nat → List Nat
  | 0 => (List.range 16).map (word b)
  | n + 1 => sch b n ++ [((sch b n).getD n 0 + ss0 ((sch b n).getD (n + 1) 0) + (sch b n).getD (n + 9) 0 + ss1 ((sch b n).getD (n + 14) 0)) % M]
def T1 (s : St) (k w : Nat) : Nat := (s.h + bs1 s.e + ch s.e s.f s.g + k + w) % M
def T2 (s : St) : Nat := (bs0 s.a + maj s.a s.b s.c) % M
def rnd (s : St) (k w : Nat) : St := ⟨(T1 s k w + T2 s) % M, s.a, s.b, s.c, (s.d + T1 s k w) % M, s.e, s.f, s.g⟩
def rnds (W : List Nat) (s : St) : Nat → St
  | 0 => s
  | n + 1 => rnd (rnds W s n) (K n) (W.getD n 0)
def St.add (s t : St) : St := ⟨(s.a + t.a) % M, (s.b + t.b) % M, (s.c + t.c) % M, (s.d + t.d) % M, (s.e + t.e) % M, (s.f + t.f) % M, (s.g + t.g) % M, (s.h + t.h) % M⟩
/-- The state behind a block more. -/
def mix (s : St) (b : List UInt8) : St := s.add (rnds (sch b 64) s 80)
/-- The state behind the first k blocks. -/
def hwN (l : List UInt8) : Nat → St
  | 0 => H0
  | k + 1 => mix (hwN l k) ((l.drop (128 * k)).take 128)
def hw (l : List UInt8) : St := hwN l (l.length / 128)
/-- A number in eight bytes, the highest first. -/
def be8 (n : Nat) : List UInt8 := (List.range 8).map fun j => UInt8.ofNat (n / 2 ^ (56 - 8 * j))
/-- So many bytes come behind n: a first one, noughts, eight of the count of bits. -/
def padLen (n : Nat) : Nat := 128 - (n % 128 + 16) % 128 + 16
def pad (n : Nat) : List UInt8 := 0x80 :: (List.replicate (padLen n - 9) 0 ++ be8 (8 * n))
def out (s : St) : List UInt8 := s.list.flatMap be8
def sum (l : List UInt8) : List UInt8 := out (hw (l ++ pad l.length))

/-- Word j of the schedule. -/
def W (b : List UInt8) (j : Nat) : Nat := (sch b 64).getD j 0
theorem sch_length (b : List UInt8) (n : Nat) : (sch b n).length = 16 + n := by
  induction n with
  | zero => simp [sch]
  | succ n ih => simp [sch, ih]; omega
theorem sch_prefix (b : List UInt8) (n k j : Nat) (hj : j < 16 + n) : (sch b (n + k)).getD j 0 = (sch b n).getD j 0 := by
  induction k with
  | zero => rfl
  | succ k ih =>
    rw [← Nat.add_assoc, sch, ← ih]
    have := sch_length b (n + k)
    simp only [List.getD]
    rw [List.getElem?_append_left (by omega)]
theorem W_of (b : List UInt8) (n j : Nat) (hn : n ≤ 64) (hj : j < 16 + n) : (sch b n).getD j 0 = W b j := by
  have := sch_prefix b n (64 - n) j hj
  rw [show n + (64 - n) = 64 by omega] at this
  exact this.symm
theorem W_lo (b : List UInt8) (j : Nat) (hj : j < 16) : W b j = word b j := by
  rw [← W_of b 0 j (by omega) (by omega)]
  simp [sch, List.getD, hj]
theorem W_hi (b : List UInt8) (n : Nat) (hn : n < 64) : W b (n + 16) = (W b n + ss0 (W b (n + 1)) + W b (n + 9) + ss1 (W b (n + 14))) % M := by
  rw [← W_of b (n + 1) (n + 16) (by omega) (by omega), sch, W_of b n n (by omega) (by omega), W_of b n (n + 1) (by omega) (by omega), W_of b n (n + 9) (by omega) (by omega), W_of b n (n + 14) (by omega) (by omega)]
  have := sch_length b n
  simp only [List.getD]
  rw [List.getElem?_append_right (by omega), this, show n + 16 - (16 + n) = 0 by omega]
  rfl
theorem byt_lt (b : List UInt8) (i : Nat) : byt b i < 256 := (b.getD i 0).toNat_lt
theorem word_lt (b : List UInt8) (i : Nat) : word b i < M := by
  unfold word M
  have h0 := byt_lt b (8 * i)
  have h1 := byt_lt b (8 * i + 1)
  have h2 := byt_lt b (8 * i + 2)
  have h3 := byt_lt b (8 * i + 3)
  have h4 := byt_lt b (8 * i + 4)
  have h5 := byt_lt b (8 * i + 5)
  have h6 := byt_lt b (8 * i + 6)
  have h7 := byt_lt b (8 * i + 7)
  omega
theorem W_lt (b : List UInt8) (j : Nat) (hj : j < 80) : W b j < M := by
  by_cases h : j < 16
  · rw [W_lo b j h]; exact word_lt b j
  · have := W_hi b (j - 16) (by omega)
    rw [show j - 16 + 16 = j by omega] at this
    rw [this]; exact Nat.mod_lt _ (by decide)

theorem hwN_append (l x : List UInt8) (k : Nat) (h : 128 * k ≤ l.length) : hwN (l ++ x) k = hwN l k := by
  induction k with
  | zero => rfl
  | succ k ih =>
    rw [hwN, hwN, ih (by omega)]
    congr 1
    rw [List.drop_append_of_le_length (by omega), List.take_append_of_le_length (by simp; omega)]
theorem hw_small (l x : List UInt8) (h : l.length % 128 + x.length < 128) : hw (l ++ x) = hw l := by
  unfold hw
  rw [List.length_append, show (l.length + x.length) / 128 = l.length / 128 by omega]
  exact hwN_append l x _ (by omega)
theorem hw_full (l x : List UInt8) (h : l.length % 128 + x.length = 128) : hw (l ++ x) = mix (hw l) (l.drop (128 * (l.length / 128)) ++ x) := by
  unfold hw
  rw [List.length_append, show (l.length + x.length) / 128 = l.length / 128 + 1 by omega, hwN, hwN_append l x _ (by omega)]
  congr 1
  rw [List.drop_append_of_le_length (by omega)]
  exact List.take_of_length_le (by simp; omega)
theorem mod_lt_M (n : Nat) : n % M < M := Nat.mod_lt _ (by decide)
theorem mix_ok (s : St) (b : List UInt8) : (mix s b).ok := ⟨mod_lt_M _, mod_lt_M _, mod_lt_M _, mod_lt_M _, mod_lt_M _, mod_lt_M _, mod_lt_M _, mod_lt_M _⟩
theorem H0_ok : H0.ok := by unfold St.ok H0 M; decide
theorem hwN_ok (l : List UInt8) (k : Nat) : (hwN l k).ok := by
  cases k with
  | zero => exact H0_ok
  | succ k => exact mix_ok _ _
theorem hw_ok (l : List UInt8) : (hw l).ok := hwN_ok _ _

theorem sum_abc : sum [97, 98, 99] = [0xdd, 0xaf, 0x35, 0xa1, 0x93, 0x61, 0x7a, 0xba, 0xcc, 0x41, 0x73, 0x49, 0xae, 0x20, 0x41, 0x31, 0x12, 0xe6, 0xfa, 0x4e, 0x89, 0xa9, 0x7e, 0xa2, 0x0a, 0x9e, 0xee, 0xe6, 0x4b, 0x55, 0xd3, 0x9a, 0x21, 0x92, 0x99, 0x2a, 0x27, 0x4f, 0xc1, 0xa8, 0x36, 0xba, 0x3c, 0x23, 0xa3, 0xfe, 0xeb, 0xbd, 0x45, 0x4d, 0x44, 0x23, 0x64, 0x3c, 0xe8, 0x0e, 0x2a, 0x9a, 0xc9, 0x4f, 0xa5, 0x4c, 0xa4, 0x9f] := by kernel_rfl
end Go.Proofs.YtbpblheaiancaaaDoor.S5
namespace Go.Proofs.YtbpblheaiancaaaDoor
open Go.RowKit
set_option linter.unusedVariables false

theorem bits_u32_nat (a b : Nat) (ha : a < 4294967296) (hb : b < 4294967296) : bits .or .u32 (a : Int) (b : Int) = ((a ||| b : Nat) : Int) ∧ bits .and .u32 (a : Int) (b : Int) = ((a &&& b : Nat) : Int) ∧ bits .xor .u32 (a : Int) (b : Int) = ((a ^^^ b : Nat) : Int) := by
  have x1 : a ||| b < 2 ^ 32 := Nat.or_lt_two_pow (by omega) (by omega)
  have x2 : a &&& b < 2 ^ 32 := Nat.and_lt_two_pow a (by omega)
  have x3 : a ^^^ b < 2 ^ 32 := Nat.xor_lt_two_pow (by omega) (by omega)
  have h1 : (BitVec.ofInt 32 (a : Int)).toNat = a := by
    rw [BitVec.ofInt_natCast, BitVec.toNat_ofNat]; exact Nat.mod_eq_of_lt (by omega)
  have h2 : (BitVec.ofInt 32 (b : Int)).toNat = b := by
    rw [BitVec.ofInt_natCast, BitVec.toNat_ofNat]; exact Nat.mod_eq_of_lt (by omega)
  refine ⟨?_, ?_, ?_⟩
  · show IntKind.u32.wrap ((BitVec.ofInt 32 (a : Int) ||| BitVec.ofInt 32 (b : Int)).toNat : Int) = _
    rw [BitVec.toNat_or, h1, h2, IntKind.wrap_u32]; omega
  · show IntKind.u32.wrap ((BitVec.ofInt 32 (a : Int) &&& BitVec.ofInt 32 (b : Int)).toNat : Int) = _
    rw [BitVec.toNat_and, h1, h2, IntKind.wrap_u32]; omega
  · show IntKind.u32.wrap ((BitVec.ofInt 32 (a : Int) ^^^ BitVec.ofInt 32 (b : Int)).toNat : Int) = _
    rw [BitVec.toNat_xor, h1, h2, IntKind.wrap_u32]; omega
theorem ret_u32 {a b : Int} (h : a = b) : Ending.returned (.int .u32 a) = .returned (.int .u32 b) := by rw [h]
theorem rotr_lt (x p : Nat) (hx : x < 4294967296) (hp : 1 ≤ p ∧ p ≤ 31) : S2.rotr x p < 4294967296 := by
  unfold S2.rotr
  refine Nat.or_lt_two_pow (n := 32) ?_ (Nat.mod_lt _ (by decide))
  exact Nat.lt_of_le_of_lt (by rw [Nat.shiftRight_eq_div_pow]; exact Nat.div_le_self _ _) hx
theorem shr_lt (x r : Nat) (hx : x < 4294967296) : x >>> r < 4294967296 :=
  Nat.lt_of_le_of_lt (by rw [Nat.shiftRight_eq_div_pow]; exact Nat.div_le_self _ _) hx
theorem rot_eq (x q : Nat) (hx : x < 4294967296) (h2 : q ≤ 31) : bits .or .u32 ((x : Int) * 2 ^ q % 4294967296) ((x : Int) / 2 ^ (32 - q)) = ((S2.rotr x (32 - q) : Nat) : Int) := by
  have e1 : (x : Int) * 2 ^ q % 4294967296 = ((x * 2 ^ q % 4294967296 : Nat) : Int) := by simp
  have e2 : (x : Int) / 2 ^ (32 - q) = ((x / 2 ^ (32 - q) : Nat) : Int) := by simp
  rw [e1, e2, (bits_u32_nat _ _ (Nat.mod_lt _ (by decide)) (Nat.lt_of_le_of_lt (Nat.div_le_self _ _) hx)).1]
  unfold S2.rotr
  rw [Nat.shiftRight_eq_div_pow, Nat.shiftLeft_eq, Nat.or_comm, show 32 - (32 - q) = q by omega]
theorem xor3 {a b c : Nat} (ha : a < 4294967296) (hb : b < 4294967296) (hc : c < 4294967296) : bits .xor .u32 (bits .xor .u32 (a : Int) (b : Int)) (c : Int) = ((a ^^^ b ^^^ c : Nat) : Int) := by
  rw [(bits_u32_nat a b ha hb).2.2, (bits_u32_nat _ c (Nat.xor_lt_two_pow (n := 32) ha hb) hc).2.2]

theorem and31 (q : Nat) (h1 : 1 ≤ q) (h2 : q ≤ 31) : bits .and .u64 (IntKind.u64.wrap (-((32 - q : Nat) : Int))) 31 = (q : Int) := by
  have e : IntKind.u64.wrap (-((32 - q : Nat) : Int)) = ((18446744073709551584 + q : Nat) : Int) := by rw [IntKind.wrap_u64]; omega
  rw [e, show (31 : Int) = ((31 : Nat) : Int) from rfl, bits_and_u64_nat _ _ (by omega) (by omega)]
  congr 1
  rw [show (31 : Nat) = 2 ^ 5 - 1 from rfl, Nat.and_two_pow_sub_one_eq_mod]
  omega

set_option maxRecDepth 100000 in
set_option maxHeartbeats 400000 in
theorem rot_any (x q : Nat) (N : Int) (hN : N = -((32 - q : Nat) : Int)) (hx : x < 4294967296) (hp : 1 ≤ q) (hp2 : q ≤ 31) (w : World) :
    Calls Tryd.prog 80 #[.int .u32 x, .int .i64 N] w fun e w' => e = .returned (.int .u32 (S2.rotr x (32 - q))) ∧ w = w' := by
  have e1 := and31 q hp hp2
  have e2 : IntKind.u64.wrap (32 - (q : Int)) = ((32 - q : Nat) : Int) := by rw [IntKind.wrap_u64]; omega
  subst hN
  go_enter Tryd.func80, Tryd.ntmps80
  go_wp2
  go_ret
  exact ⟨ret_u32 (rot_eq x q hx hp2), rfl⟩

set_option maxRecDepth 100000 in
set_option maxHeartbeats 400000 in
theorem turned_any (x p q r : Nat) (P Q R : Int) (hP : P = p) (hQ : Q = q) (hR : R = r) (hx : x < 4294967296) (hp : 1 ≤ p ∧ p ≤ 31) (hq : 1 ≤ q ∧ q ≤ 31) (hr : 1 ≤ r ∧ r ≤ 31) (w : World) :
    Calls Tryd.prog 76 #[.int .u32 x, .int .i64 P, .int .i64 Q, .int .i64 R] w fun e w' => e = .returned (.int .u32 (S2.rotr x p ^^^ S2.rotr x q ^^^ S2.rotr x r : Nat)) ∧ w = w' := by
  subst hP; subst hQ; subst hR
  go_enter Tryd.func76, Tryd.ntmps76
  go_wp2_with fail
  refine (rot_any x (32 - p) _ (by omega) hx (by omega) (by omega) _).mono ?_
  rintro e w1 ⟨rfl, rfl⟩
  go_wp2_with fail
  refine (rot_any x (32 - q) _ (by omega) hx (by omega) (by omega) _).mono ?_
  rintro e w1 ⟨rfl, rfl⟩
  go_wp2_with fail
  refine (rot_any x (32 - r) _ (by omega) hx (by omega) (by omega) _).mono ?_
  rintro e w1 ⟨rfl, rfl⟩
  go_wp2
  go_ret
  rw [show 32 - (32 - p) = p by omega, show 32 - (32 - q) = q by omega, show 32 - (32 - r) = r by omega]
  exact ⟨ret_u32 (xor3 (rotr_lt x p hx hp) (rotr_lt x q hx hq) (rotr_lt x r hx hr)), rfl⟩

theorem rot_p (x p : Nat) (hx : x < 4294967296) (hp : 1 ≤ p) (hp2 : p ≤ 31) (w : World) :
    Calls Tryd.prog 80 #[.int .u32 x, .int .i64 (-(p : Int))] w fun e w' => e = .returned (.int .u32 (S2.rotr x p)) ∧ w' = w :=
  (rot_any x (32 - p) (-(p : Int)) (by omega) hx (by omega) (by omega) w).mono fun e w' ⟨he, hw⟩ => ⟨by rw [he, show 32 - (32 - p) = p by omega], hw.symm⟩

set_option maxRecDepth 100000 in
set_option maxHeartbeats 400000 in
theorem shifted_any (x p q r : Nat) (P Q R : Int) (hP : P = p) (hQ : Q = q) (hR : R = r) (hx : x < 4294967296) (hp : 1 ≤ p ∧ p ≤ 31) (hq : 1 ≤ q ∧ q ≤ 31) (hr : 1 ≤ r ∧ r ≤ 31) (w : World) :
    Calls Tryd.prog 79 #[.int .u32 x, .int .i64 P, .int .i64 Q, .int .i64 R] w fun e w' => e = .returned (.int .u32 (S2.rotr x p ^^^ S2.rotr x q ^^^ (x >>> r) : Nat)) ∧ ∃ n, w' = w.drewN n := by
  subst hP; subst hQ; subst hR
  go_enter Tryd.func79, Tryd.ntmps79
  go_wp2_with fail
  go_quiet ((go_at_call 80; exact Calls.quiet_of_same (rot_p x _ hx (by omega) (by omega) _)))
  go_wp2
  go_ret
  exact ⟨ret_u32 (by rw [show (x : Int) / 2 ^ r = ((x >>> r : Nat) : Int) by rw [Nat.shiftRight_eq_div_pow]; simp]; exact xor3 (rotr_lt x p hx hp) (rotr_lt x q hx hq) (shr_lt x r hx)), _, rfl⟩

theorem ss0_any (x : Nat) (hx : x < 4294967296) (w : World) : Calls Tryd.prog 79 #[.int .u32 x, .int .i64 7, .int .i64 18, .int .i64 3] w fun e w' => e = .returned (.int .u32 (S2.ss0 x : Nat)) ∧ ∃ n, w' = w.drewN n :=
  shifted_any x 7 18 3 7 18 3 rfl rfl rfl hx (by decide) (by decide) (by decide) w
theorem ss1_any (x : Nat) (hx : x < 4294967296) (w : World) : Calls Tryd.prog 79 #[.int .u32 x, .int .i64 17, .int .i64 19, .int .i64 10] w fun e w' => e = .returned (.int .u32 (S2.ss1 x : Nat)) ∧ ∃ n, w' = w.drewN n :=
  shifted_any x 17 19 10 17 19 10 rfl rfl rfl hx (by decide) (by decide) (by decide) w
theorem bs0_any (x : Nat) (hx : x < 4294967296) (w : World) : Calls Tryd.prog 76 #[.int .u32 x, .int .i64 2, .int .i64 13, .int .i64 22] w fun e w' => e = .returned (.int .u32 (S2.bs0 x : Nat)) ∧ w' = w :=
  (turned_any x 2 13 22 2 13 22 rfl rfl rfl hx (by decide) (by decide) (by decide) w).mono fun _ _ h => ⟨h.1, h.2.symm⟩
theorem bs1_any (x : Nat) (hx : x < 4294967296) (w : World) : Calls Tryd.prog 76 #[.int .u32 x, .int .i64 6, .int .i64 11, .int .i64 25] w fun e w' => e = .returned (.int .u32 (S2.bs1 x : Nat)) ∧ w' = w :=
  (turned_any x 6 11 25 6 11 25 rfl rfl rfl hx (by decide) (by decide) (by decide) w).mono fun _ _ h => ⟨h.1, h.2.symm⟩
theorem bs0_lt (x : Nat) (hx : x < 4294967296) : S2.bs0 x < 4294967296 := Nat.xor_lt_two_pow (n := 32) (Nat.xor_lt_two_pow (n := 32) (rotr_lt x 2 hx (by decide)) (rotr_lt x 13 hx (by decide))) (rotr_lt x 22 hx (by decide))
theorem bs1_lt (x : Nat) (hx : x < 4294967296) : S2.bs1 x < 4294967296 := Nat.xor_lt_two_pow (n := 32) (Nat.xor_lt_two_pow (n := 32) (rotr_lt x 6 hx (by decide)) (rotr_lt x 11 hx (by decide))) (rotr_lt x 25 hx (by decide))
theorem ss0_lt (x : Nat) (hx : x < 4294967296) : S2.ss0 x < 4294967296 := Nat.xor_lt_two_pow (n := 32) (Nat.xor_lt_two_pow (n := 32) (rotr_lt x 7 hx (by decide)) (rotr_lt x 18 hx (by decide))) (shr_lt x 3 hx)
theorem ss1_lt (x : Nat) (hx : x < 4294967296) : S2.ss1 x < 4294967296 := Nat.xor_lt_two_pow (n := 32) (Nat.xor_lt_two_pow (n := 32) (rotr_lt x 17 hx (by decide)) (rotr_lt x 19 hx (by decide))) (shr_lt x 10 hx)
end Go.Proofs.YtbpblheaiancaaaDoor
namespace Go.Proofs.YtbpblheaiancaaaDoor
open Go.RowKit
set_option linter.unusedVariables false

theorem bits_u64_nat5 (a b : Nat) (ha : a < 18446744073709551616) (hb : b < 18446744073709551616) : bits .or .u64 (a : Int) (b : Int) = ((a ||| b : Nat) : Int) ∧ bits .and .u64 (a : Int) (b : Int) = ((a &&& b : Nat) : Int) ∧ bits .xor .u64 (a : Int) (b : Int) = ((a ^^^ b : Nat) : Int) := by
  have x1 : a ||| b < 2 ^ 64 := Nat.or_lt_two_pow (by omega) (by omega)
  have x2 : a &&& b < 2 ^ 64 := Nat.and_lt_two_pow a (by omega)
  have x3 : a ^^^ b < 2 ^ 64 := Nat.xor_lt_two_pow (by omega) (by omega)
  have h1 : (BitVec.ofInt 64 (a : Int)).toNat = a := by
    rw [BitVec.ofInt_natCast, BitVec.toNat_ofNat]; exact Nat.mod_eq_of_lt (by omega)
  have h2 : (BitVec.ofInt 64 (b : Int)).toNat = b := by
    rw [BitVec.ofInt_natCast, BitVec.toNat_ofNat]; exact Nat.mod_eq_of_lt (by omega)
  refine ⟨?_, ?_, ?_⟩
  · show IntKind.u64.wrap ((BitVec.ofInt 64 (a : Int) ||| BitVec.ofInt 64 (b : Int)).toNat : Int) = _
    rw [BitVec.toNat_or, h1, h2, IntKind.wrap_u64]; omega
  · show IntKind.u64.wrap ((BitVec.ofInt 64 (a : Int) &&& BitVec.ofInt 64 (b : Int)).toNat : Int) = _
    rw [BitVec.toNat_and, h1, h2, IntKind.wrap_u64]; omega
  · show IntKind.u64.wrap ((BitVec.ofInt 64 (a : Int) ^^^ BitVec.ofInt 64 (b : Int)).toNat : Int) = _
    rw [BitVec.toNat_xor, h1, h2, IntKind.wrap_u64]; omega
theorem ret_u645 {a b : Int} (h : a = b) : Ending.returned (.int .u64 a) = .returned (.int .u64 b) := by rw [h]
theorem rotr_lt5 (x p : Nat) (hx : x < 18446744073709551616) (hp : 1 ≤ p ∧ p ≤ 63) : S5.rotr x p < 18446744073709551616 := by
  unfold S5.rotr
  refine Nat.or_lt_two_pow (n := 64) ?_ (Nat.mod_lt _ (by decide))
  exact Nat.lt_of_le_of_lt (by rw [Nat.shiftRight_eq_div_pow]; exact Nat.div_le_self _ _) hx
theorem shr_lt5 (x r : Nat) (hx : x < 18446744073709551616) : x >>> r < 18446744073709551616 :=
  Nat.lt_of_le_of_lt (by rw [Nat.shiftRight_eq_div_pow]; exact Nat.div_le_self _ _) hx
theorem rot_eq5 (x q : Nat) (hx : x < 18446744073709551616) (h2 : q ≤ 63) : bits .or .u64 ((x : Int) * 2 ^ q % 18446744073709551616) ((x : Int) / 2 ^ (64 - q)) = ((S5.rotr x (64 - q) : Nat) : Int) := by
  have e1 : (x : Int) * 2 ^ q % 18446744073709551616 = ((x * 2 ^ q % 18446744073709551616 : Nat) : Int) := by simp
  have e2 : (x : Int) / 2 ^ (64 - q) = ((x / 2 ^ (64 - q) : Nat) : Int) := by simp
  rw [e1, e2, (bits_u64_nat5 _ _ (Nat.mod_lt _ (by decide)) (Nat.lt_of_le_of_lt (Nat.div_le_self _ _) hx)).1]
  unfold S5.rotr
  rw [Nat.shiftRight_eq_div_pow, Nat.shiftLeft_eq, Nat.or_comm, show 64 - (64 - q) = q by omega]
theorem xor35 {a b c : Nat} (ha : a < 18446744073709551616) (hb : b < 18446744073709551616) (hc : c < 18446744073709551616) : bits .xor .u64 (bits .xor .u64 (a : Int) (b : Int)) (c : Int) = ((a ^^^ b ^^^ c : Nat) : Int) := by
  rw [(bits_u64_nat5 a b ha hb).2.2, (bits_u64_nat5 _ c (Nat.xor_lt_two_pow (n := 64) ha hb) hc).2.2]

theorem and635 (q : Nat) (h1 : 1 ≤ q) (h2 : q ≤ 63) : bits .and .u64 (IntKind.u64.wrap (-((64 - q : Nat) : Int))) 63 = (q : Int) := by
  have e : IntKind.u64.wrap (-((64 - q : Nat) : Int)) = ((18446744073709551552 + q : Nat) : Int) := by rw [IntKind.wrap_u64]; omega
  rw [e, show (63 : Int) = ((63 : Nat) : Int) from rfl, bits_and_u64_nat _ _ (by omega) (by omega)]
  congr 1
  rw [show (63 : Nat) = 2 ^ 6 - 1 from rfl, Nat.and_two_pow_sub_one_eq_mod]
  omega

set_option maxRecDepth 100000 in
set_option maxHeartbeats 400000 in
theorem rot_any5 (x q : Nat) (N : Int) (hN : N = -((64 - q : Nat) : Int)) (hx : x < 18446744073709551616) (hp : 1 ≤ q) (hp2 : q ≤ 63) (w : World) :
    Calls Tryd.prog 82 #[.int .u64 x, .int .i64 N] w fun e w' => e = .returned (.int .u64 (S5.rotr x (64 - q))) ∧ w = w' := by
  have e1 := and635 q hp hp2
  have e2 : IntKind.u64.wrap (64 - (q : Int)) = ((64 - q : Nat) : Int) := by rw [IntKind.wrap_u64]; omega
  subst hN
  go_enter Tryd.func82, Tryd.ntmps82
  go_wp2
  go_ret
  exact ⟨ret_u645 (rot_eq5 x q hx hp2), rfl⟩

set_option maxRecDepth 100000 in
set_option maxHeartbeats 400000 in
theorem turned_any5 (x p q r : Nat) (P Q R : Int) (hP : P = p) (hQ : Q = q) (hR : R = r) (hx : x < 18446744073709551616) (hp : 1 ≤ p ∧ p ≤ 63) (hq : 1 ≤ q ∧ q ≤ 63) (hr : 1 ≤ r ∧ r ≤ 63) (w : World) :
    Calls Tryd.prog 78 #[.int .u64 x, .int .i64 P, .int .i64 Q, .int .i64 R] w fun e w' => e = .returned (.int .u64 (S5.rotr x p ^^^ S5.rotr x q ^^^ S5.rotr x r : Nat)) ∧ w = w' := by
  subst hP; subst hQ; subst hR
  go_enter Tryd.func78, Tryd.ntmps78
  go_wp2_with fail
  refine (rot_any5 x (64 - p) _ (by omega) hx (by omega) (by omega) _).mono ?_
  rintro e w1 ⟨rfl, rfl⟩
  go_wp2_with fail
  refine (rot_any5 x (64 - q) _ (by omega) hx (by omega) (by omega) _).mono ?_
  rintro e w1 ⟨rfl, rfl⟩
  go_wp2_with fail
  refine (rot_any5 x (64 - r) _ (by omega) hx (by omega) (by omega) _).mono ?_
  rintro e w1 ⟨rfl, rfl⟩
  go_wp2
  go_ret
  rw [show 64 - (64 - p) = p by omega, show 64 - (64 - q) = q by omega, show 64 - (64 - r) = r by omega]
  exact ⟨ret_u645 (xor35 (rotr_lt5 x p hx hp) (rotr_lt5 x q hx hq) (rotr_lt5 x r hx hr)), rfl⟩

theorem rot_p5 (x p : Nat) (hx : x < 18446744073709551616) (hp : 1 ≤ p) (hp2 : p ≤ 63) (w : World) :
    Calls Tryd.prog 82 #[.int .u64 x, .int .i64 (-(p : Int))] w fun e w' => e = .returned (.int .u64 (S5.rotr x p)) ∧ w' = w :=
  (rot_any5 x (64 - p) (-(p : Int)) (by omega) hx (by omega) (by omega) w).mono fun e w' ⟨he, hw⟩ => ⟨by rw [he, show 64 - (64 - p) = p by omega], hw.symm⟩

set_option maxRecDepth 100000 in
set_option maxHeartbeats 400000 in
theorem shifted_any5 (x p q r : Nat) (P Q R : Int) (hP : P = p) (hQ : Q = q) (hR : R = r) (hx : x < 18446744073709551616) (hp : 1 ≤ p ∧ p ≤ 63) (hq : 1 ≤ q ∧ q ≤ 63) (hr : 1 ≤ r ∧ r ≤ 63) (w : World) :
    Calls Tryd.prog 81 #[.int .u64 x, .int .i64 P, .int .i64 Q, .int .i64 R] w fun e w' => e = .returned (.int .u64 (S5.rotr x p ^^^ S5.rotr x q ^^^ (x >>> r) : Nat)) ∧ ∃ n, w' = w.drewN n := by
  subst hP; subst hQ; subst hR
  go_enter Tryd.func81, Tryd.ntmps81
  go_wp2_with fail
  go_quiet ((go_at_call 82; exact Calls.quiet_of_same (rot_p5 x _ hx (by omega) (by omega) _)))
  go_wp2
  go_ret
  exact ⟨ret_u645 (by rw [show (x : Int) / 2 ^ r = ((x >>> r : Nat) : Int) by rw [Nat.shiftRight_eq_div_pow]; simp]; exact xor35 (rotr_lt5 x p hx hp) (rotr_lt5 x q hx hq) (shr_lt5 x r hx)), _, rfl⟩

theorem ss0_any5 (x : Nat) (hx : x < 18446744073709551616) (w : World) : Calls Tryd.prog 81 #[.int .u64 x, .int .i64 1, .int .i64 8, .int .i64 7] w fun e w' => e = .returned (.int .u64 (S5.ss0 x : Nat)) ∧ ∃ n, w' = w.drewN n :=
  shifted_any5 x 1 8 7 1 8 7 rfl rfl rfl hx (by decide) (by decide) (by decide) w
theorem ss1_any5 (x : Nat) (hx : x < 18446744073709551616) (w : World) : Calls Tryd.prog 81 #[.int .u64 x, .int .i64 19, .int .i64 61, .int .i64 6] w fun e w' => e = .returned (.int .u64 (S5.ss1 x : Nat)) ∧ ∃ n, w' = w.drewN n :=
  shifted_any5 x 19 61 6 19 61 6 rfl rfl rfl hx (by decide) (by decide) (by decide) w
theorem bs0_any5 (x : Nat) (hx : x < 18446744073709551616) (w : World) : Calls Tryd.prog 78 #[.int .u64 x, .int .i64 28, .int .i64 34, .int .i64 39] w fun e w' => e = .returned (.int .u64 (S5.bs0 x : Nat)) ∧ w' = w :=
  (turned_any5 x 28 34 39 28 34 39 rfl rfl rfl hx (by decide) (by decide) (by decide) w).mono fun _ _ h => ⟨h.1, h.2.symm⟩
theorem bs1_any5 (x : Nat) (hx : x < 18446744073709551616) (w : World) : Calls Tryd.prog 78 #[.int .u64 x, .int .i64 14, .int .i64 18, .int .i64 41] w fun e w' => e = .returned (.int .u64 (S5.bs1 x : Nat)) ∧ w' = w :=
  (turned_any5 x 14 18 41 14 18 41 rfl rfl rfl hx (by decide) (by decide) (by decide) w).mono fun _ _ h => ⟨h.1, h.2.symm⟩
theorem bs0_lt5 (x : Nat) (hx : x < 18446744073709551616) : S5.bs0 x < 18446744073709551616 := Nat.xor_lt_two_pow (n := 64) (Nat.xor_lt_two_pow (n := 64) (rotr_lt5 x 28 hx (by decide)) (rotr_lt5 x 34 hx (by decide))) (rotr_lt5 x 39 hx (by decide))
theorem bs1_lt5 (x : Nat) (hx : x < 18446744073709551616) : S5.bs1 x < 18446744073709551616 := Nat.xor_lt_two_pow (n := 64) (Nat.xor_lt_two_pow (n := 64) (rotr_lt5 x 14 hx (by decide)) (rotr_lt5 x 18 hx (by decide))) (rotr_lt5 x 41 hx (by decide))
theorem ss0_lt5 (x : Nat) (hx : x < 18446744073709551616) : S5.ss0 x < 18446744073709551616 := Nat.xor_lt_two_pow (n := 64) (Nat.xor_lt_two_pow (n := 64) (rotr_lt5 x 1 hx (by decide)) (rotr_lt5 x 8 hx (by decide))) (shr_lt5 x 7 hx)
theorem ss1_lt5 (x : Nat) (hx : x < 18446744073709551616) : S5.ss1 x < 18446744073709551616 := Nat.xor_lt_two_pow (n := 64) (Nat.xor_lt_two_pow (n := 64) (rotr_lt5 x 19 hx (by decide)) (rotr_lt5 x 61 hx (by decide))) (shr_lt5 x 6 hx)
end Go.Proofs.YtbpblheaiancaaaDoor
namespace Go.Proofs.YtbpblheaiancaaaDoor
open Go.RowKit
set_option linter.unusedVariables false

theorem Tryd.infoB : (Tryd.prog.info? 5).map (fun i => (i.zero, i.size, i.bytes)) = some (some (.int .u8 0), 1, 1) := by kernel_rfl

/-- Bytes as cells. -/
def bv (l : List UInt8) : List Value := l.map fun b => Value.int .u8 b.toNat
@[simp] theorem bv_length (l : List UInt8) : (bv l).length = l.length := by simp [bv]
theorem bv_append (a b : List UInt8) : bv (a ++ b) = bv a ++ bv b := by simp [bv]
theorem bv_cons (a : UInt8) (b : List UInt8) : bv (a :: b) = Value.int .u8 a.toNat :: bv b := rfl
theorem bv_nil : bv [] = [] := rfl
theorem bv_one (l : List UInt8) : ∀ u ∈ bv l, u.oneCell' = true := by
  intro u hu
  obtain ⟨b, _, rfl⟩ := List.mem_map.1 hu
  rfl
theorem bv_get (l : List UInt8) (j : Nat) : (bv l)[j]? = (l[j]?).map fun b => Value.int .u8 b.toNat := by simp [bv]
theorem bv_get' (l : List UInt8) (j : Nat) (h : j < l.length) : (bv l)[j]? = some (Value.int .u8 (l[j].toNat : Int)) := by simp [bv, h]
theorem u8_val (n : Int) (h0 : 0 ≤ n) (h1 : n < 256) : Value.int .u8 n = Value.int .u8 ((UInt8.ofNat n.toNat).toNat : Int) := by
  congr 1
  rw [UInt8.toNat_ofNat']
  omega
theorem bv_single (n : Int) (h0 : 0 ≤ n) (h1 : n < 256) : [Value.int .u8 n] = bv [UInt8.ofNat n.toNat] := by
  rw [bv_cons, bv_nil, ← u8_val n h0 h1]

/-- A string's list of bytes. -/
def sb (s : ByteArray) : List UInt8 := s.data.toList
theorem sb_length (s : ByteArray) : (sb s).length = s.size := Array.length_toList
theorem sb_mk (l : List UInt8) : sb ⟨l.toArray⟩ = l := by simp [sb]
theorem mk_sb (s : ByteArray) : (⟨(sb s).toArray⟩ : ByteArray) = s := by simp [sb]
theorem byteCells_sb (s : ByteArray) : byteCells s = bv (sb s) := rfl

/-- A block that is known whole, as the source of an append of bytes. -/
theorem src_block {w : World} {k : Nat} {cs : Array Value} {t : TypeId} {fr : Nat × Nat} (h : w.heap[k]? = some (.cells cs t fr)) (h1 : ∀ u ∈ cs.toList, u.oneCell' = true) (c : Nat) : Src Tryd.prog 1 23 (.slice (some ⟨k, 0, none⟩) cs.size c) cs.size cs.toList w := by
  refine Src.ofSlice w Tryd.underlying23 _ _ _ _ (by simp) ?_ h1
  intro j u hj
  have : (⟨k, 0, none⟩ : Addr).add j = ⟨k, j, none⟩ := by unfold Addr.add; split <;> simp_all
  rw [this, cell_of_block h]
  simpa using hj
theorem src_own {w : World} {B n : Nat} {v : Value} {xs : List Value} (h : w.ownsRow B 5 1 v n xs) (h1 : ∀ u ∈ xs, u.oneCell' = true) : Src Tryd.prog 1 23 v n xs w := by
  have hl := h.1
  rcases h.2 with ⟨rfl, rfl⟩ | ⟨g, cap, cur, rfl, _, hg, _, _, _, ht⟩
  · obtain rfl : xs = [] := List.eq_nil_of_length_eq_zero (by simpa using hl)
    exact Src.ofNil w Tryd.underlying23 0
  · exact Src.ofSlice w Tryd.underlying23 _ _ _ _ hl (h.cells rfl) h1

/-- Bytes that lie at an address, or nowhere if there are none. -/
def Lies (w : World) (a : Option Addr) (l : List UInt8) : Prop := l = [] ∨ ∃ g off, a = some ⟨g, off, none⟩ ∧ ∀ j (h : j < l.length), w.cell? ⟨g, off + j, none⟩ = some (.int .u8 (l[j].toNat : Int))
def inBlk (a : Option Addr) (k : Nat) : Prop := ∃ ad, a = some ad ∧ ad.block = k
theorem Lies.fr {w w2 : World} {a : Option Addr} {l : List UInt8} {S : Nat → Prop} (h : Lies w a l) (hF : Fr S w w2) (hs : ∀ k, inBlk a k → ¬ S k) : Lies w2 a l := by
  rcases h with h | ⟨g, off, rfl, hc⟩
  · exact Or.inl h
  · exact Or.inr ⟨g, off, rfl, fun j hj => hF.cellSome (p := ⟨g, off + j, none⟩) (hs g ⟨_, rfl, rfl⟩) (hc j hj)⟩
theorem addr_add (g off j : Nat) : (⟨g, off, none⟩ : Addr).add j = ⟨g, off + j, none⟩ := by unfold Addr.add; split <;> simp_all
theorem Lies.src {w : World} {a : Option Addr} {l : List UInt8} (h : Lies w a l) (c : Nat) : Src Tryd.prog 1 23 (.slice a l.length c) l.length (bv l) w := by
  cases a with
  | none =>
    rcases h with rfl | ⟨g, off, h, _⟩
    · exact Src.ofNil w Tryd.underlying23 c
    · cases h
  | some ad =>
    refine Src.ofSlice w Tryd.underlying23 _ _ _ _ (by simp) ?_ (bv_one l)
    intro j u hj
    rcases h with rfl | ⟨g, off, e, hc⟩
    · simp [bv] at hj
    · obtain rfl := Option.some.inj e
      have hlt : j < l.length := by have := (List.getElem?_eq_some_iff.1 hj).1; simpa using this
      rw [addr_add, hc j hlt]
      rw [bv_get' l j hlt] at hj
      exact hj
theorem Lies.drop {w : World} {g off : Nat} {l : List UInt8} (h : Lies w (some ⟨g, off, none⟩) l) (n : Nat) : Lies w (some ⟨g, off + n, none⟩) (l.drop n) := by
  rcases h with rfl | ⟨g2, off2, e, hc⟩
  · exact Or.inl (by simp)
  · obtain ⟨rfl, rfl⟩ : g2 = g ∧ off2 = off := by simpa [eq_comm] using Option.some.inj e
    refine Or.inr ⟨g2, off2 + n, rfl, fun j hj => ?_⟩
    have hj2 : n + j < l.length := by simp at hj; omega
    have := hc (n + j) hj2
    rw [Nat.add_assoc, this]
    simp
theorem Lies.take {w : World} {a : Option Addr} {l : List UInt8} (h : Lies w a l) (n : Nat) : Lies w a (l.take n) := by
  rcases h with rfl | ⟨g2, off2, rfl, hc⟩
  · exact Or.inl (by simp)
  · refine Or.inr ⟨g2, off2, rfl, fun j hj => ?_⟩
    have hj2 : j < l.length := by simp at hj; omega
    rw [hc j hj2]
    simp
theorem lies_own {w : World} {B n : Nat} {a : Option Addr} {c : Nat} {l : List UInt8} (h : w.ownsRow B 5 1 (.slice a n c) n (bv l)) : n = l.length ∧ n ≤ c ∧ c ≤ maxLen ∧ Lies w a l := by
  have hl := h.1
  simp at hl
  refine ⟨hl.symm, ?_⟩
  rcases h.2 with ⟨e, rfl⟩ | ⟨g, cap, cur, e, _, hg, hc, hm, _, ht⟩
  · obtain ⟨rfl, rfl⟩ : a = none ∧ c = 0 := by simpa using e
    exact ⟨Nat.le_refl _, by simp [maxLen], Or.inl (List.eq_nil_of_length_eq_zero hl)⟩
  · obtain ⟨rfl, rfl⟩ : a = some ⟨g, 0, none⟩ ∧ c = cap := by simpa using e
    refine ⟨hc, hm, Or.inr ⟨g, 0, rfl, fun j hj => ?_⟩⟩
    have := h.cells (g := g) rfl j _ (bv_get' l j hj)
    rwa [addr_add] at this

set_option maxRecDepth 100000 in
/-- The string of bytes in memory. -/
theorem run_str {w : World} {a : Option Addr} {l : List UInt8} (h : Lies w a l) (c : Nat) : ∀ dst, Tryd.prog.underlying dst = some .string → (convert 23 dst (.slice a l.length c)).run Tryd.prog w = .ok (.string ⟨l.toArray⟩) w := by
  intro dst hd
  have key : ∀ b off, (∀ j (h : j < l.length), w.cell? ⟨b, off + j, none⟩ = some (.int .u8 (l[j].toNat : Int))) → (convert 23 dst (.slice (some ⟨b, off, none⟩) l.length c)).run Tryd.prog w = .ok (.string ⟨l.toArray⟩) w := by
    intro b off hc
    have := run_convert_bytes_arg (P := Tryd.prog) w 23 5 Tryd.underlying23 Tryd.underlying5 b off l.length c (l.map fun b => (b.toNat : Int)) (by simp) (fun i hi => by rw [hc i hi]; simp [List.getD, hi]) dst hd
    rw [this]
    congr 2
    unfold strOfNums
    congr 2
    rw [List.map_map]
    conv => rhs; rw [← List.map_id l]
    exact List.map_congr_left fun x _ => by simp
  rcases h with rfl | ⟨g, off, rfl, hc⟩
  · cases a with
    | none => exact run_convert_bytes_nil (P := Tryd.prog) w 23 5 Tryd.underlying23 Tryd.underlying5 0 c dst hd
    | some ad =>
      simp only [List.length_nil]
      rw [run_convert_bytes_string w 23 dst 5 _ _ c Tryd.underlying23 Tryd.underlying5 hd]
      rw [run_bytesToString w ad 0 c [] (by simp [loadCells, loadCellsFrom])]
      rfl
  · exact key g off hc
end Go.Proofs.YtbpblheaiancaaaDoor

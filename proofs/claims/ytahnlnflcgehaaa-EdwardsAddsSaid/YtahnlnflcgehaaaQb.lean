/-
  Plain laws of this verifier: 'Fr S w w2': outside the blocks of S the world w2 is as w was; an append onto a row that the call owns, from any source, which also says in which block the row lies behind it.
  Numbers in four words of 64 bits, the lowest first; the contracts of Add64, Sub64 and Mul64 of package bits.
  The contracts of plus and difference of package scalar.
  The contracts of folded, rest, sum, longer, Order, Add, Neg and Mul of package scalar.
  The contracts of rest, sum, longer, Add and Neg of package scalar.
  Regions that draw their order, whose operations and callees leave all that was there as it was (callees may make new memory): one walk, in the order of the text, serves every order.
  Regions that draw their order: operations and callees that leave all that was there as it was, then new blocks, then stores: one walk, in the order of the text, serves every order.
  One whole number stored into a block that is known whole: what is known behind it.
  Worlds of which some blocks are known whole: one hypothesis for all of them, and laws for loads, stores, new blocks, calls and regions over it. Plain: they hold of every program.
  Plain laws of this verifier on bytes in memory: a list of bytes as cells; what is owned as a source of an append; the string of owned bytes.
  Plain laws of this verifier: bytes that a call owns in a row of its own, whether the row was made by a conversion (and bears its mark behind its end) or not; appends onto them, from any source.
  Equality of arrays of whole numbers of one kind.
  Plain laws of this verifier: from a walk that answers true and leaves all that was there as it was, to the post of a row.
  Plain laws of this verifier: numbers of four words that came in as arguments.
  32 bytes by value that came in as an argument, as a list.
-/
import Derived.WalkKit
import Derived.Deep.AppendSrc
import Derived.Deep.QuietTactic
import Derived.BigQuiet
import Derived.Test.YtahnlnflcgehaaaProg
import Derived.Lib.Hide
import Derived.Shelf.Spec.BitsCarry
import Derived.Test.YtahnlnflcgehaaaQa
import Derived.Deep.RegionHeld3
import Derived.StillTailTactics
import Derived.Deep.RegionWith
import Derived.StillTail
import Derived.Laws.CopyRow
import Derived.Deep.MidRow
import Derived.OneCell
import Derived.Laws.BytesArg
import Derived.WalkSpells
import Derived.Lib.ConvBytes
import Derived.Laws.IdiomCopy
import Derived.Laws.StructEq
import Derived.Test.YtahnlnflcgehaaaRows
import Derived.ProofKit
import Derived.OpenShut
import Derived.SizedLaws
import Derived.WideKeyArr2
import Derived.Lib.LaidTab
namespace Go.Proofs.Ytahnlnflcgehaaa
open Go.RowKit

/-- Outside the blocks of S the world w2 is as w was. -/
structure Fr (S : Nat → Prop) (w w2 : World) : Prop where
  os : w2.os = w.os
  tape : w2.tape = w.tape
  output : w2.output = w.output
  size : w.heap.size ≤ w2.heap.size
  block : ∀ k, k < w.heap.size → ¬ S k → w2.heap[k]? = w.heap[k]?

theorem Fr.refl (S : Nat → Prop) (w : World) : Fr S w w := ⟨rfl, rfl, rfl, Nat.le_refl _, fun _ _ _ => rfl⟩
theorem Fr.trans {S T : Nat → Prop} {a b c : World} (h : Fr S a b) (k : Fr T b c) (hT : ∀ i, T i → S i ∨ a.heap.size ≤ i) : Fr S a c :=
  ⟨k.os.trans h.os, k.tape.trans h.tape, k.output.trans h.output, Nat.le_trans h.size k.size, fun i hi hs => (k.block i (Nat.lt_of_lt_of_le hi h.size) (fun ht => (hT i ht).elim hs (by omega))).trans (h.block i hi hs)⟩
theorem Fr.mono {S T : Nat → Prop} {a b : World} (h : Fr S a b) (hT : ∀ i, i < a.heap.size → S i → T i) : Fr T a b :=
  ⟨h.os, h.tape, h.output, h.size, fun i hi hs => h.block i hi (fun hS => hs (hT i hi hS))⟩
theorem Fr.drew {S : Nat → Prop} {a w : World} (h : Fr S a w) : Fr S a w.drew := ⟨h.os, h.tape, h.output, h.size, h.block⟩
theorem Fr.drewN {S : Nat → Prop} {a w : World} (h : Fr S a w) (n : Nat) : Fr S a (w.drewN n) := ⟨h.os, h.tape, h.output, h.size, h.block⟩
theorem Fr.alloc {S : Nat → Prop} {a w : World} (h : Fr S a w) (o : Obj) : Fr S a (w.alloc o) :=
  ⟨h.os, h.tape, h.output, by have := h.size; simp; omega, fun k hk hs => (Below.heap_alloc _ _ _ (by have := h.size; omega)).trans (h.block k hk hs)⟩
theorem Fr.setCell {S : Nat → Prop} {a w : World} (h : Fr S a w) {p : Addr} (hp : S p.block ∨ a.heap.size ≤ p.block) (u : Value) : Fr S a (w.setCell p u) :=
  ⟨h.os, h.tape, h.output, by have := h.size; simp [World.setCell]; omega, fun k hk hs => (Below.heap_setCell _ _ _ _ (fun e => by subst e; exact hp.elim hs (by omega))).trans (h.block k hk hs)⟩
theorem Fr.below {S : Nat → Prop} {w w2 : World} {B : Nat} (h : Fr S w w2) (hB : B ≤ w.heap.size) (hS : ∀ k, k < B → ¬ S k) : Below B w w2 :=
  ⟨h.os, h.tape, h.output, h.size, fun k hk => h.block k (by omega) (hS k hk)⟩
theorem Fr.ofGrown {w w2 : World} {row : Option Nat} (h : w.grownBy w2 row) : Fr (fun k => row = some k) w w2 :=
  ⟨h.os, h.tape, h.output, h.size, fun k hk hs => h.block k hk (fun e => hs e.symm)⟩
theorem Fr.cell {S : Nat → Prop} {w w2 : World} (h : Fr S w w2) {p : Addr} (hp : p.block < w.heap.size) (hs : ¬ S p.block) : w2.cell? p = w.cell? p := World.cell?_of_block (w := w) (h.block p.block hp hs)
theorem Fr.cellSome {S : Nat → Prop} {w w2 : World} (h : Fr S w w2) {p : Addr} {v : Value} (hs : ¬ S p.block) (hc : w.cell? p = some v) : w2.cell? p = some v :=
  (h.cell (World.block_lt_of_cell? w p hc) hs).trans hc
theorem Fr.own {S : Nat → Prop} {w w2 : World} {base : Nat} {e : TypeId} {size : Nat} {v : Value} {n : Nat} {xs : List Value} (h : Fr S w w2) (ho : w.ownsRow base e size v n xs) (hs : ∀ k, v.ownBlock = some k → ¬ S k) : w2.ownsRow base e size v n xs := by
  refine ⟨ho.1, ?_⟩
  rcases ho.2 with hn | ⟨g, cap, cur, rfl, hb, hgg, rest⟩
  · exact .inl hn
  · exact .inr ⟨g, cap, cur, rfl, hb, by rw [h.block g (Array.getElem?_eq_some_iff.1 hgg).1 (hs g rfl)]; exact hgg, rest⟩

/-- A block that is known whole: its cells, and that they may be written. -/
theorem cell_of_block {w : World} {b : Nat} {cs : Array Value} {t : TypeId} {fr : Nat × Nat} (h : w.heap[b]? = some (.cells cs t fr)) (o : Nat) : w.cell? ⟨b, o, none⟩ = cs[o]? := by simp [World.cell?, h]
theorem free_of_block {w : World} {b : Nat} {cs : Array Value} {t : TypeId} (h : w.heap[b]? = some (.cells cs t (0, 0))) (o : Nat) : w.frozen? ⟨b, o, none⟩ = false := by simp [World.frozen?, h]
theorem block_setCell {w : World} {b : Nat} {cs : Array Value} {t : TypeId} (h : w.heap[b]? = some (.cells cs t (0, 0))) (o : Nat) (u : Value) : (w.setCell ⟨b, o, none⟩ u).heap[b]? = some (.cells (cs.setIfInBounds o u) t (0, 0)) := by
  have hlt := lt_of_block h
  have h' : w.heap[b] = .cells cs t (0, 0) := by simpa [Array.getElem?_eq_getElem hlt] using h
  show (w.heap.modify b _)[b]? = _
  rw [Array.getElem?_eq_getElem (by simpa using hlt), Array.getElem_modify_self, h']
  rfl

section
variable {P : Program} (w : World)

/-- An append onto an owned row, from any source: what is owned behind it, where it lies, what else has turned. -/
theorem run_app (base : Nat) (t tx ty e : TypeId) (i : TypeInfo) (z : Value) (size bytes : Nat) (ht : P.underlying t = some (.slice e)) (hi : P.info? e = some i) (hz : i.zero = some z)
    (hsize : i.size = size) (hby : i.bytes = bytes) (hzs : z.cells.size = size) (hsz : 0 < size)
    (v : Value) (n : Nat) (xs : List Value) (hown : w.ownsRow base e size v n xs) (x : Value) (m : Nat) (news : List Value) (hsrc : Src P size tx x m news w)
    (h63 : n + m ≤ maxLen) (hbytes : (n + m) * bytes ≤ 140737488355328) (hbase : base ≤ w.heap.size) :
    ∃ v2 w2, (Builtin.append_ #[t, tx] ty #[v, x]).run P w = .ok v2 w2 ∧ w2.ownsRow base e size v2 (n + m) (xs ++ news) ∧ w.grownBy w2 v.ownBlock ∧
      (v2.ownBlock = v.ownBlock ∨ v2.ownBlock = some w.heap.size) := by
  subst hsize
  subst hby
  have hl := hsrc.newsLen
  have hsmall : n + m ≤ 9223372036854775807 := by simp only [maxLen] at h63; omega
  have hlen : (xs ++ news).length = (n + m) * i.size := by rw [List.length_append, hown.1, hl, Nat.add_mul]
  have grown : ∀ (old : Nat) (row : Option Nat),
      (w.drew.alloc (.cells ((xs ++ news).toArray ++ Builtin.zeroCells z.cells (grownCap w (n + m) old e - (n + m))) e)).ownsRow base e i.size
        (.slice (some ⟨w.heap.size, 0, none⟩) (n + m) (grownCap w (n + m) old e)) (n + m) (xs ++ news) ∧
      w.grownBy (w.drew.alloc (.cells ((xs ++ news).toArray ++ Builtin.zeroCells z.cells (grownCap w (n + m) old e - (n + m))) e)) row := by
    intro old row
    have hge := grownCap_ge w (n + m) old e
    have hcm : grownCap w (n + m) old e ≤ maxLen := grownCap_le_maxLen w (n + m) old e h63
    refine ⟨⟨hlen, .inr ⟨w.heap.size, _, _, rfl, hbase, heap_alloc_new w.drew _, hge, hcm, ?_, ?_⟩⟩, ⟨rfl, rfl, rfl, by simp, fun k hk _ => Below.heap_alloc w.drew _ k hk⟩⟩
    · simp only [Array.size_append, List.size_toArray, size_zeroCells, hzs, hlen, ← Nat.add_mul]
      congr 1
      omega
    · rw [Array.toList_append, ← hlen]
      exact List.take_left
  rcases hown.2 with ⟨rfl, rfl⟩ | ⟨g, cap, cur, rfl, hbg, hg, hnc, hcm, hcs, htake⟩
  · have hx : xs = [] := List.eq_nil_of_length_eq_zero (by simpa using hown.1)
    subst hx
    by_cases hm : m = 0
    · subst hm
      have hn : news = [] := List.eq_nil_of_length_eq_zero (by simpa using hl)
      subst hn
      refine ⟨.slice none 0 0, w, ?_, World.ownsRow_nil w base e i.size, ⟨rfl, rfl, rfl, Nat.le_refl _, fun _ _ _ => rfl⟩, .inl rfl⟩
      have hc := hsrc.cells
      rcases hsrc.kind with ⟨e2, hk⟩ | hk <;>
        simp [Builtin.append_, run_underlying ht, run_underlying hk, sizeOf, typeInfo, hi, hsrc.len, hc]
    · have hr := run_append_grow_src (P := P) w t tx ty e i z ht hi hz none 0 0 [] (run_firstCells_none w.drew i.size 0 0 0) x m news hsrc (by omega) (by omega) (growslice_fits (by omega) hbytes)
      have hgr := grown 0 (Value.ownBlock (.slice none 0 0))
      simp only [Nat.zero_add, List.nil_append] at hgr hr ⊢
      exact ⟨_, _, hr, hgr.1, hgr.2, .inr rfl⟩
  · by_cases hroom : n + m ≤ cap
    · have hfit : n * i.size + news.length ≤ cur.size := by rw [hl, hcs, ← Nat.add_mul]; exact Nat.mul_le_mul_right _ hroom
      have hf := hsrc.cells
      have hst := run_storeCells_at P g (n * i.size) e news 0 cur w hg (by simpa using hfit) hsrc.one
      simp only [Nat.add_zero] at hst
      have hr : (Builtin.append_ #[t, tx] ty #[.slice (some ⟨g, 0, none⟩) n cap, x]).run P w = .ok (.slice (some ⟨g, 0, none⟩) (n + m) cap) (w.setRow g (cur.toList.take (n * i.size) ++ news ++ cur.toList.drop (n * i.size + news.length)).toArray) := by
        rcases hsrc.kind with ⟨e2, hk⟩ | hk <;>
          simp [Builtin.append_, run_underlying ht, run_underlying hk, sizeOf, typeInfo, hi, hsrc.len, hroom, hf, Addr.add_lit, hst]
      refine ⟨_, _, hr, ⟨hlen, .inr ⟨g, cap, _, rfl, hbg, setRow_heap w g cur _ e _ hg, hroom, hcm, ?_, ?_⟩⟩, ⟨rfl, rfl, rfl, by simp, fun k _ hk => setRow_other w g k _ (fun e => hk (by simp [Value.ownBlock, e]))⟩, .inl rfl⟩
      · simp only [List.size_toArray, List.length_append, List.length_take, List.length_drop, Array.length_toList]
        omega
      · rw [htake, ← hlen]
        exact List.take_left
    · have holds : ∀ j u, xs[j]? = some u → w.drew.cell? ((⟨g, 0, none⟩ : Addr).add j) = some u := fun j u h => by simpa using hown.cells (g := g) rfl j u h
      have hr := run_append_grow_src (P := P) w t tx ty e i z ht hi hz (some ⟨g, 0, none⟩) n cap xs (run_firstCells_some w.drew i.size n ⟨g, 0, none⟩ n cap xs hown.1 holds) x m news hsrc (by omega) (by omega) (growslice_fits (by omega) hbytes)
      have hgr := grown cap (Value.ownBlock (.slice (some ⟨g, 0, none⟩) n cap))
      exact ⟨_, _, hr, hgr.1, hgr.2, .inr rfl⟩

theorem wpList_app {ops : Array Oper} {rest : List Oper} {o : Oper} {a : Act} {Q : Exit → Act → World → Prop} (hgd : o.guard = none) (s x : Operand) (t tx : TypeId)
    (ho : o.op = .call { callee := .builtin .append, args := #[s, x], argTypes := #[t, tx] })
    (base : Nat) (e : TypeId) (i : TypeInfo) (z : Value) (size bytes : Nat) (ht : P.underlying t = some (.slice e)) (hi : P.info? e = some i) (hz : i.zero = some z)
    (hsize : i.size = size) (hby : i.bytes = bytes) (hzs : z.cells.size = size) (hsz : 0 < size)
    (v : Value) (n : Nat) (xs : List Value) (hs : a.eval s = v) (hown : w.ownsRow base e size v n xs)
    (xv : Value) (hx : a.eval x = xv) (m : Nat) (news : List Value) (hsrc : Src P size tx xv m news w)
    (h63 : n + m ≤ maxLen) (hbytes : (n + m) * bytes ≤ 140737488355328) (hbase : base ≤ w.heap.size)
    (h : ∀ v2 w2, w2.ownsRow base e size v2 (n + m) (xs ++ news) → w.grownBy w2 v.ownBlock → (v2.ownBlock = v.ownBlock ∨ v2.ownBlock = some w.heap.size) → wpList P ops Q rest (a.put o.dst v2) w2) : wpList P ops Q (o :: rest) a w := by
  refine wpList_plain hgd fun _ hK => ?_
  obtain ⟨v2, w2, hr, h2, h3, h4⟩ := run_app (P := P) w base t tx o.type e i z size bytes ht hi hz hsize hby hzs hsz v n xs hown xv m news hsrc h63 hbytes hbase
  unfold Oper.wp execOp
  simp only [ho, resolve, invoke, builtin, Sem.run_bind, Sem.run_pure, Result.andThen_ok, List.map_toArray, List.map_cons, List.map_nil, hs, hx, hr]
  exact hK _ _ (h v2 w2 h2 h3 h4)

end
end Go.Proofs.Ytahnlnflcgehaaa
namespace Go.Proofs.Ytahnlnflcgehaaa
open Go.RowKit
set_option linter.unusedVariables false

theorem bits_u64_N (a b : Nat) (ha : a < 18446744073709551616) (hb : b < 18446744073709551616) : bits .or .u64 (a : Int) (b : Int) = ((a ||| b : Nat) : Int) ∧ bits .and .u64 (a : Int) (b : Int) = ((a &&& b : Nat) : Int) ∧ bits .xor .u64 (a : Int) (b : Int) = ((a ^^^ b : Nat) : Int) := by
  have x1 : a ||| b < 2 ^ 64 := Nat.or_lt_two_pow (by omega) (by omega)
  have x2 : a &&& b < 2 ^ 64 := Nat.and_lt_two_pow a (by omega)
  have x3 : a ^^^ b < 2 ^ 64 := Nat.xor_lt_two_pow (by omega) (by omega)
  have h1 : (BitVec.ofInt 64 (a : Int)).toNat = a := by
    rw [BitVec.ofInt_natCast, BitVec.toNat_ofNat]; exact Nat.mod_eq_of_lt (by omega)
  have h2 : (BitVec.ofInt 64 (b : Int)).toNat = b := by
    rw [BitVec.ofInt_natCast, BitVec.toNat_ofNat]; exact Nat.mod_eq_of_lt (by omega)
  refine ⟨?_, ?_, ?_⟩
  · show IntKind.u64.wrap ((BitVec.ofInt 64 (a : Int) ||| BitVec.ofInt 64 (b : Int)).toNat : Int) = _
    rw [BitVec.toNat_or, h1, h2, IntKind.wrap_u64]; omega
  · show IntKind.u64.wrap ((BitVec.ofInt 64 (a : Int) &&& BitVec.ofInt 64 (b : Int)).toNat : Int) = _
    rw [BitVec.toNat_and, h1, h2, IntKind.wrap_u64]; omega
  · show IntKind.u64.wrap ((BitVec.ofInt 64 (a : Int) ^^^ BitVec.ofInt 64 (b : Int)).toNat : Int) = _
    rw [BitVec.toNat_xor, h1, h2, IntKind.wrap_u64]; omega

/-- A number's four words. -/
def nc (X : Nat) : Array Value := #[.int .u64 ((X % 18446744073709551616 : Nat) : Int), .int .u64 ((X / 18446744073709551616 % 18446744073709551616 : Nat) : Int), .int .u64 ((X / 340282366920938463463374607431768211456 % 18446744073709551616 : Nat) : Int), .int .u64 ((X / 6277101735386680763835789423207666416102355444464034512896 % 18446744073709551616 : Nat) : Int)]
/-- The number of four words. -/
def nv (a b c d : Nat) : Nat := a + 18446744073709551616 * b + 340282366920938463463374607431768211456 * c + 6277101735386680763835789423207666416102355444464034512896 * d
theorem nc_of (a b c d : Nat) (ha : a < 18446744073709551616) (hb : b < 18446744073709551616) (hc : c < 18446744073709551616) (hd : d < 18446744073709551616) : #[.int .u64 (a : Int), .int .u64 (b : Int), .int .u64 (c : Int), .int .u64 (d : Int)] = nc (nv a b c d) := by
  unfold nc nv
  have e0 : (a + 18446744073709551616 * b + 340282366920938463463374607431768211456 * c + 6277101735386680763835789423207666416102355444464034512896 * d) % 18446744073709551616 = a := by omega
  have e1 : (a + 18446744073709551616 * b + 340282366920938463463374607431768211456 * c + 6277101735386680763835789423207666416102355444464034512896 * d) / 18446744073709551616 % 18446744073709551616 = b := by omega
  have e2 : (a + 18446744073709551616 * b + 340282366920938463463374607431768211456 * c + 6277101735386680763835789423207666416102355444464034512896 * d) / 340282366920938463463374607431768211456 % 18446744073709551616 = c := by omega
  have e3 : (a + 18446744073709551616 * b + 340282366920938463463374607431768211456 * c + 6277101735386680763835789423207666416102355444464034512896 * d) / 6277101735386680763835789423207666416102355444464034512896 % 18446744073709551616 = d := by omega
  rw [e0, e1, e2, e3]
theorem nc_open (X : Nat) (h : X < 115792089237316195423570985008687907853269984665640564039457584007913129639936) : ∃ a b c d, a < 18446744073709551616 ∧ b < 18446744073709551616 ∧ c < 18446744073709551616 ∧ d < 18446744073709551616 ∧ X = nv a b c d ∧ nc X = #[.int .u64 (a : Int), .int .u64 (b : Int), .int .u64 (c : Int), .int .u64 (d : Int)] := by
  refine ⟨X % 18446744073709551616, X / 18446744073709551616 % 18446744073709551616, X / 340282366920938463463374607431768211456 % 18446744073709551616, X / 6277101735386680763835789423207666416102355444464034512896 % 18446744073709551616, ?_, ?_, ?_, ?_, ?_, rfl⟩
  · omega
  · omega
  · omega
  · omega
  · unfold nv; omega
theorem nv_lt (a b c d : Nat) (ha : a < 18446744073709551616) (hb : b < 18446744073709551616) (hc : c < 18446744073709551616) (hd : d < 18446744073709551616) : nv a b c d < 115792089237316195423570985008687907853269984665640564039457584007913129639936 := by unfold nv; omega
theorem nc_one (X : Nat) : (nc X).all (·.oneCell') = true := by simp [nc, Value.oneCell']

/-- The product of two words, by halves. -/
theorem mul_parts (x y : Nat) (hx : x < 18446744073709551616) (hy : y < 18446744073709551616) :
    x * y = 18446744073709551616 * (x / 4294967296 * (y / 4294967296)) + 4294967296 * (x / 4294967296 * (y % 4294967296)) + 4294967296 * (x % 4294967296 * (y / 4294967296)) + x % 4294967296 * (y % 4294967296) ∧
    x / 4294967296 * (y / 4294967296) ≤ 18446744065119617025 ∧ x / 4294967296 * (y % 4294967296) ≤ 18446744065119617025 ∧ x % 4294967296 * (y / 4294967296) ≤ 18446744065119617025 ∧ x % 4294967296 * (y % 4294967296) ≤ 18446744065119617025 := by
  obtain ⟨x0, hx0⟩ : ∃ x0, x0 = x % 4294967296 := ⟨_, rfl⟩
  obtain ⟨x1, hx1⟩ : ∃ x1, x1 = x / 4294967296 := ⟨_, rfl⟩
  obtain ⟨y0, hy0⟩ : ∃ y0, y0 = y % 4294967296 := ⟨_, rfl⟩
  obtain ⟨y1, hy1⟩ : ∃ y1, y1 = y / 4294967296 := ⟨_, rfl⟩
  rw [← hx0, ← hx1, ← hy0, ← hy1]
  have hX : x = 4294967296 * x1 + x0 := by omega
  have hY : y = 4294967296 * y1 + y0 := by omega
  have bd : ∀ a b : Nat, a < 4294967296 → b < 4294967296 → a * b ≤ 18446744065119617025 := fun a b ha hb => by
    have : a * b ≤ 4294967295 * 4294967295 := Nat.mul_le_mul (by omega) (by omega)
    omega
  refine ⟨?_, bd _ _ (by omega) (by omega), bd _ _ (by omega) (by omega), bd _ _ (by omega) (by omega), bd _ _ (by omega) (by omega)⟩
  rw [hX, hY]
  simp only [Nat.add_mul, Nat.mul_add]
  have a1 : 4294967296 * x1 * (4294967296 * y1) = 18446744073709551616 * (x1 * y1) := by rw [Nat.mul_mul_mul_comm]
  have a2 : x0 * (4294967296 * y1) = 4294967296 * (x0 * y1) := by rw [Nat.mul_left_comm]
  have a3 : 4294967296 * x1 * y0 = 4294967296 * (x1 * y0) := by rw [Nat.mul_assoc]
  rw [a1, a2, a3]
  omega

/-- A sum of words with a carry. -/
theorem run_A (x y c : Nat) (hc : c ≤ 1) (w : World) : (callFunc 108 #[.int .u64 (x : Int), .int .u64 (y : Int), .int .u64 (c : Int)]).run Try.prog w = .ok (.value (.tuple #[.int .u64 (((x + y + c) % 18446744073709551616 : Nat) : Int), .int .u64 (((x + y + c) / 18446744073709551616 : Nat) : Int)])) w := by
  rw [run_callFunc_extern Try.func108 (by kernel_rfl) (by kernel_rfl) (by kernel_rfl) (e := add64Entry) (by kernel_rfl), run_add64 x y c (by omega) (by omega) (by omega) (by omega)]
  simp only [Result.andThen]
  congr 5 <;> omega
theorem run_S (x y b : Nat) (hb : b ≤ 1) (w : World) : (callFunc 110 #[.int .u64 (x : Int), .int .u64 (y : Int), .int .u64 (b : Int)]).run Try.prog w = .ok (.value (.tuple #[.int .u64 (((x + 18446744073709551616 - y - b) % 18446744073709551616 : Nat) : Int), .int .u64 ((if x < y + b then 1 else 0 : Nat) : Int)])) w := by
  rw [run_callFunc_extern Try.func110 (by kernel_rfl) (by kernel_rfl) (by kernel_rfl) (e := sub64Entry) (by kernel_rfl), run_sub64 x y b hb]
  rfl
theorem wrapN (a : Nat) : IntKind.u64.wrap (a : Int) = ((a % 18446744073709551616 : Nat) : Int) := by rw [IntKind.wrap_u64]; omega
theorem maskM (a : Nat) : bits .and .u64 ((a % 18446744073709551616 : Nat) : Int) 4294967295 = ((a % 4294967296 : Nat) : Int) := by
  rw [show (4294967295 : Int) = ((4294967295 : Nat) : Int) from rfl, (bits_u64_N _ 4294967295 (Nat.mod_lt _ (by decide)) (by decide)).2.1, show (4294967295 : Nat) = 2 ^ 32 - 1 from rfl, Nat.and_two_pow_sub_one_eq_mod]
  congr 1
  omega
theorem mask32 (x : Nat) (hx : x < 18446744073709551616) : bits .and .u64 (x : Int) 4294967295 = ((x % 4294967296 : Nat) : Int) := by
  have := maskM x
  rwa [Nat.mod_eq_of_lt hx] at this
theorem divN (a : Nat) : (a : Int) / 4294967296 = ((a / 4294967296 : Nat) : Int) := by omega
set_option maxRecDepth 100000 in
set_option maxHeartbeats 400000 in
theorem mul64_any (x y : Nat) (hx : x < 18446744073709551616) (hy : y < 18446744073709551616) (w : World) :
    Calls Try.prog 118 #[.int .u64 x, .int .u64 y] w fun e w' => e = .returned (.tuple #[.int .u64 (x * y / 18446744073709551616 : Nat), .int .u64 (x * y % 18446744073709551616 : Nat)]) ∧ w' = w := by
  go_enter Try.func118, Try.ntmps118
  go_wp2
  go_ret2
  refine ⟨?_, rfl⟩
  obtain ⟨e, b1, b2, b3, b4⟩ := mul_parts x y hx hy
  simp only [mask32 x hx, mask32 y hy, divN, ← Int.natCast_mul, ← Int.natCast_add, wrapN, maskM]
  have ret : ∀ a b c d : Nat, a = c → b = d → Ending.returned (.tuple #[.int .u64 (a : Int), .int .u64 (b : Int)]) = .returned (.tuple #[.int .u64 (c : Int), .int .u64 (d : Int)]) := fun a b c d h k => by rw [h, k]
  refine ret _ _ _ _ ?_ ?_
  · rw [e]
    generalize x / 4294967296 * (y / 4294967296) = p11 at *
    generalize x / 4294967296 * (y % 4294967296) = p10 at *
    generalize x % 4294967296 * (y / 4294967296) = p01 at *
    generalize x % 4294967296 * (y % 4294967296) = p00 at *
    omega
  · rfl
end Go.Proofs.Ytahnlnflcgehaaa
namespace Go.Proofs.Ytahnlnflcgehaaa
open Go.RowKit
set_option linter.unusedVariables false

/-- The first n values of f as words. -/
def uq (n : Nat) (f : Nat → Nat) : Array Value := ((List.range n).map fun j => Value.int .u64 (f j : Int)).toArray
theorem uq_size (n : Nat) (f : Nat → Nat) : (uq n f).size = n := by simp [uq]
theorem uq_get (n : Nat) (f : Nat → Nat) (j : Nat) (hj : j < n) : (uq n f)[j]? = some (.int .u64 (f j : Int)) := by simp [uq, hj]
theorem uq_one (n : Nat) (f : Nat → Nat) : (uq n f).all (·.oneCell') = true := by simp [uq, Value.oneCell']
theorem uq_ext {cs : Array Value} {n : Nat} {f : Nat → Nat} (h : cs.size = n) (h2 : ∀ j, j < n → cs[j]? = some (.int .u64 (f j : Int))) : cs = uq n f := by
  apply Array.ext
  · rw [h, uq_size]
  · intro i h3 h4
    have a := h2 i (by omega)
    have b := uq_get n f i (by omega)
    rw [Array.getElem?_eq_getElem h3] at a
    rw [Array.getElem?_eq_getElem h4] at b
    exact (Option.some.inj a).trans (Option.some.inj b).symm
theorem uq_set (n : Nat) (f : Nat → Nat) (i b : Nat) (hi : i < n) : (uq n f).setIfInBounds i (.int .u64 (b : Int)) = uq n (fun j => if j = i then b else f j) := by
  refine uq_ext (by simp [uq_size]) (fun j hj => ?_)
  rw [Array.getElem?_setIfInBounds]
  by_cases h : i = j
  · subst h; simp [uq_size, hj]
  · rw [if_neg h, uq_get n f j hj, if_neg (fun e => h e.symm)]
theorem uq_congr {n : Nat} {f g : Nat → Nat} (h : ∀ j, j < n → f j = g j) : uq n f = uq n g := uq_ext (uq_size n f) (fun j hj => by rw [uq_get n f j hj, h j hj])
theorem nc_uq (X : Nat) : nc X = uq 4 (dig 18446744073709551616 X) := by
  have e : uq 4 (dig 18446744073709551616 X) = #[.int .u64 (dig 18446744073709551616 X 0 : Int), .int .u64 (dig 18446744073709551616 X 1 : Int), .int .u64 (dig 18446744073709551616 X 2 : Int), .int .u64 (dig 18446744073709551616 X 3 : Int)] := rfl
  rw [e]
  unfold nc dig
  rw [Nat.pow_zero, Nat.div_one, show 18446744073709551616 ^ 1 = 18446744073709551616 from rfl, show 18446744073709551616 ^ 2 = 340282366920938463463374607431768211456 from rfl, show 18446744073709551616 ^ 3 = 6277101735386680763835789423207666416102355444464034512896 from rfl]

theorem Fr.setRow {S : Nat → Prop} {a w : World} (h : Fr S a w) {g : Nat} (hg : S g) (cs : Array Value) : Fr S a (w.setRow g cs) :=
  ⟨h.os, h.tape, h.output, by have := h.size; simp; omega, fun k hk hs => (setRow_other w g k cs (fun e => hs (e ▸ hg))).trans (h.block k hk hs)⟩
theorem Try.size4 {X : Nat} : (Try.prog.info? 52).map (·.size) = some (nc X).size := by
  show _ = some 4
  kernel_rfl
theorem heap_at (V : World) (cs : Array Value) (t : TypeId) (b : Nat) (hb : b = V.heap.size) : (V.alloc (.cells cs t)).heap[b]? = some (.cells cs t (0, 0)) := by
  subst hb; exact heap_alloc_new V _

set_option maxRecDepth 100000 in
set_option maxHeartbeats 1600000 in
theorem plus_any (X Y : Nat) (w : World) :
    Calls Try.prog 113 #[.agg (nc X), .agg (nc Y)] w fun e w' => e = .returned (.agg (nc ((X + Y) % 115792089237316195423570985008687907853269984665640564039457584007913129639936))) ∧ Fr (fun _ => False) w w' := by
  rw [nc_uq X, nc_uq Y]
  go_enter Try.func113, Try.ntmps113
  go_wp2_with fail
  have hA0 : (((w.alloc (.cells (uq 4 (dig 18446744073709551616 X)) 52)).alloc (.cells (uq 4 (dig 18446744073709551616 Y)) 52)).alloc (.cells #[.int .u64 0, .int .u64 0, .int .u64 0, .int .u64 0] 52)).heap[w.heap.size]? = some (.cells (uq 4 (dig 18446744073709551616 X)) 52 (0, 0)) := by
    rw [Below.heap_alloc _ _ _ (by simp; omega), Below.heap_alloc _ _ _ (by simp)]; exact heap_alloc_new w _
  have hB0 : (((w.alloc (.cells (uq 4 (dig 18446744073709551616 X)) 52)).alloc (.cells (uq 4 (dig 18446744073709551616 Y)) 52)).alloc (.cells #[.int .u64 0, .int .u64 0, .int .u64 0, .int .u64 0] 52)).heap[w.heap.size + 1]? = some (.cells (uq 4 (dig 18446744073709551616 Y)) 52 (0, 0)) := by
    rw [Below.heap_alloc _ _ _ (by simp)]; exact heap_at _ _ _ _ (by simp)
  have hC0 : (((w.alloc (.cells (uq 4 (dig 18446744073709551616 X)) 52)).alloc (.cells (uq 4 (dig 18446744073709551616 Y)) 52)).alloc (.cells #[.int .u64 0, .int .u64 0, .int .u64 0, .int .u64 0] 52)).heap[w.heap.size + 1 + 1]? = some (.cells #[.int .u64 0, .int .u64 0, .int .u64 0, .int .u64 0] 52 (0, 0)) := heap_at _ _ _ _ (by simp)
  have F0 : Fr (fun _ => False) w (((w.alloc (.cells (uq 4 (dig 18446744073709551616 X)) 52)).alloc (.cells (uq 4 (dig 18446744073709551616 Y)) 52)).alloc (.cells #[.int .u64 0, .int .u64 0, .int .u64 0, .int .u64 0] 52)) := (((Fr.refl _ w).alloc _).alloc _).alloc _
  go_loopw [5, 6, 7] (fun c i k wr => ∃ n : Nat, n ≤ 4 ∧ k = .int .i64 n ∧ c = .int .u64 (cry 18446744073709551616 X Y n : Nat) ∧ wr.heap[w.heap.size]? = some (.cells (uq 4 (fun j => if j < n then dig 18446744073709551616 (X + Y) j else dig 18446744073709551616 X j)) 52 (0, 0)) ∧ wr.heap[w.heap.size + 1]? = some (.cells (uq 4 (dig 18446744073709551616 Y)) 52 (0, 0)) ∧ wr.heap[w.heap.size + 1 + 1]? = some (.cells #[.int .u64 0, .int .u64 0, .int .u64 0, .int .u64 0] 52 (0, 0)) ∧ Fr (fun _ => False) w wr) (fun _ _ k _ => 4 - (intOf k).toNat)
  case atStart => exact ⟨0, by omega, by simp, by simp [cry_zero], by simpa using hA0, hB0, hC0, F0⟩
  case round =>
    clear hA0 hB0 hC0 F0
    obtain ⟨n, hn, rfl, rfl, hA, hB, hC, hF⟩ := hrel
    by_cases h4 : n < 4
    · have q0 : (0 : Int) ≤ (n : Int) := by omega
      have q1 : (n : Int) < 4 := by omega
      have c0 := cell_of_block hA n
      rw [uq_get 4 _ n h4, if_neg (by omega)] at c0
      have c1 := cell_of_block hB n
      rw [uq_get 4 _ n h4] at c1
      have f0 := free_of_block hA n
      have hcl := cry_le 18446744073709551616 X Y n (by decide)
      have hs := cry_succ 18446744073709551616 X Y n (by decide)
      have hd := dig_add 18446744073709551616 X Y n (by decide)
      generalize dig 18446744073709551616 X n = x at c0 hs hd
      generalize dig 18446744073709551616 Y n = y at c1 hs hd
      generalize cry 18446744073709551616 X Y n = c at hcl hs hd ⊢
      have hr := fun W : World => run_A x y c hcl W
      rw [← hd, ← hs] at hr
      have hst : ∀ m : Nat, m = dig 18446744073709551616 (X + Y) n → (wr.setCell ⟨w.heap.size, n, none⟩ (.int .u64 (m : Int))).heap[w.heap.size]? = some (.cells (uq 4 (fun j => if j < n + 1 then dig 18446744073709551616 (X + Y) j else dig 18446744073709551616 X j)) 52 (0, 0)) := fun m hm => by
        rw [block_setCell hA n, uq_set 4 _ n _ h4]
        congr 3
        funext j
        by_cases e : j = n
        · subst e; simp [hm]
        · rw [if_neg e]
          by_cases e2 : j < n
          · rw [if_pos e2, if_pos (by omega)]
          · rw [if_neg e2, if_neg (by omega)]
      generalize hz : dig 18446744073709551616 (X + Y) n = z at hr
      have HS := Lib.hid (hst z hz.symm)
      generalize hc2 : cry 18446744073709551616 X Y (n + 1) = c2 at hr
      have HC2 := Lib.hid hc2
      clear hc2
      clear hst hs hd hz
      go_wp2_with fail
      have E1 : Fr (fun k => k = w.heap.size) wr (wr.setCell ⟨w.heap.size, n, none⟩ (.int .u64 (z : Int))) := Fr.setCell (S := fun k => k = w.heap.size) (Fr.refl _ wr) (Or.inl rfl) _
      have E2 : Fr (fun _ => False) w (wr.setCell ⟨w.heap.size, n, none⟩ (.int .u64 (z : Int))) := hF.setCell (Or.inr (Nat.le_refl _)) _
      have E3 := (E1.block (w.heap.size + 1) (lt_of_block hB) (by omega)).trans hB
      have E4 := (E1.block (w.heap.size + 1 + 1) (lt_of_block hC) (by omega)).trans hC
      have E5 := Lib.hid E3
      have E6 := Lib.hid E4
      clear E1 E3 E4 hA hB hC
      go_region_with (fail)
      all_goals
        clear c0 c1 hr
        go_wp2
        go_roundw
        case rel => exact ⟨n + 1, by omega, by go_num, by rw [HC2.out], HS.out, E5.out, E6.out, E2.drew⟩
        case measure => simp [intOf]; omega
    · obtain rfl : n = 4 := by omega
      have e : (uq 4 (fun j => if j < 4 then dig 18446744073709551616 (X + Y) j else dig 18446744073709551616 X j)) = nc ((X + Y) % 115792089237316195423570985008687907853269984665640564039457584007913129639936) := by
        rw [nc_uq]
        refine uq_congr (fun j hj => ?_)
        rw [if_pos hj, ← dig_of_mod 18446744073709551616 (X + Y) 4 j hj]
      rw [e] at hA
      have hsz : (#[.int .u64 0, .int .u64 0, .int .u64 0, .int .u64 0] : Array Value).size = (nc ((X + Y) % 115792089237316195423570985008687907853269984665640564039457584007913129639936)).size := rfl
      have hone := nc_one ((X + Y) % 115792089237316195423570985008687907853269984665640564039457584007913129639936)
      have hs4 := Try.size4 (X := (X + Y) % 115792089237316195423570985008687907853269984665640564039457584007913129639936)
      have HR := Lib.hid (rfl : nc ((X + Y) % 115792089237316195423570985008687907853269984665640564039457584007913129639936) = nc ((X + Y) % 115792089237316195423570985008687907853269984665640564039457584007913129639936))
      generalize hRR : nc ((X + Y) % 115792089237316195423570985008687907853269984665640564039457584007913129639936) = R at *
      clear e HR
      have HR := Lib.hid hRR
      clear hRR
      go_wp2_with (first
        | (with_reducible refine wpList_load_row rfl 52 (.tmp 2) rfl w.heap.size rfl 52 R (0, 0) _ hA Try.underlying52 rfl hs4 ?_)
        | (with_reducible refine wpList_store_row rfl 52 (.tmp 4) (.tmp 24) rfl (w.heap.size + 1 + 1) R rfl rfl 52 _ hC hs4 hsz hone ?_))
      refine bodyPost_ret (results_cell_row rfl _ _ (w.heap.size + 1 + 1) 52 R (0, 0) _ rfl (setRow_heap _ _ _ _ _ _ hC) Try.underlying52 rfl hs4) rfl ?_
      exact ⟨by rw [HR.out], hF.trans (Fr.setRow (S := fun k => k = w.heap.size + 1 + 1) (Fr.refl _ _) rfl _) (fun i hi => Or.inr (by omega))⟩
theorem set4 {w : World} {b : Nat} {y0 y1 y2 y3 : Value} {t : TypeId} (h : w.heap[b]? = some (.cells #[y0, y1, y2, y3] t (0, 0))) (x0 x1 x2 x3 : Value) :
    ((((w.setCell ⟨b, 0, none⟩ x0).setCell ⟨b, 1, none⟩ x1).setCell ⟨b, 2, none⟩ x2).setCell ⟨b, 3, none⟩ x3).heap[b]? = some (.cells #[x0, x1, x2, x3] t (0, 0)) :=
  block_setCell (block_setCell (block_setCell (block_setCell h 0 x0) 1 x1) 2 x2) 3 x3
theorem results_cell_tmp {P : Program} {fn : Func} {p t : Tmp} {ty : TypeId} (h : fn.results = #[.cell p ty, .tmp t]) (tmps : Array Value) (w : World) (g : Nat) (ct : TypeId) (cs : Array Value) (fr : Nat × Nat) (d : TypeDesc)
    (hp : tmps.getD p undef = .pointer (some ⟨g, 0, none⟩)) (hg : w.heap[g]? = some (.cells cs ct fr))
    (hu : P.underlying ty = some d) (hd : (match d with | .struct _ | .array _ _ => true | _ => false) = true) (hi : (P.info? ty).map (·.size) = some cs.size) :
    (results fn tmps).run P w = .ok (.tuple #[.agg cs, tmps.getD t undef]) w := by
  have hp' : tmps[p]?.getD undef = .pointer (some ⟨g, 0, none⟩) := by simpa using hp
  simp [results, h, hp', asAddr, run_loadVar_row w g ct ty cs fr d hg hu hd hi]

set_option maxRecDepth 100000 in
set_option maxHeartbeats 1600000 in
theorem difference_any (X Y l : Nat) (hl : l = if X < Y then 1 else 0) (hX : X < 115792089237316195423570985008687907853269984665640564039457584007913129639936) (hY : Y < 115792089237316195423570985008687907853269984665640564039457584007913129639936) (w : World) :
    Calls Try.prog 93 #[.agg (nc X), .agg (nc Y)] w fun e w' => e = .returned (.tuple #[.agg (nc ((X + 115792089237316195423570985008687907853269984665640564039457584007913129639936 - Y) % 115792089237316195423570985008687907853269984665640564039457584007913129639936)), .int .u64 (l : Int)]) ∧ Fr (fun _ => False) w w' := by
  rw [nc_uq X, nc_uq Y]
  go_enter Try.func93, Try.ntmps93
  go_wp2_with fail
  have hA0 : (((w.alloc (.cells (uq 4 (dig 18446744073709551616 X)) 52)).alloc (.cells (uq 4 (dig 18446744073709551616 Y)) 52)).alloc (.cells #[.int .u64 0, .int .u64 0, .int .u64 0, .int .u64 0] 52)).heap[w.heap.size]? = some (.cells (uq 4 (dig 18446744073709551616 X)) 52 (0, 0)) := by
    rw [Below.heap_alloc _ _ _ (by simp; omega), Below.heap_alloc _ _ _ (by simp)]; exact heap_alloc_new w _
  have hB0 : (((w.alloc (.cells (uq 4 (dig 18446744073709551616 X)) 52)).alloc (.cells (uq 4 (dig 18446744073709551616 Y)) 52)).alloc (.cells #[.int .u64 0, .int .u64 0, .int .u64 0, .int .u64 0] 52)).heap[w.heap.size + 1]? = some (.cells (uq 4 (dig 18446744073709551616 Y)) 52 (0, 0)) := by
    rw [Below.heap_alloc _ _ _ (by simp)]; exact heap_at _ _ _ _ (by simp)
  have hC0 : (((w.alloc (.cells (uq 4 (dig 18446744073709551616 X)) 52)).alloc (.cells (uq 4 (dig 18446744073709551616 Y)) 52)).alloc (.cells #[.int .u64 0, .int .u64 0, .int .u64 0, .int .u64 0] 52)).heap[w.heap.size + 1 + 1]? = some (.cells #[.int .u64 0, .int .u64 0, .int .u64 0, .int .u64 0] 52 (0, 0)) := heap_at _ _ _ _ (by simp)
  have F0 : Fr (fun _ => False) w (((w.alloc (.cells (uq 4 (dig 18446744073709551616 X)) 52)).alloc (.cells (uq 4 (dig 18446744073709551616 Y)) 52)).alloc (.cells #[.int .u64 0, .int .u64 0, .int .u64 0, .int .u64 0] 52)) := (((Fr.refl _ w).alloc _).alloc _).alloc _
  rw [show (#[.int .u64 0, .int .u64 0, .int .u64 0, .int .u64 0] : Array Value) = uq 4 (fun j => if j < 0 then dig 18446744073709551616 (X + 115792089237316195423570985008687907853269984665640564039457584007913129639936 - Y) j else 0) from rfl] at hC0
  go_loopw [5, 6, 7] (fun c i k wr => ∃ n : Nat, n ≤ 4 ∧ k = .int .i64 n ∧ c = .int .u64 (lck 18446744073709551616 X Y n : Nat) ∧ wr.heap[w.heap.size]? = some (.cells (uq 4 (dig 18446744073709551616 X)) 52 (0, 0)) ∧ wr.heap[w.heap.size + 1]? = some (.cells (uq 4 (dig 18446744073709551616 Y)) 52 (0, 0)) ∧ wr.heap[w.heap.size + 1 + 1]? = some (.cells (uq 4 (fun j => if j < n then dig 18446744073709551616 (X + 115792089237316195423570985008687907853269984665640564039457584007913129639936 - Y) j else 0)) 52 (0, 0)) ∧ Fr (fun _ => False) w wr) (fun _ _ k _ => 4 - (intOf k).toNat)
  case atStart => exact ⟨0, by omega, by simp, by simp [lck_zero], hA0, hB0, hC0, F0⟩
  case round =>
    clear hA0 hB0 hC0 F0
    obtain ⟨n, hn, rfl, rfl, hA, hB, hC, hF⟩ := hrel
    by_cases h4 : n < 4
    · have q0 : (0 : Int) ≤ (n : Int) := by omega
      have q1 : (n : Int) < 4 := by omega
      have c0 := cell_of_block hA n
      rw [uq_get 4 _ n h4] at c0
      have c1 := cell_of_block hB n
      rw [uq_get 4 _ n h4] at c1
      have c2 := cell_of_block hC n
      rw [uq_get 4 _ n h4, if_neg (by omega)] at c2
      have f2 := free_of_block hC n
      have hcl := lck_le 18446744073709551616 X Y n
      have hs := lck_succ 18446744073709551616 X Y n (by decide)
      have hd := dig_sub 18446744073709551616 X Y 4 n (by decide) h4 (by omega)
      rw [show (18446744073709551616 : Nat) ^ 4 = 115792089237316195423570985008687907853269984665640564039457584007913129639936 from rfl] at hd
      have hy1 := dig_lt 18446744073709551616 Y n (by decide)
      generalize dig 18446744073709551616 X n = x at c0 hs hd
      generalize dig 18446744073709551616 Y n = y at c1 hs hd hy1
      generalize lck 18446744073709551616 X Y n = c at hcl hs hd ⊢
      have hr := fun W : World => run_S x y c hcl W
      have hm : (x + 2 * 18446744073709551616 - y - c) % 18446744073709551616 = (x + 18446744073709551616 - y - c) % 18446744073709551616 := by omega
      rw [hm] at hd
      rw [← hd, ← hs] at hr
      have hst : ∀ m : Nat, m = dig 18446744073709551616 (X + 115792089237316195423570985008687907853269984665640564039457584007913129639936 - Y) n → (wr.setCell ⟨w.heap.size + 1 + 1, n, none⟩ (.int .u64 (m : Int))).heap[w.heap.size + 1 + 1]? = some (.cells (uq 4 (fun j => if j < n + 1 then dig 18446744073709551616 (X + 115792089237316195423570985008687907853269984665640564039457584007913129639936 - Y) j else 0)) 52 (0, 0)) := fun m hm => by
        rw [block_setCell hC n, uq_set 4 _ n _ h4]
        congr 3
        funext j
        by_cases e : j = n
        · subst e; simp [hm]
        · rw [if_neg e]
          by_cases e2 : j < n
          · rw [if_pos e2, if_pos (by omega)]
          · rw [if_neg e2, if_neg (by omega)]
      generalize hz : dig 18446744073709551616 (X + 115792089237316195423570985008687907853269984665640564039457584007913129639936 - Y) n = z at hr
      have HS := Lib.hid (hst z hz.symm)
      generalize hc2 : lck 18446744073709551616 X Y (n + 1) = cc at hr
      have HC2 := Lib.hid hc2
      clear hc2 hst hs hd hz
      have E1 : Fr (fun k => k = w.heap.size + 1 + 1) wr (wr.setCell ⟨w.heap.size + 1 + 1, n, none⟩ (.int .u64 (z : Int))) := Fr.setCell (S := fun k => k = w.heap.size + 1 + 1) (Fr.refl _ wr) (Or.inl rfl) _
      have E2 : Fr (fun _ => False) w (wr.setCell ⟨w.heap.size + 1 + 1, n, none⟩ (.int .u64 (z : Int))) := hF.setCell (Or.inr (by simp; omega)) _
      have E3 := (E1.block (w.heap.size + 1) (lt_of_block hB) (by omega)).trans hB
      have E4 := (E1.block (w.heap.size) (lt_of_block hA) (by omega)).trans hA
      have E5 := Lib.hid E3
      have E6 := Lib.hid E4
      clear E1 E3 E4 hA hB hC
      go_wp2_with fail
      go_region_with (fail)
      all_goals
        clear c0 c1 c2 hr
        go_wp2
        go_roundw
        case rel => exact ⟨n + 1, by omega, by go_num, by rw [HC2.out], E6.out, E5.out, HS.out, E2.drew⟩
        case measure => simp [intOf]; omega
    · obtain rfl : n = 4 := by omega
      have e : (uq 4 (fun j => if j < 4 then dig 18446744073709551616 (X + 115792089237316195423570985008687907853269984665640564039457584007913129639936 - Y) j else 0)) = nc ((X + 115792089237316195423570985008687907853269984665640564039457584007913129639936 - Y) % 115792089237316195423570985008687907853269984665640564039457584007913129639936) := by
        rw [nc_uq]
        refine uq_congr (fun j hj => ?_)
        rw [if_pos hj, ← dig_of_mod 18446744073709551616 (X + 115792089237316195423570985008687907853269984665640564039457584007913129639936 - Y) 4 j hj]
      rw [e] at hC
      have hl2 := lck_of_lt 18446744073709551616 X Y 4 hX hY
      rw [hl2, ← hl]
      obtain ⟨r0, r1, r2, r3, b0, b1, b2, b3, hv, hRR⟩ := nc_open ((X + 115792089237316195423570985008687907853269984665640564039457584007913129639936 - Y) % 115792089237316195423570985008687907853269984665640564039457584007913129639936) (Nat.mod_lt _ (by decide))
      rw [hRR] at hC
      have HR := Lib.hid hRR
      have hs4 := Try.size4 (X := (X + 115792089237316195423570985008687907853269984665640564039457584007913129639936 - Y) % 115792089237316195423570985008687907853269984665640564039457584007913129639936)
      rw [hRR] at hs4
      have HS4 := Lib.hid hs4
      have HC := Lib.hid hC
      have g0 := cell_of_block hC 0
      have g1 := cell_of_block hC 1
      have g2 := cell_of_block hC 2
      have g3 := cell_of_block hC 3
      have v0 := free_of_block hC 0
      have v1 := free_of_block hC 1
      have v2 := free_of_block hC 2
      have v3 := free_of_block hC 3
      simp at g0 g1 g2 g3
      have Hb := Lib.hid (And.intro b0 (And.intro b1 (And.intro b2 b3)))
      clear e hRR hl hl2 hs4 hC hA hB hv b0 b1 b2 b3
      go_wp2_with fail
      all_goals
        refine bodyPost_ret (results_cell_tmp rfl _ _ (w.heap.size + 1 + 1) 52 #[.int .u64 (r0 : Int), .int .u64 (r1 : Int), .int .u64 (r2 : Int), .int .u64 (r3 : Int)] (0, 0) _ rfl (set4 HC.out _ _ _ _) Try.underlying52 rfl HS4.out) rfl ?_
        exact ⟨by rw [HR.out]; rfl, (((hF.setCell (Or.inr (by simp; omega)) _).setCell (Or.inr (by simp; omega)) _).setCell (Or.inr (by simp; omega)) _).setCell (Or.inr (by simp; omega)) _⟩
end Go.Proofs.Ytahnlnflcgehaaa
namespace Go.Proofs.Ytahnlnflcgehaaa
open Go.RowKit
set_option linter.unusedVariables false

theorem run_A0 (x y : Nat) (w : World) : (callFunc 108 #[.int .u64 (x : Int), .int .u64 (y : Int), .int .u64 0]).run Try.prog w = .ok (.value (.tuple #[.int .u64 (((x + y) % 18446744073709551616 : Nat) : Int), .int .u64 (((x + y) / 18446744073709551616 : Nat) : Int)])) w := run_A x y 0 (by omega) w
theorem nc_of0 (a b c : Nat) (ha : a < 18446744073709551616) (hb : b < 18446744073709551616) (hc : c < 18446744073709551616) : #[.int .u64 (a : Int), .int .u64 (b : Int), .int .u64 (c : Int), .int .u64 0] = nc (nv a b c 0) := nc_of a b c 0 ha hb hc (by decide)
/-- The order; and what it is more than 2 ^ 252. -/
def LL : Nat := 7237005577332262213973186563042994240857116359379907606001950938285454250989
def tail2 : Nat := 27742317777372353535851937790883648493
theorem LL_nv : LL = nv 6346243789798364141 1503914060200516822 0 1152921504606846976 := by unfold nv LL; decide
theorem fold0 (X v Y : Nat) (hX : X < 7237005577332262213973186563042994240829374041602535252466099000494570602496) (hY : Y = v * 27742317777372353535851937790883648493) (h : Y ≤ X) : (X + v * 7237005577332262213973186563042994240829374041602535252466099000494570602496) % LL = X - Y := by
  rw [show X + v * 7237005577332262213973186563042994240829374041602535252466099000494570602496 = (X - Y) + LL * v by unfold LL; omega, Nat.add_mul_mod_self_left, Nat.mod_eq_of_lt (by unfold LL; omega)]
theorem fold1 (X v Y : Nat) (hX : X < 7237005577332262213973186563042994240829374041602535252466099000494570602496) (hv : v ≤ 256) (hY : Y = v * 27742317777372353535851937790883648493) (h : X < Y) : (X + v * 7237005577332262213973186563042994240829374041602535252466099000494570602496) % LL = X + LL - Y := by
  obtain ⟨k, rfl⟩ : ∃ k, v = k + 1 := ⟨v - 1, by omega⟩
  rw [show X + (k + 1) * 7237005577332262213973186563042994240829374041602535252466099000494570602496 = (X + LL - Y) + LL * k by unfold LL; omega, Nat.add_mul_mod_self_left, Nat.mod_eq_of_lt (by unfold LL; omega)]
set_option maxRecDepth 100000 in
set_option maxHeartbeats 400000 in
theorem order_any (w : World) : Calls Try.prog 50 #[] w fun e w' => e = .returned (.agg (nc LL)) ∧ Fr (fun _ => False) w w' := by
  go_enter Try.func50, Try.ntmps50
  go_wp2
  refine bodyPost_ret (results_cell_row rfl _ _ w.heap.size 52 _ (0, 0) _ rfl (heap_alloc_new w _) Try.underlying52 rfl (by show _ = some 4; kernel_rfl)) rfl ?_
  exact ⟨by rw [LL_nv, ← nc_of _ _ _ _ (by decide) (by decide) (by decide) (by decide)]; rfl, (Fr.refl _ w).alloc _⟩
set_option maxRecDepth 100000 in
set_option maxHeartbeats 1600000 in
theorem folded_any (X v : Nat) (hX : X < 115792089237316195423570985008687907853269984665640564039457584007913129639936) (hv : v ≤ 256) (w : World) :
    Calls Try.prog 112 #[.agg (nc X), .int .u64 v] w fun e w' => e = .returned (.agg (nc ((X % 7237005577332262213973186563042994240829374041602535252466099000494570602496 + v * 7237005577332262213973186563042994240829374041602535252466099000494570602496) % LL))) ∧ Fr (fun _ => False) w w' := by
  obtain ⟨x0, x1, x2, x3, b0, b1, b2, b3, hx, e⟩ := nc_open X hX
  rw [e]
  have hm : bits .and .u64 (x3 : Int) 1152921504606846975 = ((x3 % 1152921504606846976 : Nat) : Int) := by
    rw [show (1152921504606846975 : Int) = ((1152921504606846975 : Nat) : Int) from rfl, (bits_u64_N x3 _ b3 (by decide)).2.1, show (1152921504606846975 : Nat) = 2 ^ 60 - 1 from rfl, Nat.and_two_pow_sub_one_eq_mod]
  have hX2 : X % 7237005577332262213973186563042994240829374041602535252466099000494570602496 = nv x0 x1 x2 (x3 % 1152921504606846976) := by rw [hx]; unfold nv; omega
  have y3b : x3 % 1152921504606846976 < 1152921504606846976 := Nat.mod_lt _ (by decide)
  rw [hX2]
  generalize x3 % 1152921504606846976 = y3 at hm y3b ⊢
  have M1 := fun W : World => mul64_any v 6346243789798364141 (by omega) (by decide) W
  have M2 := fun W : World => mul64_any v 1503914060200516822 (by omega) (by decide) W
  obtain ⟨c1, hc1⟩ : ∃ c1, c1 = v * 6346243789798364141 / 18446744073709551616 := ⟨_, rfl⟩
  obtain ⟨l1, hl1⟩ : ∃ l1, l1 = v * 6346243789798364141 % 18446744073709551616 := ⟨_, rfl⟩
  obtain ⟨h2, hh2⟩ : ∃ h2, h2 = v * 1503914060200516822 / 18446744073709551616 := ⟨_, rfl⟩
  obtain ⟨l2, hl2⟩ : ∃ l2, l2 = v * 1503914060200516822 % 18446744073709551616 := ⟨_, rfl⟩
  rw [← hc1, ← hl1] at M1
  rw [← hh2, ← hl2] at M2
  have A1 := fun W : World => run_A0 l2 c1 W
  obtain ⟨m3, hm3⟩ : ∃ m3, m3 = (l2 + c1) % 18446744073709551616 := ⟨_, rfl⟩
  obtain ⟨k3, hk3⟩ : ∃ k3, k3 = (l2 + c1) / 18446744073709551616 := ⟨_, rfl⟩
  rw [← hm3, ← hk3] at A1
  obtain ⟨h3, he3⟩ : ∃ h3, h3 = h2 + k3 := ⟨_, rfl⟩
  have hh3 : IntKind.u64.wrap ((h2 : Int) + (k3 : Int)) = (h3 : Int) := by
    rw [IntKind.wrap_u64]; omega
  obtain ⟨Y, hY⟩ : ∃ Y, Y = nv l1 m3 h3 0 := ⟨_, rfl⟩
  have hYv : Y = v * 27742317777372353535851937790883648493 := by rw [hY]; unfold nv; omega
  obtain ⟨X2, hXX⟩ : ∃ X2, X2 = nv x0 x1 x2 y3 := ⟨_, rfl⟩
  have hX2l : X2 < 7237005577332262213973186563042994240829374041602535252466099000494570602496 := by rw [hXX]; unfold nv; omega
  obtain ⟨ll, hll⟩ : ∃ ll : Nat, ll = if X2 < Y then 1 else 0 := ⟨_, rfl⟩
  have D := fun (W : World) => difference_any X2 Y ll hll (by omega) (by omega) W
  obtain ⟨R, hR⟩ : ∃ R, R = (X2 + 115792089237316195423570985008687907853269984665640564039457584007913129639936 - Y) % 115792089237316195423570985008687907853269984665640564039457584007913129639936 := ⟨_, rfl⟩
  rw [← hR] at D
  obtain ⟨r0, r1, r2, r3, d0, d1, d2, d3, hr, er⟩ := nc_open R (by omega)
  rw [er] at D
  have PL := fun W : World => plus_any R LL W
  rw [er] at PL
  have OR := fun W : World => order_any W
  rw [hXX, hY, ← nc_of x0 x1 x2 y3 b0 b1 b2 (by omega), ← nc_of0 l1 m3 h3 (by omega) (by omega) (by omega)] at D
  rw [← hXX]
  have Hf := Lib.hid (And.intro hX2l (And.intro hR (And.intro hYv (And.intro hll er))))
  have hl1' : ll = 0 ∨ ll = 1 := by rw [hll]; split <;> simp
  clear he3 hll er hc1 hl1 hh2 hl2 hm3 hk3 hX2 hXX hYv hY hR hx e y3b d0 d1 d2 d3
  go_enter Try.func112, Try.ntmps112
  go_wp2_with fail
  refine (M1 _).mono ?_
  rintro e w1 ⟨rfl, rfl⟩
  go_wp2_with fail
  refine (M2 _).mono ?_
  rintro e w1 ⟨rfl, rfl⟩
  go_wp2_with fail
  refine (D _).mono ?_
  rintro e w1 ⟨rfl, F1⟩
  have Z1 := (F1.block (w.heap.size + 1) (by simp) (fun h => h)).trans (heap_at _ _ _ _ (by simp))
  have G1 : Fr (fun _ => False) w w1 := (((Fr.refl _ w).alloc _).alloc _).trans F1 (fun _ h => h.elim)
  clear F1 D M1 M2 A1
  have Z2 : ∀ o : Obj, (w1.alloc o).heap[w.heap.size + 1]? = _ := fun o => (Below.heap_alloc w1 o _ (lt_of_block Z1)).trans Z1
  have z5 := lt_of_block Z1
  have HZ2 := Lib.hid Z2
  have hs4 : (Try.prog.info? 52).map (·.size) = some (4 : Nat) := by kernel_rfl
  have HS4 := Lib.hid hs4
  obtain ⟨q0, q1, q2, q3, _, _, _, _, hq, eq⟩ := nc_open ((R + LL) % 115792089237316195423570985008687907853269984665640564039457584007913129639936) (Nat.mod_lt _ (by decide))
  rw [eq] at PL
  have HQ := Lib.hid eq
  clear Z1 Z2 hs4 eq hq
  rcases hl1' with rfl | rfl
  · have h1 : (#[.int .u64 (r0 : Int), .int .u64 (r1 : Int), .int .u64 (r2 : Int), .int .u64 (r3 : Int)] : Array Value).all (·.oneCell') = true := by simp [Value.oneCell']
    have h2 : (#[.int .u64 0, .int .u64 0, .int .u64 0, .int .u64 0] : Array Value).size = (#[.int .u64 (r0 : Int), .int .u64 (r1 : Int), .int .u64 (r2 : Int), .int .u64 (r3 : Int)] : Array Value).size := rfl
    have h3 : (Try.prog.info? 52).map (·.size) = some (#[.int .u64 (r0 : Int), .int .u64 (r1 : Int), .int .u64 (r2 : Int), .int .u64 (r3 : Int)] : Array Value).size := HS4.out
    have h4 := HZ2.out (.cells #[.int .u64 (r0 : Int), .int .u64 (r1 : Int), .int .u64 (r2 : Int), .int .u64 (r3 : Int)] 52)
    go_wp2_with (with_reducible refine wpList_store_row rfl 52 (.tmp 4) (.tmp 47) rfl (w.heap.size + 1) #[.int .u64 (r0 : Int), .int .u64 (r1 : Int), .int .u64 (r2 : Int), .int .u64 (r3 : Int)] rfl rfl 52 _ h4 h3 h2 h1 ?_)
    refine bodyPost_ret (results_cell_row rfl _ _ (w.heap.size + 1) 52 #[.int .u64 (r0 : Int), .int .u64 (r1 : Int), .int .u64 (r2 : Int), .int .u64 (r3 : Int)] (0, 0) _ rfl (setRow_heap _ _ _ _ _ _ h4) Try.underlying52 rfl h3) rfl ?_
    refine ⟨?_, (G1.alloc _).trans (Fr.setRow (S := fun k => k = w.heap.size + 1) (Fr.refl _ _) rfl _) (fun i hi => Or.inr (by omega))⟩
    obtain ⟨p1, p2, p3, p4, p5⟩ := Hf.out
    have hle : ¬ X2 < Y := fun hlt => by rw [if_pos hlt] at p4; exact absurd p4 (by decide)
    rw [fold0 X2 v Y p1 p3 (by omega), show X2 - Y = R by omega, p5]
  · have h0 := heap_alloc_new w1 (.cells #[.int .u64 (r0 : Int), .int .u64 (r1 : Int), .int .u64 (r2 : Int), .int .u64 (r3 : Int)] 52)
    go_wp2_with fail
    go_region_with ((first
      | (go_at_call 50; refine (OR _).mono ?_; rintro e w2 ⟨rfl, F2⟩; have B2 := (F2.block w1.heap.size (by simp) (fun h => h)).trans h0; have C2 := (F2.block (w.heap.size + 1) (by simp; omega) (fun h => h)).trans (HZ2.out _); have k0 := cell_of_block B2 0; have k1 := cell_of_block B2 1; have k2 := cell_of_block B2 2; have k3 := cell_of_block B2 3; simp at k0 k1 k2 k3)
      | (go_at_call 113; refine (PL _).mono ?_; rintro e w3 ⟨rfl, F3⟩; have C3 := (F3.block (w.heap.size + 1) (lt_of_block C2) (fun h => h)).trans C2; have o0 := cell_of_block C3 0; have o1 := cell_of_block C3 1; have o2 := cell_of_block C3 2; have o3 := cell_of_block C3 3; have n0 := free_of_block C3 0; have n1 := free_of_block C3 1; have n2 := free_of_block C3 2; have n3 := free_of_block C3 3; simp at o0 o1 o2 o3)))
    all_goals
      clear k0 k1 k2 k3
      have G2 : Fr (fun _ => False) w w2 := (G1.alloc _).drew.trans F2 (fun _ h => h.elim)
      have G3 := G2.trans F3 (fun _ h => h.elim)
      have H3 := Lib.hid C3
      clear B2 C2 C3 h0
      go_wp2_with fail
      refine bodyPost_ret (results_cell_row rfl _ _ (w.heap.size + 1) 52 #[.int .u64 (q0 : Int), .int .u64 (q1 : Int), .int .u64 (q2 : Int), .int .u64 (q3 : Int)] (0, 0) _ rfl (set4 H3.out _ _ _ _) Try.underlying52 rfl HS4.out) rfl ?_
      refine ⟨?_, (((G3.setCell (Or.inr (by simp)) _).setCell (Or.inr (by simp)) _).setCell (Or.inr (by simp)) _).setCell (Or.inr (by simp)) _⟩
      obtain ⟨p1, p2, p3, p4, p5⟩ := Hf.out
      have hlt : X2 < Y := Decidable.byContradiction fun hn => by rw [if_neg hn] at p4; exact absurd p4 (by decide)
      rw [fold1 X2 v Y p1 hv p3 hlt, ← HQ.out, show (R + LL) % 115792089237316195423570985008687907853269984665640564039457584007913129639936 = X2 + LL - Y by unfold LL; omega]
end Go.Proofs.Ytahnlnflcgehaaa
namespace Go.Proofs.Ytahnlnflcgehaaa
open Go.RowKit
set_option linter.unusedVariables false

theorem LL_lt : LL < 115792089237316195423570985008687907853269984665640564039457584007913129639936 := by decide
theorem mod_LL (X : Nat) : X % LL < LL := Nat.mod_lt _ (by decide)
theorem mod_LP (X : Nat) : X % LL < 115792089237316195423570985008687907853269984665640564039457584007913129639936 := Nat.lt_trans (mod_LL X) LL_lt
theorem Try.size4l {a b c d : Value} : (Try.prog.info? 52).map (·.size) = some (#[a, b, c, d] : Array Value).size := by
  show _ = some 4
  kernel_rfl
theorem blk4 {w : World} {b : Nat} {y0 y1 y2 y3 : Value} {t : TypeId} (h : w.heap[b]? = some (.cells #[y0, y1, y2, y3] t (0, 0))) :
    w.cell? ⟨b, 0, none⟩ = some y0 ∧ w.cell? ⟨b, 1, none⟩ = some y1 ∧ w.cell? ⟨b, 2, none⟩ = some y2 ∧ w.cell? ⟨b, 3, none⟩ = some y3 ∧ w.frozen? ⟨b, 0, none⟩ = false ∧ w.frozen? ⟨b, 1, none⟩ = false ∧ w.frozen? ⟨b, 2, none⟩ = false ∧ w.frozen? ⟨b, 3, none⟩ = false :=
  ⟨(cell_of_block h 0).trans rfl, (cell_of_block h 1).trans rfl, (cell_of_block h 2).trans rfl, (cell_of_block h 3).trans rfl, free_of_block h 0, free_of_block h 1, free_of_block h 2, free_of_block h 3⟩
set_option maxRecDepth 100000 in
set_option maxHeartbeats 800000 in
theorem srest_any (X : Nat) (hX : X < 115792089237316195423570985008687907853269984665640564039457584007913129639936) (w : World) :
    Calls Try.prog 90 #[.agg (nc X)] w fun e w' => e = .returned (.agg (nc (X % LL))) ∧ Fr (fun _ => False) w w' := by
  obtain ⟨x0, x1, x2, x3, b0, b1, b2, b3, hx, e⟩ := nc_open X hX
  have hd : (x3 : Int) / 1152921504606846976 = ((x3 / 1152921504606846976 : Nat) : Int) := by omega
  have FO := fun (W : World) => folded_any X (x3 / 1152921504606846976) hX (by omega) W
  rw [show X % 7237005577332262213973186563042994240829374041602535252466099000494570602496 + x3 / 1152921504606846976 * 7237005577332262213973186563042994240829374041602535252466099000494570602496 = X by rw [hx]; unfold nv; omega] at FO
  rw [e] at FO ⊢
  generalize x3 / 1152921504606846976 = v at hd FO
  obtain ⟨q0, q1, q2, q3, _, _, _, _, _, eq⟩ := nc_open (X % LL) (mod_LP _)
  rw [eq] at FO ⊢
  clear eq
  clear e hx
  go_enter Try.func90, Try.ntmps90
  go_wp2_with fail
  refine (FO _).mono ?_
  rintro e w1 ⟨rfl, F1⟩
  have Z1 := (F1.block (w.heap.size + 1) (by simp) (fun h => h)).trans (heap_at _ _ _ _ (by simp))
  obtain ⟨c0, c1, c2, c3, c4, c5, c6, c7⟩ := blk4 Z1
  have G1 : Fr (fun _ => False) w w1 := (((Fr.refl _ w).alloc _).alloc _).trans F1 (fun _ h => h.elim)
  have HZ := Lib.hid Z1
  clear F1 FO Z1
  go_wp2_with fail
  refine bodyPost_ret (results_cell_row rfl _ _ (w.heap.size + 1) 52 #[.int .u64 (q0 : Int), .int .u64 (q1 : Int), .int .u64 (q2 : Int), .int .u64 (q3 : Int)] (0, 0) _ rfl (set4 HZ.out _ _ _ _) Try.underlying52 rfl Try.size4l) rfl ?_
  exact ⟨rfl, (((G1.setCell (Or.inr (by simp)) _).setCell (Or.inr (by simp)) _).setCell (Or.inr (by simp)) _).setCell (Or.inr (by simp)) _⟩
set_option maxRecDepth 100000 in
set_option maxHeartbeats 800000 in
theorem ssum_any (X Y : Nat) (hX : X < LL) (hY : Y < LL) (w : World) :
    Calls Try.prog 91 #[.agg (nc X), .agg (nc Y)] w fun e w' => e = .returned (.agg (nc ((X + Y) % LL))) ∧ Fr (fun _ => False) w w' := by
  have hl : (X + Y) % 115792089237316195423570985008687907853269984665640564039457584007913129639936 = X + Y := by unfold LL at *; omega
  have PL := fun (W : World) => plus_any X Y W
  rw [hl] at PL
  have RE := fun (W : World) => srest_any (X + Y) (by unfold LL at *; omega) W
  obtain ⟨x0, x1, x2, x3, _, _, _, _, _, ex⟩ := nc_open (X) (Nat.lt_trans hX LL_lt)
  rw [ex] at PL ⊢
  clear ex
  obtain ⟨y0, y1, y2, y3, _, _, _, _, _, ey⟩ := nc_open (Y) (Nat.lt_trans hY LL_lt)
  rw [ey] at PL ⊢
  clear ey
  obtain ⟨s0, s1, s2, s3, _, _, _, _, _, es⟩ := nc_open (X + Y) (by unfold LL at *; omega)
  rw [es] at PL RE
  clear es
  obtain ⟨q0, q1, q2, q3, _, _, _, _, _, eq⟩ := nc_open ((X + Y) % LL) (mod_LP _)
  rw [eq] at RE ⊢
  clear eq
  clear hl hX hY
  go_enter Try.func91, Try.ntmps91
  go_wp2_with fail
  refine (PL _).mono ?_
  rintro e w1 ⟨rfl, F1⟩
  have Z1 := (F1.block (w.heap.size + 1 + 1) (by simp) (fun h => h)).trans (heap_at _ _ _ _ (by simp))
  have G1 : Fr (fun _ => False) w w1 := ((((Fr.refl _ w).alloc _).alloc _).alloc _).trans F1 (fun _ h => h.elim)
  clear F1 PL
  go_wp2_with fail
  refine (RE _).mono ?_
  rintro e w2 ⟨rfl, F2⟩
  have Z2 := (F2.block (w.heap.size + 1 + 1) (lt_of_block Z1) (fun h => h)).trans Z1
  obtain ⟨c0, c1, c2, c3, c4, c5, c6, c7⟩ := blk4 Z2
  have G2 : Fr (fun _ => False) w w2 := G1.trans F2 (fun _ h => h.elim)
  have HZ := Lib.hid Z2
  clear F2 RE Z1 Z2
  go_wp2_with fail
  refine bodyPost_ret (results_cell_row rfl _ _ (w.heap.size + 1 + 1) 52 #[.int .u64 (q0 : Int), .int .u64 (q1 : Int), .int .u64 (q2 : Int), .int .u64 (q3 : Int)] (0, 0) _ rfl (set4 HZ.out _ _ _ _) Try.underlying52 rfl Try.size4l) rfl ?_
  exact ⟨rfl, (((G2.setCell (Or.inr (by simp; omega)) _).setCell (Or.inr (by simp; omega)) _).setCell (Or.inr (by simp; omega)) _).setCell (Or.inr (by simp; omega)) _⟩
set_option maxRecDepth 100000 in
set_option maxHeartbeats 1600000 in
theorem sadd_any (X Y : Nat) (hX : X < 115792089237316195423570985008687907853269984665640564039457584007913129639936) (hY : Y < 115792089237316195423570985008687907853269984665640564039457584007913129639936) (w : World) :
    Calls Try.prog 43 #[.agg (nc X), .agg (nc Y)] w fun e w' => e = .returned (.agg (nc ((X + Y) % LL))) ∧ Fr (fun _ => False) w w' := by
  have RX := fun (W : World) => srest_any X hX W
  have RY := fun (W : World) => srest_any Y hY W
  have SU := fun (W : World) => ssum_any (X % LL) (Y % LL) (mod_LL _) (mod_LL _) W
  rw [← Nat.add_mod] at SU
  obtain ⟨x0, x1, x2, x3, _, _, _, _, _, ex⟩ := nc_open (X) (hX)
  rw [ex] at RX ⊢
  clear ex
  obtain ⟨y0, y1, y2, y3, _, _, _, _, _, ey⟩ := nc_open (Y) (hY)
  rw [ey] at RY ⊢
  clear ey
  obtain ⟨s0, s1, s2, s3, _, _, _, _, _, es⟩ := nc_open (X % LL) (mod_LP _)
  rw [es] at RX SU
  clear es
  obtain ⟨t0, t1, t2, t3, _, _, _, _, _, et⟩ := nc_open (Y % LL) (mod_LP _)
  rw [et] at RY SU
  clear et
  obtain ⟨q0, q1, q2, q3, _, _, _, _, _, eq⟩ := nc_open ((X + Y) % LL) (mod_LP _)
  rw [eq] at SU ⊢
  clear eq
  have A0 := fun (V : World) (o : Obj) => Below.heap_alloc V o
  go_enter Try.func43, Try.ntmps43
  go_wp2_with fail
  have E0 : Fr (fun _ => False) w _ := ((((Fr.refl _ w).alloc (.cells #[.int .u64 (x0 : Int), .int .u64 (x1 : Int), .int .u64 (x2 : Int), .int .u64 (x3 : Int)] 52)).alloc (.cells #[.int .u64 (y0 : Int), .int .u64 (y1 : Int), .int .u64 (y2 : Int), .int .u64 (y3 : Int)] 52)).alloc (.cells #[.int .u64 0, .int .u64 0, .int .u64 0, .int .u64 0] 52))
  have A1 : (((w.alloc (.cells #[.int .u64 (x0 : Int), .int .u64 (x1 : Int), .int .u64 (x2 : Int), .int .u64 (x3 : Int)] 52)).alloc (.cells #[.int .u64 (y0 : Int), .int .u64 (y1 : Int), .int .u64 (y2 : Int), .int .u64 (y3 : Int)] 52)).alloc (.cells #[.int .u64 0, .int .u64 0, .int .u64 0, .int .u64 0] 52)).heap[w.heap.size]? = some (.cells #[.int .u64 (x0 : Int), .int .u64 (x1 : Int), .int .u64 (x2 : Int), .int .u64 (x3 : Int)] 52 (0, 0)) := by
    rw [Below.heap_alloc _ _ _ (by simp; omega), Below.heap_alloc _ _ _ (by simp)]; exact heap_alloc_new w _
  have B1 : (((w.alloc (.cells #[.int .u64 (x0 : Int), .int .u64 (x1 : Int), .int .u64 (x2 : Int), .int .u64 (x3 : Int)] 52)).alloc (.cells #[.int .u64 (y0 : Int), .int .u64 (y1 : Int), .int .u64 (y2 : Int), .int .u64 (y3 : Int)] 52)).alloc (.cells #[.int .u64 0, .int .u64 0, .int .u64 0, .int .u64 0] 52)).heap[w.heap.size + 1]? = some (.cells #[.int .u64 (y0 : Int), .int .u64 (y1 : Int), .int .u64 (y2 : Int), .int .u64 (y3 : Int)] 52 (0, 0)) := by
    rw [Below.heap_alloc _ _ _ (by simp)]; exact heap_at _ _ _ _ (by simp)
  have C1 : (((w.alloc (.cells #[.int .u64 (x0 : Int), .int .u64 (x1 : Int), .int .u64 (x2 : Int), .int .u64 (x3 : Int)] 52)).alloc (.cells #[.int .u64 (y0 : Int), .int .u64 (y1 : Int), .int .u64 (y2 : Int), .int .u64 (y3 : Int)] 52)).alloc (.cells #[.int .u64 0, .int .u64 0, .int .u64 0, .int .u64 0] 52)).heap[w.heap.size + 1 + 1]? = some (.cells #[.int .u64 0, .int .u64 0, .int .u64 0, .int .u64 0] 52 (0, 0)) := heap_at _ _ _ _ (by simp)
  generalize ((w.alloc (.cells #[.int .u64 (x0 : Int), .int .u64 (x1 : Int), .int .u64 (x2 : Int), .int .u64 (x3 : Int)] 52)).alloc (.cells #[.int .u64 (y0 : Int), .int .u64 (y1 : Int), .int .u64 (y2 : Int), .int .u64 (y3 : Int)] 52)).alloc (.cells #[.int .u64 0, .int .u64 0, .int .u64 0, .int .u64 0] 52) = W0 at *
  obtain ⟨i0, i1, i2, i3, i4, i5, i6, i7⟩ := blk4 A1
  obtain ⟨j0, j1, j2, j3, j4, j5, j6, j7⟩ := blk4 B1
  clear A0
  have HA := Lib.hid A1
  have HB := Lib.hid B1
  have HC := Lib.hid C1
  clear A1 B1 C1
  go_region_with ((first
    | (go_at_call 90; (with_reducible refine (RX _).mono ?_); rintro e w1 ⟨rfl, F1⟩; have B2 := (F1.block (w.heap.size + 1) (lt_of_block HB.out) (fun h => h)).trans HB.out; have C2 := (F1.block (w.heap.size + 1 + 1) (lt_of_block HC.out) (fun h => h)).trans HC.out; obtain ⟨k0, k1, k2, k3, k4, k5, k6, k7⟩ := blk4 B2; have HB2 := Lib.hid B2; have HC2 := Lib.hid C2; clear B2 C2)
    | (go_at_call 90; (with_reducible refine (RY _).mono ?_); rintro e w2 ⟨rfl, F2⟩; have C3 := (F2.block (w.heap.size + 1 + 1) (lt_of_block HC2.out) (fun h => h)).trans HC2.out; have HC3 := Lib.hid C3; clear C3)
    | (go_at_call 91; (with_reducible refine (SU _).mono ?_); rintro e w3 ⟨rfl, F3⟩; have C4 := (F3.block (w.heap.size + 1 + 1) (lt_of_block HC3.out) (fun h => h)).trans HC3.out; obtain ⟨m0, m1, m2, m3, m4, m5, m6, m7⟩ := blk4 C4; have HC4 := Lib.hid C4; clear C4)))
  all_goals
    have G1 : Fr (fun _ => False) w w1 := by first | exact Fr.trans (T := fun _ => False) E0 F1 (fun _ h => False.elim h) | exact Fr.trans (T := fun _ => False) E0.drew F1 (fun _ h => False.elim h)
    have G2 : Fr (fun _ => False) w w2 := by first | exact Fr.trans (T := fun _ => False) G1 F2 (fun _ h => False.elim h) | exact Fr.trans (T := fun _ => False) G1.drew F2 (fun _ h => False.elim h)
    have G3 : Fr (fun _ => False) w w3 := by first | exact Fr.trans (T := fun _ => False) G2 F3 (fun _ h => False.elim h) | exact Fr.trans (T := fun _ => False) G2.drew F3 (fun _ h => False.elim h)
    have HG := Lib.hid G3
    clear E0 F1 F2 F3 G1 G2 G3 RX RY SU
    go_wp2_with fail
    refine bodyPost_ret (results_cell_row rfl _ _ (w.heap.size + 1 + 1) 52 #[.int .u64 (q0 : Int), .int .u64 (q1 : Int), .int .u64 (q2 : Int), .int .u64 (q3 : Int)] (0, 0) _ rfl (set4 HC4.out _ _ _ _) Try.underlying52 rfl Try.size4l) rfl ?_
    exact ⟨rfl, (((HG.out.setCell (Or.inr (by simp; omega)) _).setCell (Or.inr (by simp; omega)) _).setCell (Or.inr (by simp; omega)) _).setCell (Or.inr (by simp; omega)) _⟩
end Go.Proofs.Ytahnlnflcgehaaa
namespace Go.Proofs.Ytahnlnflcgehaaa
open Go.RowKit
set_option linter.unusedVariables false

/-- A world that is as W0 was in all that W0 had. -/
structure Wd (W0 : World) where
  w : World
  h : Fr (fun _ => False) W0 w

instance instWd (W0 : World) : Nonempty (Wd W0) := ⟨⟨W0, Fr.refl _ W0⟩⟩
theorem wp_region_keep {P : Program} {id : Nat} {Q : Exit → Act → World → Prop} {a : Act} {W0 : World} {l : List Oper} (hm : P.follows .mixedOrders = true) (hB : Region.lexB .any l.toArray = true)
    (h : wpQuiet P l.toArray (fun w' => ∃ x : Wd W0, w' = x.w) (fun a' => ∀ w', (∃ x : Wd W0, w' = x.w) → Q .normal a' w') l a) : (Code.region id l.toArray true).wp P Q a W0 :=
  wp_region_quiet (C := fun w' => ∃ x : Wd W0, w' = x.w) hm hB ⟨⟨_, (Fr.refl _ W0).drew⟩, rfl⟩ (by simpa using h)

theorem Calls.keep {P : Program} {f : FuncId} {args : Array Value} {W0 : World} {x : Wd W0} {v : Value}
    (h : Calls P f args x.w fun e w' => e = .returned v ∧ Fr (fun _ => False) x.w w') : Calls P f args x.w fun e w'' => e = .returned v ∧ ∃ y : Wd W0, w'' = y.w :=
  h.mono fun _ w' ⟨he, hf⟩ => ⟨he, ⟨w', x.h.trans hf (fun _ h => h.elim)⟩, rfl⟩
theorem Calls.keep_same {P : Program} {f : FuncId} {args : Array Value} {W0 : World} {x : Wd W0} {v : Value}
    (h : Calls P f args x.w fun e w' => e = .returned v ∧ w' = x.w) : Calls P f args x.w fun e w'' => e = .returned v ∧ ∃ y : Wd W0, w'' = y.w :=
  h.mono fun _ w' ⟨he, hf⟩ => ⟨he, x, hf⟩
theorem Wd.blk {W0 : World} (x : Wd W0) {i : Nat} {o : Obj} (h : W0.heap[i]? = some o) : x.w.heap[i]? = some o :=
  (x.h.block i (Array.getElem?_eq_some_iff.1 h).1 (fun h => h)).trans h
theorem Wd.cell {W0 : World} (x : Wd W0) {b : Nat} {cs : Array Value} {t : TypeId} {fr : Nat × Nat} (h : W0.heap[b]? = some (.cells cs t fr)) (i : Nat) {v : Value} (hv : cs[i]? = some v) : x.w.cell? ⟨b, i, none⟩ = some v :=
  (cell_of_block (x.blk h) i).trans hv
/-- A whole array, or struct, read out of a block that was there. -/
theorem quiet_load_row {P : Program} {K : Act → Prop} {a : Act} {o : Oper} {W0 : World} (ty : TypeId) (x : Operand) (ho : o.op = .load ty x) (g : Nat) (hx : a.eval x = .pointer (some ⟨g, 0, none⟩))
    (t : TypeId) (cs : Array Value) (fr : Nat × Nat) (d : TypeDesc) (hg : W0.heap[g]? = some (.cells cs t fr)) (hu : P.underlying ty = some d) (hd : (match d with | .struct _ | .array _ _ => true | _ => false) = true)
    (hi : (P.info? ty).map (·.size) = some cs.size) (hk : K (a.put o.dst (.agg cs))) : o.quiet P a (fun w' => ∃ y : Wd W0, w' = y.w) K :=
  ⟨.agg cs, fun w' ⟨y, e⟩ => by
    subst e
    unfold Oper.quietAt execOp
    simp only [ho, hx, Instr.loadAt, Instr.sureAddr, Sem.run_bind, Sem.run_pure, Result.andThen_ok, run_loadVar_row y.w g t ty cs fr d (y.blk hg) hu hd hi, Oper.quietUpon]
    exact ⟨trivial, trivial⟩, hk⟩
end Go.Proofs.Ytahnlnflcgehaaa
namespace Go.Proofs.Ytahnlnflcgehaaa
open Go.RowKit
set_option linter.unusedVariables false

/-- What stays true as long as what was there stays as it was; and a world where it is true. -/
structure Gd (W0 : World) where
  G : World → Prop
  stable : ∀ w w' : World, Fr (fun _ => False) w w' → G w → G w'
  w0 : World
  h0 : Fr (fun _ => False) W0 w0
  g0 : G w0
structure Wg {W0 : World} (γ : Gd W0) where
  w : World
  h : Fr (fun _ => False) W0 w
  g : γ.G w
instance instWg {W0 : World} (γ : Gd W0) : Nonempty (Wg γ) := ⟨⟨γ.w0, γ.h0, γ.g0⟩⟩
theorem Calls.keepg {P : Program} {f : FuncId} {args : Array Value} {W0 : World} {γ : Gd W0} {x : Wg γ} {v : Value}
    (h : Calls P f args x.w fun e w' => e = .returned v ∧ Fr (fun _ => False) x.w w') : Calls P f args x.w fun e w'' => e = .returned v ∧ ∃ y : Wg γ, w'' = y.w :=
  h.mono fun _ w' ⟨he, hf⟩ => ⟨he, ⟨w', x.h.trans hf (fun _ h => h.elim), γ.stable _ _ hf x.g⟩, rfl⟩
theorem Calls.keepg_same {P : Program} {f : FuncId} {args : Array Value} {W0 : World} {γ : Gd W0} {x : Wg γ} {v : Value}
    (h : Calls P f args x.w fun e w' => e = .returned v ∧ w' = x.w) : Calls P f args x.w fun e w'' => e = .returned v ∧ ∃ y : Wg γ, w'' = y.w :=
  h.mono fun _ w' ⟨he, hf⟩ => ⟨he, x, hf⟩
theorem Wg.blk {W0 : World} {γ : Gd W0} (x : Wg γ) {i : Nat} {o : Obj} (h : W0.heap[i]? = some o) : x.w.heap[i]? = some o :=
  (x.h.block i (Array.getElem?_eq_some_iff.1 h).1 (fun h => h)).trans h
theorem Wg.cell {W0 : World} {γ : Gd W0} (x : Wg γ) {b : Nat} {cs : Array Value} {t : TypeId} {fr : Nat × Nat} (h : W0.heap[b]? = some (.cells cs t fr)) (i : Nat) {v : Value} (hv : cs[i]? = some v) : x.w.cell? ⟨b, i, none⟩ = some v :=
  (cell_of_block (x.blk h) i).trans hv
theorem quiet_load_rowg {P : Program} {K : Act → Prop} {a : Act} {o : Oper} {W0 : World} {γ : Gd W0} (ty : TypeId) (x : Operand) (ho : o.op = .load ty x) (g : Nat) (hx : a.eval x = .pointer (some ⟨g, 0, none⟩))
    (t : TypeId) (cs : Array Value) (fr : Nat × Nat) (d : TypeDesc) (hg : W0.heap[g]? = some (.cells cs t fr)) (hu : P.underlying ty = some d) (hd : (match d with | .struct _ | .array _ _ => true | _ => false) = true)
    (hi : (P.info? ty).map (·.size) = some cs.size) (hk : K (a.put o.dst (.agg cs))) : o.quiet P a (fun w' => ∃ y : Wg γ, w' = y.w) K :=
  ⟨.agg cs, fun w' ⟨y, e⟩ => by
    subst e
    unfold Oper.quietAt execOp
    simp only [ho, hx, Instr.loadAt, Instr.sureAddr, Sem.run_bind, Sem.run_pure, Result.andThen_ok, run_loadVar_row y.w g t ty cs fr d (y.blk hg) hu hd hi, Oper.quietUpon]
    exact ⟨trivial, trivial⟩, hk⟩

section
variable {P : Program} {ops : Array Oper}

/-- What the walk in the order of the text says of each operation. -/
theorem quiet_steps {C : World → Prop} {aF : Act} : ∀ (l : List Oper) (a : Act), l.Pairwise (fun x y => ∀ d, x.dst = some d → y.dst ≠ some d) → wpQuiet P ops C (fun a' => a' = aF) l a →
    aF.defers = a.defers ∧ aF.tmps.size = a.tmps.size ∧ (∀ t : Tmp, (∀ o ∈ l, o.dst ≠ some t) → aF.tmps[t]? = a.tmps[t]?) ∧
    ∀ (j : Nat) (o : Oper), l[j]? = some o → ∃ (v : Value) (aj : Act), YieldsIn P ops C o v aj ∧ (∀ (t : Tmp) (j' : Nat) (o' : Oper), j' < j → l[j']? = some o' → o'.dst = some t → aj.tmps[t]? = aF.tmps[t]?) ∧
      (∀ t : Tmp, (∀ (j' : Nat) (o' : Oper), j' < j → l[j']? = some o' → o'.dst ≠ some t) → aj.tmps[t]? = a.tmps[t]?) ∧ (∀ t : Tmp, o.dst = some t → aF.tmps[t]? = (a.tmps.setIfInBounds t v)[t]?)
  | [], a, _, h => by
    have h : a = aF := h
    subst h
    exact ⟨rfl, rfl, fun _ _ => rfl, fun j o hj => by simp at hj⟩
  | o :: l, a, hp, h => by
    obtain ⟨hp1, hp2⟩ := List.pairwise_cons.1 hp
    have hv : ∃ v, YieldsIn P ops C o v a ∧ wpQuiet P ops C (fun a' => a' = aF) l (a.put o.dst v) := by
      unfold wpQuiet at h
      by_cases hw : Region.wanted o (yielded ops a.tmps) = true
      · rw [if_pos hw] at h
        obtain ⟨v, h1, h2⟩ := h
        exact ⟨v, .inl ⟨hw, h1⟩, h2⟩
      · rw [if_neg hw] at h
        exact ⟨undef, .inr ⟨by simpa using hw, rfl⟩, h⟩
    obtain ⟨v, hy, hr⟩ := hv
    obtain ⟨i1, i2, i3, i4⟩ := quiet_steps l _ hp2 hr
    have pd : (a.put o.dst v).defers = a.defers := by cases o.dst <;> rfl
    have ps : (a.put o.dst v).tmps.size = a.tmps.size := by cases o.dst <;> simp [Act.put]
    have pn : ∀ t, o.dst ≠ some t → (a.put o.dst v).tmps[t]? = a.tmps[t]? := fun t ht => by
      cases hd : o.dst with
      | none => rfl
      | some d =>
        have : d ≠ t := fun e => ht (by rw [hd, e])
        simp [Act.put, Array.getElem?_setIfInBounds_ne this]
    have py : ∀ t, o.dst = some t → (a.put o.dst v).tmps[t]? = (a.tmps.setIfInBounds t v)[t]? := fun t ht => by rw [ht]; rfl
    have head : ∀ t, o.dst = some t → aF.tmps[t]? = (a.tmps.setIfInBounds t v)[t]? := fun t ht => by
      rw [i3 t (fun o' ho' => hp1 o' ho' t ht), py t ht]
    refine ⟨i1.trans pd, i2.trans ps, fun t ht => ?_, fun j oj hj => ?_⟩
    · rw [i3 t (fun o' ho' => ht o' (by simp [ho'])), pn t (ht o (by simp))]
    · cases j with
      | zero =>
        have e : o = oj := by simpa using hj
        subst e
        exact ⟨v, a, hy, fun t j' o' h' => by omega, fun t _ => rfl, head⟩
      | succ j =>
        have hj : l[j]? = some oj := by simpa using hj
        obtain ⟨u, aj, k1, k2, k3, k4⟩ := i4 j oj hj
        refine ⟨u, aj, k1, fun t j' o' h' ho' hd => ?_, fun t ht => ?_, fun t ht => ?_⟩
        · cases j' with
          | zero =>
            have e : o = o' := by simpa using ho'
            subst e
            rw [k3 t (fun j2 o2 _ h2 => hp1 o2 (List.mem_of_getElem? h2) t hd), py t hd, head t hd]
          | succ j' => exact k2 t j' o' (by omega) (by simpa using ho') hd
        · rw [k3 t (fun j2 o2 hl h2 => ht (j2 + 1) o2 (by omega) (by simpa using h2)), pn t (ht 0 o (by omega) (by simp))]
        · rw [k4 t ht]
          simp [Array.getElem?_setIfInBounds, ps]

/-- What is asked of the region's text: n operations that keep, new blocks up to m, stores behind; those of 'late' (a part of a pair, a copy) may come up behind the stores too. -/
def tailB (ops : Array Oper) (n m : Nat) (late : List Nat) : Bool :=
  Region.noSelect ops && decide (n ≤ m) && decide (m < ops.size) &&
  ((List.range m).all fun i => late.contains i || (List.range (m + 1)).any fun j => decide (i < j) && (j == m || !late.contains j) && Region.waitsFor .any ops j i) && Region.chainB .any ops m &&
  Region.seqB .any ops (ops.size - m) m (Array.replicate m true ++ Array.replicate (ops.size - m) false) &&
  ((List.range m).all fun i => match ops[i]? with
    | some o => (o.after.all fun e => !Region.binds .any e || decide (e.on < i)) && ((List.range i).all fun j => match ops[j]? with | some o' => o'.dst.isNone || o.dst != o'.dst | none => false)
    | none => false) &&
  ((List.range n).all fun i => match ops[i]? with
    | some o => (o.looksAt ops).all fun t => (List.range m).all fun j => match ops[j]? with
      | some o' => o'.dst != some t || (decide (j < i) && Region.waitsFor .any ops i j)
      | none => false
    | none => false) &&
  (late.all fun i => decide (i < n) && match ops[i]? with
    | some o => (match o.op with | .extract _ _ => true | .move _ => true | _ => false) && (List.range ops.size).all fun j => j == i || Region.waitsFor .any ops i j || Region.waitsFor .any ops j i || (match ops[j]? with | some o' => o.apart ops o' | none => false)
    | none => false)

/-- The new blocks, by their slots. -/
def putAll (gs : Nat → Nat) : List (Tmp × Obj) → Nat → Act → Act
  | [], _, a => a
  | (t, _) :: l, k, a => putAll gs l (k + 1) (a.put (some t) (.pointer (some ⟨gs k, 0, none⟩)))

/-- The operation makes this block. -/
def Makes (P : Program) (o : Oper) (x : Tmp × Obj) : Prop :=
  o.dst = some x.1 ∧ o.guard = none ∧ ∀ (ρ : Operand → Value) (w : World), (execOp ρ o).run P w = .ok (.value (.pointer (some ⟨w.heap.size, 0, none⟩))) (w.alloc x.2)
theorem makes_alloc {P : Program} (T : TypeId) (t : Tmp) (ty : TypeId) (pos : String) (after : Array Edge) (cs : Array Value) (h : ∀ w, (Instr.alloc T true (.tuple #[])).run P w = .ok (.pointer (some ⟨w.heap.size, 0, none⟩)) (w.alloc (.cells cs T))) :
    Makes P { dst := some t, op := .alloc T, type := ty, pos := pos, after := after, guard := none } (t, .cells cs T) :=
  ⟨rfl, rfl, fun ρ w => by simp [execOp, h w, Result.andThen]⟩

structure St (ops : Array Oper) (W0 : World) (a aF : Act) (n : Nat) (AL : List (Tmp × Obj)) (gs : Nat → Nat) (listed : Array Bool) (act : Act) (w : World) : Prop where
  fr : Fr (fun _ => False) W0 w
  df : act.defers = a.defers
  sz : act.tmps.size = a.tmps.size
  q : ∀ i o t, i < n → ops[i]? = some o → o.dst = some t → listed.getD i false = true → act.tmps[t]? = aF.tmps[t]?
  al : ∀ j x, AL[j]? = some x → listed.getD (n + j) false = true → act.tmps[x.1]? = (a.tmps.setIfInBounds x.1 (.pointer (some ⟨gs j, 0, none⟩)))[x.1]? ∧ W0.heap.size ≤ gs j ∧ w.heap[gs j]? = some x.2
  ne : ∀ j j' x x', AL[j]? = some x → AL[j']? = some x' → j ≠ j' → listed.getD (n + j) false = true → listed.getD (n + j') false = true → gs j ≠ gs j'
  oth : ∀ t, (∀ i o, i < n + AL.length → ops[i]? = some o → listed.getD i false = true → o.dst ≠ some t) → act.tmps[t]? = a.tmps[t]?

theorem getD_set_self {listed : Array Bool} {i j : Nat} (h : (listed.setIfInBounds i true).getD j false = true) : j = i ∨ listed.getD j false = true := by
  by_cases e : i = j
  · exact .inl e.symm
  · rw [getD_set_ne false e] at h; exact .inr h
theorem put_get (a : Act) (d : Option Tmp) (v : Value) (t : Tmp) : (a.put d v).tmps[t]? = if d = some t then (a.tmps.setIfInBounds t v)[t]? else a.tmps[t]? := by
  cases d with
  | none => simp [Act.put]
  | some d =>
    by_cases e : d = t
    · subst e; simp [Act.put]
    · rw [if_neg (by simpa using e)]; simp [Act.put, Array.getElem?_setIfInBounds_ne e]
theorem put_sz (a : Act) (d : Option Tmp) (v : Value) : (a.put d v).tmps.size = a.tmps.size := by cases d <;> simp [Act.put]
theorem put_df (a : Act) (d : Option Tmp) (v : Value) : (a.put d v).defers = a.defers := by cases d <;> rfl
theorem set_get_sz {a b : Array Value} (h : a.size = b.size) (t : Nat) (v : Value) : (a.setIfInBounds t v)[t]? = (b.setIfInBounds t v)[t]? := by simp [Array.getElem?_setIfInBounds, h]

theorem tailB_all {n m : Nat} {late : List Nat} (h : tailB ops n m late = true) : Region.noSelect ops = true ∧ n ≤ m ∧ m < ops.size ∧
    (∀ i, i < m → i ∉ late → ∃ j, i < j ∧ j ≤ m ∧ (j = m ∨ j ∉ late) ∧ Region.waitsFor .any ops j i = true) ∧ Region.chainB .any ops m = true ∧
    Region.seqB .any ops (ops.size - m) m (Array.replicate m true ++ Array.replicate (ops.size - m) false) = true ∧
    (∀ i o, i < m → ops[i]? = some o → (∀ e ∈ o.after, Region.binds .any e = true → e.on < i) ∧ ∀ j o' d, j < i → ops[j]? = some o' → o'.dst = some d → o.dst ≠ some d) ∧
    (∀ i o, i < n → ops[i]? = some o → ∀ t ∈ o.looksAt ops, ∀ j o', j < m → ops[j]? = some o' → o'.dst = some t → j < i ∧ Region.waitsFor .any ops i j = true) ∧
    (∀ i o, i ∈ late → ops[i]? = some o → i < n ∧ ((∃ x k, o.op = .extract x k) ∨ ∃ x, o.op = .move x) ∧ ∀ j o', ops[j]? = some o' → j ≠ i → (Region.waitsFor .any ops i j = true ∨ Region.waitsFor .any ops j i = true) ∨ o.apart ops o' = true) := by
  unfold tailB at h
  simp only [Bool.and_eq_true, decide_eq_true_eq] at h
  obtain ⟨⟨⟨⟨⟨⟨⟨⟨h1, h2⟩, h3⟩, h4⟩, h5⟩, h6⟩, h7⟩, h8⟩, h9⟩ := h
  refine ⟨h1, h2, h3, fun i hi hn => ?_, h5, h6, fun i o hi ho => ?_, fun i o hi ho t ht j o' hj ho' hd => ?_, fun i o hi ho => ?_⟩
  · have := List.all_eq_true.1 h4 i (List.mem_range.2 hi)
    simp only [Bool.or_eq_true] at this
    rcases this with h | h
    · exact absurd (by simpa using h) hn
    · obtain ⟨j, hj, hj2⟩ := List.any_eq_true.1 h
      simp only [Bool.and_eq_true, decide_eq_true_eq, Bool.or_eq_true, beq_iff_eq, Bool.not_eq_true'] at hj2
      obtain ⟨⟨a, b⟩, c⟩ := hj2
      exact ⟨j, a, by have := List.mem_range.1 hj; omega, b.imp id (fun h => by simpa using h), c⟩
  · have := List.all_eq_true.1 h7 i (List.mem_range.2 hi)
    simp only [ho, Bool.and_eq_true] at this
    obtain ⟨a1, a2⟩ := this
    refine ⟨fun e he hb => ?_, fun j o' d hj ho' hd e => ?_⟩
    · have := Array.all_eq_true_iff_forall_mem.1 a1 e he
      simpa [hb] using this
    · have := List.all_eq_true.1 a2 j (List.mem_range.2 hj)
      simp [ho', hd, e] at this
  · have := List.all_eq_true.1 h8 i (List.mem_range.2 hi)
    simp only [ho] at this
    have := List.all_eq_true.1 this t ht
    have := List.all_eq_true.1 this j (List.mem_range.2 hj)
    simpa [ho', hd] using this
  · have := List.all_eq_true.1 h9 i hi
    simp only [ho, Bool.and_eq_true, decide_eq_true_eq] at this
    obtain ⟨a, b, c⟩ := this
    refine ⟨a, ?_, fun j o' ho' hne => ?_⟩
    · cases hq : o.op <;> rw [hq] at b <;> first | exact .inl ⟨_, _, rfl⟩ | exact .inr ⟨_, rfl⟩ | cases b
    · have hjs : j < ops.size := (Array.getElem?_eq_some_iff.1 ho').1
      have := List.all_eq_true.1 c j (List.mem_range.2 hjs)
      simpa [ho', hne] using this

/-- The stores wait as long as one that isn't late hasn't come up. -/
theorem tail_waits2 {m : Nat} {late : List Nat} {listed : Array Bool} (hs : ∀ i, i < m → i ∉ late → ∃ j, i < j ∧ j ≤ m ∧ (j = m ∨ j ∉ late) ∧ Region.waitsFor .any ops j i = true) (hc : Region.chainB .any ops m = true) (hn : m < ops.size) (inv : HeadInv .any ops m listed) :
    ∀ (d i : Nat), m - i = d → i < m → i ∉ late → listed.getD i true = false → ∀ t, m ≤ t → t ∉ Region.ready .any ops listed := by
  intro d
  induction d using Nat.strongRecOn with
  | _ d ih =>
    intro i hd hi hl hun t ht hr
    obtain ⟨_, ot, hot, hall⟩ := mem_ready.1 hr
    have htlt : t < ops.size := (Array.getElem?_eq_some_iff.1 hot).1
    by_cases htn : t = m
    · subst htn
      obtain ⟨j, hij, hjle, hjl, hw⟩ := hs i hi hl
      obtain ⟨oj, hoj, e, he, hb, hon⟩ := Region.waitsFor_spec hw
      by_cases hjt : j = t
      · subst hjt
        have : oj = ot := Option.some.inj (hoj.symm.trans hot)
        subst this
        have h2 := hall e he hb
        rw [hon, getD_both hun] at h2
        cases h2
      · cases hl2 : listed.getD j false with
        | true =>
          have h2 := inv.closed j oj hoj hl2 e he hb
          rw [hon, getD_both hun] at h2
          cases h2
        | false =>
          have hjs : j < listed.size := by rw [inv.size]; omega
          exact ih (t - j) (by omega) j rfl (by omega) (hjl.resolve_left hjt) (getD_in hjs hl2) t (Nat.le_refl _) hr
    · have h1 := List.all_eq_true.1 hc t (List.mem_range.2 htlt)
      simp only [Bool.or_eq_true, decide_eq_true_eq] at h1
      rcases h1 with h1 | h1
      · omega
      · obtain ⟨o', ho', e, he, hb, hon⟩ := Region.waitsFor_spec h1
        have : o' = ot := Option.some.inj (ho'.symm.trans hot)
        subst this
        have h2 := hall e he hb
        rw [hon, getD_both (inv.tail (t - 1) (by omega) (by omega))] at h2
        cases h2

/-- A part of a pair, a copy: what it yields doesn't hang on the world. -/
theorem pure_of {o : Oper} (h : (∃ x k, o.op = .extract x k) ∨ ∃ x, o.op = .move x) {a : Act} {C : World → Prop} {w0 : World} {v : Value} (hq : o.quietAt P a C w0 v) :
    ∀ w, (execOp a.eval o).run P w = .ok (.value v) w := by
  intro w
  obtain ⟨dst, op, type, pos, after, guard⟩ := o
  rcases h with ⟨x, k, h⟩ | ⟨x, h⟩
  · simp only at h
    subst h
    unfold Oper.quietAt execOp at hq
    unfold execOp
    simp only [Instr.extract] at hq ⊢
    cases hx : a.eval x <;> simp [hx, stuck, Oper.quietUpon] at hq ⊢
    rename_i vs
    cases hv : vs[k]? <;> simp [hv] at hq ⊢
    all_goals exact hq
  · simp only at h
    subst h
    unfold Oper.quietAt execOp at hq
    unfold execOp
    simp [Oper.quietUpon] at hq ⊢
    exact hq

theorem eval_of_get {a b : Act} {x : Operand} (h : ∀ t, x = .tmp t → a.tmps[t]? = b.tmps[t]?) : a.eval x = b.eval x := by
  cases x with
  | tmp t => simp [Act.eval, h t rfl]
  | _ => rfl
theorem looks_same {o : Oper} (hs : ∀ cs b, o.op ≠ .select cs b) {a b : Act} (h : ∀ t ∈ o.looksAt ops, a.tmps[t]? = b.tmps[t]?) :
    execOp a.eval o = execOp b.eval o ∧ Region.wanted o (yielded ops a.tmps) = Region.wanted o (yielded ops b.tmps) := by
  constructor
  · refine execOp_congr o hs fun x hx => eval_of_get fun t e => h t ?_
    subst e
    exact List.mem_append_left _ (List.mem_filterMap.2 ⟨.tmp t, by simpa using hx, rfl⟩)
  · unfold Region.wanted
    cases hg : o.guard with
    | none => rfl
    | some gw =>
      obtain ⟨g, want⟩ := gw
      have hy : yielded ops a.tmps g = yielded ops b.tmps g := by
        unfold yielded
        cases ht : (ops[g]?).bind (·.dst) with
        | none => rfl
        | some t => simp [h t (by simp [Oper.looksAt, hg, ht])]
      simp only [hy]

theorem putAll_df (gs : Nat → Nat) : ∀ (l : List (Tmp × Obj)) (k : Nat) (a : Act), (putAll gs l k a).defers = a.defers
  | [], _, _ => rfl
  | (t, _) :: l, k, a => by unfold putAll; rw [putAll_df gs l]; rfl
theorem putAll_sz (gs : Nat → Nat) : ∀ (l : List (Tmp × Obj)) (k : Nat) (a : Act), (putAll gs l k a).tmps.size = a.tmps.size
  | [], _, _ => rfl
  | (t, _) :: l, k, a => by unfold putAll; rw [putAll_sz gs l, put_sz]
theorem putAll_oth (gs : Nat → Nat) : ∀ (l : List (Tmp × Obj)) (k : Nat) (a : Act) (t : Tmp), (∀ x ∈ l, x.1 ≠ t) → (putAll gs l k a).tmps[t]? = a.tmps[t]?
  | [], _, _, _, _ => rfl
  | (s, _) :: l, k, a, t, h => by
    unfold putAll
    rw [putAll_oth gs l _ _ t (fun x hx => h x (by simp [hx])), put_get, if_neg (by have := h _ (List.mem_cons_self ..); simpa using this)]
theorem putAll_at (gs : Nat → Nat) : ∀ (l : List (Tmp × Obj)) (k : Nat) (a : Act) (j : Nat) (x : Tmp × Obj), l.Pairwise (fun x y => x.1 ≠ y.1) → l[j]? = some x →
    (putAll gs l k a).tmps[x.1]? = (a.tmps.setIfInBounds x.1 (.pointer (some ⟨gs (k + j), 0, none⟩)))[x.1]?
  | [], _, _, j, x, _, h => by simp at h
  | (s, o) :: l, k, a, j, x, hp, h => by
    obtain ⟨hp1, hp2⟩ := List.pairwise_cons.1 hp
    unfold putAll
    cases j with
    | zero =>
      have e : (s, o) = x := by simpa using h
      subst e
      rw [putAll_oth gs l _ _ _ (fun y hy => (hp1 y hy).symm), put_get, if_pos rfl, Nat.add_zero]
    | succ j =>
      rw [putAll_at gs l (k + 1) _ j x hp2 (by simpa using h), show k + 1 + j = k + (j + 1) by omega]
      exact set_get_sz (put_sz _ _ _) _ _

theorem erase_spec {l : List Nat} (hn : l.Nodup) {i : Nat} (hi : i ∈ l) : (l.erase i).Nodup ∧ (l.erase i).length + 1 = l.length ∧ ∀ j, j ∈ l.erase i ↔ j ≠ i ∧ j ∈ l :=
  ⟨hn.erase i, by rw [List.length_erase_of_mem hi]; have := List.length_pos_of_mem hi; omega, fun j => hn.mem_erase_iff⟩

theorem tail_core {Q' : Exit → Act → World → Prop} {W0 : World} {a aF : Act} {n : Nat} {late : List Nat} {AL : List (Tmp × Obj)} (hB : tailB ops n (n + AL.length) late = true) (hQp : late ≠ [] → ∀ (c : List PanicEntry) (a : Act) (t : Tmp) (v : Value) (w : World), Q' (.panic c) (a.put (some t) v) w → Q' (.panic c) a w)
    (hmk : ∀ j x, AL[j]? = some x → ∃ o, ops[n + j]? = some o ∧ Makes P o x)
    (hw : ∀ γ : Gd W0, wpQuiet P ops (fun w' => ∃ y : Wg γ, w' = y.w) (fun a' => a' = aF) (ops.toList.take n) a)
    (hend : ∀ (gs : Nat → Nat) (w : World), Fr (fun _ => False) W0 w → (∀ j x, AL[j]? = some x → W0.heap.size ≤ gs j ∧ w.heap[gs j]? = some x.2) → (∀ j j', j < AL.length → j' < AL.length → j ≠ j' → gs j ≠ gs j') →
      wpList P ops Q' (ops.toList.drop (n + AL.length)) (putAll gs AL 0 aF) w) :
    ∀ (f : Nat) (un : List Nat) (listed : Array Bool) (act : Act) (w : World) (gs : Nat → Nat), un.length = f → un.Nodup → (∀ i, i ∈ un ↔ i < n + AL.length ∧ listed.getD i false = false) → HeadInv .any ops (n + AL.length) listed →
      St ops W0 a aF n AL gs listed act w → wpAny P .any ops Q' (f + (ops.size - (n + AL.length))) listed act w := by
  obtain ⟨b1, b2, b3, b4, b5, b6, b7, b8, b9⟩ := tailB_all hB
  have hl : ∀ (i : Nat) (o : Oper), i < n → ((ops.toList.take n)[i]? = some o ↔ i < n ∧ ops[i]? = some o) := fun i o hi => by
    rw [List.getElem?_take]; simp [hi]
  have hpw : (ops.toList.take n).Pairwise (fun x y => ∀ d, x.dst = some d → y.dst ≠ some d) := by
    rw [List.pairwise_iff_getElem]
    intro i j hi hj hij d hd
    simp only [List.length_take, Array.length_toList] at hi hj
    simp only [List.getElem_take, Array.getElem_toList] at hd ⊢
    exact (b7 j _ (by omega) (Array.getElem?_eq_getElem (by omega))).2 i _ d hij (Array.getElem?_eq_getElem (by omega)) hd
  have steps := fun γ => quiet_steps _ _ hpw (hw γ)
  have hALp : AL.Pairwise (fun x y => x.1 ≠ y.1) := by
    rw [List.pairwise_iff_getElem]
    intro i j hi hj hij e
    obtain ⟨oi, h1, m1⟩ := hmk i _ (List.getElem?_eq_getElem hi)
    obtain ⟨oj, h2, m2⟩ := hmk j _ (List.getElem?_eq_getElem hj)
    exact (b7 (n + j) oj (by omega) h2).2 (n + i) oi _ (by omega) h1 m1.1 (by rw [m2.1, e])
  have γ0 : Gd W0 := ⟨fun _ => True, fun _ _ _ _ => trivial, W0, Fr.refl _ _, trivial⟩
  obtain ⟨s1, s2, s3, _⟩ := steps γ0
  intro f
  induction f with
  | zero =>
    intro un listed act w gs hlen hnd hun inv st
    have hnil : un = [] := List.eq_nil_of_length_eq_zero hlen
    subst hnil
    have hall : ∀ i, i < n + AL.length → listed.getD i false = true := fun i hi => by
      cases h : listed.getD i false with
      | true => rfl
      | false => have := (hun i).2 ⟨hi, h⟩; cases this
    have hli : listed = Array.replicate (n + AL.length) true ++ Array.replicate (ops.size - (n + AL.length)) false := by
      apply Array.ext
      · simp [inv.size]; omega
      · intro i h1 h2
        have hs := inv.size
        by_cases c : i < n + AL.length
        · have := hall i c
          rw [Array.getElem_append_left (by simpa using c)]
          simpa [h1] using this
        · have := inv.tail i (by omega) (by omega)
          rw [Array.getElem_append_right (by simp; omega)]
          simpa [h1] using this
    have hact : act = putAll gs AL 0 aF := by
      have ed : act.defers = (putAll gs AL 0 aF).defers := by rw [putAll_df, st.df, s1]
      have et : act.tmps = (putAll gs AL 0 aF).tmps := by
        apply Array.ext_getElem?
        intro t
        by_cases hA : ∃ x ∈ AL, x.1 = t
        · obtain ⟨x, hx, rfl⟩ := hA
          obtain ⟨j, hj⟩ := List.getElem?_of_mem hx
          have hjl : j < AL.length := (List.getElem?_eq_some_iff.1 hj).1
          rw [(st.al j x hj (hall _ (by omega))).1, putAll_at gs AL 0 aF j x hALp hj, Nat.zero_add]
          exact set_get_sz s2.symm _ _
        · rw [putAll_oth gs AL 0 aF t (fun x hx e => hA ⟨x, hx, e⟩)]
          by_cases hq : ∃ i o, i < n ∧ ops[i]? = some o ∧ o.dst = some t
          · obtain ⟨i, o, h1, h2, h3⟩ := hq
            exact st.q i o t h1 h2 h3 (hall i (by omega))
          · rw [s3 t (fun o ho hd => by
              obtain ⟨i, hi⟩ := List.getElem?_of_mem ho
              have hin : i < n := by have := (List.getElem?_eq_some_iff.1 hi).1; simp at this; omega
              exact hq ⟨i, o, hin, ((hl i o hin).1 hi).2, hd⟩)]
            refine st.oth t fun i o hi ho _ hd => ?_
            by_cases c : i < n
            · exact hq ⟨i, o, c, ho, hd⟩
            · obtain ⟨o', h1, h2⟩ := hmk (i - n) _ (List.getElem?_eq_getElem (by omega))
              rw [show n + (i - n) = i by omega, ho] at h1
              obtain rfl := Option.some.inj h1
              rw [h2.1] at hd
              exact hA ⟨_, List.getElem_mem _, Option.some.inj hd⟩
      cases act
      cases h : putAll gs AL 0 aF
      rw [h] at ed et
      simp only at ed et
      rw [ed, et]
    have := wpAny_of_seq (P := P) (ops := ops) (md := .any) (Q' := Q') (ops.toList.drop (n + AL.length)) (n + AL.length) listed act w (fun j => by simp [List.getElem?_drop]) (by simpa [hli] using b6)
      (by
        rw [hact]
        refine hend gs w st.fr (fun j x hj => (st.al j x hj (hall _ (by have := (List.getElem?_eq_some_iff.1 hj).1; omega))).2) fun j j' h1 h2 hne => ?_
        exact st.ne j j' _ _ (List.getElem?_eq_getElem h1) (List.getElem?_eq_getElem h2) hne (hall _ (by omega)) (hall _ (by omega)))
    simpa using this
  | succ f ih =>
    intro un listed act w gs hlen hnd hun inv st
    have hpos : ∃ i, i ∈ un := by
      cases un with
      | nil => simp at hlen
      | cons i l => exact ⟨i, by simp⟩
    obtain ⟨i0, hi0⟩ := hpos
    have hrdy : ∀ d i, i ≤ d → i < n + AL.length → listed.getD i false = false → ∃ r, r ∈ Region.ready .any ops listed ∧ r < n + AL.length := by
      intro d
      induction d with
      | zero =>
        intro i h0 hi hu
        obtain ⟨o, ho⟩ : ∃ o, ops[i]? = some o := ⟨_, Array.getElem?_eq_getElem (by omega)⟩
        exact ⟨i, mem_ready.2 ⟨getD_in (by rw [inv.size]; omega) hu, o, ho, fun e he hb => by have := (b7 i o hi ho).1 e he hb; omega⟩, hi⟩
      | succ d ihd =>
        intro i h0 hi hu
        obtain ⟨o, ho⟩ : ∃ o, ops[i]? = some o := ⟨_, Array.getElem?_eq_getElem (by omega)⟩
        by_cases hc : ∃ e ∈ o.after, Region.binds .any e = true ∧ listed.getD e.on false = false
        · obtain ⟨e, he, hb, hf⟩ := hc
          have := (b7 i o hi ho).1 e he hb
          exact ihd e.on (by omega) (by omega) hf
        · exact ⟨i, mem_ready.2 ⟨getD_in (by rw [inv.size]; omega) hu, o, ho, fun e he hb => by
            cases h : listed.getD e.on false with
            | true => rfl
            | false => exact absurd ⟨e, he, hb, h⟩ hc⟩, hi⟩
    obtain ⟨hi0m, hi0u⟩ := (hun i0).1 hi0
    obtain ⟨r0, hr0, hr0m⟩ := hrdy i0 i0 (Nat.le_refl _) hi0m hi0u
    have hne : Region.ready .any ops listed ≠ [] := by
      intro h; rw [h] at hr0; cases hr0
    have dstne : ∀ i o, i < n + AL.length → ops[i]? = some o → ∀ k o' t, k ≠ i → k < n + AL.length → ops[k]? = some o' → o'.dst = some t → o.dst ≠ some t := fun i o him ho k o' t hk hkm ho' hd e => by
      rcases Nat.lt_or_gt_of_ne hk with c | c
      · exact (b7 i o him ho).2 k o' t c ho' hd e
      · exact (b7 k o' hkm ho').2 i o t c ho e hd
    have prep : ∀ i, i ∈ Region.ready .any ops listed → i < n + AL.length → (un.erase i).Nodup ∧ (un.erase i).length = f ∧ (∀ j, j ∈ un.erase i ↔ j < n + AL.length ∧ (listed.setIfInBounds i true).getD j false = false) ∧ (listed.setIfInBounds i true).getD i false = true := fun i hi him => by
      obtain ⟨hiu, o, ho, hdeps⟩ := mem_ready.1 hi
      have hil : i < listed.size := by rw [inv.size]; omega
      have hself : (listed.setIfInBounds i true).getD i false = true := by simp [hil]
      obtain ⟨e1, e2, e3⟩ := erase_spec hnd ((hun i).2 ⟨him, getD_both hiu⟩)
      refine ⟨e1, by omega, fun j => ?_, hself⟩
      rw [e3, hun]
      by_cases c : j = i
      · subst c; rw [hself]; simp
      · rw [getD_set_ne false (Ne.symm c)]; simp [c]
    -- an operation that keeps
    have quietStep : ∀ i o, i < n → i ∈ Region.ready .any ops listed → ops[i]? = some o → ∃ v, YieldsIn P ops (fun w' => ∃ y : Wg (W0 := W0) ⟨fun w' => Fr (fun _ => False) w w', fun a b h k => k.trans h (fun _ h => h.elim), w, st.fr, Fr.refl _ _⟩, w' = y.w) o v act ∧
        ∀ w', Fr (fun _ => False) W0 w' → Fr (fun _ => False) w w' → wpAny P .any ops Q' (f + (ops.size - (n + AL.length))) (listed.setIfInBounds i true) (act.put o.dst v) w' := by
      intro i o hin hi ho
      have him : i < n + AL.length := by omega
      obtain ⟨hiu, o2, ho2, hdeps⟩ := mem_ready.1 hi
      rw [ho] at ho2
      obtain rfl := Option.some.inj ho2
      obtain ⟨e1, e2, hun2, hself⟩ := prep i hi him
      have selno := fun cs b => Region.noSelect_spec b1 i o cs b ho
      obtain ⟨t1, t2, t3, t4⟩ := steps ⟨fun w' => Fr (fun _ => False) w w', fun a b h k => k.trans h (fun _ h => h.elim), w, st.fr, Fr.refl _ _⟩
      obtain ⟨v, aj, k1, k2, k3, k4⟩ := t4 i o ((hl i o hin).2 ⟨hin, ho⟩)
      have same : ∀ t ∈ o.looksAt ops, act.tmps[t]? = aj.tmps[t]? := fun t ht => by
        by_cases hq : ∃ j o', j < n + AL.length ∧ ops[j]? = some o' ∧ o'.dst = some t
        · obtain ⟨j, o', h1, h2, h3⟩ := hq
          obtain ⟨c1, c2⟩ := b8 i o hin ho t ht j o' h1 h2 h3
          obtain ⟨o2, ho2, e, he, hb, hon⟩ := Region.waitsFor_spec c2
          rw [ho] at ho2
          obtain rfl := Option.some.inj ho2
          have hlj := hdeps e he hb
          rw [hon] at hlj
          rw [st.q j o' t (by omega) h2 h3 hlj, k2 t j o' c1 ((hl j o' (by omega)).2 ⟨by omega, h2⟩) h3]
        · rw [st.oth t (fun j o' hj ho' _ hd => hq ⟨j, o', hj, ho', hd⟩), k3 t (fun j o' hj ho' hd => hq ⟨j, o', by omega, ((hl j o' (by omega)).1 ho').2, hd⟩)]
      obtain ⟨x1, x2⟩ := looks_same selno same
      refine ⟨v, k1.of_same x1 x2, fun w' hw0 hww => ?_⟩
      refine ih _ _ _ _ gs e2 e1 hun2 (inv.set hi him) ⟨hw0, (put_df _ _ _).trans st.df, (put_sz _ _ _).trans st.sz, fun k o' t hk ho' hd hlk => ?_, fun j x hj hlj => ?_, fun j j' x x' hj hj' hne h1 h2 => ?_, fun t ht => ?_⟩
      · by_cases c : k = i
        · subst c
          rw [ho] at ho'
          obtain rfl := Option.some.inj ho'
          rw [put_get, if_pos hd, k4 t hd]
          exact set_get_sz st.sz _ _
        · rw [put_get, if_neg (dstne i o him ho k o' t c (by omega) ho' hd)]
          exact st.q k o' t hk ho' hd ((getD_set_self hlk).resolve_left c)
      · have hlj := (getD_set_self hlj).resolve_left (by omega)
        obtain ⟨c1, c2, c3⟩ := st.al j x hj hlj
        obtain ⟨ox, hox, mx⟩ := hmk j x hj
        refine ⟨?_, c2, (hww.block _ (Array.getElem?_eq_some_iff.1 c3).1 (fun h => h)).trans c3⟩
        rw [put_get, if_neg (dstne i o him ho (n + j) ox _ (by omega) (by have := (List.getElem?_eq_some_iff.1 hj).1; omega) hox mx.1), c1]
      · exact st.ne j j' x x' hj hj' hne ((getD_set_self h1).resolve_left (by omega)) ((getD_set_self h2).resolve_left (by omega))
      · rw [put_get, if_neg (ht i o him ho hself)]
        exact st.oth t fun k o' hk ho' hlk => ht k o' hk ho' (getD_set_true hlk)
    rw [show f + 1 + (ops.size - (n + AL.length)) = (f + (ops.size - (n + AL.length))) + 1 by omega]
    by_cases hlate : ∀ i ∈ un, i ∈ late
    · -- only what may come late is left: it is taken first
      have hr0l : r0 ∈ late := hlate r0 ((hun r0).2 ⟨hr0m, getD_both (mem_ready.1 hr0).1⟩)
      obtain ⟨hr0u, o, ho, hdeps⟩ := mem_ready.1 hr0
      obtain ⟨hn0, hpure, hap⟩ := b9 r0 o hr0l ho
      obtain ⟨v, hy, hk⟩ := quietStep r0 o hn0 hr0 ho
      have hY : Yields P ops o v act := by
        rcases hy with ⟨hw, hv⟩ | hu
        · exact .inl ⟨hw, pure_of hpure (hv w ⟨⟨w, st.fr, Fr.refl _ _⟩, rfl⟩)⟩
        · exact .inr hu
      refine wpAny_first ho (Region.noSelect_spec b1) (fun c a w h => by
        have hq := hQp (fun e => by rw [e] at hr0l; cases hr0l)
        cases hd : o.dst with
        | none => rw [hd] at h; exact h
        | some t => rw [hd] at h; exact hq c a t v w h) _ listed act w (fun j oj hj hne hju hno => ?_) hr0 hY (hk w st.fr (Fr.refl _ _))
      rcases hap j oj hj hne with (h | h) | h
      · obtain ⟨o2, ho2, e, he, hb, hon⟩ := Region.waitsFor_spec h
        rw [ho] at ho2
        obtain rfl := Option.some.inj ho2
        have h1 := hdeps e he hb
        rw [hon, getD_both hju] at h1
        cases h1
      · obtain ⟨o2, ho2, e, he, hb, hon⟩ := Region.waitsFor_spec h
        rw [hj] at ho2
        obtain rfl := Option.some.inj ho2
        exact absurd hon (hno e he hb)
      · exact h
    refine ⟨fun h => absurd h hne, fun i hi => ?_⟩
    have hx : ∃ i1 ∈ un, i1 ∉ late := by
      apply Classical.byContradiction
      intro h
      exact hlate fun i hi => Classical.byContradiction fun h2 => h ⟨i, hi, h2⟩
    obtain ⟨i1, hi1, hi1l⟩ := hx
    obtain ⟨hi1m, hi1u⟩ := (hun i1).1 hi1
    have him : i < n + AL.length := by
      rcases Nat.lt_or_ge i (n + AL.length) with h | h
      · exact h
      · exact absurd hi (tail_waits2 b4 b5 b3 inv _ i1 rfl hi1m hi1l (getD_in (by rw [inv.size]; omega) hi1u) i h)
    obtain ⟨hiu, o, ho, hdeps⟩ := mem_ready.1 hi
    obtain ⟨e1, e2, hun2, hself⟩ := prep i hi him
    have inv2 := inv.set hi him
    have dstne := dstne i o him ho
    by_cases hin : i < n
    · obtain ⟨v, hy, hk⟩ := quietStep i o hin hi ho
      refine wpOp_of_qOp (C := fun w' => ∃ y : Wg (W0 := W0) ⟨fun w' => Fr (fun _ => False) w w', fun a b h k => k.trans h (fun _ h => h.elim), w, st.fr, Fr.refl _ _⟩, w' = y.w) ⟨⟨w, st.fr, Fr.refl _ _⟩, rfl⟩ (fun a' w' hC ha' => ?_) (hy.qOp ho (K := fun a' => a' = act.put o.dst v) rfl)
      obtain ⟨y, rfl⟩ := hC
      subst ha'
      exact hk y.w y.h y.g
    · -- a new block
      obtain ⟨x, hx⟩ : ∃ x, AL[i - n]? = some x := ⟨_, List.getElem?_eq_getElem (by omega)⟩
      obtain ⟨o', ho', mk1, mk2, mk3⟩ := hmk (i - n) x hx
      rw [show n + (i - n) = i by omega, ho] at ho'
      obtain rfl := Option.some.inj ho'
      have hwant : Region.wanted o (yielded ops act.tmps) = true := by simp [Region.wanted, mk2]
      unfold wpOp
      simp only [ho, hwant, if_true]
      left
      unfold Oper.wp
      rw [mk3]
      show wpAny P .any ops Q' _ _ _ _
      refine ih _ _ _ _ (fun j => if j = i - n then w.heap.size else gs j) e2 e1 hun2 inv2 ⟨st.fr.alloc _, (put_df _ _ _).trans st.df, (put_sz _ _ _).trans st.sz, fun k o' t hk ho' hd hlk => ?_, fun j y hj hlj => ?_, fun j j' y y' hj hj' hne h1 h2 => ?_, fun t ht => ?_⟩
      · rw [put_get, if_neg (dstne k o' t (by omega) (by omega) ho' hd)]
        exact st.q k o' t hk ho' hd ((getD_set_self hlk).resolve_left (by omega))
      · by_cases c : j = i - n
        · subst c
          rw [hx] at hj
          obtain rfl := Option.some.inj hj
          simp only [if_true]
          rw [put_get, if_pos mk1]
          exact ⟨set_get_sz st.sz _ _, st.fr.size, heap_alloc_new w _⟩
        · simp only [if_neg c]
          obtain ⟨c1, c2, c3⟩ := st.al j y hj ((getD_set_self hlj).resolve_left (by omega))
          obtain ⟨ox, hox, mx⟩ := hmk j y hj
          refine ⟨?_, c2, (Below.heap_alloc _ _ _ (Array.getElem?_eq_some_iff.1 c3).1).trans c3⟩
          rw [put_get, if_neg (dstne (n + j) ox _ (by omega) (by have := (List.getElem?_eq_some_iff.1 hj).1; omega) hox mx.1), c1]
      · by_cases c : j = i - n
        · have c' : j' ≠ i - n := fun h => hne (c.trans h.symm)
          simp only [if_pos c, if_neg c']
          obtain ⟨_, _, c3⟩ := st.al j' y' hj' ((getD_set_self h2).resolve_left (by omega))
          have := (Array.getElem?_eq_some_iff.1 c3).1
          omega
        · by_cases c' : j' = i - n
          · simp only [if_neg c, if_pos c']
            obtain ⟨_, _, c3⟩ := st.al j y hj ((getD_set_self h1).resolve_left (by omega))
            have := (Array.getElem?_eq_some_iff.1 c3).1
            omega
          · simp only [if_neg c, if_neg c']
            exact st.ne j j' y y' hj hj' hne ((getD_set_self h1).resolve_left (by omega)) ((getD_set_self h2).resolve_left (by omega))
      · rw [put_get, if_neg (ht i o him ho hself)]
        exact st.oth t fun k o' hk ho' hlk => ht k o' hk ho' (getD_set_true hlk)

/-- The region: n operations that keep, the new blocks AL, stores. -/
theorem wp_region_late {id : Nat} {Q : Exit → Act → World → Prop} {a : Act} {W0 : World} {l : List Oper} (n : Nat) (late : List Nat) (AL : List (Tmp × Obj)) (hQp : late ≠ [] → ∀ (c : List PanicEntry) (a : Act) (t : Tmp) (v : Value) (w : World), Q (.panic c) (a.put (some t) v) w → Q (.panic c) a w) (hm : P.follows .mixedOrders = true) (hB : tailB l.toArray n (n + AL.length) late = true)
    (hmk : ∀ j x, AL[j]? = some x → ∃ o, l[n + j]? = some o ∧ Makes P o x)
    (h : ∃ aF, (∀ γ : Gd W0, wpQuiet P l.toArray (fun w' => ∃ y : Wg γ, w' = y.w) (fun a' => a' = aF) (l.take n) a) ∧
      ∀ (gs : Nat → Nat) (w : World), Fr (fun _ => False) W0 w → (∀ j x, AL[j]? = some x → W0.heap.size ≤ gs j ∧ w.heap[gs j]? = some x.2) → (∀ j j', j < AL.length → j' < AL.length → j ≠ j' → gs j ≠ gs j') →
        wpList P l.toArray Q (l.drop (n + AL.length)) (putAll gs AL 0 aF) w) : (Code.region id l.toArray true).wp P Q a W0 := by
  obtain ⟨aF, h1, h2⟩ := h
  obtain ⟨b1, b2, b3, b4, b5, b6, b7, b8, b9⟩ := tailB_all hB
  refine wp_region_any hm ?_
  have inv0 : HeadInv .any l.toArray (n + AL.length) (Array.replicate l.toArray.size false) :=
    ⟨by simp, fun j oj _ hl => (by rw [getD_replicate_false] at hl; cases hl), fun t _ ht => getD_in (by simpa using ht) (getD_replicate_false _ _)⟩
  have := tail_core (P := P) (ops := l.toArray) (Q' := Q) (W0 := W0) (a := a) (aF := aF) (n := n) (AL := AL) hB hQp (fun j x hj => by simpa using hmk j x hj) (by simpa using h1) (by simpa using h2) (n + AL.length) (List.range (n + AL.length)) (Array.replicate l.toArray.size false) a { W0 with drawn := W0.drawn + 1 } (fun _ => 0)
    (by simp) List.nodup_range (fun i => by rw [List.mem_range, getD_replicate_false]; simp) inv0
    ⟨(Fr.refl _ W0).drew, rfl, rfl, fun i o t _ _ _ hl => (by rw [getD_replicate_false] at hl; cases hl), fun j x _ hl => (by rw [getD_replicate_false] at hl; cases hl), fun j j' x x' _ _ _ hl => (by rw [getD_replicate_false] at hl; cases hl), fun _ _ => rfl⟩
  rw [show n + AL.length + (l.toArray.size - (n + AL.length)) = l.toArray.size by omega] at this
  exact this
/-- The same with none that may come up late. -/
theorem wp_region_tail {id : Nat} {Q : Exit → Act → World → Prop} {a : Act} {W0 : World} {l : List Oper} (n : Nat) (AL : List (Tmp × Obj)) (hm : P.follows .mixedOrders = true) (hB : tailB l.toArray n (n + AL.length) [] = true)
    (hmk : ∀ j x, AL[j]? = some x → ∃ o, l[n + j]? = some o ∧ Makes P o x)
    (h : ∃ aF, (∀ γ : Gd W0, wpQuiet P l.toArray (fun w' => ∃ y : Wg γ, w' = y.w) (fun a' => a' = aF) (l.take n) a) ∧
      ∀ (gs : Nat → Nat) (w : World), Fr (fun _ => False) W0 w → (∀ j x, AL[j]? = some x → W0.heap.size ≤ gs j ∧ w.heap[gs j]? = some x.2) → (∀ j j', j < AL.length → j' < AL.length → j ≠ j' → gs j ≠ gs j') →
        wpList P l.toArray Q (l.drop (n + AL.length)) (putAll gs AL 0 aF) w) : (Code.region id l.toArray true).wp P Q a W0 :=
  wp_region_late n [] AL (fun h => absurd rfl h) hm hB hmk h
theorem mk_one {l : List Oper} {n : Nat} {x0 : Tmp × Obj} (h : ∃ o, l[n]? = some o ∧ Makes P o x0) : ∀ j x, [x0][j]? = some x → ∃ o, l[n + j]? = some o ∧ Makes P o x := by
  intro j x hx
  rcases j with _ | j
  · have : x0 = x := by simpa using hx
    subst this; exact h
  · simp at hx
theorem mk_two {l : List Oper} {n : Nat} {x0 x1 : Tmp × Obj} (h : ∃ o, l[n]? = some o ∧ Makes P o x0) (h1 : ∃ o, l[n + 1]? = some o ∧ Makes P o x1) : ∀ j x, [x0, x1][j]? = some x → ∃ o, l[n + j]? = some o ∧ Makes P o x := by
  intro j x hx
  rcases j with _ | _ | j
  · have : x0 = x := by simpa using hx
    subst this; exact h
  · have : x1 = x := by simpa using hx
    subst this; exact h1
  · simp at hx
theorem mk_nil {l : List Oper} {n : Nat} : ∀ (j : Nat) (x : Tmp × Obj), ([] : List (Tmp × Obj))[j]? = some x → ∃ o, l[n + j]? = some o ∧ Makes P o x := by
  intro j x hx; simp at hx
end
end Go.Proofs.Ytahnlnflcgehaaa
namespace Go.Proofs.Ytahnlnflcgehaaa
open Go.RowKit
set_option linter.unusedVariables false
theorem Fr.setRow' {a w : World} {g : Nat} {S : Nat → Prop} (h : Fr S a w) (hg : S g) (cs : Array Value) : Fr S a (w.setRow g cs) :=
  ⟨h.os, h.tape, h.output, by have := h.size; simp; omega, fun k hk hs => (setRow_other w g k cs (fun e => hs (e ▸ hg))).trans (h.block k hk hs)⟩
section
variable {P : Program}
theorem wpList_store_int {ops : Array Oper} {rest : List Oper} {o : Oper} {a : Act} {w : World} {Q : Exit → Act → World → Prop} (hgd : o.guard = none) (ty : TypeId) (x y : Operand) (ho : o.op = .store ty x y)
    (g off : Nat) (hx : a.eval x = .pointer (some ⟨g, off, none⟩)) (k : IntKind) (n : Int) (hy : a.eval y = .int k n) (hi : (P.info? ty).map (·.size) = some 1)
    (t : TypeId) (cs : Array Value) (hg : w.heap[g]? = some (.cells cs t (0, 0))) (hoff : off < cs.size)
    (h : ∀ w2 : World, w2.heap[g]? = some (.cells (cs.setIfInBounds off (.int k n)) t (0, 0)) → Fr (fun i => i = g) w w2 → wpList P ops Q rest (a.put o.dst undef) w2) : wpList P ops Q (o :: rest) a w := by
  refine wpList_plain hgd fun _ hK => ?_
  have hst := run_storeCells_at P g off t [.int k n] 0 cs w hg (by simp; omega) (by simp [Value.oneCell'])
  have e : (cs.toList.take (off + 0) ++ [Value.int k n] ++ cs.toList.drop (off + 0 + 1)).toArray = cs.setIfInBounds off (.int k n) := by
    apply Array.toList_inj.1
    rw [Array.toList_setIfInBounds, List.set_eq_take_append_cons_drop, if_pos (by simpa using hoff)]
    simp
  have key := h (w.setRow g (cs.setIfInBounds off (.int k n))) (setRow_heap _ _ _ _ _ _ hg) (Fr.setRow' (S := fun i => i = g) (Fr.refl _ w) rfl _)
  simp only [List.length_cons, List.length_nil] at hst
  rw [e] at hst
  cases hq : P.info? ty with
  | none => simp [hq] at hi
  | some i =>
    have hs : i.size = 1 := by simpa [hq] using hi
    unfold Oper.wp execOp
    simp only [ho, hx, hy, Instr.storeAt, Instr.sureAddr, Sem.run_bind, Sem.run_pure, Result.andThen_ok]
    have hrun : (storeVar ty ⟨g, off, none⟩ (.int k n)).run P w = .ok () (w.setRow g (cs.setIfInBounds off (.int k n))) := by
      simp [storeVar, sizeOf, typeInfo, hq, Value.cells, hs]
      simpa using hst
    rw [hrun]
    exact hK _ _ key
end
end Go.Proofs.Ytahnlnflcgehaaa
namespace Go.Proofs.Ytahnlnflcgehaaa
open Go.RowKit
set_option linter.unusedVariables false

/-- A row of n plain cells. -/
def Sz (n : Nat) (R : Array Value) : Prop := R.size = n ∧ R.all (·.oneCell') = true
/-- A block of the call's own: where, how many cells, which, its type. -/
structure Bk where
  g : Nat
  n : Nat
  cs : Array Value
  T : TypeId
/-- All that was there when the call began is as it was, and these blocks of its own are known. -/
structure Kn (w0 : World) (L : List Bk) (w : World) : Prop where
  fr : Fr (fun _ => False) w0 w
  blk : ∀ (i : Nat) (b : Bk), L[i]? = some b → w0.heap.size ≤ b.g ∧ w.heap[b.g]? = some (.cells b.cs b.T (0, 0)) ∧ b.cs.size = b.n
  two : ∀ (i j : Nat) (x y : Bk), L[i]? = some x → L[j]? = some y → x.g = y.g → i = j

theorem Fr.kp {w w2 : World} (F : Fr (fun _ => False) w w2) {i : Nat} {o : Obj} (h : w.heap[i]? = some o) : w2.heap[i]? = some o :=
  (F.block i (lt_of_block h) (fun h => h)).trans h
theorem Fr.sr {S : Nat → Prop} {a w : World} (h : Fr S a w) {g : Nat} (hg : S g) (cs : Array Value) : Fr S a (w.setRow g cs) :=
  ⟨h.os, h.tape, h.output, by have := h.size; simp [World.setRow]; omega, fun k hk hs => (setRow_other w g k cs (fun e => hs (e ▸ hg))).trans (h.block k hk hs)⟩
theorem Kn.start (w : World) : Kn w [] w := ⟨Fr.refl _ w, fun i b h => by simp at h, fun i j x y h => by simp at h⟩
theorem Kn.call {w0 w w' : World} {L : List Bk} (K : Kn w0 L w) (F : Fr (fun _ => False) w w') : Kn w0 L w' :=
  ⟨K.fr.trans F (fun _ h => h.elim), fun i b h => ⟨(K.blk i b h).1, F.kp (K.blk i b h).2.1, (K.blk i b h).2.2⟩, K.two⟩
theorem Kn.made {w0 w w' : World} {L : List Bk} (K : Kn w0 L w) (g n : Nat) (cs : Array Value) (T : TypeId) (F : Fr (fun _ => False) w w') (hl : w.heap.size ≤ g) (hg : w'.heap[g]? = some (.cells cs T (0, 0))) (hn : cs.size = n) : Kn w0 (⟨g, n, cs, T⟩ :: L) w' := by
  have K' := K.call F
  refine ⟨K'.fr, ?_, ?_⟩
  · intro i b h
    cases i with
    | zero => obtain rfl : ⟨g, n, cs, T⟩ = b := by simpa using h
              exact ⟨Nat.le_trans K.fr.size hl, hg, hn⟩
    | succ i => exact K'.blk i b (by simpa using h)
  · intro i j x y hi hj e
    cases i with
    | zero =>
      cases j with
      | zero => rfl
      | succ j =>
        obtain rfl : ⟨g, n, cs, T⟩ = x := by simpa using hi
        have := lt_of_block (K.blk j y (by simpa using hj)).2.1
        have e : g = y.g := e
        omega
    | succ i =>
      cases j with
      | zero =>
        obtain rfl : ⟨g, n, cs, T⟩ = y := by simpa using hj
        have := lt_of_block (K.blk i x (by simpa using hi)).2.1
        have e : x.g = g := e
        omega
      | succ j => rw [K.two i j x y (by simpa using hi) (by simpa using hj) e]
theorem Kn.new {w0 w : World} {L : List Bk} (K : Kn w0 L w) (g n : Nat) (cs : Array Value) (T : TypeId) (hg : g = w.heap.size) (hn : cs.size = n) : Kn w0 (⟨g, n, cs, T⟩ :: L) (w.alloc (.cells cs T)) := by
  subst hg
  exact K.made _ n cs T ((Fr.refl _ w).alloc _) (Nat.le_refl _) (heap_alloc_new w _) hn
theorem Kn.set {w0 w w' : World} {L : List Bk} (K : Kn w0 L w) (i : Nat) (b : Bk) (hi : L[i]? = some b) (R : Array Value) (hR : R.size = b.n) (F : Fr (fun k => k = b.g) w w') (hg : w'.heap[b.g]? = some (.cells R b.T (0, 0))) : Kn w0 (L.set i ⟨b.g, b.n, R, b.T⟩) w' := by
  have hb := K.blk i b hi
  have hlt : i < L.length := (List.getElem?_eq_some_iff.1 hi).1
  have shape : ∀ (j : Nat) (x : Bk), (L.set i ⟨b.g, b.n, R, b.T⟩)[j]? = some x → (j = i ∧ x = ⟨b.g, b.n, R, b.T⟩) ∨ (j ≠ i ∧ L[j]? = some x) := by
    intro j x h
    by_cases c : i = j
    · subst c
      rw [List.getElem?_set_self hlt] at h
      exact .inl ⟨rfl, (Option.some.inj h).symm⟩
    · rw [List.getElem?_set_ne c] at h
      exact .inr ⟨fun e => c e.symm, h⟩
  refine ⟨K.fr.trans F (fun k hk => Or.inr (by have : k = b.g := hk; omega)), ?_, ?_⟩
  · intro j x h
    rcases shape j x h with ⟨rfl, rfl⟩ | ⟨c, h'⟩
    · exact ⟨hb.1, hg, hR⟩
    · have hx := K.blk j x h'
      exact ⟨hx.1, (F.block _ (lt_of_block hx.2.1) (fun e => c (K.two j i x b h' hi e))).trans hx.2.1, hx.2.2⟩
  · intro j k x y hj hk e
    rcases shape j x hj with ⟨rfl, rfl⟩ | ⟨c, h'⟩ <;> rcases shape k y hk with ⟨rfl, rfl⟩ | ⟨c2, h2⟩
    · rfl
    · exact K.two j k b y hi h2 e
    · exact K.two j k x b h' hi e
    · exact K.two j k x y h' h2 e
theorem Kn.heap {w0 w : World} {L : List Bk} (K : Kn w0 L w) (i : Nat) {g n : Nat} {cs : Array Value} {T : TypeId} (h : L[i]? = some ⟨g, n, cs, T⟩) : w.heap[g]? = some (.cells cs T (0, 0)) := (K.blk i _ h).2.1
theorem Kn.size {w0 w : World} {L : List Bk} (K : Kn w0 L w) (i : Nat) {g n : Nat} {cs : Array Value} {T : TypeId} (h : L[i]? = some ⟨g, n, cs, T⟩) : cs.size = n := (K.blk i _ h).2.2

/-- R lies in cs from place o on. -/
def Part (cs : Array Value) (o : Nat) (R : Array Value) : Prop := ∀ (j : Nat) (u : Value), R[j]? = some u → cs[o + j]? = some u
theorem Part.whole (cs : Array Value) : Part cs 0 cs := fun j u h => by rwa [Nat.zero_add]
theorem Part.left (A B : Array Value) : Part (A ++ B) 0 A := fun j u h => by
  rw [Nat.zero_add, Array.getElem?_append_left (Array.getElem?_eq_some_iff.1 h).1]; exact h
theorem Part.right (A B : Array Value) (o n : Nat) (R : Array Value) (hA : A.size = n) (h : Part B o R) : Part (A ++ B) (n + o) R := fun j u hj => by
  rw [Array.getElem?_append_right (by omega), show n + o + j - A.size = o + j by omega]; exact h j u hj
theorem Part.inl (A B : Array Value) (o : Nat) (R : Array Value) (h : Part A o R) : Part (A ++ B) o R := fun j u hj => by
  have := h j u hj
  rw [Array.getElem?_append_left (Array.getElem?_eq_some_iff.1 this).1]; exact this

section
variable {P : Program} {ops : Array Oper} {rest : List Oper} {o : Oper} {a : Act} {w w0 : World} {L : List Bk} {Q : Exit → Act → World → Prop}

/-- A whole row is loaded. -/
theorem wpList_load_kn (K : Kn w0 L w) (hgd : o.guard = none) (ty : TypeId) (x : Operand) (ho : o.op = .load ty x) (i g n : Nat) (cs : Array Value) (T : TypeId) (hx : a.eval x = .pointer (some ⟨g, 0, none⟩))
    (d : TypeDesc) (hu : P.underlying ty = some d) (hd : (match d with | .struct _ | .array _ _ => true | _ => false) = true) (hty : (P.info? ty).map (·.size) = some n) (hi : L[i]? = some ⟨g, n, cs, T⟩)
    (h : wpList P ops Q rest (a.put o.dst (.agg cs)) w) : wpList P ops Q (o :: rest) a w :=
  wpList_load_row hgd ty x ho g hx T cs (0, 0) d (K.heap i hi) hu hd (by rw [hty, K.size i hi]) h
/-- A part of a row is loaded. -/
theorem wpList_load_pt (K : Kn w0 L w) (hgd : o.guard = none) (ty : TypeId) (x : Operand) (ho : o.op = .load ty x) (i g n q m : Nat) (cs R : Array Value) (T : TypeId) (hx : a.eval x = .pointer (some ⟨g, q, none⟩))
    (d : TypeDesc) (hu : P.underlying ty = some d) (hd : d.isRow = true) (hty : (P.info? ty).map (·.size) = some m) (hi : L[i]? = some ⟨g, n, cs, T⟩) (hp : Part cs q R) (hm : R.size = m)
    (h : wpList P ops Q rest (a.put o.dst (.agg R)) w) : wpList P ops Q (o :: rest) a w := by
  refine wpList_load_mid hgd ty x ho g q hx R.toList d (fun j u hj => ?_) hu hd (by rw [hty, Array.length_toList, hm]) ?_
  · rw [cell_of_block (K.heap i hi)]
    exact hp j u (by simpa using hj)
  · rw [Array.toArray_toList]; exact h
/-- A row is stored over a whole block. -/
theorem wpList_store_kn (K : Kn w0 L w) (hgd : o.guard = none) (ty : TypeId) (x y : Operand) (ho : o.op = .store ty x y) (i g n : Nat) (cs R : Array Value) (T : TypeId) (hx : a.eval x = .pointer (some ⟨g, 0, none⟩)) (hy : a.eval y = .agg R)
    (hty : (P.info? ty).map (·.size) = some n) (hi : L[i]? = some ⟨g, n, cs, T⟩) (hR : Sz n R)
    (h : ∀ w' : World, Kn w0 (L.set i ⟨g, n, R, T⟩) w' → wpList P ops Q rest (a.put o.dst undef) w') : wpList P ops Q (o :: rest) a w := by
  have hg := K.heap i hi
  have hs := K.size i hi
  refine wpList_store_row hgd ty x y ho g R hx hy T cs hg (by rw [hty, hR.1]) (by rw [hs, hR.1]) hR.2 (h _ ?_)
  exact K.set i ⟨g, n, cs, T⟩ hi R hR.1 (Fr.sr (S := fun k => k = g) (Fr.refl _ _) rfl _) (setRow_heap _ _ _ _ _ _ hg)
/-- A number is stored into a block. -/
theorem wpList_store1_kn (K : Kn w0 L w) (hgd : o.guard = none) (ty : TypeId) (x y : Operand) (ho : o.op = .store ty x y) (i g n off : Nat) (cs : Array Value) (T : TypeId) (k : IntKind) (v : Int) (hx : a.eval x = .pointer (some ⟨g, off, none⟩)) (hy : a.eval y = .int k v)
    (hty : (P.info? ty).map (·.size) = some 1) (hi : L[i]? = some ⟨g, n, cs, T⟩) (hoff : off < n)
    (h : ∀ w' : World, Kn w0 (L.set i ⟨g, n, cs.setIfInBounds off (.int k v), T⟩) w' → wpList P ops Q rest (a.put o.dst undef) w') : wpList P ops Q (o :: rest) a w := by
  have hg := K.heap i hi
  have hs := K.size i hi
  exact wpList_store_int hgd ty x y ho g off hx k v hy hty T cs hg (by omega) fun w2 h2 F => h w2 (K.set i ⟨g, n, cs, T⟩ hi _ (by rw [Array.size_setIfInBounds]; exact hs) F h2)
theorem Kn.cell {w0 w : World} {L : List Bk} (K : Kn w0 L w) (i : Nat) {g n : Nat} {cs : Array Value} {T : TypeId} (h : L[i]? = some ⟨g, n, cs, T⟩) (j : Nat) {v : Value} (hv : cs[j]? = some v) : w.cell? ⟨g, j, none⟩ = some v :=
  (cell_of_block (K.heap i h) j).trans hv
theorem Kn.free {w0 w : World} {L : List Bk} (K : Kn w0 L w) (i : Nat) {g n : Nat} {cs : Array Value} {T : TypeId} (h : L[i]? = some ⟨g, n, cs, T⟩) (j : Nat) : w.frozen? ⟨g, j, none⟩ = false := free_of_block (K.heap i h) j
theorem Kn.cellg {γ : Gd w} (K : Kn w0 L w) (y : Wg γ) (i : Nat) {g n : Nat} {cs : Array Value} {T : TypeId} (h : L[i]? = some ⟨g, n, cs, T⟩) (j : Nat) {v : Value} (hv : cs[j]? = some v) : y.w.cell? ⟨g, j, none⟩ = some v := y.cell (K.heap i h) j hv
theorem Kn.celld (K : Kn w0 L w) (y : Wd w) (i : Nat) {g n : Nat} {cs : Array Value} {T : TypeId} (h : L[i]? = some ⟨g, n, cs, T⟩) (j : Nat) {v : Value} (hv : cs[j]? = some v) : y.w.cell? ⟨g, j, none⟩ = some v := y.cell (K.heap i h) j hv
/-- An element of a row that is a value. -/
theorem run_index_row {A : Array Value} {t e : TypeId} {n k : Nat} {kk kq : IntKind} {z : Int} (hu : P.underlying t = some (.array n e)) (he : (P.info? e).map (·.size) = some 1) (hue : P.underlying e = some (.int kq)) (hk : k < n) (h : A[k]? = some (.int kk z)) (w : World) :
    (Instr.index t (.agg A) (.int .i64 (k : Int))).run P w = .ok (.int kk z) w := by
  obtain ⟨i0, hi, hz⟩ := Option.map_eq_some_iff.1 he
  simp [Instr.index, asIntOf, run_underlying hu, run_underlying hue, hk, part, sizeOf, typeInfo, isAgg, hi, hz, h]
/-- A new block. -/
theorem wpList_new_kn (K : Kn w0 L w) (T : TypeId) (t : Tmp) (ty : TypeId) (pos : String) (after : Array Edge) (z : Array Value) (n : Nat)
    (ho : o = { dst := some t, op := .alloc T, type := ty, pos := pos, after := after, guard := none })
    (hz : ∀ w, (Instr.alloc T true (.tuple #[])).run P w = .ok (.pointer (some ⟨w.heap.size, 0, none⟩)) (w.alloc (.cells z T))) (hn : z.size = n)
    (h : ∀ (g : Nat) (w' : World), Kn w0 (⟨g, n, z, T⟩ :: L) w' → wpList P ops Q rest (a.put (some t) (.pointer (some ⟨g, 0, none⟩))) w') : wpList P ops Q (o :: rest) a w := by
  subst ho
  refine wpList_plain rfl fun _ hK => ?_
  unfold Oper.wp execOp
  simp only [Sem.run_bind, Sem.run_pure, Result.andThen_ok, hz w]
  exact hK _ _ (h _ _ (K.new _ n z T rfl hn))
/-- A call. -/
theorem Calls.kn {f : FuncId} {args : Array Value} {v : Value} {Q : Ending → World → Prop} (K : Kn w0 L w) (h : Calls P f args w fun e w' => e = .returned v ∧ Fr (fun _ => False) w w')
    (k : ∀ w' : World, Kn w0 L w' → Q (.returned v) w') : Calls P f args w Q :=
  h.mono fun e w' ⟨he, F⟩ => by subst he; exact k w' (K.call F)
/-- In a drawn region. -/
theorem quiet_load_kn {C : Act → Prop} (K : Kn w0 L w) (ty : TypeId) (x : Operand) (ho : o.op = .load ty x) (i g n : Nat) (cs : Array Value) (T : TypeId) (hx : a.eval x = .pointer (some ⟨g, 0, none⟩))
    (d : TypeDesc) (hu : P.underlying ty = some d) (hd : (match d with | .struct _ | .array _ _ => true | _ => false) = true) (hty : (P.info? ty).map (·.size) = some n) (hi : L[i]? = some ⟨g, n, cs, T⟩)
    (hk : C (a.put o.dst (.agg cs))) : o.quiet P a (fun w' => ∃ y : Wd w, w' = y.w) C :=
  quiet_load_row ty x ho g hx T cs (0, 0) d (K.heap i hi) hu hd (by rw [hty, K.size i hi]) hk
theorem quiet_load_kng {C : Act → Prop} {γ : Gd w} (K : Kn w0 L w) (ty : TypeId) (x : Operand) (ho : o.op = .load ty x) (i g n : Nat) (cs : Array Value) (T : TypeId) (hx : a.eval x = .pointer (some ⟨g, 0, none⟩))
    (d : TypeDesc) (hu : P.underlying ty = some d) (hd : (match d with | .struct _ | .array _ _ => true | _ => false) = true) (hty : (P.info? ty).map (·.size) = some n) (hi : L[i]? = some ⟨g, n, cs, T⟩)
    (hk : C (a.put o.dst (.agg cs))) : o.quiet P a (fun w' => ∃ y : Wg γ, w' = y.w) C :=
  quiet_load_rowg ty x ho g hx T cs (0, 0) d (K.heap i hi) hu hd (by rw [hty, K.size i hi]) hk
theorem run_load_pt {w' : World} {g q m : Nat} {cs R : Array Value} {T : TypeId} {fr : Nat × Nat} (hg : w'.heap[g]? = some (.cells cs T fr)) (ty : TypeId) (d : TypeDesc) (hu : P.underlying ty = some d) (hd : d.isRow = true) (hty : (P.info? ty).map (·.size) = some m) (hp : Part cs q R) (hm : R.size = m) :
    (Instr.loadAt ty (.pointer (some ⟨g, q, none⟩))).run P w' = .ok (.agg R) w' := by
  have h := run_loadAt_mid (P := P) w' g q ty R.toList d (fun j u hj => by rw [cell_of_block hg]; exact hp j u (by simpa using hj)) hu hd (by rw [hty, Array.length_toList, hm])
  rwa [Array.toArray_toList] at h
theorem quiet_load_pt {C : Act → Prop} (K : Kn w0 L w) (ty : TypeId) (x : Operand) (ho : o.op = .load ty x) (i g n q m : Nat) (cs R : Array Value) (T : TypeId) (hx : a.eval x = .pointer (some ⟨g, q, none⟩))
    (d : TypeDesc) (hu : P.underlying ty = some d) (hd : d.isRow = true) (hty : (P.info? ty).map (·.size) = some m) (hi : L[i]? = some ⟨g, n, cs, T⟩) (hp : Part cs q R) (hm : R.size = m)
    (hk : C (a.put o.dst (.agg R))) : o.quiet P a (fun w' => ∃ y : Wd w, w' = y.w) C :=
  ⟨.agg R, fun w' ⟨y, e⟩ => by
    subst e
    have hr := run_load_pt (P := P) (y.blk (K.heap i hi)) ty d hu hd hty hp hm
    unfold Oper.quietAt execOp
    simp only [ho, hx, Sem.run_bind, hr, Result.andThen_ok, Sem.run_pure, Oper.quietUpon]
    exact ⟨trivial, trivial⟩, hk⟩
theorem quiet_load_ptg {C : Act → Prop} {γ : Gd w} (K : Kn w0 L w) (ty : TypeId) (x : Operand) (ho : o.op = .load ty x) (i g n q m : Nat) (cs R : Array Value) (T : TypeId) (hx : a.eval x = .pointer (some ⟨g, q, none⟩))
    (d : TypeDesc) (hu : P.underlying ty = some d) (hd : d.isRow = true) (hty : (P.info? ty).map (·.size) = some m) (hi : L[i]? = some ⟨g, n, cs, T⟩) (hp : Part cs q R) (hm : R.size = m)
    (hk : C (a.put o.dst (.agg R))) : o.quiet P a (fun w' => ∃ y : Wg γ, w' = y.w) C :=
  ⟨.agg R, fun w' ⟨y, e⟩ => by
    subst e
    have hr := run_load_pt (P := P) (y.blk (K.heap i hi)) ty d hu hd hty hp hm
    unfold Oper.quietAt execOp
    simp only [ho, hx, Sem.run_bind, hr, Result.andThen_ok, Sem.run_pure, Oper.quietUpon]
    exact ⟨trivial, trivial⟩, hk⟩
/-- The new blocks at the end of a drawn region. -/
def mkAll (gs : Nat → Nat) : List (Tmp × Nat × Array Value × TypeId) → Nat → List Bk → List Bk
  | [], _, L => L
  | (_, n, z, T) :: r, k, L => mkAll gs r (k + 1) (⟨gs k, n, z, T⟩ :: L)
theorem Kn.all {w0 w : World} (gs : Nat → Nat) : ∀ (AL : List (Tmp × Nat × Array Value × TypeId)) (k : Nat) (L : List Bk), Kn w0 L w → (∀ (j : Nat) (x : Tmp × Nat × Array Value × TypeId), AL[j]? = some x → w0.heap.size ≤ gs (k + j) ∧ w.heap[gs (k + j)]? = some (.cells x.2.2.1 x.2.2.2 (0, 0)) ∧ x.2.2.1.size = x.2.1) →
    (∀ (j j' : Nat), j < AL.length → j' < AL.length → j ≠ j' → gs (k + j) ≠ gs (k + j')) → (∀ (j i : Nat) (b : Bk), j < AL.length → L[i]? = some b → b.g ≠ gs (k + j)) → Kn w0 (mkAll gs AL k L) w
  | [], _, _, K, _, _, _ => K
  | (t, n, z, T) :: r, k, L, K, hg, hne, hL => by
    have h0 := hg 0 (t, n, z, T) rfl
    have K' : Kn w0 (⟨gs k, n, z, T⟩ :: L) w := by
      refine ⟨K.fr, ?_, ?_⟩
      · intro i b h
        cases i with
        | zero => obtain rfl : ⟨gs k, n, z, T⟩ = b := by simpa using h
                  exact h0
        | succ i => exact K.blk i b (by simpa using h)
      · intro i j x y hi hj e
        cases i with
        | zero =>
          cases j with
          | zero => rfl
          | succ j =>
            obtain rfl : ⟨gs k, n, z, T⟩ = x := by simpa using hi
            exact absurd e.symm (hL 0 j y (by simp) (by simpa using hj))
        | succ i =>
          cases j with
          | zero =>
            obtain rfl : ⟨gs k, n, z, T⟩ = y := by simpa using hj
            exact absurd e (hL 0 i x (by simp) (by simpa using hi))
          | succ j => rw [K.two i j x y (by simpa using hi) (by simpa using hj) e]
    refine Kn.all gs r (k + 1) _ K' ?_ ?_ ?_
    · intro j x hj
      have := hg (j + 1) x (by simpa using hj)
      rwa [show k + (j + 1) = k + 1 + j by omega] at this
    · intro j j' hj hj' hne'
      have := hne (j + 1) (j' + 1) (by simpa using hj) (by simpa using hj') (by omega)
      rwa [show k + (j + 1) = k + 1 + j by omega, show k + (j' + 1) = k + 1 + j' by omega] at this
    · intro j i b hj hi
      cases i with
      | zero =>
        obtain rfl : ⟨gs k, n, z, T⟩ = b := by simpa using hi
        have := hne 0 (j + 1) (by simp) (by simpa using hj) (by omega)
        rwa [show k + (j + 1) = k + 1 + j by omega] at this
      | succ i =>
        have := hL (j + 1) i b (by simpa using hj) (by simpa using hi)
        rwa [show k + (j + 1) = k + 1 + j by omega] at this
def asObj (AL : List (Tmp × Nat × Array Value × TypeId)) : List (Tmp × Obj) := AL.map fun x => (x.1, .cells x.2.2.1 x.2.2.2 (0, 0))
/-- A drawn region: n keeping operations, new blocks AL, stores. -/
theorem wp_region_kn_late {id : Nat} {l : List Oper} (K : Kn w0 L w) (n : Nat) (late : List Nat) (AL : List (Tmp × Nat × Array Value × TypeId)) (hQp : late ≠ [] → ∀ (c : List PanicEntry) (a : Act) (t : Tmp) (v : Value) (w : World), Q (.panic c) (a.put (some t) v) w → Q (.panic c) a w)
    (hm : P.follows .mixedOrders = true) (hB : tailB l.toArray n (n + AL.length) late = true)
    (hmk : ∀ j x, (asObj AL)[j]? = some x → ∃ o, l[n + j]? = some o ∧ Makes P o x) (hsz : ∀ (j : Nat) (x : Tmp × Nat × Array Value × TypeId), AL[j]? = some x → x.2.2.1.size = x.2.1)
    (h : ∃ aF, (∀ γ : Gd w, wpQuiet P l.toArray (fun w' => ∃ y : Wg γ, w' = y.w) (fun a' => a' = aF) (l.take n) a) ∧
      ∀ (gs : Nat → Nat) (w' : World), Kn w0 (mkAll gs AL 0 L) w' → wpList P l.toArray Q (l.drop (n + AL.length)) (putAll gs (asObj AL) 0 aF) w') : (Code.region id l.toArray true).wp P Q a w := by
  obtain ⟨aF, h1, h2⟩ := h
  have hl : (asObj AL).length = AL.length := by simp [asObj]
  refine wp_region_late n late (asObj AL) hQp hm (by rw [hl]; exact hB) hmk ⟨aF, h1, ?_⟩
  intro gs w' F hg hne
  rw [hl]
  refine h2 gs w' ?_
  have hg' : ∀ (j : Nat) (x : Tmp × Nat × Array Value × TypeId), AL[j]? = some x → w.heap.size ≤ gs j ∧ w'.heap[gs j]? = some (.cells x.2.2.1 x.2.2.2 (0, 0)) := fun j x hj => hg j (x.1, .cells x.2.2.1 x.2.2.2 (0, 0)) (by simp [asObj, hj])
  refine Kn.all gs AL 0 L (K.call F) ?_ ?_ ?_
  · intro j x hj
    rw [Nat.zero_add]
    exact ⟨Nat.le_trans K.fr.size (hg' j x hj).1, (hg' j x hj).2, hsz j x hj⟩
  · intro j j' hj hj' hd
    rw [Nat.zero_add, Nat.zero_add]
    exact hne j j' (by rw [hl]; exact hj) (by rw [hl]; exact hj') hd
  · intro j i b hj hi
    rw [Nat.zero_add]
    have h1 := lt_of_block (K.blk i b hi).2.1
    have h2 := (hg' j _ (List.getElem?_eq_getElem hj)).1
    omega
theorem wp_region_kn_tail {id : Nat} {l : List Oper} (K : Kn w0 L w) (n : Nat) (AL : List (Tmp × Nat × Array Value × TypeId)) (hm : P.follows .mixedOrders = true) (hB : tailB l.toArray n (n + AL.length) [] = true)
    (hmk : ∀ j x, (asObj AL)[j]? = some x → ∃ o, l[n + j]? = some o ∧ Makes P o x) (hsz : ∀ (j : Nat) (x : Tmp × Nat × Array Value × TypeId), AL[j]? = some x → x.2.2.1.size = x.2.1)
    (h : ∃ aF, (∀ γ : Gd w, wpQuiet P l.toArray (fun w' => ∃ y : Wg γ, w' = y.w) (fun a' => a' = aF) (l.take n) a) ∧
      ∀ (gs : Nat → Nat) (w' : World), Kn w0 (mkAll gs AL 0 L) w' → wpList P l.toArray Q (l.drop (n + AL.length)) (putAll gs (asObj AL) 0 aF) w') : (Code.region id l.toArray true).wp P Q a w :=
  wp_region_kn_late K n [] AL (fun h => absurd rfl h) hm hB hmk hsz h
theorem sz_nil : ∀ (j : Nat) (x : Tmp × Nat × Array Value × TypeId), ([] : List (Tmp × Nat × Array Value × TypeId))[j]? = some x → x.2.2.1.size = x.2.1 := fun j x h => by simp at h
theorem sz_one {x0 : Tmp × Nat × Array Value × TypeId} (h : x0.2.2.1.size = x0.2.1) : ∀ (j : Nat) (x : Tmp × Nat × Array Value × TypeId), [x0][j]? = some x → x.2.2.1.size = x.2.1 := fun j x hx => by
  rcases j with _ | j
  · have : x0 = x := by simpa using hx
    subst this; exact h
  · simp at hx
theorem sz_two {x0 x1 : Tmp × Nat × Array Value × TypeId} (h : x0.2.2.1.size = x0.2.1) (h1 : x1.2.2.1.size = x1.2.1) : ∀ (j : Nat) (x : Tmp × Nat × Array Value × TypeId), [x0, x1][j]? = some x → x.2.2.1.size = x.2.1 := fun j x hx => by
  rcases j with _ | _ | j
  · have : x0 = x := by simpa using hx
    subst this; exact h
  · have : x1 = x := by simpa using hx
    subst this; exact h1
  · simp at hx
/-- The result lies in a block. -/
theorem results_kn {fn : Func} {p : Tmp} {ty : TypeId} (K : Kn w0 L w) (h : fn.results = #[.cell p ty]) (tmps : Array Value) (i g n : Nat) (cs : Array Value) (T : TypeId) (hp : tmps.getD p undef = .pointer (some ⟨g, 0, none⟩))
    (d : TypeDesc) (hu : P.underlying ty = some d) (hd : (match d with | .struct _ | .array _ _ => true | _ => false) = true) (hty : (P.info? ty).map (·.size) = some n) (hi : L[i]? = some ⟨g, n, cs, T⟩) :
    (results fn tmps).run P w = .ok (.agg cs) w :=
  results_cell_row h tmps w g T cs (0, 0) d hp (K.heap i hi) hu hd (by rw [hty, K.size i hi])
theorem results_kn_tmp {fn : Func} {p t : Tmp} {ty : TypeId} (K : Kn w0 L w) (h : fn.results = #[.cell p ty, .tmp t]) (tmps : Array Value) (i g n : Nat) (cs : Array Value) (T : TypeId) (hp : tmps.getD p undef = .pointer (some ⟨g, 0, none⟩))
    (d : TypeDesc) (hu : P.underlying ty = some d) (hd : (match d with | .struct _ | .array _ _ => true | _ => false) = true) (hty : (P.info? ty).map (·.size) = some n) (hi : L[i]? = some ⟨g, n, cs, T⟩) :
    (results fn tmps).run P w = .ok (.tuple #[.agg cs, tmps.getD t undef]) w := by
  have hp' : tmps[p]?.getD undef = .pointer (some ⟨g, 0, none⟩) := by simpa using hp
  simp [results, h, hp', asAddr, run_loadVar_row w g T ty cs (0, 0) d (K.heap i hi) hu hd (by rw [hty, K.size i hi])]
end
end Go.Proofs.Ytahnlnflcgehaaa
namespace Go.Proofs.Ytahnlnflcgehaaa
open Go.RowKit
set_option linter.unusedVariables false

theorem Try.infoB : (Try.prog.info? 5).map (fun i => (i.zero, i.size, i.bytes)) = some (some (.int .u8 0), 1, 1) := by kernel_rfl

/-- Bytes as cells. -/
def bv (l : List UInt8) : List Value := l.map fun b => Value.int .u8 b.toNat
@[simp] theorem bv_length (l : List UInt8) : (bv l).length = l.length := by simp [bv]
theorem bv_append (a b : List UInt8) : bv (a ++ b) = bv a ++ bv b := by simp [bv]
theorem bv_cons (a : UInt8) (b : List UInt8) : bv (a :: b) = Value.int .u8 a.toNat :: bv b := rfl
theorem bv_nil : bv [] = [] := rfl
theorem bv_one (l : List UInt8) : ∀ u ∈ bv l, u.oneCell' = true := by
  intro u hu
  obtain ⟨b, _, rfl⟩ := List.mem_map.1 hu
  rfl
theorem bv_get (l : List UInt8) (j : Nat) : (bv l)[j]? = (l[j]?).map fun b => Value.int .u8 b.toNat := by simp [bv]
theorem bv_get' (l : List UInt8) (j : Nat) (h : j < l.length) : (bv l)[j]? = some (Value.int .u8 (l[j].toNat : Int)) := by simp [bv, h]
theorem u8_val (n : Int) (h0 : 0 ≤ n) (h1 : n < 256) : Value.int .u8 n = Value.int .u8 ((UInt8.ofNat n.toNat).toNat : Int) := by
  congr 1
  rw [UInt8.toNat_ofNat']
  omega
theorem bv_single (n : Int) (h0 : 0 ≤ n) (h1 : n < 256) : [Value.int .u8 n] = bv [UInt8.ofNat n.toNat] := by
  rw [bv_cons, bv_nil, ← u8_val n h0 h1]

/-- A string's list of bytes. -/
def sb (s : ByteArray) : List UInt8 := s.data.toList
theorem sb_length (s : ByteArray) : (sb s).length = s.size := Array.length_toList
theorem sb_mk (l : List UInt8) : sb ⟨l.toArray⟩ = l := by simp [sb]
theorem mk_sb (s : ByteArray) : (⟨(sb s).toArray⟩ : ByteArray) = s := by simp [sb]
theorem byteCells_sb (s : ByteArray) : byteCells s = bv (sb s) := rfl

/-- A block that is known whole, as the source of an append of bytes. -/
theorem src_block {w : World} {k : Nat} {cs : Array Value} {t : TypeId} {fr : Nat × Nat} (h : w.heap[k]? = some (.cells cs t fr)) (h1 : ∀ u ∈ cs.toList, u.oneCell' = true) (c : Nat) : Src Try.prog 1 40 (.slice (some ⟨k, 0, none⟩) cs.size c) cs.size cs.toList w := by
  refine Src.ofSlice w Try.underlying40 _ _ _ _ (by simp) ?_ h1
  intro j u hj
  have : (⟨k, 0, none⟩ : Addr).add j = ⟨k, j, none⟩ := by unfold Addr.add; split <;> simp_all
  rw [this, cell_of_block h]
  simpa using hj
theorem src_own {w : World} {B n : Nat} {v : Value} {xs : List Value} (h : w.ownsRow B 5 1 v n xs) (h1 : ∀ u ∈ xs, u.oneCell' = true) : Src Try.prog 1 40 v n xs w := by
  have hl := h.1
  rcases h.2 with ⟨rfl, rfl⟩ | ⟨g, cap, cur, rfl, _, hg, _, _, _, ht⟩
  · obtain rfl : xs = [] := List.eq_nil_of_length_eq_zero (by simpa using hl)
    exact Src.ofNil w Try.underlying40 0
  · exact Src.ofSlice w Try.underlying40 _ _ _ _ hl (h.cells rfl) h1

/-- Bytes that lie at an address, or nowhere if there are none. -/
def Lies (w : World) (a : Option Addr) (l : List UInt8) : Prop := l = [] ∨ ∃ g off, a = some ⟨g, off, none⟩ ∧ ∀ j (h : j < l.length), w.cell? ⟨g, off + j, none⟩ = some (.int .u8 (l[j].toNat : Int))
def inBlk (a : Option Addr) (k : Nat) : Prop := ∃ ad, a = some ad ∧ ad.block = k
theorem Lies.fr {w w2 : World} {a : Option Addr} {l : List UInt8} {S : Nat → Prop} (h : Lies w a l) (hF : Fr S w w2) (hs : ∀ k, inBlk a k → ¬ S k) : Lies w2 a l := by
  rcases h with h | ⟨g, off, rfl, hc⟩
  · exact Or.inl h
  · exact Or.inr ⟨g, off, rfl, fun j hj => hF.cellSome (p := ⟨g, off + j, none⟩) (hs g ⟨_, rfl, rfl⟩) (hc j hj)⟩
theorem addr_add (g off j : Nat) : (⟨g, off, none⟩ : Addr).add j = ⟨g, off + j, none⟩ := by unfold Addr.add; split <;> simp_all
theorem Lies.src {w : World} {a : Option Addr} {l : List UInt8} (h : Lies w a l) (c : Nat) : Src Try.prog 1 40 (.slice a l.length c) l.length (bv l) w := by
  cases a with
  | none =>
    rcases h with rfl | ⟨g, off, h, _⟩
    · exact Src.ofNil w Try.underlying40 c
    · cases h
  | some ad =>
    refine Src.ofSlice w Try.underlying40 _ _ _ _ (by simp) ?_ (bv_one l)
    intro j u hj
    rcases h with rfl | ⟨g, off, e, hc⟩
    · simp [bv] at hj
    · obtain rfl := Option.some.inj e
      have hlt : j < l.length := by have := (List.getElem?_eq_some_iff.1 hj).1; simpa using this
      rw [addr_add, hc j hlt]
      rw [bv_get' l j hlt] at hj
      exact hj
theorem Lies.drop {w : World} {g off : Nat} {l : List UInt8} (h : Lies w (some ⟨g, off, none⟩) l) (n : Nat) : Lies w (some ⟨g, off + n, none⟩) (l.drop n) := by
  rcases h with rfl | ⟨g2, off2, e, hc⟩
  · exact Or.inl (by simp)
  · obtain ⟨rfl, rfl⟩ : g2 = g ∧ off2 = off := by simpa [eq_comm] using Option.some.inj e
    refine Or.inr ⟨g2, off2 + n, rfl, fun j hj => ?_⟩
    have hj2 : n + j < l.length := by simp at hj; omega
    have := hc (n + j) hj2
    rw [Nat.add_assoc, this]
    simp
theorem Lies.take {w : World} {a : Option Addr} {l : List UInt8} (h : Lies w a l) (n : Nat) : Lies w a (l.take n) := by
  rcases h with rfl | ⟨g2, off2, rfl, hc⟩
  · exact Or.inl (by simp)
  · refine Or.inr ⟨g2, off2, rfl, fun j hj => ?_⟩
    have hj2 : j < l.length := by simp at hj; omega
    rw [hc j hj2]
    simp
theorem lies_own {w : World} {B n : Nat} {a : Option Addr} {c : Nat} {l : List UInt8} (h : w.ownsRow B 5 1 (.slice a n c) n (bv l)) : n = l.length ∧ n ≤ c ∧ c ≤ maxLen ∧ Lies w a l := by
  have hl := h.1
  simp at hl
  refine ⟨hl.symm, ?_⟩
  rcases h.2 with ⟨e, rfl⟩ | ⟨g, cap, cur, e, _, hg, hc, hm, _, ht⟩
  · obtain ⟨rfl, rfl⟩ : a = none ∧ c = 0 := by simpa using e
    exact ⟨Nat.le_refl _, by simp [maxLen], Or.inl (List.eq_nil_of_length_eq_zero hl)⟩
  · obtain ⟨rfl, rfl⟩ : a = some ⟨g, 0, none⟩ ∧ c = cap := by simpa using e
    refine ⟨hc, hm, Or.inr ⟨g, 0, rfl, fun j hj => ?_⟩⟩
    have := h.cells (g := g) rfl j _ (bv_get' l j hj)
    rwa [addr_add] at this

set_option maxRecDepth 100000 in
/-- The string of bytes in memory. -/
theorem run_str {w : World} {a : Option Addr} {l : List UInt8} (h : Lies w a l) (c : Nat) : ∀ dst, Try.prog.underlying dst = some .string → (convert 40 dst (.slice a l.length c)).run Try.prog w = .ok (.string ⟨l.toArray⟩) w := by
  intro dst hd
  have key : ∀ b off, (∀ j (h : j < l.length), w.cell? ⟨b, off + j, none⟩ = some (.int .u8 (l[j].toNat : Int))) → (convert 40 dst (.slice (some ⟨b, off, none⟩) l.length c)).run Try.prog w = .ok (.string ⟨l.toArray⟩) w := by
    intro b off hc
    have := run_convert_bytes_arg (P := Try.prog) w 40 5 Try.underlying40 Try.underlying5 b off l.length c (l.map fun b => (b.toNat : Int)) (by simp) (fun i hi => by rw [hc i hi]; simp [List.getD, hi]) dst hd
    rw [this]
    congr 2
    unfold strOfNums
    congr 2
    rw [List.map_map]
    conv => rhs; rw [← List.map_id l]
    exact List.map_congr_left fun x _ => by simp
  rcases h with rfl | ⟨g, off, rfl, hc⟩
  · cases a with
    | none => exact run_convert_bytes_nil (P := Try.prog) w 40 5 Try.underlying40 Try.underlying5 0 c dst hd
    | some ad =>
      simp only [List.length_nil]
      rw [run_convert_bytes_string w 40 dst 5 _ _ c Try.underlying40 Try.underlying5 hd]
      rw [run_bytesToString w ad 0 c [] (by simp [loadCells, loadCellsFrom])]
      rfl
  · exact key g off hc
end Go.Proofs.Ytahnlnflcgehaaa
namespace Go.Proofs.Ytahnlnflcgehaaa
open Go.RowKit
set_option linter.unusedVariables false

theorem block_setCellF {w : World} {b : Nat} {cs : Array Value} {t : TypeId} {fz : Nat × Nat} (h : w.heap[b]? = some (.cells cs t fz)) (o : Nat) (u : Value) : (w.setCell ⟨b, o, none⟩ u).heap[b]? = some (.cells (cs.setIfInBounds o u) t fz) := by
  have hlt := lt_of_block h
  have h' : w.heap[b] = .cells cs t fz := by simpa [Array.getElem?_eq_getElem hlt] using h
  show (w.heap.modify b _)[b]? = _
  rw [Array.getElem?_eq_getElem (by simpa using hlt), Array.getElem_modify_self, h']
  rfl
theorem setCells_blockF {b : Nat} {t : TypeId} {fz : Nat × Nat} : ∀ (vs : List Value) (o : Nat) (cur : List Value) (w : World), w.heap[b]? = some (.cells cur.toArray t fz) → o + vs.length ≤ cur.length →
    (w.setCells b o vs).heap[b]? = some (.cells (cur.take o ++ (vs ++ cur.drop (o + vs.length))).toArray t fz) := by
  intro vs
  induction vs with
  | nil => intro o cur w h _; simpa [World.setCells] using h
  | cons v r ih =>
    intro o cur w h hl
    simp only [List.length_cons] at hl
    have h1 := block_setCellF h o v
    rw [show cur.toArray.setIfInBounds o v = (cur.set o v).toArray by simp] at h1
    have h2 := ih (o + 1) (cur.set o v) _ h1 (by simp; omega)
    rw [World.setCells, h2]
    congr 3
    have := list_seg_step cur o v r (by omega)
    simpa [List.append_assoc] using this
theorem setCells_grown {b : Nat} : ∀ (vs : List Value) (o : Nat) (w : World), w.grownBy (w.setCells b o vs) (some b)
  | [], _, w => ⟨rfl, rfl, rfl, Nat.le_refl _, fun _ _ _ => rfl⟩
  | v :: r, o, w => by
    have h := setCells_grown (b := b) r (o + 1) (w.setCell ⟨b, o, none⟩ v)
    exact ⟨h.os, h.tape, h.output, Nat.le_trans (by simp [World.setCell]) h.size, fun k hk hne => (h.block k (by simpa [World.setCell] using hk) hne).trans (Below.heap_setCell _ _ _ _ (fun e => hne (by rw [e])))⟩

/-- The bytes l are owned: in a row above B of the call's own. -/
def Own (w : World) (B : Nat) (v : Value) (l : List UInt8) : Prop :=
  (v = .slice none 0 0 ∧ l = []) ∨
  ∃ g cap cur fz, v = .slice (some ⟨g, 0, none⟩) l.length cap ∧ B ≤ g ∧ w.heap[g]? = some (.cells cur 5 fz) ∧ (fz = (0, 0) ∨ cur.size ≤ fz.1) ∧ l.length ≤ cap ∧ cap ≤ maxLen ∧ cur.size = cap ∧ cur.toList.take l.length = bv l

theorem Own.nil (w : World) (B : Nat) : Own w B (.slice none 0 0) [] := Or.inl ⟨rfl, rfl⟩
theorem Own.of {w : World} {B n : Nat} {v : Value} {l : List UInt8} (h : w.ownsRow B 5 1 v n (bv l)) : Own w B v l := by
  have hl := h.1
  simp at hl
  rcases h.2 with ⟨e, h0⟩ | ⟨g, cap, cur, e, h1, h2, h3, h4, h5, h6⟩
  · exact Or.inl ⟨e, List.eq_nil_of_length_eq_zero (by omega)⟩
  · exact Or.inr ⟨g, cap, cur, (0, 0), by rw [e, hl], h1, h2, Or.inl rfl, by omega, h4, by simpa using h5, by rw [hl]; simpa using h6⟩
theorem Own.fr {w w2 : World} {B : Nat} {v : Value} {l : List UInt8} {S : Nat → Prop} (h : Own w B v l) (hF : Fr S w w2) (hs : ∀ k, v.ownBlock = some k → ¬ S k) : Own w2 B v l := by
  rcases h with h | ⟨g, cap, cur, fz, e, h1, h2, h3⟩
  · exact Or.inl h
  · exact Or.inr ⟨g, cap, cur, fz, e, h1, (hF.block g (lt_of_block h2) (hs g (by rw [e]; rfl))).trans h2, h3⟩
theorem Own.up {w : World} {B B2 : Nat} {v : Value} {l : List UInt8} (h : Own w B v l) (hB : B2 ≤ B) : Own w B2 v l := by
  rcases h with h | ⟨g, cap, cur, fz, e, h1, h2⟩
  · exact Or.inl h
  · exact Or.inr ⟨g, cap, cur, fz, e, by omega, h2⟩
theorem Own.lt {w : World} {B : Nat} {v : Value} {l : List UInt8} (h : Own w B v l) : ∀ k, v.ownBlock = some k → B ≤ k ∧ k < w.heap.size := by
  intro k hk
  rcases h with ⟨rfl, _⟩ | ⟨g, cap, cur, fz, rfl, h1, h2, _⟩
  · cases hk
  · cases hk; exact ⟨h1, lt_of_block h2⟩
theorem Own.slice {w : World} {B : Nat} {v : Value} {l : List UInt8} (h : Own w B v l) : ∃ a c, v = .slice a l.length c := by
  rcases h with ⟨rfl, rfl⟩ | ⟨g, cap, cur, fz, rfl, _⟩
  · exact ⟨_, _, rfl⟩
  · exact ⟨_, _, rfl⟩
theorem Own.lies {w : World} {B n : Nat} {a : Option Addr} {c : Nat} {l : List UInt8} (h : Own w B (.slice a n c) l) : n = l.length ∧ n ≤ c ∧ c ≤ maxLen ∧ Lies w a l := by
  rcases h with ⟨e, rfl⟩ | ⟨g, cap, cur, fz, e, h1, h2, h3, h4, h5, h6, h7⟩
  · cases e; exact ⟨rfl, Nat.le_refl _, Nat.zero_le _, Or.inl rfl⟩
  · cases e
    refine ⟨rfl, h4, h5, Or.inr ⟨g, 0, rfl, fun j hj => ?_⟩⟩
    rw [Nat.zero_add, cell_of_block h2]
    have := bv_get' l j hj
    rw [← h7, List.getElem?_take, if_pos hj, Array.getElem?_toList] at this
    exact this
theorem Own.nilAddr {w : World} {B n c : Nat} {l : List UInt8} (h : Own w B (.slice none n c) l) : n = 0 ∧ c = 0 := by
  rcases h with ⟨e, rfl⟩ | ⟨g, cap, cur, fz, e, _⟩
  · cases e; exact ⟨rfl, rfl⟩
  · cases e

section
variable (w : World)
/-- An append onto owned bytes. -/
theorem run_own (B : Nat) (ty tx : TypeId) (v : Value) (l m : List UInt8) (hown : Own w B v l) (x : Value) (hsrc : Src Try.prog 1 tx x m.length (bv m) w)
    (hbytes : l.length + m.length ≤ 140737488355328) (hbase : B ≤ w.heap.size) :
    ∃ v2 w2, (Builtin.append_ #[40, tx] ty #[v, x]).run Try.prog w = .ok v2 w2 ∧ Own w2 B v2 (l ++ m) ∧ w.grownBy w2 v.ownBlock ∧ (v2.ownBlock = v.ownBlock ∨ v2.ownBlock = some w.heap.size) := by
  obtain ⟨i, hi, hz, hs, hby⟩ : ∃ i, Try.prog.info? 5 = some i ∧ i.zero = some (.int .u8 0) ∧ i.size = 1 ∧ i.bytes = 1 := by
    have h := Try.infoB
    cases hi : Try.prog.info? 5 with
    | none => rw [hi] at h; cases h
    | some i =>
      rw [hi] at h
      simp only [Option.map_some, Option.some.injEq, Prod.mk.injEq] at h
      exact ⟨i, rfl, h.1, h.2.1, h.2.2⟩
  have hmx : l.length + m.length ≤ maxLen := by unfold maxLen; omega
  rcases hown with ⟨rfl, rfl⟩ | ⟨g, cap, cur, fz, rfl, hbg, hg, hfz, hnc, hcm, hcs, htake⟩
  · obtain ⟨v2, w2, h1, h2, h3, h4⟩ := run_app (P := Try.prog) w B 40 tx ty 5 i (.int .u8 0) 1 1 Try.underlying40 hi hz hs hby rfl (by decide) _ 0 [] (World.ownsRow_nil _ _ _ _) x m.length (bv m) hsrc (by simpa using hmx) (by simp at hbytes ⊢; omega) hbase
    exact ⟨v2, w2, h1, Own.of (n := 0 + m.length) (by simpa using h2), h3, h4⟩
  · by_cases hroom : l.length + m.length ≤ cap
    · have hf := hsrc.cells
      have hcur : w.heap[g]? = some (.cells cur.toList.toArray 5 fz) := by simpa using hg
      have hst := run_storeCells_cells (P := Try.prog) g l.length (bv m) 0 w (fun j hj => by
          rw [bv_length] at hj
          rw [Nat.add_zero, cell_of_block hg, Array.getElem?_eq_getElem (by omega)]; rfl) (fun j hj => by
          rw [bv_length] at hj
          rw [Nat.add_zero]
          rcases hfz with e | e
          · subst e; simp [World.frozen?, hg]
          · simp [World.frozen?, hg]; omega) (bv_one m)
      simp only [Nat.add_zero] at hst
      have hr : (Builtin.append_ #[40, tx] ty #[.slice (some ⟨g, 0, none⟩) l.length cap, x]).run Try.prog w = .ok (.slice (some ⟨g, 0, none⟩) (l.length + m.length) cap) (w.setCells g l.length (bv m)) := by
        rcases hsrc.kind with ⟨e2, hk⟩ | hk <;>
          simp [Builtin.append_, run_underlying Try.underlying40, run_underlying hk, sizeOf, typeInfo, hi, hs, hsrc.len, hroom, hf, Addr.add_lit, hst]
      have hb := setCells_blockF (bv m) l.length cur.toList w hcur (by simp; omega)
      refine ⟨_, _, hr, Or.inr ⟨g, cap, _, fz, by rw [List.length_append], hbg, hb, ?_, by rw [List.length_append]; omega, hcm, ?_, ?_⟩, setCells_grown _ _ _, .inl rfl⟩
      · rcases hfz with e | e
        · exact Or.inl e
        · refine Or.inr (Nat.le_trans (Nat.le_of_eq ?_) e)
          simp; omega
      · simp; omega
      · rw [htake, bv_append, ← List.append_assoc, List.toList_toArray]
        exact List.take_left' (by simp)
    · have holds : ∀ j u, (bv l)[j]? = some u → w.drew.cell? ((⟨g, 0, none⟩ : Addr).add j) = some u := fun j u h => by
        rw [addr_add, Nat.zero_add]
        show w.cell? _ = _
        rw [cell_of_block hg, ← Array.getElem?_toList]
        rw [← htake, List.getElem?_take] at h
        split at h
        · exact h
        · cases h
      have hr := run_append_grow_src (P := Try.prog) w 40 tx ty 5 i (.int .u8 0) Try.underlying40 hi hz (some ⟨g, 0, none⟩) l.length cap (bv l) (run_firstCells_some w.drew i.size l.length ⟨g, 0, none⟩ l.length cap (bv l) (by rw [hs]; simp) holds) x m.length (bv m) (by rw [hs]; exact hsrc) (by omega) (by unfold maxLen at hmx; omega) (growslice_fits (by unfold maxLen at hmx; omega) (by rw [hby]; omega))
      have hge := grownCap_ge w (l.length + m.length) cap 5
      have hcm2 := grownCap_le_maxLen w (l.length + m.length) cap 5 hmx
      refine ⟨_, _, hr, Or.inr ⟨w.heap.size, _, _, (0, 0), by rw [List.length_append], hbase, heap_alloc_new w.drew _, Or.inl rfl, by rw [List.length_append]; exact hge, hcm2, ?_, ?_⟩, ⟨rfl, rfl, rfl, by simp, fun k hk _ => Below.heap_alloc w.drew _ k hk⟩, .inr rfl⟩
      · simp only [Array.size_append, List.size_toArray, size_zeroCells, List.length_append, bv_length]
        simp [Value.cells]
        omega
      · rw [Array.toList_append, bv_append]
        exact List.take_left' (by simp)
theorem wpList_own {ops : Array Oper} {rest : List Oper} {o : Oper} {a : Act} {Q : Exit → Act → World → Prop} (hgd : o.guard = none) (s x : Operand) (tx : TypeId)
    (ho : o.op = .call { callee := .builtin .append, args := #[s, x], argTypes := #[40, tx] }) (B : Nat) (v : Value) (l m : List UInt8) (hs : a.eval s = v) (hown : Own w B v l)
    (xv : Value) (hx : a.eval x = xv) (hsrc : Src Try.prog 1 tx xv m.length (bv m) w) (hbytes : l.length + m.length ≤ 140737488355328) (hbase : B ≤ w.heap.size)
    (h : ∀ v2 w2, Own w2 B v2 (l ++ m) → w.grownBy w2 v.ownBlock → (v2.ownBlock = v.ownBlock ∨ v2.ownBlock = some w.heap.size) → wpList Try.prog ops Q rest (a.put o.dst v2) w2) : wpList Try.prog ops Q (o :: rest) a w := by
  refine wpList_plain hgd fun _ hK => ?_
  obtain ⟨v2, w2, hr, h2, h3, h4⟩ := run_own w B o.type tx v l m hown xv hsrc hbytes hbase
  unfold Oper.wp execOp
  simp only [ho, resolve, invoke, builtin, Sem.run_bind, Sem.run_pure, Result.andThen_ok, List.map_toArray, List.map_cons, List.map_nil, hs, hx, hr]
  exact hK _ _ (h v2 w2 h2 h3 h4)
theorem wp_own {o : Oper} {a : Act} {K : Act → World → Prop} {Q : Exit → Act → World → Prop} (s x : Operand) (tx : TypeId)
    (ho : o.op = .call { callee := .builtin .append, args := #[s, x], argTypes := #[40, tx] }) (B : Nat) (v : Value) (l m : List UInt8) (hs : a.eval s = v) (hown : Own w B v l)
    (xv : Value) (hx : a.eval x = xv) (hsrc : Src Try.prog 1 tx xv m.length (bv m) w) (hbytes : l.length + m.length ≤ 140737488355328) (hbase : B ≤ w.heap.size)
    (h : ∀ v2 w2, Own w2 B v2 (l ++ m) → w.grownBy w2 v.ownBlock → (v2.ownBlock = v.ownBlock ∨ v2.ownBlock = some w.heap.size) → K (a.put o.dst v2) w2) : o.wp Try.prog a w K Q := by
  obtain ⟨v2, w2, hr, h2, h3, h4⟩ := run_own w B o.type tx v l m hown xv hsrc hbytes hbase
  unfold Oper.wp execOp
  simp only [ho, resolve, invoke, builtin, Sem.run_bind, Sem.run_pure, Result.andThen_ok, List.map_toArray, List.map_cons, List.map_nil, hs, hx, hr]
  exact h v2 w2 h2 h3 h4
/-- The bytes of a string, in a row of the call's own. -/
theorem own_str (s : ByteArray) (B : Nat) (hB : B ≤ w.heap.size) (hs : s.size ≤ 140737488355328) : Own (Lib.bytesWorld w 5 s) B (.slice (some ⟨w.heap.size, 0, none⟩) s.size (grownCap w s.size 0 5)) (sb s) := by
  have hge := grownCap_ge w s.size 0 5
  have hmx : s.size ≤ maxLen := by unfold maxLen; omega
  have hcm := grownCap_le_maxLen w s.size 0 5 hmx
  have hsz : s.data.size = s.size := rfl
  refine Or.inr ⟨w.heap.size, _, _, _, by rw [sb_length], hB, Lib.bytesWorld_at_new w 5 s, Or.inr (Nat.le_refl _), by rw [sb_length]; exact hge, hcm, ?_, ?_⟩
  · simp only [Lib.bytesCells, Array.size_append, Array.size_map, Array.size_replicate, hsz]; omega
  · simp only [Lib.bytesCells, Array.toList_append, Array.toList_map]
    rw [List.take_left' (by simp [sb])]
    rfl
theorem src_b1 {w : World} {k : Nat} (b : UInt8) {v : Value} {t : TypeId} {fr : Nat × Nat} (h : w.heap[k]? = some (.cells #[v] t fr)) (hv : v = .int .u8 (b.toNat : Int)) : Src Try.prog 1 40 (.slice (some ⟨k, 0, none⟩) 1 1) [b].length (bv [b]) w := by
  subst hv
  exact src_block h (by simp [Value.oneCell']) 1
theorem own_str_fr (s : ByteArray) : Fr (fun _ => False) w (Lib.bytesWorld w 5 s) := ⟨rfl, rfl, rfl, by rw [Lib.bytesWorld_size]; omega, fun k hk _ => Lib.bytesWorld_at_old w 5 s k hk⟩
end
end Go.Proofs.Ytahnlnflcgehaaa
namespace Go.Proofs.Ytahnlnflcgehaaa
set_option linter.unusedVariables false

theorem all_range_ints : ∀ (xs ys : List Int), xs.length = ys.length → ((List.range xs.length).all fun i => xs.getD i 0 == ys.getD i 0) = (xs == ys)
  | [], [], _ => rfl
  | x :: xs, y :: ys, h => by
    have ih := all_range_ints xs ys (by simpa using h)
    rw [List.length_cons, List.range_succ_eq_map, List.all_cons, List.all_map]
    simp only [List.getD_cons_zero, Function.comp_def, List.getD_cons_succ, ih]
    simp [List.cons_beq_cons]
  | [], _ :: _, h => by simp at h
  | _ :: _, [], h => by simp at h
section
variable {P : Program} (w : World)
theorem equalIn_ints (d : Nat) (t e : TypeId) (n : Nat) (k : IntKind) (ht : P.underlying t = some (.array n e)) (he : P.underlying e = some (.int k)) (hsz : ∀ w, (sizeOf e).run P w = .ok 1 w)
    (xs ys : List Int) (hx : xs.length = n) (hy : ys.length = n) :
    (Op.equalIn (d + 2) t (.agg (xs.map (Value.int k)).toArray) (.agg (ys.map (Value.int k)).toArray)).run P w = .ok (xs == ys) w := by
  rw [← all_range_ints xs ys (hx.trans hy.symm), hx, List.range_eq_range', Op.equalIn]
  simp only [Sem.run_bind, run_underlying ht, Result.andThen_ok, hsz, Std.Legacy.Range.forIn_eq_forIn_range', Std.Legacy.Range.size, Nat.sub_zero, Nat.add_sub_cancel, Nat.div_one]
  have hl : ∀ i ∈ List.range' 0 n 1, i < n := fun i hi => by simpa using (List.mem_range'_1.1 hi).2
  generalize List.range' 0 n 1 = l at hl ⊢
  induction l with
  | nil => simp
  | cons i l ih =>
    have hi : i < n := hl i (by simp)
    have px : (part e (xs.map (Value.int k)).toArray (i * 1)).run P w = .ok (.int k (xs.getD i 0)) w := by
      simp [part, isAgg, run_underlying he, List.getD, List.getElem?_eq_getElem (show i < xs.length by omega)]
    have py : (part e (ys.map (Value.int k)).toArray (i * 1)).run P w = .ok (.int k (ys.getD i 0)) w := by
      simp [part, isAgg, run_underlying he, List.getD, List.getElem?_eq_getElem (show i < ys.length by omega)]
    have pe : (Op.equalIn (d + 1) e (.int k (xs.getD i 0)) (.int k (ys.getD i 0))).run P w = .ok (xs.getD i 0 == ys.getD i 0) w := by
      rw [run_equalIn_int w d e k k _ _ he]
    simp only [List.forIn_cons, Sem.run_bind, px, py, pe, Result.andThen_ok, List.all_cons]
    cases hb : (xs.getD i 0 == ys.getD i 0)
    · simp
    · simp only [Bool.not_true, Bool.false_eq_true, if_false, Sem.run_pure, Result.andThen_ok, Bool.true_and]
      exact ih fun j hj => hl j (by simp [hj])
theorem eql_ints (t e : TypeId) (n : Nat) (k : IntKind) (ht : P.underlying t = some (.array n e)) (he : P.underlying e = some (.int k)) (hsz : ∀ w, (sizeOf e).run P w = .ok 1 w)
    (xs ys : List Int) (hx : xs.length = n) (hy : ys.length = n) :
    (binOp .eql t (.agg (xs.map (Value.int k)).toArray) (.agg (ys.map (Value.int k)).toArray)).run P w = .ok (.bool (xs == ys)) w := by
  rw [run_eql_struct, equalIn_ints w 9998 t e n k ht he hsz xs ys hx hy]
  rfl
end
theorem Try.sizeW : ∀ w, (sizeOf 22).run Try.prog w = .ok 1 w := by
  intro w
  have h : (Try.prog.info? 22).map (·.size) = some 1 := by kernel_rfl
  obtain ⟨i0, hi, hz⟩ := Option.map_eq_some_iff.1 h
  simp [sizeOf, typeInfo, hi, hz]
/-- Two numbers of the order's package: the same? -/
theorem eql_num (a b c d x y z t : Int) (w : World) : (binOp .eql 52 (.agg #[.int .u64 a, .int .u64 b, .int .u64 c, .int .u64 d]) (.agg #[.int .u64 x, .int .u64 y, .int .u64 z, .int .u64 t])).run Try.prog w = .ok (.bool ([a, b, c, d] == [x, y, z, t])) w :=
  eql_ints w 52 22 4 .u64 Try.underlying52 Try.underlying22 Try.sizeW [a, b, c, d] [x, y, z, t] rfl rfl
theorem eql_num_same (a b c d : Int) (w : World) : (binOp .eql 52 (.agg #[.int .u64 a, .int .u64 b, .int .u64 c, .int .u64 d]) (.agg #[.int .u64 a, .int .u64 b, .int .u64 c, .int .u64 d])).run Try.prog w = .ok (.bool true) w := by
  rw [eql_num]; simp
theorem Try.guardNum : Try.prog.eqGuardType Try.prog.depth 52 = false := by kernel_rfl
end Go.Proofs.Ytahnlnflcgehaaa
namespace Go.Proofs.Ytahnlnflcgehaaa
open Go.ChangeShapes Go.WideShapes Go.ChangeAt Go.RowKit
set_option linter.unusedVariables false

theorem Try.own : ownKnob Try.prog.godebug = none := by kernel_rfl
theorem Try.laidOut : laidOutB Try.prog = true := by kernel_rfl

section
variable {H : Type} {enc : TypeId × Value → H}

theorem trodAll_below {P : Program} (hl : laidOutB P = true) {W W2 : World} (hb : Below W.heap.size W W2) (ts : List TypeId) : ∀ (vs : List Value) (ds : List (DataW H)) (ps : List MemPlace),
    (ts.all fun t => P.readableRec t && decide (t < P.types.size)) = true → DataW.TrodAll enc P W 0 (fun _ => true) true ts vs ds ps → (∀ x ∈ ps, x.block < W.heap.size) →
    DataW.TrodAll enc P W2 0 (fun b => decide (b < W.heap.size)) true ts vs ds ps := by
  induction ts with
  | nil =>
    intro vs ds ps _ h _
    obtain ⟨rfl, rfl, rfl⟩ := trodAll_nil h
    exact trodAll_mk0
  | cons t ts ih =>
    intro vs ds ps hr h hlt
    obtain ⟨v, vs2, d, ds2, p, q, rfl, rfl, rfl, hd, hq⟩ := trodAll_cons h
    simp only [List.all_cons, Bool.and_eq_true, decide_eq_true_eq] at hr
    exact trodAll_cons_mk (Below.trod hl hr.1.1 hr.1.2 hd hb (fun x hx => hlt x (by simp [hx]))) (ih _ _ _ hr.2 hq (fun x hx => hlt x (by simp [hx])))

/-- The law's post: it answered true, and nothing that was there has turned. -/
theorem law_post {f : Func} {s : ChangeSpec} {W W2 : World} {args : Array Value} {ds gs : List (DataW H)} {before : List MemPlace} (hvars : s.vars = []) (hres : f.resultTypes.toList = [4])
    (hread : (f.params.toList.all fun t => Try.prog.readableRec t && decide (t < Try.prog.types.size)) = true)
    (hW : DataW.Whole enc Try.prog f.params.toList s.vars false W args.toList ds gs before) (hfn : (s.fn H (ds ++ gs)) = { results := [.lit (.bool true)], args := ds, vars := [] }) (hb : Below W.heap.size W W2) :
    s.post enc Try.prog f false true false false W args (.bool true) W2 := by
  obtain ⟨p, q, hA, hV, hp, hfz, hnd⟩ := hW
  rw [hvars] at hV
  obtain ⟨rfl, rfl⟩ := trodVars_none hV
  rw [List.append_nil] at hp
  subst hp
  have hlt : ∀ x ∈ before, x.block < W.heap.size := fun x hx => by
    have hW' : DataW.Whole enc Try.prog f.params.toList s.vars false W args.toList ds [] before := ⟨before, [], hA, by rw [hvars]; rfl, by simp, hfz, hnd⟩
    exact hW'.lt x hx
  refine ⟨ds, [], before, [], before, [], ⟨before, [], hA, by rw [hvars]; rfl, by simp, hfz, hnd⟩, ?_, ?_, ?_, hb.frame _, fun h => by cases h⟩
  · rw [hfn, hres, show f.resultTypes.size = 1 by rw [← Array.length_toList, hres]; rfl]
    exact trodAll_mk1 (shut_bool Try.underlying4 _)
  · rw [hfn]
    exact trodAll_below Try.laidOut hb _ _ _ _ hread hA hlt
  · rw [hfn, hvars]
    rfl
end
end Go.Proofs.Ytahnlnflcgehaaa
namespace Go.Proofs.Ytahnlnflcgehaaa
open Go.ChangeShapes Go.WideShapes Go.ChangeAt Go.RowKit
set_option linter.unusedVariables false

set_option maxRecDepth 100000 in
theorem open_words {t : TypeId} (A : WideMaps.ArrKey Try.prog t 22 4) {H : Type} {enc : TypeId × Value → H} {W : World} {base : Nat} {v : Value} {d : DataW H} {p : List MemPlace} (hval : Value.okWide Try.prog W .any base t v) (h1 : DataW.Trod enc Try.prog W 0 (fun _ => true) true t v d p) :
    ∃ X : Nat, X < 115792089237316195423570985008687907853269984665640564039457584007913129639936 ∧ v = .agg (nc X) := by
  obtain ⟨cs, rfl, hn⟩ := WideMaps.okWide_arr A hval
  obtain ⟨fuel, hf⟩ := h1
  have hce : Try.prog.cellsOf 22 = 1 := A.one
  have hct : Try.prog.cellsOf t = 4 := A.size
  cases fuel with
  | zero => simp [DataW.trod] at hf
  | succ fuel =>
    simp only [DataW.trod, A.hu, hce, hct, Nat.mul_one, Value.cells] at hf
    split at hf
    · obtain ⟨xs, hm, hx⟩ := Option.map_eq_some_iff.1 hf
      have key : ∀ i, i < 4 → ∃ y : Nat, y < 18446744073709551616 ∧ cs[i]? = some (.int .u64 (y : Int)) := by
        intro i hi
        obtain ⟨b, hb, hf2⟩ := Lib.mapM_at hm i i (by simp [hi])
        obtain ⟨z, hc, _, hwf⟩ := DataW.trod_int Try.underlying22 hf2
        have hb8 := bounds_u64 hwf
        refine ⟨z.toNat, by omega, ?_⟩
        have h2 : cs.toList[i]? = some (.int .u64 z) := by
          have := congrArg (·[0]?) hc
          simpa [List.getElem?_take, List.getElem?_drop] using this
        rw [← Array.getElem?_toList, h2]
        congr 2
        omega
      obtain ⟨f, hf3⟩ : ∃ f : Nat → Nat, ∀ i, i < 4 → f i < 18446744073709551616 ∧ cs[i]? = some (.int .u64 (f i : Int)) :=
        ⟨fun i => if h : i < 4 then Classical.choose (key i h) else 0, fun i hi => by show (if h : i < 4 then Classical.choose (key i h) else 0) < _ ∧ cs[i]? = some (Value.int .u64 ((if h : i < 4 then Classical.choose (key i h) else 0 : Nat) : Int)); rw [dif_pos hi]; exact Classical.choose_spec (key i hi)⟩
      refine ⟨nv (f 0) (f 1) (f 2) (f 3), nv_lt _ _ _ _ (hf3 0 (by decide)).1 (hf3 1 (by decide)).1 (hf3 2 (by decide)).1 (hf3 3 (by decide)).1, ?_⟩
      rw [← nc_of _ _ _ _ (hf3 0 (by decide)).1 (hf3 1 (by decide)).1 (hf3 2 (by decide)).1 (hf3 3 (by decide)).1]
      congr 1
      exact (uq_ext hn (fun j hj => (hf3 j hj).2)).trans rfl
    · cases hf
theorem key_num : WideMaps.ArrKey Try.prog 52 22 4 := ⟨Try.underlying52, by kernel_rfl, by kernel_rfl, by kernel_rfl⟩
theorem key_elem : WideMaps.ArrKey Try.prog 24 22 4 := ⟨Try.underlying24, by kernel_rfl, by kernel_rfl, by kernel_rfl⟩
theorem key_four : WideMaps.ArrKey Try.prog 23 22 4 := ⟨Try.underlying23, by kernel_rfl, by kernel_rfl, by kernel_rfl⟩
end Go.Proofs.Ytahnlnflcgehaaa
namespace Go.Proofs.Ytahnlnflcgehaaa
open Go.ChangeShapes Go.WideShapes Go.ChangeAt Go.RowKit
set_option linter.unusedVariables false

set_option maxRecDepth 100000 in
theorem open_bytes32 {H : Type} {enc : TypeId × Value → H} {W : World} {base : Nat} {v : Value} {d : DataW H} {p : List MemPlace} (hval : Value.okWide Try.prog W .any base 36 v) (h1 : DataW.Trod enc Try.prog W 0 (fun _ => true) true 36 v d p) :
    ∃ l : List UInt8, l.length = 32 ∧ v = .agg (bv l).toArray := by
  have A : WideMaps.ArrKey Try.prog 36 5 32 := ⟨Try.underlying36, by kernel_rfl, by kernel_rfl, by kernel_rfl⟩
  obtain ⟨cs, rfl, hn⟩ := WideMaps.okWide_arr A hval
  obtain ⟨fuel, hf⟩ := h1
  have hce : Try.prog.cellsOf 5 = 1 := A.one
  have hct : Try.prog.cellsOf 36 = 32 := A.size
  cases fuel with
  | zero => simp [DataW.trod] at hf
  | succ fuel =>
    simp only [DataW.trod, A.hu, hce, hct, Nat.mul_one, Value.cells] at hf
    split at hf
    · obtain ⟨xs, hm, hx⟩ := Option.map_eq_some_iff.1 hf
      have key : ∀ i, i < 32 → ∃ y : UInt8, cs[i]? = some (.int .u8 (y.toNat : Int)) := by
        intro i hi
        obtain ⟨b, hb, hf2⟩ := Lib.mapM_at hm i i (by simp [hi])
        obtain ⟨z, hc, _, hwf⟩ := DataW.trod_int Try.underlying5 hf2
        have hb8 := bounds_u8 hwf
        refine ⟨UInt8.ofNat z.toNat, ?_⟩
        have h2 : cs.toList[i]? = some (.int .u8 z) := by
          have := congrArg (·[0]?) hc
          simpa [List.getElem?_take, List.getElem?_drop] using this
        rw [← Array.getElem?_toList, h2]
        congr 2
        have : (UInt8.ofNat z.toNat).toNat = z.toNat % 256 := rfl
        omega
      refine ⟨(List.range 32).map (fun i => if h : i < 32 then Classical.choose (key i h) else 0), by simp, ?_⟩
      congr 1
      apply Array.toList_inj.1
      apply List.ext_getElem?
      intro i
      by_cases hi : i < 32
      · have hk := Classical.choose_spec (key i hi)
        rw [Array.getElem?_toList, hk]
        simp [bv, hi]
      · rw [Array.getElem?_toList, Array.getElem?_eq_none (by omega)]
        symm
        apply List.getElem?_eq_none
        simp only [bv, List.length_map, List.length_range]
        omega
    · cases hf
end Go.Proofs.Ytahnlnflcgehaaa

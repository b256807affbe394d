/-
  A disk's state; reach, Read.
-/
import Derived.Test.YtgladedjgjhlaaaTa
import Derived.Test.YtgladedjgjhlaaaKz
import Derived.Deep.MidRow
namespace Go.Proofs.Ytgladedjgjhlaaa
open Go.RowKit
set_option linter.unusedVariables false
set_option linter.unusedSimpArgs false

/-- The first n values of f as bytes. -/
def ub (n : Nat) (f : Nat → UInt8) : Array Value := ((List.range n).map fun j => Value.int .u8 ((f j).toNat : Int)).toArray
theorem ub_size (n : Nat) (f : Nat → UInt8) : (ub n f).size = n := by simp [ub]
theorem ub_get (n : Nat) (f : Nat → UInt8) (j : Nat) (hj : j < n) : (ub n f)[j]? = some (.int .u8 ((f j).toNat : Int)) := by simp [ub, hj]
theorem ub_one (n : Nat) (f : Nat → UInt8) : (ub n f).all (·.oneCell') = true := by simp [ub, Value.oneCell']
theorem ub_ext {cs : Array Value} {n : Nat} {f : Nat → UInt8} (h : cs.size = n) (h2 : ∀ j, j < n → cs[j]? = some (.int .u8 ((f j).toNat : Int))) : cs = ub n f := by
  apply Array.ext
  · rw [h, ub_size]
  · intro i h3 h4
    have a := h2 i (by omega)
    have b := ub_get n f i (by omega)
    rw [Array.getElem?_eq_getElem h3] at a
    rw [Array.getElem?_eq_getElem h4] at b
    exact (Option.some.inj a).trans (Option.some.inj b).symm
theorem ub_set (n : Nat) (f : Nat → UInt8) (i : Nat) (b : UInt8) (hi : i < n) : (ub n f).setIfInBounds i (.int .u8 (b.toNat : Int)) = ub n (fun j => if j = i then b else f j) := by
  refine ub_ext (by simp [ub_size]) (fun j hj => ?_)
  rw [Array.getElem?_setIfInBounds]
  by_cases h : i = j
  · subst h; simp [ub_size, hj]
  · rw [if_neg h, ub_get n f j hj, if_neg (fun e => h e.symm)]
theorem ub_congr {n : Nat} {f g : Nat → UInt8} (h : ∀ j, j < n → f j = g j) : ub n f = ub n g := ub_ext (ub_size n f) (fun j hj => by rw [ub_get n f j hj, h j hj])

/-- Blocks of 128 bytes behind each other. -/
def fl (f : Nat → Nat → UInt8) : Nat → UInt8 := fun k => f (k / 128) (k % 128)
def bk (n : Nat) (f : Nat → Nat → UInt8) : Array Value := ub (128 * n) (fl f)
theorem bk_size (n : Nat) (f : Nat → Nat → UInt8) : (bk n f).size = 128 * n := ub_size _ _
theorem bk_part (n : Nat) (f : Nat → Nat → UInt8) (i : Nat) (hi : i < n) : Part (bk n f) (128 * i) (ub 128 (f i)) := by
  intro j u hj
  have h1 : j < 128 := by have := (Array.getElem?_eq_some_iff.1 hj).1; rwa [ub_size] at this
  rw [ub_get 128 (f i) j h1] at hj
  rw [show bk n f = ub (128 * n) (fl f) from rfl, ub_get _ _ _ (by omega), ← hj]
  unfold fl
  rw [show (128 * i + j) / 128 = i by omega, show (128 * i + j) % 128 = j by omega]
/-- A row of blocks with one laid anew. -/
def bset (f : Nat → Nat → UInt8) (i : Nat) (b : Nat → UInt8) : Nat → Nat → UInt8 := fun k => if k = i then b else f k
theorem bk_set (n : Nat) (f : Nat → Nat → UInt8) (i : Nat) (hi : i < n) (b : Nat → UInt8) : ((bk n f).toList.take (128 * i) ++ (ub 128 b).toList ++ (bk n f).toList.drop (128 * i + 128)).toArray = bk n (bset f i b) := by
  have hs := bk_size n f
  refine (ub_ext (n := 128 * n) ?_ fun j hj => ?_)
  · simp [hs, ub_size]; omega
  · have e : (ub 128 b).toList.length = 128 := by rw [Array.length_toList, ub_size]
    have e2 : ((bk n f).toList.take (128 * i)).length = 128 * i := by rw [List.length_take, Array.length_toList, hs]; omega
    rw [List.getElem?_toArray]
    rcases Nat.lt_or_ge j (128 * i) with h1 | h1
    · rw [List.append_assoc, List.getElem?_append_left (by omega), List.getElem?_take_of_lt h1, Array.getElem?_toList]
      rw [show bk n f = ub (128 * n) (fl f) from rfl, ub_get _ _ _ hj]
      unfold fl bset
      rw [if_neg (by omega)]
    · rcases Nat.lt_or_ge j (128 * i + 128) with h2 | h2
      · rw [List.append_assoc, List.getElem?_append_right (by omega), e2, List.getElem?_append_left (by omega), Array.getElem?_toList, ub_get _ _ _ (by omega)]
        unfold fl bset
        rw [if_pos (by omega), show j % 128 = j - 128 * i by omega]
      · rw [List.getElem?_append_right (by rw [List.length_append]; omega), List.length_append, e2, e, List.getElem?_drop, show 128 * i + 128 + (j - (128 * i + 128)) = j by omega, Array.getElem?_toList]
        rw [show bk n f = ub (128 * n) (fl f) from rfl, ub_get _ _ _ hj]
        unfold fl bset
        rw [if_neg (by omega)]
/-- The cells of writes that wait. -/
def wcells (ws : List (Nat × (Nat → UInt8))) : List Value := ws.flatMap fun p => Value.int .i64 (p.1 : Int) :: (ub 128 p.2).toList
theorem wcells_length (ws : List (Nat × (Nat → UInt8))) : (wcells ws).length = ws.length * 129 := by
  induction ws with
  | nil => rfl
  | cons p ws ih =>
    rw [show wcells (p :: ws) = (Value.int .i64 (p.1 : Int) :: (ub 128 p.2).toList) ++ wcells ws from rfl, List.length_append, ih, List.length_cons, List.length_cons, Array.length_toList, ub_size]
    omega
/-- A disk, as it lies. -/
structure DA (w : World) (d bn bl n : Nat) (N L : Nat → Nat → UInt8) (ws : List (Nat × (Nat → UInt8))) (wv : Value) (wr ar : Int) (dn : Bool) (base : Nat) : Prop where
  blk : w.heap[d]? = some (.cells (dcells bn bl n wv wr ar dn) 106 (0, 0))
  now : w.heap[bn]? = some (.cells (bk n N) 30 (0, 0))
  las : w.heap[bl]? = some (.cells (bk n L) 30 (0, 0))
  own : w.ownsRow base 108 129 wv ws.length (wcells ws)
  d1 : d ≠ bn
  d2 : d ≠ bl
  d3 : bn ≠ bl
  o1 : wv.ownBlock ≠ some d
  o2 : wv.ownBlock ≠ some bn
  o3 : wv.ownBlock ≠ some bl
  b1 : base ≤ d
  b2 : base ≤ bn
  b3 : base ≤ bl
  hn : n ≤ 8192
  hw : ∀ p ∈ ws, p.1 < n
/-- The blocks that a disk's calls may touch. -/
def Tch (d bn bl : Nat) (wv : Value) : Nat → Prop := fun k => k = d ∨ k = bn ∨ k = bl ∨ wv.ownBlock = some k
theorem DA.fr {w w' : World} {d bn bl n : Nat} {N L : Nat → Nat → UInt8} {ws : List (Nat × (Nat → UInt8))} {wv : Value} {wr ar : Int} {dn : Bool} {base : Nat} {S : Nat → Prop} (h : DA w d bn bl n N L ws wv wr ar dn base) (hF : Fr S w w') (hS : ∀ k, Tch d bn bl wv k → ¬ S k) : DA w' d bn bl n N L ws wv wr ar dn base := by
  refine ⟨(hF.block d (lt_of_block h.blk) (hS _ (.inl rfl))).trans h.blk, (hF.block bn (lt_of_block h.now) (hS _ (.inr (.inl rfl)))).trans h.now, (hF.block bl (lt_of_block h.las) (hS _ (.inr (.inr (.inl rfl))))).trans h.las, ?_, h.d1, h.d2, h.d3, h.o1, h.o2, h.o3, h.b1, h.b2, h.b3, h.hn, h.hw⟩
  refine ⟨h.own.1, ?_⟩
  rcases h.own.2 with hn | ⟨g, cap, cur, e, hb, hg, rest⟩
  · exact .inl hn
  · refine .inr ⟨g, cap, cur, e, hb, ?_, rest⟩
    exact (hF.block g (lt_of_block hg) (hS _ (.inr (.inr (.inr (by rw [e]; rfl)))))).trans hg
theorem Fresh.da {w0 w : World} {d bn bl n : Nat} {Z : Array Value} (h : Fresh w0 w d bn bl n Z) (hn : n ≤ 8192) (hz : Z = bk n (fun _ _ => 0)) : DA w d bn bl n (fun _ _ => 0) (fun _ _ => 0) [] (.slice none 0 0) 0 0 false w0.heap.size :=
  ⟨h.blk, by rw [← hz]; exact h.now, by rw [← hz]; exact h.las, World.ownsRow_nil _ _ _ _, h.d1, h.d2, h.d3, by simp [Value.ownBlock], by simp [Value.ownBlock], by simp [Value.ownBlock], h.b1, h.b2, h.b3, hn, fun p hp => by simp at hp⟩
theorem z_bk (n : Nat) (Z : Array Value) (h1 : ∀ j, j < 128 * n → Z[j]? = some (.int .u8 0)) (h2 : Z.size = 128 * n) : Z = bk n (fun _ _ => 0) := ub_ext h2 (fun j hj => by rw [h1 j hj]; rfl)
set_option maxRecDepth 100000 in
theorem reach_nil (i : Int) (w : World) : Calls Try.prog 61 #[.pointer none, .int .i64 i] w fun e w' => e = .returned (.int .i64 1) ∧ Fr (fun _ => False) w w' := by
  go_enter Try.func61, Try.ntmps61
  go_wp2_with fail
  go_ret
  exact ⟨rfl, Fr.refl _ _⟩
/-- What reach tells. -/
def rcode (n : Nat) (dn : Bool) (i : Int) : Int := if dn then 13 else if 0 ≤ i ∧ i < (n : Int) then 0 else 1
set_option maxRecDepth 100000 in
set_option maxHeartbeats 1600000 in
theorem reach_any (d n : Nat) (a : Option Addr) (dn : Bool) (i : Int) (w : World) (c0 : w.cell? ⟨d, 0, none⟩ = some (.slice a n n)) (c5 : w.cell? ⟨d, 5, none⟩ = some (.bool dn)) : Calls Try.prog 61 #[.pointer (some ⟨d, 0, none⟩), .int .i64 i] w fun e w' => e = .returned (.int .i64 (rcode n dn i)) ∧ Fr (fun _ => False) w w' := by
  go_enter Try.func61, Try.ntmps61
  cases dn with
  | true =>
    go_wp2_with fail
    go_ret
    exact ⟨rfl, Fr.refl _ _⟩
  | false =>
    by_cases h1 : i < 0
    · have t1 : decide (i < 0) = true := by simpa using h1
      rw [show rcode n false i = 1 by unfold rcode; simp; omega]
      go_wp2_with fail
      go_ret
      exact ⟨rfl, Fr.refl _ _⟩
    · have t1 : decide (i < 0) = false := by simpa using h1
      by_cases h2 : (n : Int) ≤ i
      · have t2 : decide ((n : Int) ≤ i) = true := by simpa using h2
        rw [show rcode n false i = 1 by unfold rcode; simp; omega]
        go_wp2_with fail
        go_ret
        exact ⟨rfl, Fr.refl _ _⟩
      · have t2 : decide ((n : Int) ≤ i) = false := by simpa using h2
        rw [show rcode n false i = 0 by unfold rcode; simp; omega]
        go_wp2_with fail
        go_ret
        exact ⟨rfl, Fr.refl _ _⟩
end Go.Proofs.Ytgladedjgjhlaaa

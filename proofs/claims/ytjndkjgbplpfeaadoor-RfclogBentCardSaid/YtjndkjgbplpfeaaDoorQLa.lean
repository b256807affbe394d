/-
  A log of sums: plain definitions, of no program: the sum of a row of leaves, paths, proofs that a beginning is one, and what comes out of them.
  The greatest power of two below a number: math/bits.Len64, Len; split.
  Rows of sums; the sum of an entry, and of two sums.
  The sum of an entry; of a row of sums.
-/
import Derived.Test.YtjndkjgbplpfeaaDoorRs
import Derived.Test.YtjndkjgbplpfeaaDoorKo
import Derived.Lib.BitFns
import Derived.Lib.Walk
import Derived.Lib.Small
import Derived.Handy
import Derived.Test.YtjndkjgbplpfeaaDoorPa
import Derived.Test.YtjndkjgbplpfeaaDoorHo
import Derived.Test.YtjndkjgbplpfeaaDoorKs
import Derived.Test.YtjndkjgbplpfeaaDoorKw
import Derived.Lib.Hide
namespace Go.Proofs.YtjndkjgbplpfeaaDoor
set_option linter.unusedVariables false
namespace Lg
abbrev B := List UInt8
def leaf (e : B) : B := S2.sum (0 :: e)
def node (a b : B) : B := S2.sum (1 :: (a ++ b))
def none' : B := S2.sum []
def hf (n : Nat) : Nat := 2 ^ Nat.log2 (n - 1)
set_option maxRecDepth 100000 in
theorem hf_pos (n : Nat) : 0 < hf n := Nat.two_pow_pos _
set_option maxRecDepth 100000 in
theorem hf_lt {n : Nat} (h : 2 ≤ n) : hf n < n := by
  have := Nat.log2_self_le (show n - 1 ≠ 0 by omega)
  unfold hf; omega
set_option maxRecDepth 100000 in
theorem hf_two {n : Nat} (h : 2 ≤ n) : n ≤ 2 * hf n := by
  have := Nat.lt_log2_self (n := n - 1)
  unfold hf
  rw [Nat.pow_succ] at this
  omega
/-- The sum of a row of leaves. -/
def root : List B → B
  | [] => none'
  | [x] => x
  | x :: y :: L =>
    have h := hf_lt (n := L.length + 2) (by omega)
    have h0 := hf_pos (L.length + 2)
    node (root ((x :: y :: L).take (hf (L.length + 2)))) (root ((x :: y :: L).drop (hf (L.length + 2))))
termination_by L => L.length
decreasing_by
  · simp only [List.length_take, List.length_cons]; omega
  · simp only [List.length_drop, List.length_cons]; omega
set_option maxRecDepth 100000 in
theorem root_two {L : List B} (h : 2 ≤ L.length) : root L = node (root (L.take (hf L.length))) (root (L.drop (hf L.length))) := by
  match L, h with
  | x :: y :: L, _ => rw [root]; rfl
set_option maxRecDepth 100000 in
theorem root_nil : root [] = none' := by rw [root]
set_option maxRecDepth 100000 in
theorem root_one (x : B) : root [x] = x := by rw [root]
set_option maxRecDepth 100000 in
theorem leaf_len (e : B) : (leaf e).length = 32 := rfl
set_option maxRecDepth 100000 in
theorem node_len (a b : B) : (node a b).length = 32 := rfl
set_option maxRecDepth 100000 in
theorem none_len : none'.length = 32 := rfl
def All32 (L : List B) : Prop := ∀ x ∈ L, x.length = 32
set_option maxRecDepth 100000 in
theorem All32.take {L : List B} (h : All32 L) (k : Nat) : All32 (L.take k) := fun x hx => h x (List.mem_of_mem_take hx)
set_option maxRecDepth 100000 in
theorem All32.drop {L : List B} (h : All32 L) (k : Nat) : All32 (L.drop k) := fun x hx => h x (List.mem_of_mem_drop hx)
set_option maxRecDepth 100000 in
theorem All32.snoc {L : List B} {x : B} (h : All32 L) (hx : x.length = 32) : All32 (L ++ [x]) := fun y hy => by
  rcases List.mem_append.1 hy with hy | hy
  · exact h y hy
  · rw [List.mem_singleton.1 hy]; exact hx
set_option maxRecDepth 100000 in
theorem All32.nil : All32 [] := fun x hx => by cases hx
set_option maxRecDepth 100000 in
theorem root_len {L : List B} (h : All32 L) : (root L).length = 32 := by
  match L, h with
  | [], _ => rw [root_nil]; rfl
  | [x], h => rw [root_one]; exact h x (List.mem_singleton.2 rfl)
  | x :: y :: L, _ => rw [root_two (by simp)]; rfl
set_option maxRecDepth 100000 in
theorem All32.flat {L : List B} (h : All32 L) : L.flatten.length = L.length * 32 := by
  induction L with
  | nil => rfl
  | cons x L ih =>
    rw [List.flatten_cons, List.length_append, ih (fun y hy => h y (List.mem_cons_of_mem _ hy)), h x (List.mem_cons_self ..), List.length_cons]
    omega
set_option maxRecDepth 100000 in
theorem All32.flat_take {L : List B} (h : All32 L) (k : Nat) : L.flatten.take (k * 32) = (L.take k).flatten := by
  induction L generalizing k with
  | nil => simp
  | cons x L ih =>
    cases k with
    | zero => simp
    | succ k =>
      have hx := h x (List.mem_cons_self ..)
      rw [List.flatten_cons, List.take_succ_cons, List.flatten_cons, List.take_append, hx, show (k + 1) * 32 - 32 = k * 32 by omega, ih (fun y hy => h y (List.mem_cons_of_mem _ hy)), List.take_of_length_le (by omega)]
set_option maxRecDepth 100000 in
theorem All32.flat_drop {L : List B} (h : All32 L) (k : Nat) : L.flatten.drop (k * 32) = (L.drop k).flatten := by
  induction L generalizing k with
  | nil => simp
  | cons x L ih =>
    cases k with
    | zero => simp
    | succ k =>
      have hx := h x (List.mem_cons_self ..)
      rw [List.flatten_cons, List.drop_succ_cons, List.drop_append, hx, show (k + 1) * 32 - 32 = k * 32 by omega, ih (fun y hy => h y (List.mem_cons_of_mem _ hy)), List.drop_of_length_le (by omega), List.nil_append]
set_option maxRecDepth 100000 in
theorem All32.at {L : List B} (h : All32 L) {k : Nat} {x : B} (hx : L[k]? = some x) (j : Nat) (hj : j < 32) : L.flatten[k * 32 + j]? = x[j]? := by
  have hk := (List.getElem?_eq_some_iff.1 hx).1
  have e : L.drop k = x :: L.drop (k + 1) := by
    rw [List.drop_eq_getElem_cons hk]; congr 1
    exact (List.getElem?_eq_some_iff.1 hx).2
  rw [← List.getElem?_drop, h.flat_drop, e, List.flatten_cons, List.getElem?_append_left (by rw [h x (List.mem_of_getElem? hx)]; exact hj)]
/-- The path of the i-th of a row. -/
def path (i : Nat) (L : List B) : List B :=
  if h : L.length < 2 then [] else
    have h1 := hf_lt (n := L.length) (by omega)
    have h0 := hf_pos L.length
    if i < hf L.length then path i (L.take (hf L.length)) ++ [root (L.drop (hf L.length))]
    else path (i - hf L.length) (L.drop (hf L.length)) ++ [root (L.take (hf L.length))]
termination_by L.length
decreasing_by
  · simp only [List.length_take]; omega
  · simp only [List.length_drop]; omega
set_option maxRecDepth 100000 in
theorem path_one {i : Nat} {L : List B} (h : L.length < 2) : path i L = [] := by rw [path, dif_pos h]
set_option maxRecDepth 100000 in
theorem path_left {i : Nat} {L : List B} (h : 2 ≤ L.length) (hi : i < hf L.length) : path i L = path i (L.take (hf L.length)) ++ [root (L.drop (hf L.length))] := by
  rw [path, dif_neg (by omega)]; simp only [if_pos hi]
set_option maxRecDepth 100000 in
theorem path_right {i : Nat} {L : List B} (h : 2 ≤ L.length) (hi : ¬ i < hf L.length) : path i L = path (i - hf L.length) (L.drop (hf L.length)) ++ [root (L.take (hf L.length))] := by
  rw [path, dif_neg (by omega)]; simp only [if_neg hi]
set_option maxRecDepth 100000 in
theorem path_all : ∀ (n : Nat) (i : Nat) (L : List B), L.length ≤ n → All32 L → All32 (path i L)
  | 0, i, L, hn, h => by rw [path_one (by omega)]; exact .nil
  | n + 1, i, L, hn, h => by
    by_cases h2 : L.length < 2
    · rw [path_one h2]; exact .nil
    · have h1 := hf_lt (n := L.length) (by omega)
      have h0 := hf_pos L.length
      by_cases hi : i < hf L.length
      · rw [path_left (by omega) hi]
        exact (path_all n i _ (by rw [List.length_take]; omega) (h.take _)).snoc (root_len (h.drop _))
      · rw [path_right (by omega) hi]
        exact (path_all n _ _ (by rw [List.length_drop]; omega) (h.drop _)).snoc (root_len (h.take _))
/-- What shows that the first m of a row are its beginning. -/
def sub (m : Nat) (L : List B) (all : Bool) : List B :=
  if hm : m = L.length then (if all then [] else [root L]) else
  if h : L.length < 2 then [] else
    have h1 := hf_lt (n := L.length) (by omega)
    have h0 := hf_pos L.length
    if m ≤ hf L.length then sub m (L.take (hf L.length)) all ++ [root (L.drop (hf L.length))]
    else sub (m - hf L.length) (L.drop (hf L.length)) false ++ [root (L.take (hf L.length))]
termination_by L.length
decreasing_by
  · simp only [List.length_take]; omega
  · simp only [List.length_drop]; omega
set_option maxRecDepth 100000 in
theorem sub_all {L : List B} : sub L.length L true = [] := by rw [sub, dif_pos rfl]; rfl
set_option maxRecDepth 100000 in
theorem sub_own {L : List B} : sub L.length L false = [root L] := by rw [sub, dif_pos rfl]; rfl
set_option maxRecDepth 100000 in
theorem sub_left {m : Nat} {L : List B} {all : Bool} (hm : m ≠ L.length) (h : 2 ≤ L.length) (hi : m ≤ hf L.length) : sub m L all = sub m (L.take (hf L.length)) all ++ [root (L.drop (hf L.length))] := by
  rw [sub, dif_neg hm, dif_neg (by omega)]; simp only [if_pos hi]
set_option maxRecDepth 100000 in
theorem sub_right {m : Nat} {L : List B} {all : Bool} (hm : m ≠ L.length) (h : 2 ≤ L.length) (hi : ¬ m ≤ hf L.length) : sub m L all = sub (m - hf L.length) (L.drop (hf L.length)) false ++ [root (L.take (hf L.length))] := by
  rw [sub, dif_neg hm, dif_neg (by omega)]; simp only [if_neg hi]
/-- What comes out of a sum and a path (its last sum first); z: what stands for none. -/
def climb (z : B) (s : B) (i n : Nat) : List B → B × Bool
  | [] => if n = 1 then (s, true) else (z, false)
  | x :: r => if n = 1 then (s, false) else
    if i < hf n then (node (climb z s i (hf n) r).1 x, (climb z s i (hf n) r).2)
    else (node x (climb z s (i - hf n) (n - hf n) r).1, (climb z s (i - hf n) (n - hf n) r).2)
set_option maxRecDepth 100000 in
theorem climb_same (z y s : B) : ∀ (r : List B) (i n : Nat), (climb z s i n r).2 = (climb y s i n r).2 ∧ ((climb y s i n r).2 = true → (climb z s i n r).1 = (climb y s i n r).1)
  | [], i, n => by unfold climb; split <;> simp
  | x :: r, i, n => by
    unfold climb
    split
    · simp
    · split
      · have := climb_same z y s r i (hf n)
        exact ⟨this.1, fun h => by have h := this.2 h; simp only [h]⟩
      · have := climb_same z y s r (i - hf n) (n - hf n)
        exact ⟨this.1, fun h => by have h := this.2 h; simp only [h]⟩
/-- The program's, for the first m and for all. -/
def both (z old : B) (m n : Nat) (all : Bool) : List B → B × B × Bool
  | [] => if m = n ∧ all = true then (old, old, true) else (z, z, false)
  | x :: r => if m = n then (if all then (old, old, false) else (x, x, r.isEmpty)) else
    if m ≤ hf n then ((both z old m (hf n) all r).1, node (both z old m (hf n) all r).2.1 x, (both z old m (hf n) all r).2.2)
    else (node x (both z old (m - hf n) (n - hf n) false r).1, node x (both z old (m - hf n) (n - hf n) false r).2.1, (both z old (m - hf n) (n - hf n) false r).2.2)
/-- The document's. -/
def bothD (old : B) (m n : Nat) (all : Bool) : List B → B × B × Bool
  | [] => if m = n ∧ all = true then (old, old, true) else ([], [], false)
  | x :: r => if m = n then (if all then (old, old, false) else (if r.isEmpty then (x, x, true) else ([], [], false))) else
    if m ≤ hf n then ((bothD old m (hf n) all r).1, node (bothD old m (hf n) all r).2.1 x, (bothD old m (hf n) all r).2.2)
    else (node x (bothD old (m - hf n) (n - hf n) false r).1, node x (bothD old (m - hf n) (n - hf n) false r).2.1, (bothD old (m - hf n) (n - hf n) false r).2.2)
set_option maxRecDepth 100000 in
theorem both_same (z old : B) : ∀ (r : List B) (m n : Nat) (all : Bool), (both z old m n all r).2.2 = (bothD old m n all r).2.2 ∧ ((bothD old m n all r).2.2 = true → both z old m n all r = bothD old m n all r)
  | [], m, n, all => by
    unfold both bothD; split <;> simp
  | x :: r, m, n, all => by
    unfold both bothD
    split
    · cases all
      · cases r <;> simp
      · simp
    · split
      · have := both_same z old r m (hf n) all
        exact ⟨this.1, fun h => by have h := this.2 h; rw [h]⟩
      · have := both_same z old r (m - hf n) (n - hf n) false
        exact ⟨this.1, fun h => by have h := this.2 h; rw [h]⟩
end Lg
end Go.Proofs.YtjndkjgbplpfeaaDoor
namespace Go.Proofs.YtjndkjgbplpfeaaDoor
open Go.RowKit
set_option linter.unusedVariables false
set_option linter.unusedSimpArgs false
set_option maxRecDepth 100000 in
theorem aux_log : ∀ (f x : Nat), 0 < x → x < 2 ^ f → Go.Lib.bitLenAux f x = Nat.log2 x + 1
  | 0, x, h0, h => by simp at h; omega
  | f + 1, x, h0, h => by
    rw [Go.Lib.bitLenAux, if_neg (by omega)]
    by_cases h1 : x = 1
    · subst h1
      cases f <;> simp [Go.Lib.bitLenAux] <;> decide
    · rw [aux_log f (x / 2) (by omega) (by rw [Nat.pow_succ] at h; omega)]
      have : Nat.log2 x = Nat.log2 (x / 2) + 1 := by rw [Nat.log2_def, if_pos (by omega)]
      omega
set_option maxRecDepth 100000 in
theorem bitLen_log (x : Nat) (h0 : 0 < x) (h : x < 2 ^ 64) : Go.Lib.bitLen x = Nat.log2 x + 1 := aux_log 64 x h0 h
set_option maxRecDepth 100000 in
theorem fin0 (y : Int) (h0 : 0 ≤ y) (h1 : y ≤ 255) : wrap64 (wrap64 (Go.Lib.len8 y)) = (Go.Lib.bitLen y.toNat : Int) := by
  have l := Go.Lib.bitLen_le8' y h0 h1
  rw [Go.Lib.len8_of y h0 h1, IntWalk.wrap64_in (Go.Lib.bitLen y.toNat : Int) (by omega), IntWalk.wrap64_in _ (by omega)]
set_option maxRecDepth 100000 in
theorem fin8 (x y : Int) (s : Nat) (h0 : 0 ≤ y) (h1 : y ≤ 255) (hs : s ≤ 56) (h : Go.Lib.bitLen x.toNat = s + Go.Lib.bitLen y.toNat) : wrap64 ((s : Int) + wrap64 (Go.Lib.len8 y)) = (Go.Lib.bitLen x.toNat : Int) := by
  have l := Go.Lib.bitLen_le8' y h0 h1
  rw [Go.Lib.len8_of y h0 h1, IntWalk.wrap64_in (Go.Lib.bitLen y.toNat : Int) (by omega), IntWalk.wrap64_in _ (by omega), h]
  omega
set_option maxRecDepth 100000 in
theorem tab_get (i : Int) (h : i.toNat < Go.Lib.len8tab.size) : ((Go.Lib.len8tab[i.toNat]'h).toNat : Int) = Go.Lib.len8 i := by
  unfold Go.Lib.len8
  rw [getElem?_pos Go.Lib.len8tab i.toNat h]
  rfl
set_option maxRecDepth 100000 in
set_option maxHeartbeats 3200000 in
theorem len64_int (x : Int) (w : World) (h0 : 0 ≤ x) (h1 : x ≤ 18446744073709551615) : Calls Tryd.prog 52 #[.int .u64 x] w fun e w' => e = .returned (.int .i64 (Go.Lib.bitLen x.toNat)) ∧ w' = w := by
  have v9 := Tryd.underlying9
  go_enter Tryd.func52, Tryd.ntmps52
  have hs := Go.Lib.len8tab_size
  go_wp2
  all_goals (go_ret; refine ⟨congrArg Ending.returned (congrArg (Value.int IntKind.i64) ?_), rfl⟩)
  all_goals rw [tab_get]
  all_goals first
    | exact fin8 x (x / 4294967296 / 65536 / 256) 56 (by omega) (by omega) (by omega) (by rw [Go.Lib.bitLen_shift56 x.toNat (by omega) (by omega)]; congr 2; omega)
    | exact fin8 x (x / 4294967296 / 65536) 48 (by omega) (by omega) (by omega) (by rw [Go.Lib.bitLen_shift48 x.toNat (by omega) (by omega)]; congr 2; omega)
    | exact fin8 x (x / 4294967296 / 256) 40 (by omega) (by omega) (by omega) (by rw [Go.Lib.bitLen_shift40 x.toNat (by omega) (by omega)]; congr 2; omega)
    | exact fin8 x (x / 4294967296) 32 (by omega) (by omega) (by omega) (by rw [Go.Lib.bitLen_shift32 x.toNat (by omega) (by omega)]; congr 2; omega)
    | exact fin8 x (x / 65536 / 256) 24 (by omega) (by omega) (by omega) (by rw [Go.Lib.bitLen_shift24 x.toNat (by omega) (by omega)]; congr 2; omega)
    | exact fin8 x (x / 65536) 16 (by omega) (by omega) (by omega) (by rw [Go.Lib.bitLen_shift16 x.toNat (by omega) (by omega)]; congr 2; omega)
    | exact fin8 x (x / 256) 8 (by omega) (by omega) (by omega) (by rw [Go.Lib.bitLen_shift8 x.toNat (by omega) (by omega)]; congr 2; omega)
    | exact fin0 x (by omega) (by omega)

set_option maxRecDepth 100000 in
set_option maxHeartbeats 3200000 in
theorem len_int (x : Int) (w : World) (h0 : 0 ≤ x) (h1 : x ≤ 18446744073709551615) : Calls Tryd.prog 46 #[.int .u64 x] w fun e w' => e = .returned (.int .i64 (Go.Lib.bitLen x.toNat)) ∧ w' = w := by
  have HL := Lib.hid (fun w => len64_int x w h0 h1)
  clear h0 h1
  go_enter Tryd.func46, Tryd.ntmps46
  go_wp2_with fail
  refine (HL.out w).mono ?_
  rintro e w1 ⟨rfl, rfl⟩
  go_wp2_with fail
  go_ret
  exact ⟨rfl, rfl⟩
set_option maxRecDepth 100000 in
theorem shl_one (k : Nat) (h : k < 63) : wrap64 (2 ^ k) = ((2 ^ k : Nat) : Int) := by
  have : (2 ^ k : Nat) ≤ 2 ^ 62 := Nat.pow_le_pow_right (by decide) (by omega)
  have e : ((2 ^ k : Nat) : Int) = 2 ^ k := by simp
  rw [← e]
  exact IntWalk.wrap64_in _ (by generalize (2 : Nat) ^ k = q at *; omega)
set_option maxRecDepth 100000 in
set_option maxHeartbeats 3200000 in
theorem split_any (n : Nat) (h2 : 2 ≤ n) (h9 : n ≤ 9223372036854775807) (w : World) : Calls Tryd.prog 42 #[.int .i64 (n : Int)] w fun e w' => e = .returned (.int .i64 (Lg.hf n : Int)) ∧ Fr (fun _ => False) w w' := by
  have hl : Nat.log2 (n - 1) < 63 := (Nat.log2_lt (by omega)).2 (by omega)
  obtain ⟨k, hk⟩ : ∃ k, k = Nat.log2 (n - 1) := ⟨_, rfl⟩
  have e0 : Lg.hf n = 2 ^ k := by rw [Lg.hf, hk]
  have e1 : Go.Lib.bitLen ((n : Int) - 1).toNat = k + 1 := by rw [hk, ← bitLen_log (n - 1) (by omega) (by omega)]; congr 1; omega
  have HL := Lib.hid (fun w => len_int ((n : Int) - 1) w (by omega) (by omega))
  rw [e1] at HL
  have w1 : wrap64 ((n : Int) - 1) = (n : Int) - 1 := IntWalk.wrap64_in _ (by omega)
  have w2 : IntKind.u64.wrap ((n : Int) - 1) = (n : Int) - 1 := by rw [IntKind.wrap_u64]; omega
  rw [← hk] at hl
  have HS := Lib.hid (shl_one k hl)
  have HB := Lib.hid (And.intro e0 hl)
  clear h2 h9 hl hk e0 e1
  go_enter Tryd.func42, Tryd.ntmps42
  go_wp2_with fail
  refine (HL.out w).mono ?_
  rintro e w3 ⟨rfl, rfl⟩
  clear w1 w2
  have q0 : wrap64 (((k + 1 : Nat) : Int) - 1) = (k : Int) := by have := HB.out.2; rw [IntWalk.wrap64_in _ (by omega)]; omega
  have q1 : ¬ ((k : Int) < 0) := by omega
  have q2 : wrap64 (k : Int) = (k : Int) := by have := HB.out.2; exact IntWalk.wrap64_in _ (by omega)
  go_wp2_with fail
  go_ret
  refine ⟨?_, Fr.refl _ _⟩
  rw [HB.out.1, ← HS.out]
  have e : min k 64 = k := by have := HB.out.2; omega
  rw [e]
  rfl
end Go.Proofs.YtjndkjgbplpfeaaDoor
namespace Go.Proofs.YtjndkjgbplpfeaaDoor
open Go.RowKit
set_option linter.unusedVariables false
set_option linter.unusedSimpArgs false
def krow (l : List UInt8) : Array Value := (bv l).toArray
set_option maxRecDepth 100000 in
theorem krow_size (l : List UInt8) : (krow l).size = l.length := by simp [krow]
set_option maxRecDepth 100000 in
theorem krow_one (l : List UInt8) : (krow l).all (·.oneCell') = true := by
  rw [Array.all_eq_true_iff_forall_mem]
  intro x hx
  obtain ⟨b, _, rfl⟩ := List.mem_map.1 (by simpa [krow, bv] using hx)
  rfl
set_option maxRecDepth 100000 in
theorem krow_one' (l : List UInt8) : ∀ u ∈ (krow l).toList, u.oneCell' = true := by
  intro u hu
  exact bv_one l u (by simpa [krow] using hu)
set_option maxRecDepth 100000 in
theorem krow_get {l : List UInt8} {j : Nat} (u : Value) (h : (krow l)[j]? = some u) : ∃ b, l[j]? = some b ∧ u = .int .u8 (b.toNat : Int) := by
  rw [krow, List.getElem?_toArray, bv_get] at h
  obtain ⟨b, h1, h2⟩ := Option.map_eq_some_iff.1 h
  exact ⟨b, h1, h2.symm⟩
set_option maxRecDepth 100000 in
theorem krow_sum (l : List UInt8) : sumc l = krow (S2.sum l) := sumc_map l
set_option maxRecDepth 100000 in
theorem sz32 : (Tryd.prog.info? 31).map (·.size) = some 32 := by kernel_rfl
set_option maxRecDepth 100000 in
theorem sz32' {l : List UInt8} (h : l.length = 32) : (Tryd.prog.info? 31).map (·.size) = some (krow l).size := by rw [krow_size, h]; exact sz32
set_option maxRecDepth 100000 in
theorem came_row {W : World} {b : Nat} {l : List UInt8} {t : TypeId} {fr : Nat × Nat} (h : W.heap[b]? = some (.cells (krow l) t fr)) (hl : l.length ≤ 1000) : Came W (some ⟨b, 0, none⟩) l.length l.length l := by
  refine ⟨rfl, Nat.le_refl _, by unfold maxLen; omega, Or.inr ⟨b, 0, rfl, fun j hj => ?_⟩, fun e => by cases e⟩
  rw [Nat.zero_add, cell_of_block h, krow, List.getElem?_toArray, bv_get' l j hj]
set_option maxRecDepth 100000 in
theorem came_cells {W : World} {b : Nat} {l : List UInt8} {cs : Array Value} {t : TypeId} {fr : Nat × Nat} (h : W.heap[b]? = some (.cells cs t fr)) (hcs : cs = krow l) (hl : l.length ≤ 1000) : Came W (some ⟨b, 0, none⟩) l.length l.length l := by subst hcs; exact came_row h hl
set_option maxRecDepth 100000 in
theorem parts3 {w : World} {b : Nat} {a a2 a3 : Option Addr} {n n2 n3 c c2 c3 : Nat} {x y z : List UInt8} {t : TypeId} {fr : Nat × Nat} (h : w.heap[b]? = some (.cells #[.slice a n c, .slice a2 n2 c2, .slice a3 n3 c3] t fr)) (hx : Came w a n c x) (hy : Came w a2 n2 c2 y) (hz : Came w a3 n3 c3 z) : Parts w (some ⟨b, 0, none⟩) [x, y, z] := by
  refine Or.inr ⟨b, 0, rfl, fun j hj => ?_⟩
  match j, hj with
  | 0, _ => exact ⟨a, c, by rw [cell_of_block h]; simp [hx.len], hx.lies, by have := hx.le; have := hx.len; simp; omega, hx.mx⟩
  | 1, _ => exact ⟨a2, c2, by rw [cell_of_block h]; simp [hy.len], hy.lies, by have := hy.le; have := hy.len; simp; omega, hy.mx⟩
  | 2, _ => exact ⟨a3, c3, by rw [cell_of_block h]; simp [hz.len], hz.lies, by have := hz.le; have := hz.len; simp; omega, hz.mx⟩
set_option maxRecDepth 100000 in
theorem Came.ext {w w2 : World} {a : Option Addr} {n c : Nat} {l : List UInt8} (h : Came w a n c l) (F : Fr (fun _ => False) w w2) : Came w2 a n c l := h.grow F (fun _ _ h => h)
set_option maxRecDepth 100000 in
theorem Env.ext {w w2 : World} (h : Env w) (F : Fr (fun _ => False) w w2) : Env w2 := h.fr F (fun h => h)
set_option maxRecDepth 100000 in
theorem wpList_val {P : Program} {ops : Array Oper} {rest : List Oper} {o : Oper} {a : Act} {w w' : World} {v : Value} {Q : Exit → Act → World → Prop} (hgd : o.guard = none) (hr : (execOp a.eval o).run P w = .ok (.value v) w') (h : wpList P ops Q rest (a.put o.dst v) w') : wpList P ops Q (o :: rest) a w :=
  wpList_plain hgd fun _ hK => by
    unfold Oper.wp
    rw [hr]
    exact hK _ _ h
set_option maxRecDepth 100000 in
theorem wpList_buildSlice {P : Program} {ops : Array Oper} {rest : List Oper} {o : Oper} {a : Act} {w : World} {Q : Exit → Act → World → Prop} (hgd : o.guard = none) (t : TypeId) (m : Nat) (parts : Array (Nat × Operand)) (ho : o.op = .buildSlice t m parts) (vs : Array (Nat × Value)) (hvs : (parts.map fun (p : Nat × Operand) => (p.1, a.eval p.2)) = vs) {w' : World} {v : Value} (hr : (Instr.buildSlice t m vs).run P w = .ok v w') (h : wpList P ops Q rest (a.put o.dst v) w') : wpList P ops Q (o :: rest) a w := by
  refine wpList_val hgd (v := v) (w' := w') ?_ h
  unfold execOp
  simp only [ho, hvs, Sem.run_bind, Result.andThen_ok, Sem.run_pure, hr]
set_option maxRecDepth 100000 in
theorem mkB (z : Int) (w : World) : (Instr.buildSlice 35 1 #[(0, .int .u8 z)]).run Tryd.prog w = .ok (.slice (some ⟨w.heap.size, 0, none⟩) 1 1) (w.alloc (.cells #[.int .u8 z] 5)) := by kernel_rfl
set_option maxRecDepth 100000 in
theorem mkB2 (a b : Value) (h1 : a.cells = #[a]) (h2 : b.cells = #[b]) (w : World) : True := trivial
set_option maxRecDepth 100000 in
theorem mkP2 (a1 a2 : Option Addr) (n1 c1 n2 c2 : Nat) (w : World) : (Instr.buildSlice 22 2 #[(0, .slice a1 n1 c1), (1, .slice a2 n2 c2)]).run Tryd.prog w = .ok (.slice (some ⟨w.heap.size, 0, none⟩) 2 2) (w.alloc (.cells #[.slice a1 n1 c1, .slice a2 n2 c2] 35)) := by kernel_rfl
set_option maxRecDepth 100000 in
theorem mkP3 (a1 a2 a3 : Option Addr) (n1 c1 n2 c2 n3 c3 : Nat) (w : World) : (Instr.buildSlice 22 3 #[(0, .slice a1 n1 c1), (1, .slice a2 n2 c2), (2, .slice a3 n3 c3)]).run Tryd.prog w = .ok (.slice (some ⟨w.heap.size, 0, none⟩) 3 3) (w.alloc (.cells #[.slice a1 n1 c1, .slice a2 n2 c2, .slice a3 n3 c3] 35)) := by kernel_rfl
set_option maxRecDepth 100000 in
/-- A row stored into a block of the call's own, which is its result. -/
theorem done_row {f : Func} {Q : Ending → World → Prop} : True := trivial
set_option maxRecDepth 100000 in
set_option maxHeartbeats 6400000 in
theorem nsum_any (a b : List UInt8) (ha : a.length = 32) (hb : b.length = 32) (w : World) (hE : Env w) :
    Calls Tryd.prog 43 #[.agg (krow a), .agg (krow b)] w fun e w' => e = .returned (.agg (krow (Lg.node a b))) ∧ Fr (fun _ => False) w w' := by
  have s1 := sz32' ha
  have s2 := sz32' hb
  have B0 := heap_three w (.cells (krow a) 31) (.cells (krow b) 31) (.cells (ub 32 (fun _ => 0)) 31)
  have B1 := heap_three1 w (.cells (krow a) 31) (.cells (krow b) 31) (.cells (ub 32 (fun _ => 0)) 31)
  have B2 := heap_three2 w (.cells (krow a) 31) (.cells (krow b) 31) (.cells (ub 32 (fun _ => 0)) 31)
  have F0 := (((Fr.refl (fun _ => False) w).alloc (.cells (krow a) 31)).alloc (.cells (krow b) 31)).alloc (.cells (ub 32 (fun _ => 0)) 31)
  have HL := Lib.hid (And.intro ha hb)
  have CA := came_row B0 (by omega)
  have CB := came_row B1 (by omega)
  rw [ha] at CA
  rw [hb] at CB
  have HA := Lib.hid CA
  have HB := Lib.hid CB
  have HZ := Lib.hid B2
  have HE := Lib.hid (hE.ext F0)
  have HF := Lib.hid F0
  clear CA CB B0 B1 B2 F0 hE ha hb
  go_enter Tryd.func43, Tryd.ntmps43
  go_wp2_with fail
  rw [zero32]
  generalize (((w.alloc (.cells (krow a) 31)).alloc (.cells (krow b) 31)).alloc (.cells (ub 32 (fun _ => 0)) 31)) = w3 at *
  refine Ks.wp_region_mono (fun b => b = w.heap.size + 2) (sg 1 2 ++ ((0, true) :: ((3, true) :: ((4, true) :: ((5, true) :: ([])))))) (by kernel_rfl) (by kernel_rfl) ?_
  refine Ks.Wk.seg 1 2 (by kernel_rfl) (by kernel_rfl) ?_
  apply Exists.intro
  refine ⟨?wk0, ?fin0⟩
  case wk0 =>
    intro γ
    simp only [List.drop_succ_cons, List.drop_zero, List.take_succ_cons, List.take_zero]
    repeat (any_goals (first | go_big_quiet_step (fail) | quiet_step (fail)))
    exact wpQuiet_nil rfl
  case fin0 =>
  (try simp only [Act.put, List.setIfInBounds_toArray, List.set_cons_zero, List.set_cons_succ])
  refine Ks.Wk.one rfl (fun w4 Xw4 => ?_)
  refine wpList_buildSlice rfl 35 1 _ rfl #[(0, .int .u8 1)] (by first | kernel_rfl | rfl | simp [Act.eval]) (mkB 1 w4) ⟨rfl, Ks.Es.of ((Fr.refl _ w4).alloc _), ?_⟩
  (try simp only [Act.put, List.setIfInBounds_toArray, List.set_cons_zero, List.set_cons_succ])
  have B1 := heap_alloc_new w4 (.cells #[.int .u8 1] 5)
  have X4 : Fr (fun _ => False) w3 (w4.alloc (.cells #[.int .u8 1] 5)) := Xw4.alloc _
  refine Ks.Wk.one rfl (fun w5 Xw5 => ?_)
  refine wpList_buildSlice rfl 22 3 _ rfl #[(0, .slice (some ⟨w4.heap.size, 0, none⟩) 1 1), (1, .slice (some ⟨w.heap.size, 0, none⟩) 32 32), (2, .slice (some ⟨w.heap.size + 1, 0, none⟩) 32 32)] (by first | kernel_rfl | rfl | simp [Act.eval]) (mkP3 _ _ _ _ _ _ _ _ _ w5) ⟨rfl, Ks.Es.of ((Fr.refl _ w5).alloc _), ?_⟩
  (try simp only [Act.put, List.setIfInBounds_toArray, List.set_cons_zero, List.set_cons_succ])
  have F5 := (Fr.refl (fun _ => False) w5).alloc (.cells #[.slice (some ⟨w4.heap.size, 0, none⟩) 1 1, .slice (some ⟨w.heap.size, 0, none⟩) 32 32, .slice (some ⟨w.heap.size + 1, 0, none⟩) 32 32] 35)
  have B2 := heap_alloc_new w5 (.cells #[.slice (some ⟨w4.heap.size, 0, none⟩) 1 1, .slice (some ⟨w.heap.size, 0, none⟩) 32 32, .slice (some ⟨w.heap.size + 1, 0, none⟩) 32 32] 35)
  have X5 : Fr (fun _ => False) w3 (w5.alloc (.cells #[.slice (some ⟨w4.heap.size, 0, none⟩) 1 1, .slice (some ⟨w.heap.size, 0, none⟩) 32 32, .slice (some ⟨w.heap.size + 1, 0, none⟩) 32 32] 35)) := (X4.trans Xw5 (fun _ h => h.elim)).trans F5 (fun _ h => h.elim)
  have C1 : Came (w5.alloc (.cells #[.slice (some ⟨w4.heap.size, 0, none⟩) 1 1, .slice (some ⟨w.heap.size, 0, none⟩) 32 32, .slice (some ⟨w.heap.size + 1, 0, none⟩) 32 32] 35)) (some ⟨w4.heap.size, 0, none⟩) 1 1 [1] := ((came_cells (l := [1]) B1 rfl (by decide)).ext Xw5).ext F5
  have C2 := HA.out.ext X5
  have C3 := HB.out.ext X5
  have P3 := parts3 B2 C1 C2 C3
  have E5 := HE.out.ext X5
  generalize (w5.alloc (.cells #[.slice (some ⟨w4.heap.size, 0, none⟩) 1 1, .slice (some ⟨w.heap.size, 0, none⟩) 32 32, .slice (some ⟨w.heap.size + 1, 0, none⟩) 32 32] 35)) = v5 at *
  refine Ks.Wk.call rfl (by kernel_rfl) 40 #[.slice (some ⟨w5.heap.size, 0, none⟩) 3 3] (fun W => by first | kernel_rfl | rfl) (fun v W => v = .agg (krow (Lg.node a b))) (fun W hx => (psum_any _ [[1], a, b] 3 3 rfl W (P3.grow hx) (by unfold maxLen; omega) (by have := HL.out.1; have := HL.out.2; simp; omega) (E5.ext hx)).mono ?_) ?_
  · rintro e W' ⟨rfl, F⟩
    refine ⟨_, rfl, F, ?_⟩
    rw [krow_sum]; simp [Lg.node]
  rintro v w6 X6 rfl
  (try simp only [List.getElem_toArray, List.getElem_cons_succ, List.getElem_cons_zero, Act.put, List.setIfInBounds_toArray, List.set_cons_zero, List.set_cons_succ])
  refine Ks.Wk.one rfl (fun w7 Xw7 => ?_)
  have HZ7 := (Xw7.block _ (lt_of_block ((X6.block _ (lt_of_block ((X5.block _ (lt_of_block HZ.out) (fun h => h)).trans HZ.out)) (fun h => h)).trans ((X5.block _ (lt_of_block HZ.out) (fun h => h)).trans HZ.out))) (fun h => h)).trans ((X6.block _ (lt_of_block ((X5.block _ (lt_of_block HZ.out) (fun h => h)).trans HZ.out)) (fun h => h)).trans ((X5.block _ (lt_of_block HZ.out) (fun h => h)).trans HZ.out))
  refine wpList_store_rowA rfl 31 (.tmp 4) (.tmp 9) rfl (w.heap.size + 2) (krow (Lg.node a b)) rfl rfl 31 _ HZ7 (sz32' (Lg.node_len _ _)) (by rw [ub_size, krow_size, Lg.node_len]) (krow_one _) (fun w8 B8 F8 => ⟨rfl, F8, ?_⟩)
  (try simp only [Act.put, List.setIfInBounds_toArray, List.set_cons_zero, List.set_cons_succ])
  intro w9 X9
  have X39 : Fr (fun b => b = w.heap.size + 2) w3 w9 := (((X5.trans X6 (fun _ h => h.elim)).trans Xw7 (fun _ h => h.elim)).mono (T := fun b => b = w.heap.size + 2) (fun _ _ h => h.elim)).trans (F8.trans X9 (fun _ h => h.elim)) (fun _ h => .inl h)
  have B9 := Lib.hid ((X9.block _ (lt_of_block B8) (fun h => h)).trans B8)
  have HX := Lib.hid (HF.out.trans X39 (fun k h => .inr (by rw [h]; omega)))
  clear X39 B8 F8 X9 HZ7 Xw7 X6 X5 E5 P3 C1 C2 C3 B2 F5 X4 B1 Xw4 Xw5
  go_wp2_with fail
  refine bodyPost_ret (results_cell_row rfl _ _ (w.heap.size + 2) 31 (krow (Lg.node a b)) (0, 0) _ rfl B9.out Tryd.underlying31 rfl (sz32' (Lg.node_len _ _))) rfl ?_
  exact ⟨rfl, HX.out⟩
end Go.Proofs.YtjndkjgbplpfeaaDoor
namespace Go.Proofs.YtjndkjgbplpfeaaDoor
open Go.RowKit
set_option linter.unusedVariables false
set_option linter.unusedSimpArgs false
set_option maxRecDepth 100000 in
theorem entry_any (a : Option Addr) (n c : Nat) (l : List UInt8) (w : World) (h : Came w a n c l) (hn : n ≤ 100000) (hE : Env w) :
    Calls Tryd.prog 26 #[.slice a n c] w fun e w' => e = .returned (.agg (krow (Lg.leaf l))) ∧ Fr (fun _ => False) w w' := by
  have hl := h.len
  go_enter Tryd.func26, Tryd.ntmps26
  go_wp2_with fail
  rw [zero32]
  have B0 := heap_three w (.cells (ub 32 (fun _ => 0)) 31) (.cells #[.int .u8 0] 5) (.cells #[.slice (some ⟨w.heap.size + 1, 0, none⟩) 1 1, .slice a n c] 35)
  have B1 := heap_three1 w (.cells (ub 32 (fun _ => 0)) 31) (.cells #[.int .u8 0] 5) (.cells #[.slice (some ⟨w.heap.size + 1, 0, none⟩) 1 1, .slice a n c] 35)
  have B2 := heap_three2 w (.cells (ub 32 (fun _ => 0)) 31) (.cells #[.int .u8 0] 5) (.cells #[.slice (some ⟨w.heap.size + 1, 0, none⟩) 1 1, .slice a n c] 35)
  have F0 := (((Fr.refl (fun _ => False) w).alloc (.cells (ub 32 (fun _ => 0)) 31)).alloc (.cells #[.int .u8 0] 5)).alloc (.cells #[.slice (some ⟨w.heap.size + 1, 0, none⟩) 1 1, .slice a n c] 35)
  generalize (((w.alloc (.cells (ub 32 (fun _ => 0)) 31)).alloc (.cells #[.int .u8 0] 5)).alloc (.cells #[.slice (some ⟨w.heap.size + 1, 0, none⟩) 1 1, .slice a n c] 35)) = w3 at *
  refine (psum_any _ [[0], l] 2 2 rfl _ (parts2 B2 (came_cells (l := [0]) B1 rfl (by decide)) (h.grow F0 (fun _ _ h => h))) (by unfold maxLen; omega) (by simp; omega) (hE.fr F0 (fun h => h))).mono ?_
  rw [show ([[0], l] : List (List UInt8)).flatten = 0 :: l by simp]
  rintro e w4 ⟨rfl, F4⟩
  have B4 := (F4.block _ (lt_of_block B0) (fun h => h)).trans B0
  have hst := run_store32 (l := 0 :: l) B4 (ub_size _ _)
  have HB4 := Lib.hid B4
  clear B0 B1 B2 B4
  go_wp2_with fail
  refine bodyPost_ret (results_cell_row rfl _ _ w.heap.size 31 (sumc (0 :: l)) (0, 0) _ rfl (setRow_heap _ _ _ _ _ _ HB4.out) Tryd.underlying31 rfl Tryd.sizeC) rfl ?_
  refine ⟨?_, (F0.trans F4 (fun _ h => h.elim)).trans (Fr.setRow (S := fun k => k = w.heap.size) (Fr.refl _ _) rfl _) (fun i hi => Or.inr (by omega))⟩
  rw [krow_sum]; rfl
/-- Rows of 32 bytes that lie behind an address. -/
structure Kv (w : World) (a : Option Addr) (L : List (List UInt8)) : Prop where
  lies : Lies w a L.flatten
  all : Lg.All32 L
set_option maxRecDepth 100000 in
theorem Kv.ext {w w2 : World} {a : Option Addr} {L : List (List UInt8)} (h : Kv w a L) (F : Fr (fun _ => False) w w2) : Kv w2 a L := ⟨h.lies.grow F, h.all⟩
set_option maxRecDepth 100000 in
theorem Kv.fr {w w2 : World} {a : Option Addr} {L : List (List UInt8)} {S : Nat → Prop} (h : Kv w a L) (F : Fr S w w2) (hS : ∀ k, inBlk a k → ¬ S k) : Kv w2 a L := ⟨h.lies.fr F hS, h.all⟩
set_option maxRecDepth 100000 in
theorem Kv.nil (w : World) (a : Option Addr) : Kv w a [] := ⟨Or.inl rfl, .nil⟩
set_option maxRecDepth 100000 in
theorem Kv.take {w : World} {a : Option Addr} {L : List (List UInt8)} (h : Kv w a L) (k : Nat) : Kv w a (L.take k) := ⟨by rw [← h.all.flat_take k]; exact h.lies.take _, h.all.take k⟩
set_option maxRecDepth 100000 in
theorem Kv.drop {w : World} {g off : Nat} {L : List (List UInt8)} (h : Kv w (some ⟨g, off, none⟩) L) (k : Nat) : Kv w (some ⟨g, off + k * 32, none⟩) (L.drop k) := ⟨by rw [← h.all.flat_drop k]; exact h.lies.drop _, h.all.drop k⟩
set_option maxRecDepth 100000 in
theorem Kv.at {w : World} {a : Option Addr} {L : List (List UInt8)} (h : Kv w a L) (h0 : 0 < L.length) : ∃ g off, a = some ⟨g, off, none⟩ := by
  rcases h.lies with h1 | ⟨g, off, e, _⟩
  · have := h.all.flat
    rw [h1] at this
    simp at this
    omega
  · exact ⟨g, off, e⟩
set_option maxRecDepth 100000 in
theorem Kv.cells {w : World} {g off : Nat} {L : List (List UInt8)} (h : Kv w (some ⟨g, off, none⟩) L) {k : Nat} {x : List UInt8} (hx : L[k]? = some x) : ∀ (j : Nat) (u : Value), (krow x)[j]? = some u → w.cell? ⟨g, off + k * 32 + j, none⟩ = some u := by
  intro j u hu
  obtain ⟨b, hb, rfl⟩ := krow_get u hu
  have hl := h.all x (List.mem_of_getElem? hx)
  have hj : j < 32 := by have := (List.getElem?_eq_some_iff.1 hb).1; omega
  have hat := h.all.at hx j hj
  rw [hb] at hat
  have hlt := (List.getElem?_eq_some_iff.1 hat).1
  have hv := (List.getElem?_eq_some_iff.1 hat).2
  rcases h.lies with h1 | ⟨g2, off2, e, hc⟩
  · rw [h1] at hlt; simp at hlt
  · cases e
    have := hc (k * 32 + j) hlt
    rw [hv, ← Nat.add_assoc] at this
    exact this
set_option maxRecDepth 100000 in
theorem wpList_load_cells {P : Program} {ops : Array Oper} {rest : List Oper} {o : Oper} {a : Act} {w : World} {Q : Exit → Act → World → Prop} (hgd : o.guard = none) (ty : TypeId) (x : Operand) (ho : o.op = .load ty x) (g q : Nat) (hx : a.eval x = .pointer (some ⟨g, q, none⟩)) (R : Array Value) (m : Nat)
    (d : TypeDesc) (hu : P.underlying ty = some d) (hd : d.isRow = true) (hty : (P.info? ty).map (·.size) = some m) (hc : ∀ i u, R[i]? = some u → w.cell? ⟨g, q + i, none⟩ = some u) (hm : R.size = m)
    (h : wpList P ops Q rest (a.put o.dst (.agg R)) w) : wpList P ops Q (o :: rest) a w := by
  refine wpList_load_mid hgd ty x ho g q hx R.toList d (fun j u hj => ?_) hu hd (by rw [hty, Array.length_toList, hm]) ?_
  · exact hc j u (by rw [← hj, Array.getElem?_toList])
  · rwa [Array.toArray_toList]
set_option maxRecDepth 100000 in
set_option maxHeartbeats 6400000 in
theorem root_none (a : Option Addr) (c : Nat) (w : World) (hE : Env w) : Calls Tryd.prog 28 #[.slice a 0 c] w fun e w' => e = .returned (.agg (krow (Lg.root []))) ∧ Fr (fun _ => False) w w' := by
  have F0 := (Fr.refl (fun _ => False) w).alloc (.cells (ub 32 (fun _ => 0)) 31)
  have B0 := heap_alloc_new w (.cells (ub 32 (fun _ => 0)) 31)
  have HE := Lib.hid (hE.ext F0)
  have HB := Lib.hid B0
  have HF := Lib.hid F0
  clear B0 F0 hE
  go_enter Tryd.func28, Tryd.ntmps28
  go_wp2_with fail
  rw [zero32]
  generalize (w.alloc (.cells (ub 32 (fun _ => 0)) 31)) = w3 at *
  refine (psum_any none [] 0 0 rfl _ (Or.inl rfl) (by unfold maxLen; omega) (by simp) HE.out).mono ?_
  rintro e w4 ⟨rfl, F4⟩
  have B4 := Lib.hid ((F4.block _ (lt_of_block HB.out) (fun h => h)).trans HB.out)
  have HF4 := Lib.hid F4
  clear F4
  go_wp2_with (first | (refine wpList_store_rowA rfl 31 (.tmp 2) (.tmp 8) rfl w.heap.size (krow (S2.sum [])) rfl (by show Value.agg (sumc []) = _; rw [krow_sum]) 31 _ B4.out (sz32' rfl) (by rw [ub_size, krow_size]; rfl) (krow_one _) ?_; intro w5 B5 F5; simp only [Act.put, List.setIfInBounds_toArray, List.set_cons_zero, List.set_cons_succ]))
  have HB5 := Lib.hid B5
  have HF5 := Lib.hid ((HF.out.trans HF4.out (fun _ h => h.elim)).trans F5 (fun k h => .inr (by rw [h]; exact Nat.le_refl _)))
  clear B5 F5
  go_wp2_with fail
  refine bodyPost_ret (results_cell_row rfl _ _ w.heap.size 31 (krow (S2.sum [])) (0, 0) _ rfl HB5.out Tryd.underlying31 rfl (sz32' rfl)) rfl ?_
  rw [Lg.root_nil]
  exact ⟨rfl, HF5.out⟩
set_option maxRecDepth 100000 in
set_option maxHeartbeats 6400000 in
theorem root_single (a : Option Addr) (c : Nat) (x : List UInt8) (w : World) (hc : 1 ≤ c) (hm : c ≤ maxLen) (hK : Kv w a [x]) : Calls Tryd.prog 28 #[.slice a 1 c] w fun e w' => e = .returned (.agg (krow (Lg.root [x]))) ∧ Fr (fun _ => False) w w' := by
  obtain ⟨g, off, rfl⟩ := hK.at (by simp)
  have hx : x.length = 32 := hK.all x (List.mem_singleton.2 rfl)
  have F0 := (Fr.refl (fun _ => False) w).alloc (.cells (ub 32 (fun _ => 0)) 31)
  have HC := Lib.hid ((hK.ext F0).cells (k := 0) (x := x) rfl)
  have HB := Lib.hid (heap_alloc_new w (.cells (ub 32 (fun _ => 0)) 31))
  have HF := Lib.hid F0
  have HX := Lib.hid hx
  clear F0 hK hx hc hm
  go_enter Tryd.func28, Tryd.ntmps28
  go_wp2_with (first | (focus (rw [zero32]; generalize (w.alloc (.cells (ub 32 (fun _ => 0)) 31)) = w3 at *)) | (refine wpList_load_cells rfl 31 (.tmp 12) rfl g off rfl (krow x) 32 _ Tryd.underlying31 rfl sz32 (fun i u h => by have := HC.out i u h; simpa using this) (by rw [krow_size]; exact HX.out) ?_; simp only [Act.put, List.setIfInBounds_toArray, List.set_cons_zero, List.set_cons_succ]) | (refine wpList_store_rowA rfl 31 (.tmp 2) (.tmp 13) rfl w.heap.size (krow x) rfl rfl 31 _ HB.out (sz32' HX.out) (by rw [ub_size, krow_size]; exact HX.out.symm) (krow_one _) ?_; intro w5 B5 F5; simp only [Act.put, List.setIfInBounds_toArray, List.set_cons_zero, List.set_cons_succ]))
  refine bodyPost_ret (results_cell_row rfl _ _ w.heap.size 31 (krow x) (0, 0) _ rfl B5 Tryd.underlying31 rfl (sz32' HX.out)) rfl ?_
  rw [Lg.root_one]
  exact ⟨rfl, HF.out.trans F5 (fun k h => .inr (by rw [h]; exact Nat.le_refl _))⟩
set_option maxRecDepth 100000 in
set_option maxHeartbeats 6400000 in
theorem root_more (a : Option Addr) (c : Nat) (L : List (List UInt8)) (n : Nat) (w : World) (hn : L.length = n) (h2 : 2 ≤ L.length) (hc : n ≤ c) (hm : c ≤ maxLen) (hK : Kv w a L) (hE : Env w) {N : Nat}
    (ih : ∀ (a : Option Addr) (c : Nat) (L : List (List UInt8)) (n : Nat) (w : World), L.length ≤ N → L.length = n → n ≤ c → c ≤ maxLen → Kv w a L → Env w → Calls Tryd.prog 28 #[.slice a n c] w fun e w' => e = .returned (.agg (krow (Lg.root L))) ∧ Fr (fun _ => False) w w') (hN : L.length ≤ N + 1) :
    Calls Tryd.prog 28 #[.slice a n c] w fun e w' => e = .returned (.agg (krow (Lg.root L))) ∧ Fr (fun _ => False) w w' := by
  obtain ⟨g, off, rfl⟩ := hK.at (by omega)
  have hlt := Lg.hf_lt h2
  have hpos := Lg.hf_pos L.length
  have hroot := Lg.root_two h2
  obtain ⟨h, hh⟩ : ∃ h, h = Lg.hf L.length := ⟨_, rfl⟩
  rw [← hh] at hlt hpos hroot
  have n9 : n ≤ 9223372036854775807 := by unfold maxLen at hm; omega
  have HS := Lib.hid (fun w => split_any n (by omega) n9 w)
  rw [← hn, ← hh, hn] at HS
  have HI := Lib.hid ih
  have HH := Lib.hid (show (L.take h).length ≤ N ∧ (h ≤ c ∧ c ≤ maxLen) ∧ (L.drop h).length ≤ N ∧ (n - h ≤ c - h ∧ c - h ≤ maxLen) ∧ Lg.root L = Lg.node (Lg.root (L.take h)) (Lg.root (L.drop h)) from ⟨by rw [List.length_take]; omega, ⟨by omega, hm⟩, by rw [List.length_drop]; omega, ⟨by omega, by omega⟩, hroot⟩)
  have HR := Lib.hid (Lg.root_len hK.all)
  have F0 := (Fr.refl (fun _ => False) w).alloc (.cells (ub 32 (fun _ => 0)) 31)
  have HZ0 := Lib.hid (heap_alloc_new w (.cells (ub 32 (fun _ => 0)) 31))
  have HE0 := Lib.hid (hE.ext F0)
  have HK0 := Lib.hid (hK.ext F0)
  have HF := Lib.hid F0
  have e1 : (L.take h).length = h := by rw [List.length_take]; omega
  have e2 : (L.drop h).length = n - h := by rw [List.length_drop, hn]
  have HI1 := Lib.hid (And.intro e1 e2)
  have q0 : ¬ ((n : Int) = 0) := by omega
  have q1 : ¬ ((n : Int) = 1) := by omega
  have b0 : ((n : Int) == 0) = false := beq_eq_false_iff_ne.2 q0
  have b1 : ((n : Int) == 1) = false := beq_eq_false_iff_ne.2 q1
  have q2 : h ≤ n := by omega
  have q3 : h ≤ c := by omega
  have q4 : ¬ (c = h) := by omega
  have q5 : (h : Int) ≤ (n : Int) := by omega
  clear F0 hE hK hlt hpos hroot hh h2 hN ih hm hc n9 e1 e2 hn
  go_enter Tryd.func28, Tryd.ntmps28
  go_wp2_with fail
  rw [zero32]
  generalize (w.alloc (.cells (ub 32 (fun _ => 0)) 31)) = w1 at *
  refine (HS.out w1).mono ?_
  rintro e w2 ⟨rfl, F2⟩
  have HZ := Lib.hid ((F2.block _ (lt_of_block HZ0.out) (fun h => h)).trans HZ0.out)
  have HE := Lib.hid (HE0.out.ext F2)
  have HK := Lib.hid (HK0.out.ext F2)
  have HF2 := Lib.hid (HF.out.trans F2 (fun _ h => h.elim))
  clear F2
  go_wp2_with fail
  refine Ks.wp_region_mono (fun b => b = w.heap.size) (sg 0 3 ++ (sg 4 3 ++ ((3, true) :: ((7, true) :: ((8, true) :: ((9, true) :: ([]))))))) (by kernel_rfl) (by kernel_rfl) ?_
  refine Ks.Wk.seg 0 3 (by kernel_rfl) (by kernel_rfl) ?_
  apply Exists.intro
  refine ⟨?wk0, ?fin0⟩
  case wk0 =>
    intro γ
    simp only [List.drop_succ_cons, List.drop_zero, List.take_succ_cons, List.take_zero]
    repeat (any_goals (first | go_big_quiet_step (fail) | quiet_step (fail)))
    exact wpQuiet_nil rfl
  case fin0 =>
  (try simp only [Act.put, List.setIfInBounds_toArray, List.set_cons_zero, List.set_cons_succ])
  refine Ks.Wk.seg 4 3 (by kernel_rfl) (by kernel_rfl) ?_
  apply Exists.intro
  refine ⟨?wk1, ?fin1⟩
  case wk1 =>
    intro γ
    simp only [List.drop_succ_cons, List.drop_zero, List.take_succ_cons, List.take_zero]
    repeat (any_goals (first | go_big_quiet_step (fail) | quiet_step (fail)))
    exact wpQuiet_nil rfl
  case fin1 =>
  (try simp only [Act.put, List.setIfInBounds_toArray, List.set_cons_zero, List.set_cons_succ])
  refine Ks.Wk.call rfl (by kernel_rfl) 28 #[.slice (some ⟨g, off, none⟩) h c] (fun W => by first | kernel_rfl | rfl) (fun v W => v = .agg (krow (Lg.root (L.take h)))) (fun W hx => (HI.out _ c (L.take h) h W HH.out.1 HI1.out.1 HH.out.2.1.1 HH.out.2.1.2 ((HK.out.ext hx).take h) (HE.out.ext hx)).mono (fun e w' he => ⟨_, he.1, he.2, rfl⟩)) ?_
  rintro v w4 X4 rfl
  (try simp only [List.getElem_toArray, List.getElem_cons_succ, List.getElem_cons_zero, Act.put, List.setIfInBounds_toArray, List.set_cons_zero, List.set_cons_succ])
  refine Ks.Wk.call rfl (by kernel_rfl) 28 #[.slice (some ⟨g, off + h * 32, none⟩) (n - h) (c - h)] (fun W => by first | kernel_rfl | rfl) (fun v W => v = .agg (krow (Lg.root (L.drop h)))) (fun W hx => (HI.out _ (c - h) (L.drop h) (n - h) W HH.out.2.2.1 HI1.out.2 HH.out.2.2.2.1.1 HH.out.2.2.2.1.2 ((HK.out.ext (X4.trans hx (fun _ h => h.elim))).drop h) (HE.out.ext (X4.trans hx (fun _ h => h.elim)))).mono (fun e w' he => ⟨_, he.1, he.2, rfl⟩)) ?_
  rintro v w5 X5 rfl
  (try simp only [List.getElem_toArray, List.getElem_cons_succ, List.getElem_cons_zero, Act.put, List.setIfInBounds_toArray, List.set_cons_zero, List.set_cons_succ])
  refine Ks.Wk.call rfl (by kernel_rfl) 43 #[.agg (krow (Lg.root (L.take h))), .agg (krow (Lg.root (L.drop h)))] (fun W => by first | kernel_rfl | rfl) (fun v W => v = .agg (krow (Lg.root L))) (fun W hx => (nsum_any _ _ (Lg.root_len (HK.out.all.take h)) (Lg.root_len (HK.out.all.drop h)) W (HE.out.ext ((X4.trans X5 (fun _ h => h.elim)).trans hx (fun _ h => h.elim)))).mono (fun e w' he => ⟨_, he.1, he.2, by rw [HH.out.2.2.2.2]⟩)) ?_
  rintro v w6 X6 rfl
  (try simp only [List.getElem_toArray, List.getElem_cons_succ, List.getElem_cons_zero, Act.put, List.setIfInBounds_toArray, List.set_cons_zero, List.set_cons_succ])
  refine Ks.Wk.one rfl (fun w7 Xw7 => ?_)
  have X17 : Fr (fun _ => False) w2 w7 := ((X4.trans X5 (fun _ h => h.elim)).trans X6 (fun _ h => h.elim)).trans Xw7 (fun _ h => h.elim)
  have HZ7 := (X17.block _ (lt_of_block HZ.out) (fun h => h)).trans HZ.out
  refine wpList_store_rowA rfl 31 (.tmp 2) (.tmp 25) rfl w.heap.size (krow (Lg.root L)) rfl rfl 31 _ HZ7 (sz32' HR.out) (by rw [ub_size, krow_size, HR.out]) (krow_one _) (fun w8 B8 F8 => ⟨rfl, F8, ?_⟩)
  (try simp only [Act.put, List.setIfInBounds_toArray, List.set_cons_zero, List.set_cons_succ])
  intro w9 X9
  have B9 := Lib.hid ((X9.block _ (lt_of_block B8) (fun h => h)).trans B8)
  have HX := Lib.hid (HF2.out.trans ((X17.mono (T := fun b => b = w.heap.size) (fun _ _ h => h.elim)).trans (F8.trans X9 (fun _ h => h.elim)) (fun _ h => .inl h)) (fun k h => .inr (by rw [h]; exact Nat.le_refl _)))
  clear X17 B8 F8 X9 HZ7 Xw7 X6 X5 X4
  go_wp2_with fail
  refine bodyPost_ret (results_cell_row rfl _ _ w.heap.size 31 (krow (Lg.root L)) (0, 0) _ rfl B9.out Tryd.underlying31 rfl (sz32' HR.out)) rfl ?_
  exact ⟨rfl, HX.out⟩
set_option maxRecDepth 100000 in
theorem root_any : ∀ (N : Nat) (a : Option Addr) (c : Nat) (L : List (List UInt8)) (n : Nat) (w : World), L.length ≤ N → L.length = n → n ≤ c → c ≤ maxLen → Kv w a L → Env w → Calls Tryd.prog 28 #[.slice a n c] w fun e w' => e = .returned (.agg (krow (Lg.root L))) ∧ Fr (fun _ => False) w w' := by
  intro N
  induction N with
  | zero =>
    intro a c L n w hN hn hc hm hK hE
    obtain rfl := List.eq_nil_of_length_eq_zero (Nat.le_zero.1 hN)
    obtain rfl : 0 = n := hn
    exact root_none a c w hE
  | succ N ih =>
    intro a c L n w hN hn hc hm hK hE
    match L, hK, hN, hn with
    | [], hK, hN, hn => 
      obtain rfl : 0 = n := hn
      exact root_none a c w hE
    | [x], hK, hN, hn =>
      obtain rfl : 1 = n := hn
      exact root_single a c x w hc hm hK
    | x :: y :: L, hK, hN, hn =>
      have h2 : 2 ≤ (x :: y :: L).length := by simp
      have h1 := Lg.hf_lt h2
      have h0 := Lg.hf_pos (x :: y :: L).length
      generalize x :: y :: L = T at *
      exact root_more a c T n w hn h2 hc hm hK hE (fun a c L n w h1 h2 h3 h4 h5 h6 => ih a c L n w h1 h2 h3 h4 h5 h6) (by omega)
end Go.Proofs.YtjndkjgbplpfeaaDoor

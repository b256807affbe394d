/-
  A log of sums: plain definitions, of no program: the sum of a row of leaves, paths, proofs that a beginning is one, and what comes out of them.
-/
import Derived.Test.YtndakfanlgilmaaDoorRs
namespace Go.Proofs.YtndakfanlgilmaaDoor
set_option linter.unusedVariables false
namespace Lg
abbrev B := List UInt8
def leaf (e : B) : B := S2.sum (0 :: e)
def node (a b : B) : B := S2.sum (1 :: (a ++ b))
def none' : B := S2.sum []
def hf (n : Nat) : Nat := 2 ^ Nat.log2 (n - 1)
set_option maxRecDepth 100000 in
theorem hf_pos (n : Nat) : 0 < hf n := Nat.two_pow_pos _
set_option maxRecDepth 100000 in
theorem hf_lt {n : Nat} (h : 2 ≤ n) : hf n < n := by
  have := Nat.log2_self_le (show n - 1 ≠ 0 by omega)
  unfold hf; omega
set_option maxRecDepth 100000 in
theorem hf_two {n : Nat} (h : 2 ≤ n) : n ≤ 2 * hf n := by
  have := Nat.lt_log2_self (n := n - 1)
  unfold hf
  rw [Nat.pow_succ] at this
  omega
/-- The sum of a row of leaves. -/
def root : List B → B
  | [] => none'
  | [x] => x
  | x :: y :: L =>
    have h := hf_lt (n := L.length + 2) (by omega)
    have h0 := hf_pos (L.length + 2)
    node (root ((x :: y :: L).take (hf (L.length + 2)))) (root ((x :: y :: L).drop (hf (L.length + 2))))
termination_by L => L.length
decreasing_by
  · simp only [List.length_take, List.length_cons]; omega
  · simp only [List.length_drop, List.length_cons]; omega
set_option maxRecDepth 100000 in
theorem root_two {L : List B} (h : 2 ≤ L.length) : root L = node (root (L.take (hf L.length))) (root (L.drop (hf L.length))) := by
  match L, h with
  | x :: y :: L, _ => rw [root]; rfl
set_option maxRecDepth 100000 in
theorem root_nil : root [] = none' := by rw [root]
set_option maxRecDepth 100000 in
theorem root_one (x : B) : root [x] = x := by rw [root]
set_option maxRecDepth 100000 in
theorem leaf_len (e : B) : (leaf e).length = 32 := rfl
set_option maxRecDepth 100000 in
theorem node_len (a b : B) : (node a b).length = 32 := rfl
set_option maxRecDepth 100000 in
theorem none_len : none'.length = 32 := rfl
def All32 (L : List B) : Prop := ∀ x ∈ L, x.length = 32
set_option maxRecDepth 100000 in
theorem All32.take {L : List B} (h : All32 L) (k : Nat) : All32 (L.take k) := fun x hx => h x (List.mem_of_mem_take hx)
set_option maxRecDepth 100000 in
theorem All32.drop {L : List B} (h : All32 L) (k : Nat) : All32 (L.drop k) := fun x hx => h x (List.mem_of_mem_drop hx)
set_option maxRecDepth 100000 in
theorem All32.snoc {L : List B} {x : B} (h : All32 L) (hx : x.length = 32) : All32 (L ++ [x]) := fun y hy => by
  rcases List.mem_append.1 hy with hy | hy
  · exact h y hy
  · rw [List.mem_singleton.1 hy]; exact hx
set_option maxRecDepth 100000 in
theorem All32.nil : All32 [] := fun x hx => by cases hx
set_option maxRecDepth 100000 in
theorem root_len {L : List B} (h : All32 L) : (root L).length = 32 := by
  match L, h with
  | [], _ => rw [root_nil]; rfl
  | [x], h => rw [root_one]; exact h x (List.mem_singleton.2 rfl)
  | x :: y :: L, _ => rw [root_two (by simp)]; rfl
set_option maxRecDepth 100000 in
theorem All32.flat {L : List B} (h : All32 L) : L.flatten.length = L.length * 32 := by
  induction L with
  | nil => rfl
  | cons x L ih =>
    rw [List.flatten_cons, List.length_append, ih (fun y hy => h y (List.mem_cons_of_mem _ hy)), h x (List.mem_cons_self ..), List.length_cons]
    omega
set_option maxRecDepth 100000 in
theorem All32.flat_take {L : List B} (h : All32 L) (k : Nat) : L.flatten.take (k * 32) = (L.take k).flatten := by
  induction L generalizing k with
  | nil => simp
  | cons x L ih =>
    cases k with
    | zero => simp
    | succ k =>
      have hx := h x (List.mem_cons_self ..)
      rw [List.flatten_cons, List.take_succ_cons, List.flatten_cons, List.take_append, hx, show (k + 1) * 32 - 32 = k * 32 by omega, ih (fun y hy => h y (List.mem_cons_of_mem _ hy)), List.take_of_length_le (by omega)]
set_option maxRecDepth 100000 in
theorem All32.flat_drop {L : List B} (h : All32 L) (k : Nat) : L.flatten.drop (k * 32) = (L.drop k).flatten := by
  induction L generalizing k with
  | nil => simp
  | cons x L ih =>
    cases k with
    | zero => simp
    | succ k =>
      have hx := h x (List.mem_cons_self ..)
      rw [List.flatten_cons, List.drop_succ_cons, List.drop_append, hx, show (k + 1) * 32 - 32 = k * 32 by omega, ih (fun y hy => h y (List.mem_cons_of_mem _ hy)), List.drop_of_length_le (by omega), List.nil_append]
set_option maxRecDepth 100000 in
theorem All32.at {L : List B} (h : All32 L) {k : Nat} {x : B} (hx : L[k]? = some x) (j : Nat) (hj : j < 32) : L.flatten[k * 32 + j]? = x[j]? := by
  have hk := (List.getElem?_eq_some_iff.1 hx).1
  have e : L.drop k = x :: L.drop (k + 1) := by
    rw [List.drop_eq_getElem_cons hk]; congr 1
    exact (List.getElem?_eq_some_iff.1 hx).2
  rw [← List.getElem?_drop, h.flat_drop, e, List.flatten_cons, List.getElem?_append_left (by rw [h x (List.mem_of_getElem? hx)]; exact hj)]
/-- The path of the i-th of a row. -/
def path (i : Nat) (L : List B) : List B :=
  if h : L.length < 2 then [] else
    have h1 := hf_lt (n := L.length) (by omega)
    have h0 := hf_pos L.length
    if i < hf L.length then path i (L.take (hf L.length)) ++ [root (L.drop (hf L.length))]
    else path (i - hf L.length) (L.drop (hf L.length)) ++ [root (L.take (hf L.length))]
termination_by L.length
decreasing_by
  · simp only [List.length_take]; omega
  · simp only [List.length_drop]; omega
set_option maxRecDepth 100000 in
theorem path_one {i : Nat} {L : List B} (h : L.length < 2) : path i L = [] := by rw [path, dif_pos h]
set_option maxRecDepth 100000 in
theorem path_left {i : Nat} {L : List B} (h : 2 ≤ L.length) (hi : i < hf L.length) : path i L = path i (L.take (hf L.length)) ++ [root (L.drop (hf L.length))] := by
  rw [path, dif_neg (by omega)]; simp only [if_pos hi]
set_option maxRecDepth 100000 in
theorem path_right {i : Nat} {L : List B} (h : 2 ≤ L.length) (hi : ¬ i < hf L.length) : path i L = path (i - hf L.length) (L.drop (hf L.length)) ++ [root (L.take (hf L.length))] := by
  rw [path, dif_neg (by omega)]; simp only [if_neg hi]
set_option maxRecDepth 100000 in
theorem path_all : ∀ (n : Nat) (i : Nat) (L : List B), L.length ≤ n → All32 L → All32 (path i L)
  | 0, i, L, hn, h => by rw [path_one (by omega)]; exact .nil
  | n + 1, i, L, hn, h => by
    by_cases h2 : L.length < 2
    · rw [path_one h2]; exact .nil
    · have h1 := hf_lt (n := L.length) (by omega)
      have h0 := hf_pos L.length
      by_cases hi : i < hf L.length
      · rw [path_left (by omega) hi]
        exact (path_all n i _ (by rw [List.length_take]; omega) (h.take _)).snoc (root_len (h.drop _))
      · rw [path_right (by omega) hi]
        exact (path_all n _ _ (by rw [List.length_drop]; omega) (h.drop _)).snoc (root_len (h.take _))
/-- What shows that the first m of a row are its beginning. -/
def sub (m : Nat) (L : List B) (all : Bool) : List B :=
  if hm : m = L.length then (if all then [] else [root L]) else
  if h : L.length < 2 then [] else
    have h1 := hf_lt (n := L.length) (by omega)
    have h0 := hf_pos L.length
    if m ≤ hf L.length then sub m (L.take (hf L.length)) all ++ [root (L.drop (hf L.length))]
    else sub (m - hf L.length) (L.drop (hf L.length)) false ++ [root (L.take (hf L.length))]
termination_by L.length
decreasing_by
  · simp only [List.length_take]; omega
  · simp only [List.length_drop]; omega
set_option maxRecDepth 100000 in
theorem sub_all {L : List B} : sub L.length L true = [] := by rw [sub, dif_pos rfl]; rfl
set_option maxRecDepth 100000 in
theorem sub_own {L : List B} : sub L.length L false = [root L] := by rw [sub, dif_pos rfl]; rfl
set_option maxRecDepth 100000 in
theorem sub_left {m : Nat} {L : List B} {all : Bool} (hm : m ≠ L.length) (h : 2 ≤ L.length) (hi : m ≤ hf L.length) : sub m L all = sub m (L.take (hf L.length)) all ++ [root (L.drop (hf L.length))] := by
  rw [sub, dif_neg hm, dif_neg (by omega)]; simp only [if_pos hi]
set_option maxRecDepth 100000 in
theorem sub_right {m : Nat} {L : List B} {all : Bool} (hm : m ≠ L.length) (h : 2 ≤ L.length) (hi : ¬ m ≤ hf L.length) : sub m L all = sub (m - hf L.length) (L.drop (hf L.length)) false ++ [root (L.take (hf L.length))] := by
  rw [sub, dif_neg hm, dif_neg (by omega)]; simp only [if_neg hi]
/-- What comes out of a sum and a path (its last sum first); z: what stands for none. -/
def climb (z : B) (s : B) (i n : Nat) : List B → B × Bool
  | [] => if n = 1 then (s, true) else (z, false)
  | x :: r => if n = 1 then (s, false) else
    if i < hf n then (node (climb z s i (hf n) r).1 x, (climb z s i (hf n) r).2)
    else (node x (climb z s (i - hf n) (n - hf n) r).1, (climb z s (i - hf n) (n - hf n) r).2)
set_option maxRecDepth 100000 in
theorem climb_same (z y s : B) : ∀ (r : List B) (i n : Nat), (climb z s i n r).2 = (climb y s i n r).2 ∧ ((climb y s i n r).2 = true → (climb z s i n r).1 = (climb y s i n r).1)
  | [], i, n => by unfold climb; split <;> simp
  | x :: r, i, n => by
    unfold climb
    split
    · simp
    · split
      · have := climb_same z y s r i (hf n)
        exact ⟨this.1, fun h => by have h := this.2 h; simp only [h]⟩
      · have := climb_same z y s r (i - hf n) (n - hf n)
        exact ⟨this.1, fun h => by have h := this.2 h; simp only [h]⟩
/-- The program's, for the first m and for all. -/
def both (z old : B) (m n : Nat) (all : Bool) : List B → B × B × Bool
  | [] => if m = n ∧ all = true then (old, old, true) else (z, z, false)
  | x :: r => if m = n then (if all then (old, old, false) else (x, x, r.isEmpty)) else
    if m ≤ hf n then ((both z old m (hf n) all r).1, node (both z old m (hf n) all r).2.1 x, (both z old m (hf n) all r).2.2)
    else (node x (both z old (m - hf n) (n - hf n) false r).1, node x (both z old (m - hf n) (n - hf n) false r).2.1, (both z old (m - hf n) (n - hf n) false r).2.2)
/-- The document's. -/
def bothD (old : B) (m n : Nat) (all : Bool) : List B → B × B × Bool
  | [] => if m = n ∧ all = true then (old, old, true) else ([], [], false)
  | x :: r => if m = n then (if all then (old, old, false) else (if r.isEmpty then (x, x, true) else ([], [], false))) else
    if m ≤ hf n then ((bothD old m (hf n) all r).1, node (bothD old m (hf n) all r).2.1 x, (bothD old m (hf n) all r).2.2)
    else (node x (bothD old (m - hf n) (n - hf n) false r).1, node x (bothD old (m - hf n) (n - hf n) false r).2.1, (bothD old (m - hf n) (n - hf n) false r).2.2)
set_option maxRecDepth 100000 in
theorem both_same (z old : B) : ∀ (r : List B) (m n : Nat) (all : Bool), (both z old m n all r).2.2 = (bothD old m n all r).2.2 ∧ ((bothD old m n all r).2.2 = true → both z old m n all r = bothD old m n all r)
  | [], m, n, all => by
    unfold both bothD; split <;> simp
  | x :: r, m, n, all => by
    unfold both bothD
    split
    · cases all
      · cases r <;> simp
      · simp
    · split
      · have := both_same z old r m (hf n) all
        exact ⟨this.1, fun h => by have h := this.2 h; rw [h]⟩
      · have := both_same z old r (m - hf n) (n - hf n) false
        exact ⟨this.1, fun h => by have h := this.2 h; rw [h]⟩
end Lg
end Go.Proofs.YtndakfanlgilmaaDoor


/-
  A log of sums: plain definitions, of no program: the sum of a row of leaves, paths, proofs that a beginning is one, and what comes out of them.
  The greatest power of two below a number: math/bits.Len64, Len; split.
  Rows of sums; the sum of an entry, and of two sums.
  The sum of an entry; of a row of sums.
  The path of an entry; what shows that a beginning is one.
  What shows that a beginning is one.
  What comes out of a sum and a path.
  Regions that draw their order, as in Ks; each operation j may touch blocks of S j of its own; what an operation leaves hangs on no block that an operation touches which does not wait for it. Plain: of no program.
  The document's log: half, node, Sum.
-/
import Derived.Test.YtnidfcmomdmjaaaDoorRs
import Derived.Test.YtnidfcmomdmjaaaDoorKo
import Derived.Lib.BitFns
import Derived.Lib.Walk
import Derived.Lib.Small
import Derived.Handy
import Derived.Test.YtnidfcmomdmjaaaDoorPa
import Derived.Test.YtnidfcmomdmjaaaDoorHo
import Derived.Test.YtnidfcmomdmjaaaDoorKs
import Derived.Test.YtnidfcmomdmjaaaDoorKw
import Derived.Lib.Hide
namespace Go.Proofs.YtnidfcmomdmjaaaDoor
set_option linter.unusedVariables false
namespace Lg
abbrev B := List UInt8
def leaf (e : B) : B := S2.sum (0 :: e)
def node (a b : B) : B := S2.sum (1 :: (a ++ b))
def none' : B := S2.sum []
def hf (n : Nat) : Nat := 2 ^ Nat.log2 (n - 1)
set_option maxRecDepth 100000 in
theorem hf_pos (n : Nat) : 0 < hf n := Nat.two_pow_pos _
set_option maxRecDepth 100000 in
theorem hf_lt {n : Nat} (h : 2 ≤ n) : hf n < n := by
  have := Nat.log2_self_le (show n - 1 ≠ 0 by omega)
  unfold hf; omega
set_option maxRecDepth 100000 in
theorem hf_two {n : Nat} (h : 2 ≤ n) : n ≤ 2 * hf n := by
  have := Nat.lt_log2_self (n := n - 1)
  unfold hf
  rw [Nat.pow_succ] at this
  omega
/-- The sum of a row of leaves. -/
def root : List B → B
  | [] => none'
  | [x] => x
  | x :: y :: L =>
    have h := hf_lt (n := L.length + 2) (by omega)
    have h0 := hf_pos (L.length + 2)
    node (root ((x :: y :: L).take (hf (L.length + 2)))) (root ((x :: y :: L).drop (hf (L.length + 2))))
termination_by L => L.length
decreasing_by
  · simp only [List.length_take, List.length_cons]; omega
  · simp only [List.length_drop, List.length_cons]; omega
set_option maxRecDepth 100000 in
theorem root_two {L : List B} (h : 2 ≤ L.length) : root L = node (root (L.take (hf L.length))) (root (L.drop (hf L.length))) := by
  match L, h with
  | x :: y :: L, _ => rw [root]; rfl
set_option maxRecDepth 100000 in
theorem root_nil : root [] = none' := by rw [root]
set_option maxRecDepth 100000 in
theorem root_one (x : B) : root [x] = x := by rw [root]
set_option maxRecDepth 100000 in
theorem leaf_len (e : B) : (leaf e).length = 32 := rfl
set_option maxRecDepth 100000 in
theorem node_len (a b : B) : (node a b).length = 32 := rfl
set_option maxRecDepth 100000 in
theorem none_len : none'.length = 32 := rfl
def All32 (L : List B) : Prop := ∀ x ∈ L, x.length = 32
set_option maxRecDepth 100000 in
theorem All32.take {L : List B} (h : All32 L) (k : Nat) : All32 (L.take k) := fun x hx => h x (List.mem_of_mem_take hx)
set_option maxRecDepth 100000 in
theorem All32.drop {L : List B} (h : All32 L) (k : Nat) : All32 (L.drop k) := fun x hx => h x (List.mem_of_mem_drop hx)
set_option maxRecDepth 100000 in
theorem All32.snoc {L : List B} {x : B} (h : All32 L) (hx : x.length = 32) : All32 (L ++ [x]) := fun y hy => by
  rcases List.mem_append.1 hy with hy | hy
  · exact h y hy
  · rw [List.mem_singleton.1 hy]; exact hx
set_option maxRecDepth 100000 in
theorem All32.nil : All32 [] := fun x hx => by cases hx
set_option maxRecDepth 100000 in
theorem root_len {L : List B} (h : All32 L) : (root L).length = 32 := by
  match L, h with
  | [], _ => rw [root_nil]; rfl
  | [x], h => rw [root_one]; exact h x (List.mem_singleton.2 rfl)
  | x :: y :: L, _ => rw [root_two (by simp)]; rfl
set_option maxRecDepth 100000 in
theorem All32.flat {L : List B} (h : All32 L) : L.flatten.length = L.length * 32 := by
  induction L with
  | nil => rfl
  | cons x L ih =>
    rw [List.flatten_cons, List.length_append, ih (fun y hy => h y (List.mem_cons_of_mem _ hy)), h x (List.mem_cons_self ..), List.length_cons]
    omega
set_option maxRecDepth 100000 in
theorem All32.flat_take {L : List B} (h : All32 L) (k : Nat) : L.flatten.take (k * 32) = (L.take k).flatten := by
  induction L generalizing k with
  | nil => simp
  | cons x L ih =>
    cases k with
    | zero => simp
    | succ k =>
      have hx := h x (List.mem_cons_self ..)
      rw [List.flatten_cons, List.take_succ_cons, List.flatten_cons, List.take_append, hx, show (k + 1) * 32 - 32 = k * 32 by omega, ih (fun y hy => h y (List.mem_cons_of_mem _ hy)), List.take_of_length_le (by omega)]
set_option maxRecDepth 100000 in
theorem All32.flat_drop {L : List B} (h : All32 L) (k : Nat) : L.flatten.drop (k * 32) = (L.drop k).flatten := by
  induction L generalizing k with
  | nil => simp
  | cons x L ih =>
    cases k with
    | zero => simp
    | succ k =>
      have hx := h x (List.mem_cons_self ..)
      rw [List.flatten_cons, List.drop_succ_cons, List.drop_append, hx, show (k + 1) * 32 - 32 = k * 32 by omega, ih (fun y hy => h y (List.mem_cons_of_mem _ hy)), List.drop_of_length_le (by omega), List.nil_append]
set_option maxRecDepth 100000 in
theorem All32.at {L : List B} (h : All32 L) {k : Nat} {x : B} (hx : L[k]? = some x) (j : Nat) (hj : j < 32) : L.flatten[k * 32 + j]? = x[j]? := by
  have hk := (List.getElem?_eq_some_iff.1 hx).1
  have e : L.drop k = x :: L.drop (k + 1) := by
    rw [List.drop_eq_getElem_cons hk]; congr 1
    exact (List.getElem?_eq_some_iff.1 hx).2
  rw [← List.getElem?_drop, h.flat_drop, e, List.flatten_cons, List.getElem?_append_left (by rw [h x (List.mem_of_getElem? hx)]; exact hj)]
/-- The path of the i-th of a row. -/
def path (i : Nat) (L : List B) : List B :=
  if h : L.length < 2 then [] else
    have h1 := hf_lt (n := L.length) (by omega)
    have h0 := hf_pos L.length
    if i < hf L.length then path i (L.take (hf L.length)) ++ [root (L.drop (hf L.length))]
    else path (i - hf L.length) (L.drop (hf L.length)) ++ [root (L.take (hf L.length))]
termination_by L.length
decreasing_by
  · simp only [List.length_take]; omega
  · simp only [List.length_drop]; omega
set_option maxRecDepth 100000 in
theorem path_one {i : Nat} {L : List B} (h : L.length < 2) : path i L = [] := by rw [path, dif_pos h]
set_option maxRecDepth 100000 in
theorem path_left {i : Nat} {L : List B} (h : 2 ≤ L.length) (hi : i < hf L.length) : path i L = path i (L.take (hf L.length)) ++ [root (L.drop (hf L.length))] := by
  rw [path, dif_neg (by omega)]; simp only [if_pos hi]
set_option maxRecDepth 100000 in
theorem path_right {i : Nat} {L : List B} (h : 2 ≤ L.length) (hi : ¬ i < hf L.length) : path i L = path (i - hf L.length) (L.drop (hf L.length)) ++ [root (L.take (hf L.length))] := by
  rw [path, dif_neg (by omega)]; simp only [if_neg hi]
set_option maxRecDepth 100000 in
theorem path_all : ∀ (n : Nat) (i : Nat) (L : List B), L.length ≤ n → All32 L → All32 (path i L)
  | 0, i, L, hn, h => by rw [path_one (by omega)]; exact .nil
  | n + 1, i, L, hn, h => by
    by_cases h2 : L.length < 2
    · rw [path_one h2]; exact .nil
    · have h1 := hf_lt (n := L.length) (by omega)
      have h0 := hf_pos L.length
      by_cases hi : i < hf L.length
      · rw [path_left (by omega) hi]
        exact (path_all n i _ (by rw [List.length_take]; omega) (h.take _)).snoc (root_len (h.drop _))
      · rw [path_right (by omega) hi]
        exact (path_all n _ _ (by rw [List.length_drop]; omega) (h.drop _)).snoc (root_len (h.take _))
/-- What shows that the first m of a row are its beginning. -/
def sub (m : Nat) (L : List B) (all : Bool) : List B :=
  if hm : m = L.length then (if all then [] else [root L]) else
  if h : L.length < 2 then [] else
    have h1 := hf_lt (n := L.length) (by omega)
    have h0 := hf_pos L.length
    if m ≤ hf L.length then sub m (L.take (hf L.length)) all ++ [root (L.drop (hf L.length))]
    else sub (m - hf L.length) (L.drop (hf L.length)) false ++ [root (L.take (hf L.length))]
termination_by L.length
decreasing_by
  · simp only [List.length_take]; omega
  · simp only [List.length_drop]; omega
set_option maxRecDepth 100000 in
theorem sub_all {L : List B} : sub L.length L true = [] := by rw [sub, dif_pos rfl]; rfl
set_option maxRecDepth 100000 in
theorem sub_own {L : List B} : sub L.length L false = [root L] := by rw [sub, dif_pos rfl]; rfl
set_option maxRecDepth 100000 in
theorem sub_left {m : Nat} {L : List B} {all : Bool} (hm : m ≠ L.length) (h : 2 ≤ L.length) (hi : m ≤ hf L.length) : sub m L all = sub m (L.take (hf L.length)) all ++ [root (L.drop (hf L.length))] := by
  rw [sub, dif_neg hm, dif_neg (by omega)]; simp only [if_pos hi]
set_option maxRecDepth 100000 in
theorem sub_right {m : Nat} {L : List B} {all : Bool} (hm : m ≠ L.length) (h : 2 ≤ L.length) (hi : ¬ m ≤ hf L.length) : sub m L all = sub (m - hf L.length) (L.drop (hf L.length)) false ++ [root (L.take (hf L.length))] := by
  rw [sub, dif_neg hm, dif_neg (by omega)]; simp only [if_neg hi]
/-- What comes out of a sum and a path (its last sum first); z: what stands for none. -/
def climb (z : B) (s : B) (i n : Nat) : List B → B × Bool
  | [] => if n = 1 then (s, true) else (z, false)
  | x :: r => if n = 1 then (s, false) else
    if i < hf n then (node (climb z s i (hf n) r).1 x, (climb z s i (hf n) r).2)
    else (node x (climb z s (i - hf n) (n - hf n) r).1, (climb z s (i - hf n) (n - hf n) r).2)
set_option maxRecDepth 100000 in
theorem climb_same (z y s : B) : ∀ (r : List B) (i n : Nat), (climb z s i n r).2 = (climb y s i n r).2 ∧ ((climb y s i n r).2 = true → (climb z s i n r).1 = (climb y s i n r).1)
  | [], i, n => by unfold climb; split <;> simp
  | x :: r, i, n => by
    unfold climb
    split
    · simp
    · split
      · have := climb_same z y s r i (hf n)
        exact ⟨this.1, fun h => by have h := this.2 h; simp only [h]⟩
      · have := climb_same z y s r (i - hf n) (n - hf n)
        exact ⟨this.1, fun h => by have h := this.2 h; simp only [h]⟩
/-- The program's, for the first m and for all. -/
def both (z old : B) (m n : Nat) (all : Bool) : List B → B × B × Bool
  | [] => if m = n ∧ all = true then (old, old, true) else (z, z, false)
  | x :: r => if m = n then (if all then (old, old, false) else (x, x, r.isEmpty)) else
    if m ≤ hf n then ((both z old m (hf n) all r).1, node (both z old m (hf n) all r).2.1 x, (both z old m (hf n) all r).2.2)
    else (node x (both z old (m - hf n) (n - hf n) false r).1, node x (both z old (m - hf n) (n - hf n) false r).2.1, (both z old (m - hf n) (n - hf n) false r).2.2)
/-- The document's. -/
def bothD (old : B) (m n : Nat) (all : Bool) : List B → B × B × Bool
  | [] => if m = n ∧ all = true then (old, old, true) else ([], [], false)
  | x :: r => if m = n then (if all then (old, old, false) else (if r.isEmpty then (x, x, true) else ([], [], false))) else
    if m ≤ hf n then ((bothD old m (hf n) all r).1, node (bothD old m (hf n) all r).2.1 x, (bothD old m (hf n) all r).2.2)
    else (node x (bothD old (m - hf n) (n - hf n) false r).1, node x (bothD old (m - hf n) (n - hf n) false r).2.1, (bothD old (m - hf n) (n - hf n) false r).2.2)
set_option maxRecDepth 100000 in
theorem both_same (z old : B) : ∀ (r : List B) (m n : Nat) (all : Bool), (both z old m n all r).2.2 = (bothD old m n all r).2.2 ∧ ((bothD old m n all r).2.2 = true → both z old m n all r = bothD old m n all r)
  | [], m, n, all => by
    unfold both bothD; split <;> simp
  | x :: r, m, n, all => by
    unfold both bothD
    split
    · cases all
      · cases r <;> simp
      · simp
    · split
      · have := both_same z old r m (hf n) all
        exact ⟨this.1, fun h => by have h := this.2 h; rw [h]⟩
      · have := both_same z old r (m - hf n) (n - hf n) false
        exact ⟨this.1, fun h => by have h := this.2 h; rw [h]⟩
end Lg
end Go.Proofs.YtnidfcmomdmjaaaDoor
namespace Go.Proofs.YtnidfcmomdmjaaaDoor
open Go.RowKit
set_option linter.unusedVariables false
set_option linter.unusedSimpArgs false
set_option maxRecDepth 100000 in
theorem aux_log : ∀ (f x : Nat), 0 < x → x < 2 ^ f → Go.Lib.bitLenAux f x = Nat.log2 x + 1
  | 0, x, h0, h => by simp at h; omega
  | f + 1, x, h0, h => by
    rw [Go.Lib.bitLenAux, if_neg (by omega)]
    by_cases h1 : x = 1
    · subst h1
      cases f <;> simp [Go.Lib.bitLenAux] <;> decide
    · rw [aux_log f (x / 2) (by omega) (by rw [Nat.pow_succ] at h; omega)]
      have : Nat.log2 x = Nat.log2 (x / 2) + 1 := by rw [Nat.log2_def, if_pos (by omega)]
      omega
set_option maxRecDepth 100000 in
theorem bitLen_log (x : Nat) (h0 : 0 < x) (h : x < 2 ^ 64) : Go.Lib.bitLen x = Nat.log2 x + 1 := aux_log 64 x h0 h
set_option maxRecDepth 100000 in
theorem fin0 (y : Int) (h0 : 0 ≤ y) (h1 : y ≤ 255) : wrap64 (wrap64 (Go.Lib.len8 y)) = (Go.Lib.bitLen y.toNat : Int) := by
  have l := Go.Lib.bitLen_le8' y h0 h1
  rw [Go.Lib.len8_of y h0 h1, IntWalk.wrap64_in (Go.Lib.bitLen y.toNat : Int) (by omega), IntWalk.wrap64_in _ (by omega)]
set_option maxRecDepth 100000 in
theorem fin8 (x y : Int) (s : Nat) (h0 : 0 ≤ y) (h1 : y ≤ 255) (hs : s ≤ 56) (h : Go.Lib.bitLen x.toNat = s + Go.Lib.bitLen y.toNat) : wrap64 ((s : Int) + wrap64 (Go.Lib.len8 y)) = (Go.Lib.bitLen x.toNat : Int) := by
  have l := Go.Lib.bitLen_le8' y h0 h1
  rw [Go.Lib.len8_of y h0 h1, IntWalk.wrap64_in (Go.Lib.bitLen y.toNat : Int) (by omega), IntWalk.wrap64_in _ (by omega), h]
  omega
set_option maxRecDepth 100000 in
theorem tab_get (i : Int) (h : i.toNat < Go.Lib.len8tab.size) : ((Go.Lib.len8tab[i.toNat]'h).toNat : Int) = Go.Lib.len8 i := by
  unfold Go.Lib.len8
  rw [getElem?_pos Go.Lib.len8tab i.toNat h]
  rfl
set_option maxRecDepth 100000 in
theorem shl_one (k : Nat) (h : k < 63) : wrap64 (2 ^ k) = ((2 ^ k : Nat) : Int) := by
  have : (2 ^ k : Nat) ≤ 2 ^ 62 := Nat.pow_le_pow_right (by decide) (by omega)
  have e : ((2 ^ k : Nat) : Int) = 2 ^ k := by simp
  rw [← e]
  exact IntWalk.wrap64_in _ (by generalize (2 : Nat) ^ k = q at *; omega)
end Go.Proofs.YtnidfcmomdmjaaaDoor
namespace Go.Proofs.YtnidfcmomdmjaaaDoor
open Go.RowKit
set_option linter.unusedVariables false
set_option linter.unusedSimpArgs false
def krow (l : List UInt8) : Array Value := (bv l).toArray
set_option maxRecDepth 100000 in
theorem krow_size (l : List UInt8) : (krow l).size = l.length := by simp [krow]
set_option maxRecDepth 100000 in
theorem krow_one (l : List UInt8) : (krow l).all (·.oneCell') = true := by
  rw [Array.all_eq_true_iff_forall_mem]
  intro x hx
  obtain ⟨b, _, rfl⟩ := List.mem_map.1 (by simpa [krow, bv] using hx)
  rfl
set_option maxRecDepth 100000 in
theorem krow_one' (l : List UInt8) : ∀ u ∈ (krow l).toList, u.oneCell' = true := by
  intro u hu
  exact bv_one l u (by simpa [krow] using hu)
set_option maxRecDepth 100000 in
theorem krow_get {l : List UInt8} {j : Nat} (u : Value) (h : (krow l)[j]? = some u) : ∃ b, l[j]? = some b ∧ u = .int .u8 (b.toNat : Int) := by
  rw [krow, List.getElem?_toArray, bv_get] at h
  obtain ⟨b, h1, h2⟩ := Option.map_eq_some_iff.1 h
  exact ⟨b, h1, h2.symm⟩
set_option maxRecDepth 100000 in
theorem krow_sum (l : List UInt8) : sumc l = krow (S2.sum l) := sumc_map l
set_option maxRecDepth 100000 in
theorem sz32 : (Tryd.prog.info? 22).map (·.size) = some 32 := by kernel_rfl
set_option maxRecDepth 100000 in
theorem sz32' {l : List UInt8} (h : l.length = 32) : (Tryd.prog.info? 22).map (·.size) = some (krow l).size := by rw [krow_size, h]; exact sz32
set_option maxRecDepth 100000 in
theorem came_row {W : World} {b : Nat} {l : List UInt8} {t : TypeId} {fr : Nat × Nat} (h : W.heap[b]? = some (.cells (krow l) t fr)) (hl : l.length ≤ 1000) : Came W (some ⟨b, 0, none⟩) l.length l.length l := by
  refine ⟨rfl, Nat.le_refl _, by unfold maxLen; omega, Or.inr ⟨b, 0, rfl, fun j hj => ?_⟩, fun e => by cases e⟩
  rw [Nat.zero_add, cell_of_block h, krow, List.getElem?_toArray, bv_get' l j hj]
set_option maxRecDepth 100000 in
theorem came_cells {W : World} {b : Nat} {l : List UInt8} {cs : Array Value} {t : TypeId} {fr : Nat × Nat} (h : W.heap[b]? = some (.cells cs t fr)) (hcs : cs = krow l) (hl : l.length ≤ 1000) : Came W (some ⟨b, 0, none⟩) l.length l.length l := by subst hcs; exact came_row h hl
set_option maxRecDepth 100000 in
theorem parts3 {w : World} {b : Nat} {a a2 a3 : Option Addr} {n n2 n3 c c2 c3 : Nat} {x y z : List UInt8} {t : TypeId} {fr : Nat × Nat} (h : w.heap[b]? = some (.cells #[.slice a n c, .slice a2 n2 c2, .slice a3 n3 c3] t fr)) (hx : Came w a n c x) (hy : Came w a2 n2 c2 y) (hz : Came w a3 n3 c3 z) : Parts w (some ⟨b, 0, none⟩) [x, y, z] := by
  refine Or.inr ⟨b, 0, rfl, fun j hj => ?_⟩
  match j, hj with
  | 0, _ => exact ⟨a, c, by rw [cell_of_block h]; simp [hx.len], hx.lies, by have := hx.le; have := hx.len; simp; omega, hx.mx⟩
  | 1, _ => exact ⟨a2, c2, by rw [cell_of_block h]; simp [hy.len], hy.lies, by have := hy.le; have := hy.len; simp; omega, hy.mx⟩
  | 2, _ => exact ⟨a3, c3, by rw [cell_of_block h]; simp [hz.len], hz.lies, by have := hz.le; have := hz.len; simp; omega, hz.mx⟩
set_option maxRecDepth 100000 in
theorem Came.ext {w w2 : World} {a : Option Addr} {n c : Nat} {l : List UInt8} (h : Came w a n c l) (F : Fr (fun _ => False) w w2) : Came w2 a n c l := h.grow F (fun _ _ h => h)
set_option maxRecDepth 100000 in
theorem Env.ext {w w2 : World} (h : Env w) (F : Fr (fun _ => False) w w2) : Env w2 := h.fr F (fun h => h)
set_option maxRecDepth 100000 in
theorem wpList_val {P : Program} {ops : Array Oper} {rest : List Oper} {o : Oper} {a : Act} {w w' : World} {v : Value} {Q : Exit → Act → World → Prop} (hgd : o.guard = none) (hr : (execOp a.eval o).run P w = .ok (.value v) w') (h : wpList P ops Q rest (a.put o.dst v) w') : wpList P ops Q (o :: rest) a w :=
  wpList_plain hgd fun _ hK => by
    unfold Oper.wp
    rw [hr]
    exact hK _ _ h
set_option maxRecDepth 100000 in
theorem wpList_buildSlice {P : Program} {ops : Array Oper} {rest : List Oper} {o : Oper} {a : Act} {w : World} {Q : Exit → Act → World → Prop} (hgd : o.guard = none) (t : TypeId) (m : Nat) (parts : Array (Nat × Operand)) (ho : o.op = .buildSlice t m parts) (vs : Array (Nat × Value)) (hvs : (parts.map fun (p : Nat × Operand) => (p.1, a.eval p.2)) = vs) {w' : World} {v : Value} (hr : (Instr.buildSlice t m vs).run P w = .ok v w') (h : wpList P ops Q rest (a.put o.dst v) w') : wpList P ops Q (o :: rest) a w := by
  refine wpList_val hgd (v := v) (w' := w') ?_ h
  unfold execOp
  simp only [ho, hvs, Sem.run_bind, Result.andThen_ok, Sem.run_pure, hr]
set_option maxRecDepth 100000 in
theorem mkB (z : Int) (w : World) : (Instr.buildSlice 33 1 #[(0, .int .u8 z)]).run Tryd.prog w = .ok (.slice (some ⟨w.heap.size, 0, none⟩) 1 1) (w.alloc (.cells #[.int .u8 z] 5)) := by kernel_rfl
set_option maxRecDepth 100000 in
theorem mkB2 (a b : Value) (h1 : a.cells = #[a]) (h2 : b.cells = #[b]) (w : World) : True := trivial
set_option maxRecDepth 100000 in
theorem mkP2 (a1 a2 : Option Addr) (n1 c1 n2 c2 : Nat) (w : World) : (Instr.buildSlice 45 2 #[(0, .slice a1 n1 c1), (1, .slice a2 n2 c2)]).run Tryd.prog w = .ok (.slice (some ⟨w.heap.size, 0, none⟩) 2 2) (w.alloc (.cells #[.slice a1 n1 c1, .slice a2 n2 c2] 33)) := by kernel_rfl
set_option maxRecDepth 100000 in
theorem mkP3 (a1 a2 a3 : Option Addr) (n1 c1 n2 c2 n3 c3 : Nat) (w : World) : (Instr.buildSlice 45 3 #[(0, .slice a1 n1 c1), (1, .slice a2 n2 c2), (2, .slice a3 n3 c3)]).run Tryd.prog w = .ok (.slice (some ⟨w.heap.size, 0, none⟩) 3 3) (w.alloc (.cells #[.slice a1 n1 c1, .slice a2 n2 c2, .slice a3 n3 c3] 33)) := by kernel_rfl
set_option maxRecDepth 100000 in
/-- A row stored into a block of the call's own, which is its result. -/
theorem done_row {f : Func} {Q : Ending → World → Prop} : True := trivial
end Go.Proofs.YtnidfcmomdmjaaaDoor
namespace Go.Proofs.YtnidfcmomdmjaaaDoor
open Go.RowKit
set_option linter.unusedVariables false
set_option linter.unusedSimpArgs false
/-- Rows of 32 bytes that lie behind an address. -/
structure Kv (w : World) (a : Option Addr) (L : List (List UInt8)) : Prop where
  lies : Lies w a L.flatten
  all : Lg.All32 L
set_option maxRecDepth 100000 in
theorem Kv.ext {w w2 : World} {a : Option Addr} {L : List (List UInt8)} (h : Kv w a L) (F : Fr (fun _ => False) w w2) : Kv w2 a L := ⟨h.lies.grow F, h.all⟩
set_option maxRecDepth 100000 in
theorem Kv.fr {w w2 : World} {a : Option Addr} {L : List (List UInt8)} {S : Nat → Prop} (h : Kv w a L) (F : Fr S w w2) (hS : ∀ k, inBlk a k → ¬ S k) : Kv w2 a L := ⟨h.lies.fr F hS, h.all⟩
set_option maxRecDepth 100000 in
theorem Kv.nil (w : World) (a : Option Addr) : Kv w a [] := ⟨Or.inl rfl, .nil⟩
set_option maxRecDepth 100000 in
theorem Kv.take {w : World} {a : Option Addr} {L : List (List UInt8)} (h : Kv w a L) (k : Nat) : Kv w a (L.take k) := ⟨by rw [← h.all.flat_take k]; exact h.lies.take _, h.all.take k⟩
set_option maxRecDepth 100000 in
theorem Kv.drop {w : World} {g off : Nat} {L : List (List UInt8)} (h : Kv w (some ⟨g, off, none⟩) L) (k : Nat) : Kv w (some ⟨g, off + k * 32, none⟩) (L.drop k) := ⟨by rw [← h.all.flat_drop k]; exact h.lies.drop _, h.all.drop k⟩
set_option maxRecDepth 100000 in
theorem Kv.at {w : World} {a : Option Addr} {L : List (List UInt8)} (h : Kv w a L) (h0 : 0 < L.length) : ∃ g off, a = some ⟨g, off, none⟩ := by
  rcases h.lies with h1 | ⟨g, off, e, _⟩
  · have := h.all.flat
    rw [h1] at this
    simp at this
    omega
  · exact ⟨g, off, e⟩
set_option maxRecDepth 100000 in
theorem Kv.cells {w : World} {g off : Nat} {L : List (List UInt8)} (h : Kv w (some ⟨g, off, none⟩) L) {k : Nat} {x : List UInt8} (hx : L[k]? = some x) : ∀ (j : Nat) (u : Value), (krow x)[j]? = some u → w.cell? ⟨g, off + k * 32 + j, none⟩ = some u := by
  intro j u hu
  obtain ⟨b, hb, rfl⟩ := krow_get u hu
  have hl := h.all x (List.mem_of_getElem? hx)
  have hj : j < 32 := by have := (List.getElem?_eq_some_iff.1 hb).1; omega
  have hat := h.all.at hx j hj
  rw [hb] at hat
  have hlt := (List.getElem?_eq_some_iff.1 hat).1
  have hv := (List.getElem?_eq_some_iff.1 hat).2
  rcases h.lies with h1 | ⟨g2, off2, e, hc⟩
  · rw [h1] at hlt; simp at hlt
  · cases e
    have := hc (k * 32 + j) hlt
    rw [hv, ← Nat.add_assoc] at this
    exact this
set_option maxRecDepth 100000 in
theorem wpList_load_cells {P : Program} {ops : Array Oper} {rest : List Oper} {o : Oper} {a : Act} {w : World} {Q : Exit → Act → World → Prop} (hgd : o.guard = none) (ty : TypeId) (x : Operand) (ho : o.op = .load ty x) (g q : Nat) (hx : a.eval x = .pointer (some ⟨g, q, none⟩)) (R : Array Value) (m : Nat)
    (d : TypeDesc) (hu : P.underlying ty = some d) (hd : d.isRow = true) (hty : (P.info? ty).map (·.size) = some m) (hc : ∀ i u, R[i]? = some u → w.cell? ⟨g, q + i, none⟩ = some u) (hm : R.size = m)
    (h : wpList P ops Q rest (a.put o.dst (.agg R)) w) : wpList P ops Q (o :: rest) a w := by
  refine wpList_load_mid hgd ty x ho g q hx R.toList d (fun j u hj => ?_) hu hd (by rw [hty, Array.length_toList, hm]) ?_
  · exact hc j u (by rw [← hj, Array.getElem?_toList])
  · rwa [Array.toArray_toList]
end Go.Proofs.YtnidfcmomdmjaaaDoor
namespace Go.Proofs.YtnidfcmomdmjaaaDoor
open Go.RowKit
set_option linter.unusedVariables false
set_option linter.unusedSimpArgs false
set_option maxRecDepth 100000 in
theorem bv_range (x : List UInt8) (h : x.length = 32) : ∃ f, krow x = ub 32 f := ⟨fun j => x.getD j 0, by
  apply Array.ext_getElem?
  intro j
  by_cases hj : j < 32
  · rw [ub_get 32 _ j hj, krow, List.getElem?_toArray, bv_get' x j (by omega), List.getD_eq_getElem?_getD, List.getElem?_eq_getElem (by omega)]; rfl
  · rw [Array.getElem?_eq_none (by rw [krow_size]; omega), Array.getElem?_eq_none (by rw [ub_size]; omega)]⟩
set_option maxRecDepth 100000 in
theorem rInfo : ∃ ti z, Tryd.prog.info? 22 = some ti ∧ ti.zero = some z ∧ ti.size = 32 ∧ ti.bytes = 32 ∧ z.cells.size = 32 := ⟨_, .agg (ub 32 (fun _ => 0)), rfl, by kernel_rfl, by kernel_rfl, by kernel_rfl, by kernel_rfl⟩
/-- The type of a row, its facts together. -/
structure RI (ti : TypeInfo) (z : Value) : Prop where
  h1 : Tryd.prog.info? 22 = some ti
  h2 : ti.zero = some z
  h3 : ti.size = 32
  h4 : ti.bytes = 32
  h5 : z.cells.size = 32
set_option maxRecDepth 100000 in
theorem rI : ∃ ti z, RI ti z := by
  obtain ⟨ti, z, h1, h2, h3, h4, h5⟩ := rInfo
  exact ⟨ti, z, h1, h2, h3, h4, h5⟩
/-- Rows of one's own. -/
def Or32 (w : World) (base : Nat) (v : Value) (L : List (List UInt8)) : Prop := w.ownsRow base 22 32 v L.length (bv L.flatten)
set_option maxRecDepth 100000 in
theorem own_ext {w w' : World} {base : Nat} {e : TypeId} {size : Nat} {v : Value} {n : Nat} {xs : List Value} (h : w.ownsRow base e size v n xs) (hF : Fr (fun _ => False) w w') : w'.ownsRow base e size v n xs := by
  refine ⟨h.1, ?_⟩
  rcases h.2 with hn | ⟨g, cap, cur, e, hb, hg, rest⟩
  · exact .inl hn
  · refine .inr ⟨g, cap, cur, e, hb, ?_, rest⟩
    exact (hF.block g (lt_of_block hg) (fun h => h)).trans hg
set_option maxRecDepth 100000 in
theorem own_fr {w w' : World} {base : Nat} {e : TypeId} {size : Nat} {v : Value} {n : Nat} {xs : List Value} {S : Nat → Prop} (h : w.ownsRow base e size v n xs) (hF : Fr S w w') (hS : ∀ k, v.ownBlock = some k → ¬ S k) : w'.ownsRow base e size v n xs := by
  refine ⟨h.1, ?_⟩
  rcases h.2 with hn | ⟨g, cap, cur, e, hb, hg, rest⟩
  · exact .inl hn
  · refine .inr ⟨g, cap, cur, e, hb, ?_, rest⟩
    exact (hF.block g (lt_of_block hg) (hS _ (by rw [e]; rfl))).trans hg
set_option maxRecDepth 100000 in
theorem own_up {w : World} {base base2 : Nat} {e : TypeId} {size : Nat} {v : Value} {n : Nat} {xs : List Value} (h : w.ownsRow base e size v n xs) (hb : base2 ≤ base) : w.ownsRow base2 e size v n xs := by
  refine ⟨h.1, ?_⟩
  rcases h.2 with hn | ⟨g, cap, cur, e, hb, rest⟩
  · exact .inl hn
  · exact .inr ⟨g, cap, cur, e, by omega, rest⟩
set_option maxRecDepth 100000 in
theorem Or32.nil (w : World) (base : Nat) : Or32 w base (.slice none 0 0) [] := World.ownsRow_nil _ _ _ _
set_option maxRecDepth 100000 in
theorem Or32.snoc {w : World} {base : Nat} {v : Value} {L : List (List UInt8)} {x : List UInt8} (h : w.ownsRow base 22 32 v (L.length + 1) (bv L.flatten ++ bv x)) : Or32 w base v (L ++ [x]) := by
  unfold Or32
  rw [List.length_append, List.flatten_append, List.flatten_singleton, bv_append]
  exact h
set_option maxRecDepth 100000 in
/-- What an own row is, for who reads it. -/
theorem Or32.view {w : World} {base : Nat} {v : Value} {L : List (List UInt8)} (h : Or32 w base v L) (ha : Lg.All32 L) : ∃ a c, v = .slice a L.length c ∧ L.length ≤ c ∧ c ≤ maxLen ∧ Kv w a L ∧ (∀ k, inBlk a k → base ≤ k ∧ k < w.heap.size) := by
  rcases h.2 with ⟨e, h0⟩ | ⟨g, cap, cur, e, hb, hg, hc, hm, hs, ht⟩
  · refine ⟨none, 0, by rw [e, h0], by omega, by unfold maxLen; omega, ?_, fun k hk => by obtain ⟨ad, h1, _⟩ := hk; cases h1⟩
    rw [List.eq_nil_of_length_eq_zero h0]
    exact Kv.nil _ _
  · refine ⟨some ⟨g, 0, none⟩, cap, e, hc, hm, ⟨Or.inr ⟨g, 0, rfl, fun j hj => ?_⟩, ha⟩, fun k hk => ?_⟩
    · have hl := ha.flat
      rw [Nat.zero_add, cell_of_block hg, ← Array.getElem?_toList]
      have h1 : (cur.toList.take (L.length * 32))[j]? = (bv L.flatten)[j]? := by rw [ht]
      rw [List.getElem?_take_of_lt (by omega), bv_get' _ j hj] at h1
      exact h1
    · obtain ⟨ad, h1, h2⟩ := hk
      cases h1
      rw [← h2]
      exact ⟨hb, lt_of_block hg⟩
set_option maxRecDepth 100000 in
theorem Lg.path_len : ∀ (n : Nat) (i : Nat) (L : List (List UInt8)), L.length ≤ n → (Lg.path i L).length ≤ L.length
  | 0, i, L, hn => by rw [Lg.path_one (by omega)]; simp
  | n + 1, i, L, hn => by
    by_cases h2 : L.length < 2
    · rw [Lg.path_one h2]; simp
    · have h1 := Lg.hf_lt (n := L.length) (by omega)
      have h0 := Lg.hf_pos L.length
      by_cases hi : i < Lg.hf L.length
      · rw [Lg.path_left (by omega) hi, List.length_append]
        have := Lg.path_len n i (L.take (Lg.hf L.length)) (by rw [List.length_take]; omega)
        rw [List.length_take] at this
        simp; omega
      · rw [Lg.path_right (by omega) hi, List.length_append]
        have := Lg.path_len n (i - Lg.hf L.length) (L.drop (Lg.hf L.length)) (by rw [List.length_drop]; omega)
        rw [List.length_drop] at this
        simp; omega
structure Nonempty' (p : Prop) : Prop where
  h : p
end Go.Proofs.YtnidfcmomdmjaaaDoor
namespace Go.Proofs.YtnidfcmomdmjaaaDoor
open Go.RowKit
set_option linter.unusedVariables false
set_option linter.unusedSimpArgs false
set_option maxRecDepth 100000 in
theorem Lg.sub_len : ∀ (n : Nat) (m : Nat) (L : List (List UInt8)) (all : Bool), L.length ≤ n → 1 ≤ m → m ≤ L.length → (Lg.sub m L all).length ≤ L.length
  | 0, m, L, all, hn, h1, h2 => by omega
  | n + 1, m, L, all, hn, h1, h2 => by
    by_cases hm : m = L.length
    · subst hm
      cases all
      · rw [Lg.sub_own]; simp; omega
      · rw [Lg.sub_all]; simp
    · have h4 := Lg.hf_lt (n := L.length) (by omega)
      have h0 := Lg.hf_pos L.length
      by_cases hi : m ≤ Lg.hf L.length
      · rw [Lg.sub_left hm (by omega) hi, List.length_append]
        have := Lg.sub_len n m (L.take (Lg.hf L.length)) all (by rw [List.length_take]; omega) h1 (by rw [List.length_take]; omega)
        rw [List.length_take] at this
        simp; omega
      · rw [Lg.sub_right hm (by omega) hi, List.length_append]
        have := Lg.sub_len n (m - Lg.hf L.length) (L.drop (Lg.hf L.length)) false (by rw [List.length_drop]; omega) (by omega) (by rw [List.length_drop]; omega)
        rw [List.length_drop] at this
        simp; omega
set_option maxRecDepth 100000 in
theorem Lg.sub_all32 : ∀ (n : Nat) (m : Nat) (L : List (List UInt8)) (all : Bool), L.length ≤ n → Lg.All32 L → Lg.All32 (Lg.sub m L all)
  | n, m, L, all, hn, h => by
    by_cases hm : m = L.length
    · subst hm
      cases all
      · rw [Lg.sub_own]; exact fun x hx => by rw [List.mem_singleton.1 hx]; exact Lg.root_len h
      · rw [Lg.sub_all]; exact .nil
    · by_cases h2 : L.length < 2
      · rw [Lg.sub, dif_neg hm, dif_pos h2]; exact .nil
      · match n, hn with
        | 0, hn => omega
        | n + 1, hn =>
          have h4 := Lg.hf_lt (n := L.length) (by omega)
          have h0 := Lg.hf_pos L.length
          by_cases hi : m ≤ Lg.hf L.length
          · rw [Lg.sub_left hm (by omega) hi]
            exact (Lg.sub_all32 n m _ all (by rw [List.length_take]; omega) (h.take _)).snoc (Lg.root_len (h.drop _))
          · rw [Lg.sub_right hm (by omega) hi]
            exact (Lg.sub_all32 n _ _ false (by rw [List.length_drop]; omega) (h.drop _)).snoc (Lg.root_len (h.take _))
set_option maxRecDepth 100000 in
theorem Or32.one {w : World} {base g : Nat} {x : List UInt8} (hb : base ≤ g) (hg : w.heap[g]? = some (.cells (krow x) 22 (0, 0))) (hx : x.length = 32) : Or32 w base (.slice (some ⟨g, 0, none⟩) 1 1) [x] :=
  ⟨by simp [hx], .inr ⟨g, 1, _, rfl, hb, hg, Nat.le_refl _, by unfold maxLen; omega, by rw [krow_size, hx], by
    have : (bv x).length ≤ 1 * 32 := by rw [bv_length, hx]; decide
    simp [krow, List.take_of_length_le, hx]⟩⟩
end Go.Proofs.YtnidfcmomdmjaaaDoor
namespace Go.Proofs.YtnidfcmomdmjaaaDoor
open Go.RowKit
set_option linter.unusedVariables false
set_option linter.unusedSimpArgs false
set_option maxRecDepth 100000 in
theorem wrA (k : Nat) (h : k + 1 ≤ 9223372036854775807) : wrap64 (((k + 1 : Nat) : Int) - 1) = (k : Int) := by rw [IntWalk.wrap64_in _ (by omega)]; omega
set_option maxRecDepth 100000 in
theorem wrC (k : Nat) (h : k ≤ 9223372036854775807) : wrap64 (k : Int) = (k : Int) := IntWalk.wrap64_in _ (by omega)
set_option maxRecDepth 100000 in
theorem wrS (i h : Nat) (h1 : h ≤ i) (h2 : i ≤ 9223372036854775807) : wrap64 ((i : Int) - (h : Int)) = ((i - h : Nat) : Int) := by rw [IntWalk.wrap64_in _ (by omega)]; omega
set_option maxRecDepth 100000 in
theorem quiet_load_cellsS {P : Program} {C : Act → Prop} {a : Act} {o : Oper} {S : Nat → Prop} {W0 : World} {γ : Ks.Gs S W0} (ty : TypeId) (x : Operand) (ho : o.op = .load ty x) (g q : Nat) (hx : a.eval x = .pointer (some ⟨g, q, none⟩)) (R : Array Value) (m : Nat)
    (d : TypeDesc) (hu : P.underlying ty = some d) (hd : d.isRow = true) (hty : (P.info? ty).map (·.size) = some m) (hc : ∀ z : Ks.Ws γ, ∀ (i : Nat) (u : Value), R[i]? = some u → z.w.cell? ⟨g, q + i, none⟩ = some u) (hm : R.size = m)
    (hk : C (a.put o.dst (.agg R))) : o.quiet P a (fun w' => ∃ y : Ks.Ws γ, w' = y.w) C :=
  ⟨.agg R, fun w' ⟨y, e⟩ => by
    subst e
    have hr := run_loadVar_mid (P := P) y.w g q ty R.toList d (fun j u hj => hc y j u (by rw [← hj, Array.getElem?_toList])) hu hd (by rw [hty, Array.length_toList, hm])
    rw [Array.toArray_toList] at hr
    unfold Oper.quietAt execOp
    simp only [ho, hx, Instr.loadAt, Instr.sureAddr, Sem.run_bind, Sem.run_pure, Result.andThen_ok, hr, Oper.quietUpon]
    exact ⟨trivial, trivial⟩, hk⟩
set_option maxRecDepth 100000 in
theorem Calls.keepS {P : Program} {f : FuncId} {args : Array Value} {S : Nat → Prop} {W0 : World} {γ : Ks.Gs S W0} {x : Ks.Ws γ} {v : Value} (h : Calls P f args x.w fun e w' => e = .returned v ∧ x.w = w') : Calls P f args x.w fun e w'' => e = .returned v ∧ ∃ y : Ks.Ws γ, w'' = y.w :=
  h.mono fun _ w' ⟨he, hf⟩ => ⟨he, x, hf.symm⟩
def z32 : List UInt8 := List.replicate 32 0
set_option maxRecDepth 100000 in
theorem z32_row : ub 32 (fun _ => 0) = krow z32 := by kernel_rfl
set_option maxRecDepth 100000 in
theorem z32_len : z32.length = 32 := rfl
set_option maxRecDepth 100000 in
theorem Lg.climb_len (s : List UInt8) (hs : s.length = 32) : ∀ (r : List (List UInt8)) (i n : Nat), (Lg.climb z32 s i n r).1.length = 32
  | [], i, n => by unfold Lg.climb; split <;> first | exact hs | rfl
  | x :: r, i, n => by
    unfold Lg.climb
    split
    · exact hs
    · split <;> rfl
set_option maxRecDepth 100000 in
theorem rev_take (x : List UInt8) (r : List (List UInt8)) : (x :: r).reverse.take r.length = r.reverse := by
  rw [List.reverse_cons, List.take_append_of_le_length (by simp)]
  exact List.take_of_length_le (by simp)
set_option maxRecDepth 100000 in
theorem rev_last (x : List UInt8) (r : List (List UInt8)) : (x :: r).reverse[r.length]? = some x := by
  rw [List.reverse_cons, List.getElem?_append_right (by simp)]; simp
end Go.Proofs.YtnidfcmomdmjaaaDoor
namespace Go.Proofs.YtnidfcmomdmjaaaDoor
open Go.RowKit
set_option linter.unusedVariables false
namespace Kj
open Ks (Es)
section
variable {P : Program} {md : Region.Mode} {ops : Array Oper} {Q : Act → World → Prop} {S : Nat → Nat → Prop}

/-- Whatever order is picked from here on, from every world that keeps what is here. -/
def wpM (S : Nat → Nat → Prop) (P : Program) (md : Region.Mode) (ops : Array Oper) (Q : Act → World → Prop) : Nat → Array Bool → Act → World → Prop
  | 0, listed, a, w => Region.ready md ops listed = [] ∧ ∀ w', Ex w w' → Q a w'
  | fuel + 1, listed, a, w => (Region.ready md ops listed = [] → ∀ w', Ex w w' → Q a w') ∧
    ∀ i ∈ Region.ready md ops listed, ∀ w', Ex w w' → wpOp P ops NQ i (fun a'' w'' => Es (S i) w' w'' ∧ wpM S P md ops Q fuel (listed.setIfInBounds i true) a'' w'') a w'
set_option maxRecDepth 100000 in
theorem wpM.up : ∀ (fuel : Nat) (listed : Array Bool) (a : Act) (w w' : World), Ex w w' → wpM S P md ops Q fuel listed a w → wpM S P md ops Q fuel listed a w'
  | 0, _, _, _, _, hx, h => ⟨h.1, fun w2 h2 => h.2 w2 (hx.tr h2)⟩
  | _ + 1, _, _, _, _, hx, h => ⟨fun h0 w2 h2 => h.1 h0 w2 (hx.tr h2), fun i hi w2 h2 => h.2 i hi w2 (hx.tr h2)⟩
set_option maxRecDepth 100000 in
theorem wpAny_of_M {Q' : Exit → Act → World → Prop} (hQ : ∀ a w, Q a w → Q' .normal a w) : ∀ (fuel : Nat) (listed : Array Bool) (a : Act) (w : World), wpM S P md ops Q fuel listed a w → wpAny P md ops Q' fuel listed a w
  | 0, _, _, w, h => ⟨h.1, hQ _ _ (h.2 w (Fr.refl _ w))⟩
  | fuel + 1, _, _, w, h => ⟨fun h0 => hQ _ _ (h.1 h0 w (Fr.refl _ w)), fun i hi => wpOp_mono (fun a'' w'' h => wpAny_of_M hQ fuel _ a'' w'' h.2) (wpOp_nq (h.2 i hi w (Fr.refl _ w)))⟩

/-- In every world from W on the operation leaves v, and keeps what is there. -/
def YM (S : Nat → Prop) (P : Program) (ops : Array Oper) (W : World) (o : Oper) (v : Value) (a : Act) : Prop :=
  (Region.wanted o (yielded ops a.tmps) = true ∧ ∀ w, Es S W w → o.quietAt P a (Ex w) w v) ∨ (Region.wanted o (yielded ops a.tmps) = false ∧ v = undef)
set_option maxRecDepth 100000 in
theorem YM.up {S : Nat → Prop} {W W' : World} {o : Oper} {v : Value} {a : Act} (hx : Es S W W') (h : YM S P ops W o v a) : YM S P ops W' o v a :=
  h.imp (fun h => ⟨h.1, fun w hw => h.2 w (hx.tr hw)⟩) id
set_option maxRecDepth 100000 in
theorem YM.of_same {S : Nat → Prop} {W : World} {o : Oper} {v : Value} {a a' : Act} (hy : YM S P ops W o v a) (he : execOp a'.eval o = execOp a.eval o)
    (hw : Region.wanted o (yielded ops a'.tmps) = Region.wanted o (yielded ops a.tmps)) : YM S P ops W o v a' := by
  unfold YM Oper.quietAt at *
  rw [he, hw]
  exact hy
set_option maxRecDepth 100000 in
theorem YM.wpOp {S : Nat → Prop} {W w : World} {i : Nat} {o : Oper} {v : Value} {a : Act} (hi : ops[i]? = some o) (hy : YM S P ops W o v a) (hx : Ex W w) {K : Act → World → Prop} (h : ∀ w', Ex w w' → K (a.put o.dst v) w') : Go.wpOp P ops NQ i K a w := by
  unfold Go.wpOp
  simp only [hi]
  rcases hy with ⟨hw, hv⟩ | ⟨hw, rfl⟩
  · simp only [hw, if_true]
    exact .inl (Oper.wp_of_quiet (C := Ex w) (K := fun a' => a' = a.put o.dst v) (Fr.refl _ w) (fun a' w' hc e => by subst e; exact h w' hc) ⟨v, fun w1 h1 => quietAt_mono (fun w2 h2 => h1.tr h2) (hv w1 (Ks.Es.of (hx.tr h1))), rfl⟩)
  · simp only [hw, Bool.false_eq_true, if_false]; exact h w (Fr.refl _ w)
set_option maxRecDepth 100000 in
theorem wpM_first {T : Nat → Prop} {i : Nat} {oi : Oper} {v : Value} (hi : ops[i]? = some oi) (hz : ∀ j oz, ops[j]? = some oz → (∃ e ∈ oz.after, Region.binds md e = true ∧ e.on = i) ∨ ∀ b, S j b → T b) (hsel : ∀ (j : Nat) (o : Oper) cs b, ops[j]? = some o → o.op ≠ .select cs b) :
    ∀ (fuel : Nat) (listed : Array Bool) (a : Act) (W : World), Fre md ops oi i listed → i ∈ Region.ready md ops listed → YM T P ops W oi v a →
      wpM S P md ops Q fuel (listed.setIfInBounds i true) (a.put oi.dst v) W → wpM S P md ops Q (fuel + 1) listed a W
  | fuel, listed, a, W, hf, hr, hy, H => by
    refine ⟨fun e => absurd hr (by rw [e]; simp), fun j hj w' hx => ?_⟩
    rcases Nat.decEq j i with hji | hji
    · cases fuel with
      | zero => exact absurd (ready_mono hj hji) (by rw [H.1]; simp)
      | succ fuel =>
        obtain ⟨hun, oj, hoj, _⟩ := mem_ready.1 hj
        have hjz : ∀ b, S j b → T b := (hz j oj hoj).resolve_left (fun ⟨e, he, hb, hon⟩ => no_wait hr hj hoj e he hb hon)
        obtain ⟨s1, s2, s3⟩ := Oper.apart_spec (hf j oj hoj hji hun (no_wait hr hj hoj))
        have selj := fun cs b => hsel j oj cs b hoj
        have seli := fun cs b => hsel i oi cs b hi
        refine wpOp_over hoj (execOp_put oj selj a oi.dst v s1).symm (wanted_put oj a oi.dst v s1).symm (fun u w'' ⟨h1, h2⟩ => ⟨h1, ?_⟩) (fun d w'' ⟨h1, h2⟩ => ⟨h1, ?_⟩) (H.2 j (ready_mono hj hji) w' hx)
        · refine wpM_first (v := v) hi hz hsel fuel _ _ w'' (hf.next hun) (ready_mono hr (fun c => hji c.symm)) ?_ ?_
          · exact (hy.up (Ks.Es.tr (Ks.Es.of hx) (h1.mono (fun b _ => hjz b)))).of_same (execOp_put oi seli a oj.dst u s3) (wanted_put oi a oj.dst u s3)
          · rw [Array.setIfInBounds_comm _ _ hji, ← Act.put_comm a v u s2]
            exact h2
        · refine wpM_first (v := v) hi hz hsel fuel _ _ w'' (hf.next hun) (ready_mono hr (fun c => hji c.symm)) ?_ ?_
          · exact ((hy.up (Ks.Es.tr (Ks.Es.of hx) (h1.mono (fun b _ => hjz b)))).of_same (a' := { a with defers := d :: a.defers }) rfl rfl).of_same (execOp_put oi seli _ oj.dst undef s3) (wanted_put oi _ oj.dst undef s3)
          · rw [Array.setIfInBounds_comm _ _ hji, ← Act.put_comm _ v undef s2, ← Act.put_defers]
            exact h2
    · subst hji
      exact hy.wpOp hi hx fun w'' h2 => ⟨Ks.Es.of h2, wpM.up _ _ _ _ _ (hx.tr h2) H⟩

/-- The walk in an order of one's own: (k, false): the operation k leaves one value wherever it comes up; (k, true): it comes up when no other one can. -/
def Wk (S : Nat → Nat → Prop) (P : Program) (md : Region.Mode) (ops : Array Oper) (Q : Act → World → Prop) : List (Nat × Bool) → Act → World → Prop
  | [], a, w => ∀ w', Ex w w' → Q a w'
  | (k, false) :: r, a, w => ∃ (o : Oper) (v : Value) (T : Nat → Prop), ops[k]? = some o ∧ (∀ j oz, ops[j]? = some oz → (∃ e ∈ oz.after, Region.binds md e = true ∧ e.on = k) ∨ ∀ b, S j b → T b) ∧ YM T P ops w o v a ∧ Wk S P md ops Q r (a.put o.dst v) w
  | (k, true) :: r, a, w => ∀ w', Ex w w' → wpOp P ops NQ k (fun a'' w'' => Es (S k) w' w'' ∧ Wk S P md ops Q r a'' w'') a w'
/-- That z waits for k. -/
def zB (md : Region.Mode) (ops : Array Oper) (z k : Nat) : Bool := match ops[z]? with
  | some oz => oz.after.any fun e => Region.binds md e && e.on == k
  | none => true
set_option maxRecDepth 100000 in
theorem zB_spec {md : Region.Mode} {ops : Array Oper} {z k : Nat} (h : zB md ops z k = true) : ∀ oz, ops[z]? = some oz → ∃ e ∈ oz.after, Region.binds md e = true ∧ e.on = k := by
  intro oz ho
  unfold zB at h
  rw [ho] at h
  obtain ⟨i, hi, h2⟩ := Array.any_eq_true.1 h
  simp only [Bool.and_eq_true, beq_iff_eq] at h2
  exact ⟨_, Array.getElem_mem hi, h2.1, h2.2⟩
/-- That j waits for all of a stretch. -/
def segW (md : Region.Mode) (ops : Array Oper) (j k n : Nat) : Bool := (List.range n).all fun i => zB md ops j (k + i)
set_option maxRecDepth 100000 in
theorem segW_spec {md : Region.Mode} {ops : Array Oper} {j k n : Nat} (h : segW md ops j k n = true) {oz : Oper} (ho : ops[j]? = some oz) (i : Nat) (h1 : k ≤ i) (h2 : i < k + n) : ∃ e ∈ oz.after, Region.binds md e = true ∧ e.on = i := by
  have := List.all_eq_true.1 h (i - k) (List.mem_range.2 (by omega))
  rw [show k + (i - k) = i by omega] at this
  exact zB_spec this oz ho
/-- That the order may be walked so. -/
def okZ (md : Region.Mode) (ops : Array Oper) : List (Nat × Bool) → Array Bool → Bool
  | [], listed => (Region.ready md ops listed).isEmpty
  | (k, false) :: r, listed => (Region.ready md ops listed).contains k && Region.free md ops listed k && okZ md ops r (listed.setIfInBounds k true)
  | (k, true) :: r, listed => (Region.ready md ops listed == [k]) && okZ md ops r (listed.setIfInBounds k true)
set_option maxRecDepth 100000 in
theorem Wk.M (hs : Region.noSelect ops = true) : ∀ (l : List (Nat × Bool)) (listed : Array Bool) (a : Act) (w : World), okZ md ops l listed = true → Wk S P md ops Q l a w → wpM S P md ops Q l.length listed a w
  | [], _, _, _, hB, h => ⟨by simpa [okZ] using hB, h⟩
  | (k, false) :: r, listed, a, w, hB, h => by
    obtain ⟨o, v, T, h0, hw, hy, hk⟩ := h
    simp only [okZ, Bool.and_eq_true] at hB
    obtain ⟨⟨hr, hf⟩, hB'⟩ := hB
    exact wpM_first h0 hw (Region.noSelect_spec hs) r.length listed a w (Region.free_spec h0 hf) (by simpa using hr) hy (Wk.M hs r _ _ w hB' hk)
  | (k, true) :: r, listed, a, w, hB, h => by
    simp only [okZ, Bool.and_eq_true, beq_iff_eq] at hB
    refine ⟨fun h0 => (by rw [hB.1] at h0; cases h0), fun i hi w' hx => ?_⟩
    rw [hB.1] at hi
    obtain rfl : i = k := by simpa using hi
    exact wpOp_mono (fun a'' w'' ⟨h1, h2⟩ => ⟨h1, Wk.M hs r _ a'' w'' hB.2 h2⟩) (h w' hx)
end

set_option maxRecDepth 100000 in
theorem wp_region_mono (S : Nat → Nat → Prop) {P : Program} {id : Nat} {Q : Exit → Act → World → Prop} {a : Act} {W0 : World} {l : List Oper} (π : List (Nat × Bool)) (hm : P.follows .mixedOrders = true)
    (hB : (Region.noSelect l.toArray && (π.length == l.length) && okZ .any l.toArray π (Array.replicate l.length false)) = true)
    (h : Wk S P .any l.toArray (fun a w => Q .normal a w) π a W0) : (Code.region id l.toArray true).wp P Q a W0 := by
  simp only [Bool.and_eq_true, beq_iff_eq] at hB
  refine wp_region_any hm ?_
  have := wpM.up _ _ _ _ _ ((Fr.refl (fun _ => False) W0).drew) (Wk.M hB.1.1 π _ a W0 hB.2 h)
  rw [hB.1.2] at this
  have h2 := wpAny_of_M (Q' := Q) (fun _ _ h => h) _ _ _ _ this
  simpa using h2

section
variable {P : Program} {md : Region.Mode} {Q : Act → World → Prop} {S : Nat → Nat → Prop} {T : Nat → Prop}
open Ks (Gs Ws)
set_option maxRecDepth 100000 in
theorem Wk.steps {ops : Array Oper} {aF : Act} {W : World} {r : List (Nat × Bool)} : ∀ (os : List Oper) (k : Nat) (a : Act), (∀ j, j < os.length → ops[k + j]? = os[j]?) → segB a.tmps.size os = true → (∀ i, k ≤ i → i < k + os.length → ∀ j oz, ops[j]? = some oz → (∃ e ∈ oz.after, Region.binds md e = true ∧ e.on = i) ∨ ∀ b, S j b → T b) →
    (∀ γ : Gs T W, wpQuiet P ops (fun w' => ∃ y : Ws γ, w' = y.w) (fun a' => a' = aF) os a) → Wk S P md ops Q r aF W → Wk S P md ops Q (sg k os.length ++ r) a W
  | [], k, a, _, _, _, h, hr => by
    have h : a = aF := h ⟨fun _ => True, fun _ _ _ _ => trivial, W, Fr.refl _ W, trivial⟩
    rw [h]
    exact hr
  | o :: l, k, a, hl, hB, hT, h, hr => by
    have h0 : ops[k]? = some o := by simpa using hl 0 (by simp)
    simp only [segB, Bool.and_eq_true] at hB
    obtain ⟨hB1, hB2⟩ := hB
    obtain ⟨d, hod⟩ : ∃ d, o.dst = some d := by
      cases hd : o.dst with
      | none => rw [hd] at hB1; simp at hB1
      | some d => exact ⟨d, rfl⟩
    rw [hod] at hB1
    simp only [Bool.and_eq_true, decide_eq_true_eq, List.all_eq_true] at hB1
    have one : ∀ γ : Gs T W, ∀ v, wpQuiet P ops (fun w' => ∃ y : Ws γ, w' = y.w) (fun a' => a' = aF) l (a.put o.dst v) → aF.tmps[d]? = some v := fun γ v hq => by
      rw [quiet_final l _ hq d (fun x hx e => by have := hB1.2 x hx; simp [e] at this), hod]
      simp [Act.put, hB1.1]
    have key : ∀ γ : Gs T W, ∃ v, YieldsIn P ops (fun w' => ∃ y : Ws γ, w' = y.w) o v a ∧ wpQuiet P ops (fun w' => ∃ y : Ws γ, w' = y.w) (fun a' => a' = aF) l (a.put o.dst v) := fun γ => by
      have hq := h γ
      unfold wpQuiet at hq
      by_cases hw : Region.wanted o (yielded ops a.tmps) = true
      · rw [if_pos hw] at hq
        obtain ⟨v, h1, h2⟩ := hq
        exact ⟨v, .inl ⟨hw, h1⟩, h2⟩
      · rw [if_neg hw] at hq
        exact ⟨undef, .inr ⟨by simpa using hw, rfl⟩, hq⟩
    obtain ⟨v, hy0, hq0⟩ := key ⟨fun _ => True, fun _ _ _ _ => trivial, W, Fr.refl _ W, trivial⟩
    have hv := one _ v hq0
    have all : ∀ γ : Gs T W, YieldsIn P ops (fun w' => ∃ y : Ws γ, w' = y.w) o v a ∧ wpQuiet P ops (fun w' => ∃ y : Ws γ, w' = y.w) (fun a' => a' = aF) l (a.put o.dst v) := fun γ => by
      obtain ⟨u, h1, h2⟩ := key γ
      have hu := one γ u h2
      rw [hv] at hu
      obtain rfl := Option.some.inj hu
      exact ⟨h1, h2⟩
    refine ⟨o, v, T, h0, hT k (Nat.le_refl _) (by simp), ?_, Wk.steps l (k + 1) (a.put o.dst v) (fun j hj => by have := hl (j + 1) (by simpa using hj); simpa [Nat.add_assoc, Nat.add_comm 1 j] using this) (by rw [put_size]; exact hB2) (fun i h1 h2 => hT i (by omega) (by simp only [List.length_cons]; omega)) (fun γ => (all γ).2) hr⟩
    rcases hy0 with ⟨hw, _⟩ | ⟨hw, rfl⟩
    · refine .inl ⟨hw, fun w hx => ?_⟩
      have hg := (all ⟨fun w' => Ex w w', fun w1 w2 hF hw1 => Ex.tr hw1 hF, w, hx, Fr.refl _ w⟩).1
      rcases hg with ⟨_, hg⟩ | ⟨hw2, _⟩
      · exact quietAt_mono (fun w' ⟨y, e⟩ => by rw [e]; exact y.g) (hg w ⟨⟨w, hx, Fr.refl _ w⟩, rfl⟩)
      · rw [hw] at hw2; cases hw2
    · exact .inr ⟨hw, rfl⟩
set_option maxRecDepth 100000 in
/-- Operations that leave one value each, by the walk in the order of the text. -/
theorem Wk.seg {l : List Oper} {a : Act} {W : World} {r : List (Nat × Bool)} (T : Nat → Prop) (k n : Nat) (hn : ((l.drop k).take n).length = n) (hB : segB a.tmps.size ((l.drop k).take n) = true)
    (hT : ∀ j b, S j b → segW md l.toArray j k n = true ∨ T b)
    (h : ∃ aF, (∀ γ : Gs T W, wpQuiet P l.toArray (fun w' => ∃ y : Ws γ, w' = y.w) (fun a' => a' = aF) ((l.drop k).take n) a) ∧ Wk S P md l.toArray Q r aF W) : Wk S P md l.toArray Q (sg k n ++ r) a W := by
  obtain ⟨aF, h1, h2⟩ := h
  have := Wk.steps (md := md) (Q := Q) (r := r) ((l.drop k).take n) k a (fun j hj => by
    rw [List.getElem?_take_of_lt (by omega), List.getElem?_drop, List.getElem?_toArray]) hB (fun i hi1 hi2 j oz hoz => by
      rw [hn] at hi2
      by_cases hw : segW md l.toArray j k n = true
      · exact .inl (segW_spec hw hoz i hi1 hi2)
      · exact .inr fun b hb => (hT j b hb).resolve_left hw) h1 h2
  rwa [hn] at this
set_option maxRecDepth 100000 in
/-- A call, whatever it answers. -/
theorem Wk.call {ops : Array Oper} {a : Act} {W : World} {r : List (Nat × Bool)} {k : Nat} {o : Oper} (hi : ops[k]? = some o) (hw : Region.wanted o (yielded ops a.tmps) = true) (f : FuncId) (args : Array Value)
    (hrun : ∀ w, (execOp a.eval o).run P w = .ok (.enter f args) w) (R : Value → World → Prop) (hc : ∀ w, Ex W w → Calls P f args w fun e w' => ∃ v, e = .returned v ∧ Ex w w' ∧ R v w')
    (h : ∀ v w', Ex W w' → R v w' → Wk S P md ops Q r (a.put o.dst v) w') : Wk S P md ops Q ((k, true) :: r) a W := by
  intro w hx
  unfold wpOp
  simp only [hi, hw, if_true]
  refine .inl ?_
  unfold Oper.wp
  rw [hrun, Oper.upon_enter]
  refine (hc w hx).mono fun e w' hh => ?_
  obtain ⟨v, rfl, h1, h2⟩ := hh
  exact ⟨Ks.Es.of h1, h v w' (hx.tr h1) h2⟩

end
set_option maxRecDepth 100000 in
/-- An operation that comes up alone, by a law of the walk in the text's order. -/
theorem Wk.one {P : Program} {md : Region.Mode} {Q : Act → World → Prop} {S : Nat → Nat → Prop} {ops : Array Oper} {a : Act} {W : World} {r : List (Nat × Bool)} {k : Nat} {o : Oper} (hi : ops[k]? = some o)
    (h : ∀ w, Ex W w → wpList P ops (fun e a' w' => e = .normal ∧ Es (S k) w w' ∧ Wk S P md ops Q r a' w') [o] a w) : Wk S P md ops Q ((k, true) :: r) a W :=
  fun w hx => Ks.wpOp_of_list hi (h w hx)
end Kj
end Go.Proofs.YtnidfcmomdmjaaaDoor
namespace Go.Proofs.YtnidfcmomdmjaaaDoor
open Go.RowKit
set_option linter.unusedVariables false
set_option linter.unusedSimpArgs false
/-- A string's value. -/
def str (l : List UInt8) : Value := .string ⟨l.toArray⟩
set_option maxRecDepth 100000 in
theorem str_cells (l : List UInt8) : (str l).cells = #[str l] := rfl
set_option maxRecDepth 100000 in
theorem str_one (l : List UInt8) : (str l).oneCell' = true := rfl
/-- Strings that lie behind an address. -/
def Sv (w : World) (a : Option Addr) (W : List (List UInt8)) : Prop := W = [] ∨ ∃ g off, a = some ⟨g, off, none⟩ ∧ ∀ (j : Nat) (x : List UInt8), W[j]? = some x → w.cell? ⟨g, off + j, none⟩ = some (str x)
set_option maxRecDepth 100000 in
theorem Sv.fr {w w2 : World} {a : Option Addr} {W : List (List UInt8)} {S : Nat → Prop} (h : Sv w a W) (F : Fr S w w2) (hS : ∀ k, inBlk a k → ¬ S k) : Sv w2 a W :=
  h.imp id fun ⟨g, off, e, hc⟩ => ⟨g, off, e, fun j x hx => F.cellSome (hS g ⟨_, e, rfl⟩) (hc j x hx)⟩
set_option maxRecDepth 100000 in
theorem Sv.ext {w w2 : World} {a : Option Addr} {W : List (List UInt8)} (h : Sv w a W) (F : Fr (fun _ => False) w w2) : Sv w2 a W := h.fr F (fun _ _ h => h)
set_option maxRecDepth 100000 in
theorem Sv.nil (w : World) (a : Option Addr) : Sv w a [] := Or.inl rfl
set_option maxRecDepth 100000 in
theorem Sv.take {w : World} {a : Option Addr} {W : List (List UInt8)} (h : Sv w a W) (k : Nat) : Sv w a (W.take k) := by
  rcases h with h | ⟨g, off, e, hc⟩
  · rw [h]; simp [Sv]
  · exact Or.inr ⟨g, off, e, fun j x hx => hc j x (by
      rw [List.getElem?_take] at hx
      split at hx
      · exact hx
      · cases hx)⟩
set_option maxRecDepth 100000 in
theorem Sv.drop {w : World} {g off : Nat} {W : List (List UInt8)} (h : Sv w (some ⟨g, off, none⟩) W) (k : Nat) : Sv w (some ⟨g, off + k, none⟩) (W.drop k) := by
  rcases h with h | ⟨g2, off2, e, hc⟩
  · rw [h]; simp [Sv]
  · cases e
    exact Or.inr ⟨g, off + k, rfl, fun j x hx => by
      have := hc (k + j) x (by rw [← List.getElem?_drop]; exact hx)
      rw [show off + k + j = off + (k + j) by omega]; exact this⟩
set_option maxRecDepth 100000 in
theorem Sv.at {w : World} {a : Option Addr} {W : List (List UInt8)} (h : Sv w a W) (h0 : 0 < W.length) : ∃ g off, a = some ⟨g, off, none⟩ := by
  rcases h with h1 | ⟨g, off, e, _⟩
  · rw [h1] at h0; simp at h0
  · exact ⟨g, off, e⟩
set_option maxRecDepth 100000 in
theorem Sv.cell {w : World} {g off : Nat} {W : List (List UInt8)} (h : Sv w (some ⟨g, off, none⟩) W) {k : Nat} {x : List UInt8} (hx : W[k]? = some x) : w.cell? ⟨g, off + k, none⟩ = some (str x) := by
  rcases h with h1 | ⟨g2, off2, e, hc⟩
  · rw [h1] at hx; simp at hx
  · cases e; exact hc k x hx
set_option maxRecDepth 100000 in
theorem rsum_str (l : List UInt8) (hl : l.length ≤ 1000000) (w : World) (hE : REnv w) : Calls Tryd.prog 13 #[str l] w fun e w' => e = .returned (str (S2.sum l)) ∧ Fr (fun _ => False) w w' := by
  refine (rsum_any ⟨l.toArray⟩ (by show l.toArray.size ≤ _; simp; omega) w hE).mono ?_
  rintro e w' ⟨rfl, F⟩
  exact ⟨by rw [sb_mk]; rfl, F⟩
set_option maxRecDepth 100000 in
theorem str_add (x y : List UInt8) (hx : x.length ≤ 1000000) (hy : y.length ≤ 1000000) (W : World) : (Op.stringOp .add ⟨x.toArray⟩ ⟨y.toArray⟩).run Tryd.prog W = .ok (str (x ++ y)) W := run_string_add_lists W x y (by omega) (by omega)
set_option maxRecDepth 100000 in
theorem REnv.ext {w w2 : World} (h : REnv w) (F : Fr (fun _ => False) w w2) : REnv w2 := h.fr F (fun h => h) (fun h => h)
set_option maxRecDepth 100000 in
theorem wrD (p : Nat) (h : p * 2 ≤ 9223372036854775807) : wrap64 ((p : Int) * 2) = ((p * 2 : Nat) : Int) := by rw [IntWalk.wrap64_in _ (by omega)]; omega
set_option maxRecDepth 100000 in
theorem half_meas {n p : Nat} (h : p < n - p) (h0 : 0 < p) (u : Int) (hu : u = ((p * 2 : Nat) : Int)) : n - u.toNat < n - ((p : Int)).toNat := by
  rw [hu, Int.toNat_natCast, Int.toNat_natCast]; omega
set_option maxRecDepth 100000 in
theorem hf_loop {n j : Nat} (h2 : 2 ≤ n) (hj : j ≤ Nat.log2 (n - 1)) : (2 ^ j < n - 2 ^ j ↔ j < Nat.log2 (n - 1)) ∧ 2 ^ j < n := by
  have h1 := Nat.log2_self_le (show n - 1 ≠ 0 by omega)
  have h3 := Nat.lt_log2_self (n := n - 1)
  have hp : 2 ^ j ≤ 2 ^ Nat.log2 (n - 1) := Nat.pow_le_pow_right (by decide) hj
  refine ⟨⟨fun h => ?_, fun h => ?_⟩, by omega⟩
  · rcases Nat.lt_or_ge j (Nat.log2 (n - 1)) with h4 | h4
    · exact h4
    · obtain rfl : j = Nat.log2 (n - 1) := by omega
      rw [Nat.pow_succ] at h3
      omega
  · have : 2 ^ (j + 1) ≤ 2 ^ Nat.log2 (n - 1) := Nat.pow_le_pow_right (by decide) h
    rw [Nat.pow_succ] at this
    omega
set_option maxRecDepth 100000 in
theorem lit12 (f : Nat → Value) : ((List.range 12).map f).toArray = (f 0 :: f 1 :: f 2 :: f 3 :: f 4 :: f 5 :: f 6 :: f 7 :: f 8 :: f 9 :: f 10 :: f 11 :: []).toArray := by kernel_rfl
set_option maxRecDepth 100000 in
theorem leaf_all (W : List (List UInt8)) : Lg.All32 (W.map Lg.leaf) := fun x hx => by obtain ⟨y, _, rfl⟩ := List.mem_map.1 hx; rfl
set_option maxRecDepth 100000 in
theorem mem_le_take {W : List (List UInt8)} {m : Nat} (h : ∀ x ∈ W, x.length ≤ m) (k : Nat) : (∀ x ∈ W.take k, x.length ≤ m) ∧ (∀ x ∈ W.drop k, x.length ≤ m) := ⟨fun x hx => h x (List.mem_of_mem_take hx), fun x hx => h x (List.mem_of_mem_drop hx)⟩
end Go.Proofs.YtnidfcmomdmjaaaDoor

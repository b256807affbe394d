/-
  Rows of whole numbers; the tables of the document's answer of package custumalref01; loops of a great function, each as a theorem of its own.
-/
import Derived.Test.YtndakfanlgilmaaDoorRt
import Derived.Test.YtndakfanlgilmaaDoorSch
import Derived.Laws.CopyOwn
import Derived.Deep.MidRow
import Derived.Deep.LoopGhost
import Derived.Test.YtndakfanlgilmaaDoorOw
namespace Go.Proofs.YtndakfanlgilmaaDoor
open Go.RowKit
set_option linter.unusedVariables false

section
variable {P : Program}
set_option maxRecDepth 100000 in
theorem wpList_store_rowR {ops : Array Oper} {rest : List Oper} {o : Oper} {a : Act} {w : World} {Q : Exit → Act → World → Prop} (hgd : o.guard = none) (ty : TypeId) (x y : Operand) (ho : o.op = .store ty x y)
    (g : Nat) (cells : Array Value) (hx : a.eval x = .pointer (some ⟨g, 0, none⟩)) (hy : a.eval y = .agg cells)
    (t : TypeId) (old : Array Value) (hg : w.heap[g]? = some (.cells old t (0, 0))) (hi : (P.info? ty).map (·.size) = some cells.size)
    (hold : old.size = cells.size) (h1 : cells.all (·.oneCell') = true)
    (h : ∀ w2 : World, w2.heap[g]? = some (.cells cells t (0, 0)) → Fr (fun k => k = g) w w2 → wpList P ops Q rest (a.put o.dst undef) w2) : wpList P ops Q (o :: rest) a w :=
  wpList_store_row hgd ty x y ho g cells hx hy t old hg hi hold h1 (h _ (setRow_heap _ _ _ _ _ _ hg) (Fr.setRow (S := fun k => k = g) (Fr.refl _ _) rfl _))
end

/-- The first n values of f as whole numbers. -/
def iu (n : Nat) (f : Nat → Nat) : Array Value := ((List.range n).map fun j => Value.int .i64 (f j : Int)).toArray
set_option maxRecDepth 100000 in
theorem iu_size (n : Nat) (f : Nat → Nat) : (iu n f).size = n := by simp [iu]
set_option maxRecDepth 100000 in
theorem iu_get (n : Nat) (f : Nat → Nat) (j : Nat) (hj : j < n) : (iu n f)[j]? = some (.int .i64 (f j : Int)) := by simp [iu, hj]
set_option maxRecDepth 100000 in
theorem iu_one (n : Nat) (f : Nat → Nat) : (iu n f).all (·.oneCell') = true := by simp [iu, Value.oneCell']
set_option maxRecDepth 100000 in
theorem iu_ext {cs : Array Value} {n : Nat} {f : Nat → Nat} (h : cs.size = n) (h2 : ∀ j, j < n → cs[j]? = some (.int .i64 (f j : Int))) : cs = iu n f := by
  apply Array.ext
  · rw [h, iu_size]
  · intro i h3 h4
    have a := h2 i (by omega)
    have b := iu_get n f i (by omega)
    rw [Array.getElem?_eq_getElem h3] at a
    rw [Array.getElem?_eq_getElem h4] at b
    exact (Option.some.inj a).trans (Option.some.inj b).symm
set_option maxRecDepth 100000 in
theorem iu_set (n : Nat) (f : Nat → Nat) (i b : Nat) (hi : i < n) : (iu n f).setIfInBounds i (.int .i64 (b : Int)) = iu n (fun j => if j = i then b else f j) := by
  refine iu_ext (by simp [iu_size]) (fun j hj => ?_)
  rw [Array.getElem?_setIfInBounds]
  by_cases h : i = j
  · subst h; simp [iu_size, hj]
  · rw [if_neg h, iu_get n f j hj, if_neg (fun e => h e.symm)]
set_option maxRecDepth 100000 in
theorem iu_congr {n : Nat} {f g : Nat → Nat} (h : ∀ j, j < n → f j = g j) : iu n f = iu n g := iu_ext (iu_size n f) (fun j hj => by rw [iu_get n f j hj, h j hj])
def lenR : Value → Nat | .slice _ n _ => n | _ => 0
def swi (s : S2.St) (j : Nat) : Nat := s.list.getD j 0

set_option maxRecDepth 100000 in
theorem zero8i : (#[.int .i64 0, .int .i64 0, .int .i64 0, .int .i64 0, .int .i64 0, .int .i64 0, .int .i64 0, .int .i64 0] : Array Value) = iu 8 (fun _ => 0) := by kernel_rfl
set_option maxRecDepth 100000 in
theorem Tryd.size8i {f : Nat → Nat} : (Tryd.prog.info? 62).map (·.size) = some (iu 8 f).size := by
  rw [iu_size]; kernel_rfl
/-- The tables of the document's answer. -/
structure REnv (w : World) : Prop where
  tabH : ∃ t fr, w.heap[0]? = some (.cells (iu 8 (swi S2.H0)) t fr)
  tabK : ∀ j, j < 64 → w.cell? ⟨1, j, none⟩ = some (.int .i64 (S2.K j : Int))
set_option maxRecDepth 100000 in
theorem REnv.fr {w w2 : World} {S : Nat → Prop} (h : REnv w) (hF : Fr S w w2) (h1 : ¬ S 0) (h2 : ¬ S 1) : REnv w2 := by
  obtain ⟨t, fr, hb⟩ := h.tabH
  exact ⟨⟨t, fr, (hF.block _ (lt_of_block hb) h1).trans hb⟩, fun j hj => hF.cellSome (p := ⟨1, j, none⟩) h2 (h.tabK j hj)⟩

/-- What is hashed: the bytes, and what comes behind them. -/
def S2.full (l : List UInt8) : List UInt8 := l ++ S2.pad l.length
set_option maxRecDepth 100000 in
theorem pad_mod (n : Nat) : (n + S2.padLen n) % 64 = 0 ∧ 9 ≤ S2.padLen n ∧ S2.padLen n ≤ 72 := by unfold S2.padLen; omega
set_option maxRecDepth 100000 in
theorem byte_shift (n j : Nat) (hj : j < 8) : ((n : Int) / 2 ^ (56 - 8 * j)) % 256 = ((UInt8.ofNat (n / 2 ^ (56 - 8 * j))).toNat : Int) := by
  rw [UInt8.toNat_ofNat']
  simp
set_option maxRecDepth 100000 in
theorem be8_take (n j : Nat) (hj : j < 8) : (S2.be8 n).take (j + 1) = (S2.be8 n).take j ++ [UInt8.ofNat (n / 2 ^ (56 - 8 * j))] := by
  rw [List.take_succ_eq_append_getElem (by simp [S2.be8]; omega)]
  simp [S2.be8]


/-- Whole numbers of which the first n are known. -/
def ArrI (w : World) (b n : Nat) (f : Nat → Nat) : Prop := ∃ cs, w.heap[b]? = some (.cells cs 63 (0, 0)) ∧ cs.size = 64 ∧ ∀ j, j < n → cs[j]? = some (.int .i64 (f j : Int))
set_option maxRecDepth 100000 in
theorem ArrI.cell {w : World} {b n : Nat} {f : Nat → Nat} (h : ArrI w b n f) (j : Nat) (hj : j < n) : w.cell? ⟨b, j, none⟩ = some (.int .i64 (f j : Int)) := by
  obtain ⟨cs, h1, h2, h3⟩ := h
  rw [cell_of_block h1, h3 j hj]
set_option maxRecDepth 100000 in
theorem ArrI.spot {w : World} {b n : Nat} {f : Nat → Nat} (h : ArrI w b n f) (j : Nat) (hj : j < 64) : ∃ v, w.cell? ⟨b, j, none⟩ = some v ∧ w.frozen? ⟨b, j, none⟩ = false := by
  obtain ⟨cs, h1, h2, h3⟩ := h
  exact ⟨cs[j]'(by omega), by rw [cell_of_block h1]; simp [h2, hj], free_of_block h1 j⟩
set_option maxRecDepth 100000 in
theorem ArrI.set {w : World} {b n : Nat} {f : Nat → Nat} (h : ArrI w b n f) (hn : n < 64) (v : Int) (hv : v = (f n : Int)) : ArrI (w.setCell ⟨b, n, none⟩ (.int .i64 v)) b (n + 1) f := by
  obtain ⟨cs, h1, h2, h3⟩ := h
  refine ⟨_, block_setCell h1 n _, by simp [h2], fun j hj => ?_⟩
  rw [Array.getElem?_setIfInBounds]
  split
  · subst_vars; simp [h2, hn]
  · exact h3 j (by omega)
set_option maxRecDepth 100000 in
theorem ArrI.fr {w w2 : World} {b n : Nat} {f : Nat → Nat} {S : Nat → Prop} (h : ArrI w b n f) (hF : Fr S w w2) (hs : ¬ S b) : ArrI w2 b n f := by
  obtain ⟨cs, h1, h2, h3⟩ := h
  exact ⟨cs, (hF.block b (lt_of_block h1) hs).trans h1, h2, h3⟩
set_option maxRecDepth 100000 in
theorem ArrI.lt {w : World} {b n : Nat} {f : Nat → Nat} (h : ArrI w b n f) : b < w.heap.size := by
  obtain ⟨cs, h1, _⟩ := h
  exact lt_of_block h1

/-- The loops of a code, in the order of its text. -/
def allLoops : Code → List Code
  | .loop c => c :: allLoops c
  | .seq a b => allLoops a ++ allLoops b
  | .block _ c => allLoops c
  | .scope c => allLoops c
  | .cond _ a b => allLoops a ++ allLoops b
  | _ => []
noncomputable def loopAt (F : Func) (k : Nat) : Code := (((F.body.map allLoops).getD [])[k]?).getD .skip
set_option maxRecDepth 100000 in
theorem getD_pin {t : Array Value} {i : Nat} {v : Value} (h : t[i]? = some v) : t.getD i undef = v := by
  rw [Array.getD_eq_getD_getElem?, h]; rfl
set_option maxRecDepth 100000 in
theorem frame_map {t : Array Value} {n : Nat} (h : t.size = n) : t = ((List.range n).map fun i => t.getD i undef).toArray := by
  apply Array.ext
  · simp [h]
  · intro i h1 h2
    simp [Array.getD, h1]
set_option maxRecDepth 100000 in
theorem frame_open {t : Array Value} {n : Nat} (h : t.size = n) : ∃ f : Nat → Value, (∀ i v, t[i]? = some v → f i = v) ∧ t = ((List.range n).map f).toArray :=
  ⟨fun i => t.getD i undef, fun _ _ h => getD_pin h, frame_map h⟩
set_option maxRecDepth 100000 in
/-- A loop that counts up: the relation at k, for k up to n; the frame as an array. -/
theorem wp_loop_up {P : Program} {Q : Exit → Act → World → Prop} {c : Code} (n : Nat) (R : Nat → Array Value → World → Prop) (t : Array Value) (w : World) (h0 : R 0 t w)
    (round : ∀ k t w, k ≤ n → R k t w → ∀ (K : Act → World → Prop), (∀ t' w', k < n → R (k + 1) t' w' → K ⟨t', []⟩ w') → c.wp P (Exit.then K Q) ⟨t, []⟩ w) : (Code.loop c).wp P Q ⟨t, []⟩ w := by
  refine wp_loop_ghost (fun m a w => a.defers = [] ∧ ∃ k, k + m = n ∧ R k a.tmps w) n ⟨rfl, 0, by omega, h0⟩ ?_
  rintro m ⟨t, ds⟩ w ⟨rfl, k, hk, hR⟩
  exact round k t w (by omega) hR _ (fun t' w' hlt hR' => ⟨m - 1, by omega, rfl, k + 1, by omega, hR'⟩)
end Go.Proofs.YtndakfanlgilmaaDoor


/-
  The contract of Few of package custumalref01.
-/
import Derived.Test.YtndakfanlgilmaaDoorAl
import Derived.Deep.RegionHeld3
namespace Go.Proofs.YtndakfanlgilmaaDoor
open Go.RowKit
set_option linter.unusedVariables false

set_option maxRecDepth 100000 in
theorem wp_appF {P : Program} {o : Oper} {a : Act} {w : World} {K : Act → World → Prop} {Q : Exit → Act → World → Prop} (s x : Operand) (t tx : TypeId)
    (ho : o.op = .call { callee := .builtin .append, args := #[s, x], argTypes := #[t, tx] })
    (base : Nat) (e : TypeId) (i : TypeInfo) (z : Value) (size bytes : Nat) (ht : P.underlying t = some (.slice e)) (hi : P.info? e = some i) (hz : i.zero = some z)
    (hsize : i.size = size) (hby : i.bytes = bytes) (hzs : z.cells.size = size) (hsz : 0 < size)
    (v : Value) (n : Nat) (xs : List Value) (hs : a.eval s = v) (hown : w.ownsRow base e size v n xs)
    (xv : Value) (hx : a.eval x = xv) (m : Nat) (news : List Value) (hsrc : Src P size tx xv m news w)
    (h63 : n + m ≤ maxLen) (hbytes : (n + m) * bytes ≤ 140737488355328) (hbase : base ≤ w.heap.size)
    (h : ∀ v2 w2, w2.ownsRow base e size v2 (n + m) (xs ++ news) → w.grownBy w2 v.ownBlock → (v2.ownBlock = v.ownBlock ∨ v2.ownBlock = some w.heap.size) → K (a.put o.dst v2) w2) : o.wp P a w K Q := by
  obtain ⟨v2, w2, hr, h2, h3, h4⟩ := run_app (P := P) w base t tx o.type e i z size bytes ht hi hz hsize hby hzs hsz v n xs hown xv m news hsrc h63 hbytes hbase
  unfold Oper.wp execOp
  simp only [ho, resolve, invoke, builtin, Sem.run_bind, Sem.run_pure, Result.andThen_ok, List.map_toArray, List.map_cons, List.map_nil, hs, hx, hr]
  exact h v2 w2 h2 h3 h4
set_option maxRecDepth 100000 in
theorem Tryd.infoS : (Tryd.prog.info? 39).map (fun i => (i.zero, i.size, i.bytes)) = some (some (.slice none 0 0), 1, 24) := by kernel_rfl

/-- The slices of a list of parts. -/
def sls (A : Nat → Option Addr) (C : Nat → Nat) (L : List (List UInt8)) (k : Nat) : List Value := (List.range k).map fun j => Value.slice (A j) (L.getD j []).length (C j)
def ob (a : Option Addr) : Option Nat := a.map (·.block)
set_option maxRecDepth 100000 in
theorem ob_own (a : Option Addr) (n c : Nat) : (Value.slice a n c).ownBlock = ob a := by cases a <;> rfl
/-- k parts, each in a row of its own, in a row of slices of its own. -/
structure FewR (w : World) (B : Nat) (v : Value) (A : Nat → Option Addr) (C : Nat → Nat) (L : List (List UInt8)) (k : Nat) : Prop where
  row : w.ownsRow B 39 1 v k (sls A C L k)
  part : ∀ j, j < k → Own w B (.slice (A j) (L.getD j []).length (C j)) (L.getD j [])
  off : ∀ j, j < k → ∀ b, ob (A j) = some b → v.ownBlock ≠ some b
  apart : ∀ i j, i < j → j < k → ∀ b, ob (A i) = some b → ob (A j) ≠ some b
set_option maxRecDepth 100000 in
theorem ownsRow_lt {w : World} {B e size : Nat} {v : Value} {n : Nat} {xs : List Value} (h : w.ownsRow B e size v n xs) : ∀ b, v.ownBlock = some b → B ≤ b ∧ b < w.heap.size := by
  intro b hb
  rcases h.2 with ⟨rfl, _⟩ | ⟨g, cap, cur, rfl, h1, h2, _⟩
  · cases hb
  · cases hb; exact ⟨h1, lt_of_block h2⟩
set_option maxRecDepth 100000 in
theorem ownsRow_slice {w : World} {B e size : Nat} {v : Value} {n : Nat} {xs : List Value} (h : w.ownsRow B e size v n xs) : ∃ a c, v = .slice a n c := by
  rcases h.2 with ⟨e, h0⟩ | ⟨g, cap, cur, e, _⟩
  · exact ⟨none, 0, by rw [e, h0]⟩
  · exact ⟨_, _, e⟩
set_option maxRecDepth 100000 in
theorem FewR.zero (w : World) (B : Nat) (A : Nat → Option Addr) (C : Nat → Nat) (L : List (List UInt8)) : FewR w B (.slice none 0 0) A C L 0 :=
  ⟨World.ownsRow_nil _ _ _ _, fun j h => by omega, fun j h => by omega, fun i j _ h => by omega⟩
set_option maxRecDepth 100000 in
/-- One part more. -/
theorem FewR.step {w w1 w2 : World} {B k : Nat} {v v2 : Value} {A : Nat → Option Addr} {C : Nat → Nat} {L : List (List UInt8)} {a : Option Addr} {c : Nat} (h : FewR w B v A C L k)
    (hz : w.heap.size ≤ w1.heap.size) (hB : B ≤ w.heap.size)
    (hF : Fr (fun b => v.ownBlock = some b) w w2) (hO : Own w2 B (.slice a (L.getD k []).length c) (L.getD k [])) (ha : ∀ b, ob a = some b → w.heap.size ≤ b ∧ b < w1.heap.size)
    (hrow : w2.ownsRow B 39 1 v2 (k + 1) (sls A C L k ++ [.slice a (L.getD k []).length c])) (hv : v2.ownBlock = v.ownBlock ∨ ∃ b, v2.ownBlock = some b ∧ w1.heap.size ≤ b) :
    FewR w2 B v2 (fun j => if j = k then a else A j) (fun j => if j = k then c else C j) L (k + 1) := by
  have hlt : ∀ j, j < k → ∀ b, ob (A j) = some b → b < w.heap.size := fun j hj b hb => ((h.part j hj).lt b (by rw [ob_own]; exact hb)).2
  refine ⟨?_, ?_, ?_, ?_⟩
  · have e : sls (fun j => if j = k then a else A j) (fun j => if j = k then c else C j) L (k + 1) = sls A C L k ++ [.slice a (L.getD k []).length c] := by
      unfold sls
      rw [List.range_succ, List.map_append]
      congr 1
      · apply List.map_congr_left
        intro j hj
        have : j ≠ k := by have := List.mem_range.1 hj; omega
        simp only [if_neg this]
      · simp
    rw [e]; exact hrow
  · intro j hj
    by_cases e : j = k
    · subst e; simp only [if_pos]; exact hO
    · simp only [if_neg e]
      exact (h.part j (by omega)).fr hF (fun b hb => fun hv => h.off j (by omega) b (by rw [ob_own] at hb; exact hb) hv)
  · intro j hj b hb
    by_cases e : j = k
    · subst e
      simp only [if_pos] at hb
      have := ha b hb
      rcases hv with hv | ⟨b2, hv, h2⟩
      · rw [hv]; intro e; have := (ownsRow_lt h.row b e).2; omega
      · rw [hv]; intro e; have := Option.some.inj e; omega
    · simp only [if_neg e] at hb
      have hl := hlt j (by omega) b hb
      rcases hv with hv | ⟨b2, hv, h2⟩
      · rw [hv]; exact h.off j (by omega) b hb
      · rw [hv]; intro e; have := Option.some.inj e; omega
  · intro i j hij hj b hb
    by_cases e : j = k
    · subst e
      simp only [if_pos, if_neg (show i ≠ j by omega)] at hb ⊢
      have hl := hlt i hij b hb
      intro e2
      have := ha b e2
      omega
    · simp only [if_neg e, if_neg (show i ≠ k by omega)] at hb ⊢
      exact h.apart i j hij (by omega) b hb
set_option maxRecDepth 100000 in
theorem FewR.parts {w : World} {B k : Nat} {a : Option Addr} {c : Nat} {A : Nat → Option Addr} {C : Nat → Nat} {L : List (List UInt8)} (h : FewR w B (.slice a k c) A C L k) (hL : L.length = k) : Parts w a L := by
  rcases h.row.2 with ⟨_, h0⟩ | ⟨g, cap, cur, e, _, hg, hc, hm, _, ht⟩
  · exact Or.inl (List.eq_nil_of_length_eq_zero (by omega))
  · injection e with e1 e2 e3
    subst e1
    refine Or.inr ⟨g, 0, rfl, fun j hj => ?_⟩
    obtain ⟨_, h2, h3, h4⟩ := (h.part j (by omega)).lies
    have e : L.getD j [] = L[j] := by rw [List.getD_eq_getElem?_getD, List.getElem?_eq_getElem hj]; rfl
    refine ⟨A j, C j, ?_, by rw [← e]; exact h4, by rw [← e]; exact h2, h3⟩
    rw [Nat.zero_add, cell_of_block hg, ← Array.getElem?_toList]
    have : (cur.toList.take (k * 1))[j]? = (sls A C L k)[j]? := by rw [ht]
    rw [List.getElem?_take, if_pos (by omega)] at this
    rw [this]
    unfold sls
    rw [List.getElem?_map, List.getElem?_range (by omega), Option.map_some, e]
end Go.Proofs.YtndakfanlgilmaaDoor



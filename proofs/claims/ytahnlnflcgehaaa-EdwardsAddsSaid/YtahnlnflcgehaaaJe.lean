/-
  A row of rows; the contracts of firstTimes and Times of package edwards.
-/
import Derived.Test.YtahnlnflcgehaaaJd
namespace Go.Proofs.Ytahnlnflcgehaaa
open Go.RowKit Pri
set_option linter.unusedVariables false
set_option linter.unusedSimpArgs false

/-- n rows of m cells. -/
def rowsOf (n m : Nat) (F : Nat → Array Value) : Array Value := ((List.range (n * m)).map fun j => ((F (j / m))[j % m]?).getD undef).toArray
theorem size_rows (n m : Nat) (F : Nat → Array Value) : (rowsOf n m F).size = n * m := by simp [rowsOf]
theorem cell_rows (n m : Nat) (F : Nat → Array Value) (hm : 0 < m) (hF : ∀ j, Sz m (F j)) (i j : Nat) (hi : i < n) (hj : j < m) : (rowsOf n m F)[m * i + j]? = (F i)[j]? := by
  have h1 : m * i + j < n * m := by
    have : m * i + m ≤ n * m := by rw [Nat.mul_comm n m, ← Nat.mul_succ]; exact Nat.mul_le_mul_left m hi
    omega
  have h2 : (m * i + j) / m = i := by rw [Nat.mul_add_div hm, Nat.div_eq_of_lt hj, Nat.add_zero]
  have h3 : (m * i + j) % m = j := by rw [Nat.mul_add_mod, Nat.mod_eq_of_lt hj]
  unfold rowsOf
  rw [List.getElem?_toArray, List.getElem?_map, List.getElem?_range h1, Option.map_some, h2, h3]
  have h4 : j < (F i).size := by rw [(hF i).1]; exact hj
  rw [Array.getElem?_eq_getElem h4]; rfl
theorem part_rows (n m : Nat) (F : Nat → Array Value) (i : Nat) (hi : i < n) (hm : 0 < m) (hF : ∀ j, Sz m (F j)) : Part (rowsOf n m F) (m * i) (F i) := fun j u hj => by
  have h : j < m := by have := (Array.getElem?_eq_some_iff.1 hj).1; rw [(hF i).1] at this; exact this
  rw [cell_rows n m F hm hF i j hi h]; exact hj
theorem rows_same (n m : Nat) {F G : Nat → Array Value} (h : ∀ j, j < n → F j = G j) : rowsOf n m F = rowsOf n m G := by
  unfold rowsOf
  congr 1
  refine List.map_congr_left (fun j hj => ?_)
  have : j / m < n := by
    have hj' := List.mem_range.1 hj
    rcases Nat.eq_zero_or_pos m with rfl | hm
    · omega
    · exact (Nat.div_lt_iff_lt_mul hm).2 hj'
  rw [h _ this]
theorem sz_rows (n m : Nat) (F : Nat → Array Value) (hm : 0 < m) (hF : ∀ j, Sz m (F j)) : Sz (n * m) (rowsOf n m F) := by
  refine ⟨size_rows n m F, ?_⟩
  unfold rowsOf
  rw [List.all_toArray, List.all_eq_true]
  intro v hv
  obtain ⟨j, hj, rfl⟩ := List.mem_map.1 hv
  have h4 : j % m < (F (j / m)).size := by rw [(hF _).1]; exact Nat.mod_lt _ hm
  rw [Array.getElem?_eq_getElem h4, Option.getD_some]
  exact (Array.all_eq_true.1 (hF (j / m)).2) (j % m) h4
/-- A row laid over row i. -/
theorem set_rows (n m : Nat) (F : Nat → Array Value) (i : Nat) (R : Array Value) (hi : i < n) (hm : 0 < m) (hF : ∀ j, Sz m (F j)) (hR : Sz m R) :
    ((rowsOf n m F).toList.take (m * i) ++ R.toList ++ (rowsOf n m F).toList.drop (m * i + R.toList.length)).toArray = rowsOf n m (fun j => if j = i then R else F j) := by
  have hmi : m * i + m ≤ n * m := by rw [Nat.mul_comm n m, ← Nat.mul_succ]; exact Nat.mul_le_mul_left m hi
  have hG : ∀ j, Sz m ((fun j => if j = i then R else F j) j) := fun j => by
    show Sz m (if j = i then R else F j)
    split
    · exact hR
    · exact hF j
  have hl : R.toList.length = m := by simpa using hR.1
  have s1 := size_rows n m F
  apply Array.ext_getElem?
  intro k
  rw [List.getElem?_toArray]
  by_cases hk : k < n * m
  · have hq : k / m < n := (Nat.div_lt_iff_lt_mul hm).2 hk
    have hr : k % m < m := Nat.mod_lt _ hm
    have hk2 : k = m * (k / m) + k % m := (Nat.div_add_mod k m).symm
    have hR2 : (rowsOf n m (fun j => if j = i then R else F j))[k]? = (if k / m = i then R else F (k / m))[k % m]? := by
      have := cell_rows n m (fun j => if j = i then R else F j) hm hG (k / m) (k % m) hq hr
      rw [← hk2] at this; exact this
    have hF2 : (rowsOf n m F)[k]? = (F (k / m))[k % m]? := by
      have := cell_rows n m F hm hF (k / m) (k % m) hq hr
      rw [← hk2] at this; exact this
    rw [hR2]
    simp only [List.getElem?_append, List.length_append, List.length_take, List.getElem?_take, List.getElem?_drop, hl, Array.length_toList, s1, Array.getElem?_toList]
    rw [show min (m * i) (n * m) = m * i by omega]
    by_cases c1 : k < m * i
    · have : ¬ k / m = i := fun e => by rw [← e] at c1; omega
      rw [if_neg this, if_pos (by omega), if_pos c1, if_pos c1, hF2]
    · by_cases c2 : k < m * i + m
      · have e : k / m = i := by
          have h1 : k / m ≤ i := by
            have : k / m < i + 1 := (Nat.div_lt_iff_lt_mul hm).2 (by rw [Nat.mul_comm, Nat.mul_succ]; exact c2)
            omega
          have h2 : i ≤ k / m := (Nat.le_div_iff_mul_le hm).2 (by rw [Nat.mul_comm]; omega)
          omega
        rw [if_pos e, if_pos c2, if_neg c1]
        have : k % m = k - m * i := by rw [e] at hk2; omega
        rw [this]
      · have : ¬ k / m = i := fun e => by rw [e] at hk2; omega
        rw [if_neg this, if_neg c2, ← hF2, show m * i + m + (k - (m * i + m)) = k by omega]
  · rw [List.getElem?_eq_none (by simp only [List.length_append, List.length_take, List.length_drop, Array.length_toList, s1, hl]; omega), Array.getElem?_eq_none (by rw [size_rows]; omega)]
section
variable {P : Program} {ops : Array Oper} {rest : List Oper} {o : Oper} {a : Act} {w w0 : World} {L : List Bk} {Q : Exit → Act → World → Prop}
/-- A row is stored into a block of rows. -/
theorem wpList_store_rowkn (K : Kn w0 L w) (hgd : o.guard = none) (ty : TypeId) (x y : Operand) (ho : o.op = .store ty x y) (i g n q m : Nat) (cs R cs2 : Array Value) (T : TypeId) (hx : a.eval x = .pointer (some ⟨g, q, none⟩)) (hy : a.eval y = .agg R)
    (hty : (P.info? ty).map (·.size) = some m) (hi : L[i]? = some ⟨g, n, cs, T⟩) (hR : Sz m R) (hq : q + m ≤ n) (hc : (cs.toList.take q ++ R.toList ++ cs.toList.drop (q + R.toList.length)).toArray = cs2)
    (h : ∀ w' : World, Kn w0 (L.set i ⟨g, n, cs2, T⟩) w' → wpList P ops Q rest (a.put o.dst undef) w') : wpList P ops Q (o :: rest) a w := by
  have hg := K.heap i hi
  have hs := K.size i hi
  have hl : R.toList.length = m := by simpa using hR.1
  refine wpList_store_mid hgd ty x y ho g q R hx hy (fun j hj => ?_) (by rw [hty, hR.1]) hR.2 (h _ ?_)
  · have hlt : q + j < cs.size := by rw [hR.1] at hj; omega
    exact ⟨by rw [cell_of_block hg, Array.getElem?_eq_getElem hlt]; rfl, free_of_block hg _⟩
  · have hb := setCells_blockF R.toList q cs.toList w (by rw [Array.toArray_toList]; exact hg) (by rw [hl, Array.length_toList, hs]; exact hq)
    rw [← List.append_assoc, hc] at hb
    refine K.set i ⟨g, n, cs, T⟩ hi cs2 ?_ (Fr.setCells (S := fun k => k = g) rfl _ _ _ (Fr.refl _ w)) hb
    rw [← hc]
    simp only [List.size_toArray, List.length_append, List.length_take, List.length_drop, Array.length_toList, hl, hs]
    show min q n + m + (n - (q + m)) = n
    omega
end
theorem Try.szTb : (Try.prog.info? 122).map (·.size) = some 256 := by kernel_rfl
theorem Try.alTb : ∀ w, (Instr.alloc 122 true (.tuple #[])).run Try.prog w = .ok (.pointer (some ⟨w.heap.size, 0, none⟩)) (w.alloc (.cells #[.int .u64 0, .int .u64 0, .int .u64 0, .int .u64 0, .int .u64 0, .int .u64 0, .int .u64 0, .int .u64 0, .int .u64 0, .int .u64 0, .int .u64 0, .int .u64 0, .int .u64 0, .int .u64 0, .int .u64 0, .int .u64 0, .int .u64 0, .int .u64 0, .int .u64 0, .int .u64 0, .int .u64 0, .int .u64 0, .int .u64 0, .int .u64 0, .int .u64 0, .int .u64 0, .int .u64 0, .int .u64 0, .int .u64 0, .int .u64 0, .int .u64 0, .int .u64 0, .int .u64 0, .int .u64 0, .int .u64 0, .int .u64 0, .int .u64 0, .int .u64 0, .int .u64 0, .int .u64 0, .int .u64 0, .int .u64 0, .int .u64 0, .int .u64 0, .int .u64 0, .int .u64 0, .int .u64 0, .int .u64 0, .int .u64 0, .int .u64 0, .int .u64 0, .int .u64 0, .int .u64 0, .int .u64 0, .int .u64 0, .int .u64 0, .int .u64 0, .int .u64 0, .int .u64 0, .int .u64 0, .int .u64 0, .int .u64 0, .int .u64 0, .int .u64 0, .int .u64 0, .int .u64 0, .int .u64 0, .int .u64 0, .int .u64 0, .int .u64 0, .int .u64 0, .int .u64 0, .int .u64 0, .int .u64 0, .int .u64 0, .int .u64 0, .int .u64 0, .int .u64 0, .int .u64 0, .int .u64 0, .int .u64 0, .int .u64 0, .int .u64 0, .int .u64 0, .int .u64 0, .int .u64 0, .int .u64 0, .int .u64 0, .int .u64 0, .int .u64 0, .int .u64 0, .int .u64 0, .int .u64 0, .int .u64 0, .int .u64 0, .int .u64 0, .int .u64 0, .int .u64 0, .int .u64 0, .int .u64 0, .int .u64 0, .int .u64 0, .int .u64 0, .int .u64 0, .int .u64 0, .int .u64 0, .int .u64 0, .int .u64 0, .int .u64 0, .int .u64 0, .int .u64 0, .int .u64 0, .int .u64 0, .int .u64 0, .int .u64 0, .int .u64 0, .int .u64 0, .int .u64 0, .int .u64 0, .int .u64 0, .int .u64 0, .int .u64 0, .int .u64 0, .int .u64 0, .int .u64 0, .int .u64 0, .int .u64 0, .int .u64 0, .int .u64 0, .int .u64 0, .int .u64 0, .int .u64 0, .int .u64 0, .int .u64 0, .int .u64 0, .int .u64 0, .int .u64 0, .int .u64 0, .int .u64 0, .int .u64 0, .int .u64 0, .int .u64 0, .int .u64 0, .int .u64 0, .int .u64 0, .int .u64 0, .int .u64 0, .int .u64 0, .int .u64 0, .int .u64 0, .int .u64 0, .int .u64 0, .int .u64 0, .int .u64 0, .int .u64 0, .int .u64 0, .int .u64 0, .int .u64 0, .int .u64 0, .int .u64 0, .int .u64 0, .int .u64 0, .int .u64 0, .int .u64 0, .int .u64 0, .int .u64 0, .int .u64 0, .int .u64 0, .int .u64 0, .int .u64 0, .int .u64 0, .int .u64 0, .int .u64 0, .int .u64 0, .int .u64 0, .int .u64 0, .int .u64 0, .int .u64 0, .int .u64 0, .int .u64 0, .int .u64 0, .int .u64 0, .int .u64 0, .int .u64 0, .int .u64 0, .int .u64 0, .int .u64 0, .int .u64 0, .int .u64 0, .int .u64 0, .int .u64 0, .int .u64 0, .int .u64 0, .int .u64 0, .int .u64 0, .int .u64 0, .int .u64 0, .int .u64 0, .int .u64 0, .int .u64 0, .int .u64 0, .int .u64 0, .int .u64 0, .int .u64 0, .int .u64 0, .int .u64 0, .int .u64 0, .int .u64 0, .int .u64 0, .int .u64 0, .int .u64 0, .int .u64 0, .int .u64 0, .int .u64 0, .int .u64 0, .int .u64 0, .int .u64 0, .int .u64 0, .int .u64 0, .int .u64 0, .int .u64 0, .int .u64 0, .int .u64 0, .int .u64 0, .int .u64 0, .int .u64 0, .int .u64 0, .int .u64 0, .int .u64 0, .int .u64 0, .int .u64 0, .int .u64 0, .int .u64 0, .int .u64 0, .int .u64 0, .int .u64 0, .int .u64 0, .int .u64 0, .int .u64 0, .int .u64 0, .int .u64 0, .int .u64 0, .int .u64 0, .int .u64 0, .int .u64 0, .int .u64 0, .int .u64 0, .int .u64 0, .int .u64 0, .int .u64 0, .int .u64 0, .int .u64 0, .int .u64 0, .int .u64 0, .int .u64 0, .int .u64 0] 122)) := fun w => by kernel_rfl
theorem sz_zero : Sz 16 #[.int .u64 0, .int .u64 0, .int .u64 0, .int .u64 0, .int .u64 0, .int .u64 0, .int .u64 0, .int .u64 0, .int .u64 0, .int .u64 0, .int .u64 0, .int .u64 0, .int .u64 0, .int .u64 0, .int .u64 0, .int .u64 0] := ⟨rfl, by simp [Value.oneCell']⟩
/-- The first rows, and noughts. -/
def firstR (G : Nat → Array Value) (i j : Nat) : Array Value := if j ≤ i then G j else #[.int .u64 0, .int .u64 0, .int .u64 0, .int .u64 0, .int .u64 0, .int .u64 0, .int .u64 0, .int .u64 0, .int .u64 0, .int .u64 0, .int .u64 0, .int .u64 0, .int .u64 0, .int .u64 0, .int .u64 0, .int .u64 0]
set_option maxRecDepth 100000 in
theorem built_table0 {X : Array Value} (hX : Sz 16 X) : Try.prog.built 122 [(0, .agg X)] = some (X ++ #[.int .u64 0, .int .u64 0, .int .u64 0, .int .u64 0, .int .u64 0, .int .u64 0, .int .u64 0, .int .u64 0, .int .u64 0, .int .u64 0, .int .u64 0, .int .u64 0, .int .u64 0, .int .u64 0, .int .u64 0, .int .u64 0, .int .u64 0, .int .u64 0, .int .u64 0, .int .u64 0, .int .u64 0, .int .u64 0, .int .u64 0, .int .u64 0, .int .u64 0, .int .u64 0, .int .u64 0, .int .u64 0, .int .u64 0, .int .u64 0, .int .u64 0, .int .u64 0, .int .u64 0, .int .u64 0, .int .u64 0, .int .u64 0, .int .u64 0, .int .u64 0, .int .u64 0, .int .u64 0, .int .u64 0, .int .u64 0, .int .u64 0, .int .u64 0, .int .u64 0, .int .u64 0, .int .u64 0, .int .u64 0, .int .u64 0, .int .u64 0, .int .u64 0, .int .u64 0, .int .u64 0, .int .u64 0, .int .u64 0, .int .u64 0, .int .u64 0, .int .u64 0, .int .u64 0, .int .u64 0, .int .u64 0, .int .u64 0, .int .u64 0, .int .u64 0, .int .u64 0, .int .u64 0, .int .u64 0, .int .u64 0, .int .u64 0, .int .u64 0, .int .u64 0, .int .u64 0, .int .u64 0, .int .u64 0, .int .u64 0, .int .u64 0, .int .u64 0, .int .u64 0, .int .u64 0, .int .u64 0, .int .u64 0, .int .u64 0, .int .u64 0, .int .u64 0, .int .u64 0, .int .u64 0, .int .u64 0, .int .u64 0, .int .u64 0, .int .u64 0, .int .u64 0, .int .u64 0, .int .u64 0, .int .u64 0, .int .u64 0, .int .u64 0, .int .u64 0, .int .u64 0, .int .u64 0, .int .u64 0, .int .u64 0, .int .u64 0, .int .u64 0, .int .u64 0, .int .u64 0, .int .u64 0, .int .u64 0, .int .u64 0, .int .u64 0, .int .u64 0, .int .u64 0, .int .u64 0, .int .u64 0, .int .u64 0, .int .u64 0, .int .u64 0, .int .u64 0, .int .u64 0, .int .u64 0, .int .u64 0, .int .u64 0, .int .u64 0, .int .u64 0, .int .u64 0, .int .u64 0, .int .u64 0, .int .u64 0, .int .u64 0, .int .u64 0, .int .u64 0, .int .u64 0, .int .u64 0, .int .u64 0, .int .u64 0, .int .u64 0, .int .u64 0, .int .u64 0, .int .u64 0, .int .u64 0, .int .u64 0, .int .u64 0, .int .u64 0, .int .u64 0, .int .u64 0, .int .u64 0, .int .u64 0, .int .u64 0, .int .u64 0, .int .u64 0, .int .u64 0, .int .u64 0, .int .u64 0, .int .u64 0, .int .u64 0, .int .u64 0, .int .u64 0, .int .u64 0, .int .u64 0, .int .u64 0, .int .u64 0, .int .u64 0, .int .u64 0, .int .u64 0, .int .u64 0, .int .u64 0, .int .u64 0, .int .u64 0, .int .u64 0, .int .u64 0, .int .u64 0, .int .u64 0, .int .u64 0, .int .u64 0, .int .u64 0, .int .u64 0, .int .u64 0, .int .u64 0, .int .u64 0, .int .u64 0, .int .u64 0, .int .u64 0, .int .u64 0, .int .u64 0, .int .u64 0, .int .u64 0, .int .u64 0, .int .u64 0, .int .u64 0, .int .u64 0, .int .u64 0, .int .u64 0, .int .u64 0, .int .u64 0, .int .u64 0, .int .u64 0, .int .u64 0, .int .u64 0, .int .u64 0, .int .u64 0, .int .u64 0, .int .u64 0, .int .u64 0, .int .u64 0, .int .u64 0, .int .u64 0, .int .u64 0, .int .u64 0, .int .u64 0, .int .u64 0, .int .u64 0, .int .u64 0, .int .u64 0, .int .u64 0, .int .u64 0, .int .u64 0, .int .u64 0, .int .u64 0, .int .u64 0, .int .u64 0, .int .u64 0, .int .u64 0, .int .u64 0, .int .u64 0, .int .u64 0, .int .u64 0, .int .u64 0, .int .u64 0, .int .u64 0, .int .u64 0, .int .u64 0, .int .u64 0, .int .u64 0, .int .u64 0, .int .u64 0, .int .u64 0, .int .u64 0, .int .u64 0, .int .u64 0, .int .u64 0, .int .u64 0, .int .u64 0, .int .u64 0, .int .u64 0, .int .u64 0, .int .u64 0, .int .u64 0, .int .u64 0, .int .u64 0, .int .u64 0, .int .u64 0, .int .u64 0, .int .u64 0, .int .u64 0, .int .u64 0, .int .u64 0, .int .u64 0].extract 16 256) := by
  obtain ⟨a0, a1, a2, a3, a4, a5, a6, a7, a8, a9, b0, b1, b2, b3, b4, b5, rfl⟩ := arr16 hX.1
  kernel_rfl
set_option maxRecDepth 100000 in
theorem built_table {G : Nat → Array Value} (hG : Sz 16 (G 0)) : Try.prog.built 122 [(0, .agg (G 0))] = some (rowsOf 16 16 (firstR G 0)) := by
  rw [built_table0 hG, rows_same 16 16 (G := fun j => if j = 0 then G 0 else #[.int .u64 0, .int .u64 0, .int .u64 0, .int .u64 0, .int .u64 0, .int .u64 0, .int .u64 0, .int .u64 0, .int .u64 0, .int .u64 0, .int .u64 0, .int .u64 0, .int .u64 0, .int .u64 0, .int .u64 0, .int .u64 0]) (fun j hj => by unfold firstR; by_cases c : j = 0; (subst c; rfl); rw [if_neg c, if_neg (by omega)])]
  generalize G 0 = X at *
  obtain ⟨a0, a1, a2, a3, a4, a5, a6, a7, a8, a9, b0, b1, b2, b3, b4, b5, rfl⟩ := arr16 hG.1
  kernel_rfl
end Go.Proofs.Ytahnlnflcgehaaa

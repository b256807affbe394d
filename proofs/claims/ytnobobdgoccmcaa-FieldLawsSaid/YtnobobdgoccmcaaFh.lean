/-
  Sixteen numbers of four words in one block; the contract of firstPowers of package field.
-/
import Derived.Test.YtnobobdgoccmcaaFg
import Derived.Deep.MidRow
namespace Go.Proofs.Ytnobobdgoccmcaa
open Go.RowKit Pri
set_option linter.unusedVariables false

/-- X's n-th power, modulo 2^255 - 19. -/
def pwr (X n : Nat) : Nat := X ^ n % p25519
theorem pwr_zero (X : Nat) : pwr X 0 = 1 := by unfold pwr; rw [Nat.pow_zero]; exact one_mod_p
theorem pwr_succ (X n : Nat) : pwr X n * X % p25519 = pwr X (n + 1) := by unfold pwr; rw [Nat.pow_succ, Nat.mod_mul_mod]
theorem pwr_add (X m n : Nat) : pwr X m * pwr X n % p25519 = pwr X (m + n) := by unfold pwr; rw [Nat.pow_add, ← Nat.mul_mod]
theorem pwr_lt (X n : Nat) : pwr X n < 115792089237316195423570985008687907853269984665640564039457584007913129639936 := mod_p_lt _
/-- Sixteen numbers' words. -/
def rows (v : Nat → Nat) : Array Value := uq 64 (fun j => dig 18446744073709551616 (v (j / 4)) (j % 4))
theorem rows_size (v : Nat → Nat) : (rows v).size = 64 := uq_size _ _
theorem rows_one (v : Nat → Nat) : (rows v).all (·.oneCell') = true := uq_one _ _
theorem rows_congr {v u : Nat → Nat} (h : ∀ i, i < 16 → v i = u i) : rows v = rows u := uq_congr (fun j hj => by rw [h (j / 4) (by omega)])
theorem rows_range {w : World} {b : Nat} {v : Nat → Nat} {t : TypeId} {fr : Nat × Nat} (h : w.heap[b]? = some (.cells (rows v) t fr)) (i : Nat) (hi : i < 16) : w.rangeAt b (4 * i) (nc (v i)).toList := fun j u hj => by
  have hj4 : j < 4 := by have := (List.getElem?_eq_some_iff.1 hj).1; simpa [nc] using this
  rw [cell_of_block h]
  unfold rows
  rw [uq_get 64 _ (4 * i + j) (by omega), show (4 * i + j) / 4 = i by omega, show (4 * i + j) % 4 = j by omega]
  have e : (nc (v i))[j]? = some (.int .u64 (dig 18446744073709551616 (v i) j : Int)) := by rw [nc_uq]; exact uq_get 4 _ j hj4
  rw [← e]
  simpa using hj
theorem rows_set {w : World} {b : Nat} {v : Nat → Nat} {t : TypeId} (h : w.heap[b]? = some (.cells (rows v) t (0, 0))) (i X : Nat) (hi : i < 16) :
    (w.setCells b (4 * i) (nc X).toList).heap[b]? = some (.cells (rows (fun j => if j = i then X else v j)) t (0, 0)) := by
  rw [nc_uq]
  have e : (uq 4 (dig 18446744073709551616 X)).toList = [.int .u64 (dig 18446744073709551616 X 0 : Int), .int .u64 (dig 18446744073709551616 X 1 : Int), .int .u64 (dig 18446744073709551616 X 2 : Int), .int .u64 (dig 18446744073709551616 X 3 : Int)] := rfl
  rw [e]
  show ((((w.setCell ⟨b, 4 * i, none⟩ _).setCell ⟨b, 4 * i + 1, none⟩ _).setCell ⟨b, 4 * i + 1 + 1, none⟩ _).setCell ⟨b, 4 * i + 1 + 1 + 1, none⟩ _).heap[b]? = _
  rw [block_setCell (block_setCell (block_setCell (block_setCell h _ _) _ _) _ _) _ _]
  unfold rows
  rw [uq_set 64 _ _ _ (by omega), uq_set 64 _ _ _ (by omega), uq_set 64 _ _ _ (by omega), uq_set 64 _ _ _ (by omega)]
  congr 3
  funext j
  show _ = dig 18446744073709551616 (if j / 4 = i then X else v (j / 4)) (j % 4)
  by_cases c : j / 4 = i
  · rw [if_pos c]
    have : j = 4 * i ∨ j = 4 * i + 1 ∨ j = 4 * i + 1 + 1 ∨ j = 4 * i + 1 + 1 + 1 := by omega
    rcases this with h | h | h | h
    · rw [if_neg (by omega), if_neg (by omega), if_neg (by omega), if_pos h, show j % 4 = 0 by omega]
    · rw [if_neg (by omega), if_neg (by omega), if_pos h, show j % 4 = 1 by omega]
    · rw [if_neg (by omega), if_pos h, show j % 4 = 2 by omega]
    · rw [if_pos h, show j % 4 = 3 by omega]
  · rw [if_neg c, if_neg (by omega), if_neg (by omega), if_neg (by omega), if_neg (by omega)]
theorem Fr.setCells {S : Nat → Prop} {a : World} {b : Nat} (hb : S b) : ∀ (vs : List Value) (o : Nat) (w : World), Fr S a w → Fr S a (w.setCells b o vs)
  | [], _, _, h => h
  | v :: r, o, w, h => Fr.setCells hb r (o + 1) _ (h.setCell (Or.inl hb) v)
theorem rows_there {w : World} {b : Nat} {v : Nat → Nat} {t : TypeId} (h : w.heap[b]? = some (.cells (rows v) t (0, 0))) (i : Nat) (hi : i < 16) : w.there b (4 * i) 4 := fun j hj => by
  refine ⟨?_, free_of_block h _⟩
  rw [cell_of_block h]
  unfold rows
  rw [uq_get 64 _ _ (by omega)]; rfl
section
variable {Pg : Program}
theorem wpList_store_rows {ops : Array Oper} {rest : List Oper} {op : Oper} {a : Act} {w : World} {Q : Exit → Act → World → Prop} (hgd : op.guard = none) (ty : TypeId) (x y : Operand) (ho : op.op = .store ty x y)
    (b o i : Nat) (hoi : o = 4 * i) (hi16 : i < 16) (X : Nat) (hx : a.eval x = .pointer (some ⟨b, o, none⟩)) (hy : a.eval y = .agg (nc X)) (hi : (Pg.info? ty).map (·.size) = some 4)
    (v : Nat → Nat) (t : TypeId) (hg : w.heap[b]? = some (.cells (rows v) t (0, 0)))
    (h : ∀ w2 : World, w2.heap[b]? = some (.cells (rows (fun j => if j = i then X else v j)) t (0, 0)) → Fr (fun k => k = b) w w2 → wpList Pg ops Q rest (a.put op.dst undef) w2) : wpList Pg ops Q (op :: rest) a w := by
  subst hoi
  exact wpList_store_mid hgd ty x y ho b (4 * i) (nc X) hx hy (rows_there hg i hi16) (by rw [hi]; rfl) (nc_one X) (h _ (rows_set hg i X hi16) (Fr.setCells (S := fun k => k = b) rfl _ _ _ (Fr.refl _ w)))
theorem quiet_load_rowsg {K : Act → Prop} {a : Act} {op : Oper} {W0 : World} {γ : Gd W0} (ty : TypeId) (x : Operand) (ho : op.op = .load ty x) (b o i : Nat) (hoi : o = 4 * i) (hi16 : i < 16) (hx : a.eval x = .pointer (some ⟨b, o, none⟩))
    (v : Nat → Nat) (t : TypeId) (fr : Nat × Nat) (d : TypeDesc) (hg : W0.heap[b]? = some (.cells (rows v) t fr)) (hu : Pg.underlying ty = some d) (hd : d.isRow = true) (hi : (Pg.info? ty).map (·.size) = some 4)
    (hk : K (a.put op.dst (.agg (nc (v i))))) : op.quiet Pg a (fun w' => ∃ y : Wg γ, w' = y.w) K :=
  ⟨.agg (nc (v i)), fun w' ⟨y, e⟩ => by
    subst e
    subst hoi
    have hr := run_loadAt_mid (P := Pg) y.w b (4 * i) ty (nc (v i)).toList d (rows_range (y.blk hg) i hi16) hu hd (by rw [hi]; rfl)
    unfold Oper.quietAt execOp
    simp only [ho, hx, Sem.run_bind, hr, Result.andThen_ok, Sem.run_pure, Oper.quietUpon, Array.toArray_toList]
    exact ⟨trivial, trivial⟩, hk⟩
end
end Go.Proofs.Ytnobobdgoccmcaa


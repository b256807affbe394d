/-
  Write of a disk, whole: the state behind it.
-/
import Derived.Test.YtgladedjgjhlaaaTo
namespace Go.Proofs.Ytgladedjgjhlaaa
open Go.RowKit
set_option linter.unusedVariables false
set_option linter.unusedSimpArgs false

theorem wcells_put (ws : List (Nat × (Nat → UInt8))) (i : Nat) (b : Nat → UInt8) : wcells ws ++ (wrow i b).toList = wcells (ws ++ [(i, b)]) := by
  simp [wcells, wrow]
/-- What a Write leaves. -/
theorem da_put {w w' : World} {d bn bl n : Nat} {N L : Nat → Nat → UInt8} {ws : List (Nat × (Nat → UInt8))} {wv : Value} {wr ar : Int} {dn : Bool} {base : Nat} (h : DA w d bn bl n N L ws wv wr ar dn base) {i : Nat} (hi : i < n) {b : Nat → UInt8} {v' : Value} {wr' ar' : Int} {dn' : Bool}
    (h1 : w'.heap[d]? = some (.cells (dcells bn bl n v' wr' ar' dn') 106 (0, 0))) (h2 : w'.heap[bn]? = some (.cells (bk n (bset N i b)) 30 (0, 0)))
    (h3 : w'.ownsRow base 108 129 v' (ws.length + 1) (wcells ws ++ (wrow i b).toList)) (h4 : v'.ownBlock = wv.ownBlock ∨ ∃ k, v'.ownBlock = some k ∧ w.heap.size ≤ k) (hF : Fr (Wt d bn wv) w w') :
    DA w' d bn bl n (bset N i b) L (ws ++ [(i, b)]) v' wr' ar' dn' base := by
  have ap : ∀ k, k < w.heap.size → wv.ownBlock ≠ some k → v'.ownBlock ≠ some k := fun k hk hn hc => by
    rcases h4 with e | ⟨k2, e, hk2⟩
    · exact hn (by rw [← e]; exact hc)
    · rw [e] at hc
      have : k2 = k := by simpa using hc
      omega
  refine ⟨h1, h2, (hF.block bl (lt_of_block h.las) ?_).trans h.las, ?_, h.d1, h.d2, h.d3, ap d (lt_of_block h.blk) h.o1, ap bn (lt_of_block h.now) h.o2, ap bl (lt_of_block h.las) h.o3, h.b1, h.b2, h.b3, h.hn, ?_⟩
  · rintro (e | e | e)
    · exact h.d2 e.symm
    · exact h.d3 e.symm
    · exact h.o3 e
  · rw [← wcells_put, List.length_append]; exact h3
  · intro p hp
    rcases List.mem_append.1 hp with hp | hp
    · exact h.hw p hp
    · have : p = (i, b) := by simpa using hp
      rw [this]; exact hi
/-- A Write of a disk that has its power: the armed count goes down; at nought the power goes off. -/
theorem write_any {w : World} {d bn bl n : Nat} {N L : Nat → Nat → UInt8} {ws : List (Nat × (Nat → UInt8))} {wv : Value} {wr ar : Int} {base : Nat} (h : DA w d bn bl n N L ws wv wr ar false base) (hm : ws.length < 1000000000000) (hwr : In64 (wr + 1)) (ha : In64 ar) (h0 : 0 ≤ ar) (i : Nat) (hi : i < n) (b : Nat → UInt8) :
    Calls Try.prog 19 #[.pointer (some ⟨d, 0, none⟩), .int .i64 (i : Int), .agg (ub 128 b)] w fun e w' => e = .returned (.int .i64 (if ar = 1 then 13 else 0)) ∧ ∃ v', DA w' d bn bl n (bset N i b) L (ws ++ [(i, b)]) v' (wr + 1) (if 0 < ar then ar - 1 else ar) (decide (ar = 1)) base ∧
      (v'.ownBlock = wv.ownBlock ∨ ∃ k, v'.ownBlock = some k ∧ w.heap.size ≤ k) ∧ Fr (Wt d bn wv) w w' := by
  by_cases c1 : ar = 1
  · subst c1
    refine (write_off h hm hwr i hi b).mono ?_
    rintro e w' ⟨rfl, v', h1, h2, h3, h4, hF⟩
    exact ⟨rfl, v', da_put h hi h1 h2 h3 h4 hF, h4, hF⟩
  · by_cases c2 : 0 < ar
    · refine (write_go h hm hwr (by omega) ha i hi b).mono ?_
      rintro e w' ⟨rfl, v', h1, h2, h3, h4, hF⟩
      rw [if_neg c1, if_pos c2, decide_eq_false c1]
      exact ⟨rfl, v', da_put h hi h1 h2 h3 h4 hF, h4, hF⟩
    · refine (write_un h hm hwr c2 i hi b).mono ?_
      rintro e w' ⟨rfl, v', h1, h2, h3, h4, hF⟩
      rw [if_neg c1, if_neg c2, decide_eq_false c1]
      exact ⟨rfl, v', da_put h hi h1 h2 h3 h4 hF, h4, hF⟩
end Go.Proofs.Ytgladedjgjhlaaa

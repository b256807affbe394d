/-
  Loops as theorems.
-/
import Derived.Test.YtancppfkkepdiaaKn
import Derived.Test.YtancppfkkepdiaaProg
import Derived.Handy
import Derived.Deep.LoopGhost
namespace Go.Proofs.Ytancppfkkepdiaa
open Go.RowKit
set_option linter.unusedVariables false
def allLoops : Code → List Code
  | .loop c => c :: allLoops c
  | .seq a b => allLoops a ++ allLoops b
  | .block _ c => allLoops c
  | .scope c => allLoops c
  | .cond _ a b => allLoops a ++ allLoops b
  | _ => []
noncomputable def loopAt (F : Func) (k : Nat) : Code := (((F.body.map allLoops).getD [])[k]?).getD .skip
theorem getD_pin {t : Array Value} {i : Nat} {v : Value} (h : t[i]? = some v) : t.getD i undef = v := by
  rw [Array.getD_eq_getD_getElem?, h]; rfl
theorem frame_map {t : Array Value} {n : Nat} (h : t.size = n) : t = ((List.range n).map fun i => t.getD i undef).toArray := by
  apply Array.ext
  · simp [h]
  · intro i h1 h2
    simp [Array.getD, h1]
theorem frame_open {t : Array Value} {n : Nat} (h : t.size = n) : ∃ f : Nat → Value, (∀ i v, t[i]? = some v → f i = v) ∧ t = ((List.range n).map f).toArray :=
  ⟨fun i => t.getD i undef, fun _ _ h => getD_pin h, frame_map h⟩
/-- A loop that counts up: the relation at k, for k up to n; the frame as an array. -/
theorem wp_loop_up {P : Program} {Q : Exit → Act → World → Prop} {c : Code} (n : Nat) (R : Nat → Array Value → World → Prop) (t : Array Value) (w : World) (h0 : R 0 t w)
    (round : ∀ k t w, k ≤ n → R k t w → ∀ (K : Act → World → Prop), (∀ t' w', k < n → R (k + 1) t' w' → K ⟨t', []⟩ w') → c.wp P (Exit.then K Q) ⟨t, []⟩ w) : (Code.loop c).wp P Q ⟨t, []⟩ w := by
  refine wp_loop_ghost (fun m a w => a.defers = [] ∧ ∃ k, k + m = n ∧ R k a.tmps w) n ⟨rfl, 0, by omega, h0⟩ ?_
  rintro m ⟨t, ds⟩ w ⟨rfl, k, hk, hR⟩
  exact round k t w (by omega) hR _ (fun t' w' hlt hR' => ⟨m - 1, by omega, rfl, k + 1, by omega, hR'⟩)

end Go.Proofs.Ytancppfkkepdiaa

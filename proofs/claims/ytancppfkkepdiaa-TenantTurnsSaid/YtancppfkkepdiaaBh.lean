/-
  A directory that is new: what is small; a region's two makers in either order.
-/
import Derived.Test.YtancppfkkepdiaaBg
namespace Go.Proofs.Ytancppfkkepdiaa
open Go.RowKit
set_option linter.unusedVariables false
set_option linter.unusedSimpArgs false
set_option maxRecDepth 100000 in
theorem within_yes (n m : Int) (h1 : 1 ≤ n) (h2 : n ≤ m) (w : World) : Calls Try.prog 37 #[.int .i64 n, .int .i64 m] w fun e w' => e = .returned (.bool true) ∧ w = w' := by
  go_enter Try.func37, Try.ntmps37
  go_wp2_with fail
  go_ret
  exact ⟨by simp [h1, h2], rfl⟩
set_option maxRecDepth 100000 in
theorem bInfo : ∃ ti z, Try.prog.info? 5 = some ti ∧ ti.zero = some z ∧ ti.size = 1 ∧ ti.bytes = 1 ∧ z.cells.size = 1 := ⟨_, .int .u8 0, rfl, by kernel_rfl, by kernel_rfl, by kernel_rfl, by kernel_rfl⟩
set_option maxRecDepth 100000 in
set_option maxHeartbeats 1600000 in
theorem copied_any (v : Value) (n : Nat) (xs : List Value) (hn : n ≤ 1000) (w : World) (hs : Src Try.prog 1 51 v n xs w) : Calls Try.prog 38 #[v] w fun e w' => (∃ a c, e = .returned (.slice a n c)) ∧ Fr (fun _ => False) w w' := by
  obtain ⟨ti, zv, t1, t2, t3, t4, t5⟩ := bInfo
  have HT := Lib.hid (And.intro t1 (And.intro t2 (And.intro t3 (And.intro t4 t5))))
  have HS := Lib.hid hs
  have HN := Lib.hid hn
  clear t1 t2 t3 t4 t5 hs hn
  go_enter Try.func38, Try.ntmps38
  go_wp2_with (focus ((refine wpList_app _ rfl (.const (.slice none 0 0)) (.tmp 3) 51 51 rfl w.heap.size 5 ti zv 1 1 Try.underlying51 HT.out.1 HT.out.2.1 HT.out.2.2.1 HT.out.2.2.2.1 HT.out.2.2.2.2 (by decide) (.slice none 0 0) 0 [] rfl (World.ownsRow_nil _ _ _ _) _ rfl n xs HS.out (by have := HN.out; unfold maxLen; omega) (by have := HN.out; omega) (Nat.le_refl _) ?_); intro v2 w2 O2 G2 G2x; simp only [Act.put, List.setIfInBounds_toArray, List.set_cons_zero, List.set_cons_succ]))
  have hf : ∃ a c, v2 = .slice a n c := by
    rcases O2.2 with ⟨rfl, h0⟩ | ⟨g, cap, cur, rfl, _⟩
    · exact ⟨none, 0, by rw [show n = 0 by omega]⟩
    · exact ⟨_, cap, by rw [Nat.zero_add]⟩
  obtain ⟨a, c, rfl⟩ := hf
  have HG := Lib.hid G2
  clear O2 G2 G2x
  go_wp2_with fail
  go_ret
  exact ⟨⟨a, c, rfl⟩, (Fr.ofGrown HG.out).mono (fun _ _ e => by simp [Value.ownBlock] at e)⟩
section
variable {P : Program} {md : Region.Mode} {ops : Array Oper} {Q : Act → World → Prop}
set_option maxRecDepth 100000 in
/-- Whatever makes something, by its run. -/
theorem Wk.val {a : Act} {W : World} {r : List (Nat × Bool)} {k : Nat} {o : Oper} (hi : ops[k]? = some o) (hw : Region.wanted o (yielded ops a.tmps) = true) (R : Value → World → Prop)
    (hrun : ∀ w, Ex W w → ∃ v w', (execOp a.eval o).run P w = .ok (.value v) w' ∧ Ex w w' ∧ R v w')
    (h : ∀ v w', Ex W w' → R v w' → Wk P md ops Q r (a.put o.dst v) w') : Wk P md ops Q ((k, true) :: r) a W := by
  intro w hx
  obtain ⟨v, w', h1, h2, h3⟩ := hrun w hx
  exact wpOp_value hi hw h1 ⟨h2, h v w' (Ex.tr hx h2) h3⟩
set_option maxRecDepth 100000 in
theorem wpOp_callR {a : Act} {w : World} {k : Nat} {o : Oper} {K : Act → World → Prop} (hi : ops[k]? = some o) (hw : Region.wanted o (yielded ops a.tmps) = true) (f : FuncId) (args : Array Value)
    (hrun : (execOp a.eval o).run P w = .ok (.enter f args) w) (R : Value → World → Prop) (hc : Calls P f args w fun e w' => ∃ v, e = .returned v ∧ R v w') (h : ∀ v w', R v w' → K (a.put o.dst v) w') : wpOp P ops NQ k K a w := by
  unfold wpOp
  simp only [hi, hw, if_true]
  refine .inl ?_
  unfold Oper.wp
  rw [hrun, Oper.upon_enter]
  refine hc.mono ?_
  rintro e w' ⟨v, rfl, hr⟩
  exact h v w' hr
end
end Go.Proofs.Ytancppfkkepdiaa

/-
  Jobs that came in as arguments: of the law on schedules.
-/
import Derived.Test.YtcpapielklplcaaLaw
import Derived.Test.YtcpapielklplcaaKo
import Derived.Deep.Slices
namespace Go.Proofs.Ytcpapielklplcaa
open Go.ChangeShapes Go.WideShapes Go.ChangeAt Go.RowKit Go.Deep
set_option linter.unusedVariables false
set_option linter.unusedSimpArgs false
def In64 (z : Int) : Prop := -9223372036854775808 ≤ z ∧ z ≤ 9223372036854775807
theorem lt_of_cell {w : World} {g o : Nat} {s : Option Nat} {v : Value} (h : w.cell? ⟨g, o, none⟩ = some v) : g < w.heap.size := by
  rcases Nat.lt_or_ge g w.heap.size with h1 | h1
  · exact h1
  · have : w.heap[g]? = none := Array.getElem?_eq_none h1
    simp [World.cell?, this] at h
/-- A job. -/
structure Jc where
  what : Int
  id : ByteArray
  per : Int
  age : Int
/-- A job's cells. -/
def JC (w : World) (g o : Nat) (x : Jc) : Prop := w.cell? ⟨g, o, none⟩ = some (.int .i64 x.what) ∧ w.cell? ⟨g, o + 1, none⟩ = some (.string x.id) ∧ w.cell? ⟨g, o + 2, none⟩ = some (.int .i64 x.per) ∧ w.cell? ⟨g, o + 3, none⟩ = some (.int .i64 x.age) ∧ In64 x.what ∧ In64 x.per ∧ In64 x.age
def JL (w : World) (v : Value) (js : List Jc) : Prop := ∃ a cap, v = .slice a js.length cap ∧ js.length ≤ maxLen ∧ ∀ j x, js[j]? = some x → ∃ g o, a = some ⟨g, o, none⟩ ∧ g < w.heap.size ∧ JC w g (o + j * 4) x
section
variable {H : Type} {enc : TypeId × Value → H} {W : World} {base : Nat}
theorem in64_of_wf {z : Int} (h : (Lit.int .i64 z).wf = true) : In64 z := by
  have h2 : IntKind.i64.min ≤ z ∧ z ≤ IntKind.i64.max := by simpa [Lit.wf] using h
  have e1 : IntKind.i64.min = -9223372036854775808 := by decide
  have e2 : IntKind.i64.max = 9223372036854775807 := by decide
  rw [e1, e2] at h2
  exact h2
theorem add_none (g o j : Nat) : (⟨g, o, none⟩ : Addr).add j = ⟨g, o + j, none⟩ := by unfold Addr.add; split <;> simp_all
theorem spot_none {a : Addr} {v0 : Value} (h0 : W.cell? (a.add 0) = some v0) : ∃ g o, a = ⟨g, o, none⟩ := by
  obtain ⟨g, o, s⟩ := a
  have hs : s = none := by
    have := World.cell?_spot h0
    simpa [Addr.add] using this
  subst hs
  exact ⟨g, o, rfl⟩
theorem trod_struct4 {P : Program} {w : World} {b : Nat} {spare : Nat → Bool} {held : Bool} {t : TypeId} {f0 f1 f2 f3 : Field} {fuel : Nat} {cs : List Value} {x : DataW H × List MemPlace} (ht : P.underlying t = some (.struct #[f0, f1, f2, f3])) (h : DataW.trod enc P w b spare held fuel t cs = some x) :
    ∃ y0 y1 y2 y3 n, cs.length = P.cellsOf t ∧ DataW.trod enc P w b spare held n f0.type ((cs.drop f0.offset).take (P.cellsOf f0.type)) = some y0 ∧ DataW.trod enc P w b spare held n f1.type ((cs.drop f1.offset).take (P.cellsOf f1.type)) = some y1 ∧
      DataW.trod enc P w b spare held n f2.type ((cs.drop f2.offset).take (P.cellsOf f2.type)) = some y2 ∧ DataW.trod enc P w b spare held n f3.type ((cs.drop f3.offset).take (P.cellsOf f3.type)) = some y3 := by
  obtain ⟨xs, n, _, rfl, hl, hlen, hf⟩ := DataW.trod_struct ht h
  match xs, hlen with
  | [y0, y1, y2, y3], _ => exact ⟨y0, y1, y2, y3, n, hl, by simpa using hf 0 f0 rfl, by simpa using hf 1 f1 rfl, by simpa using hf 2 f2 rfl, by simpa using hf 3 f3 rfl⟩
set_option maxRecDepth 100000 in
theorem cells_job {n : Nat} {cs : List Value} {y : DataW H × List MemPlace} (hf : DataW.trod enc Try.prog W 0 (fun _ => true) true n 30 cs = some y) : ∃ (x : Jc), cs = [.int .i64 x.what, .string x.id, .int .i64 x.per, .int .i64 x.age] ∧ In64 x.what ∧ In64 x.per ∧ In64 x.age := by
  obtain ⟨y0, y1, y2, y3, n, hl, t0, t1, t2, t3⟩ := trod_struct4 Try.underlying30 hf
  obtain ⟨z0, e0, _, w0⟩ := DataW.trod_int Try.underlying3 t0
  obtain ⟨s1, e1, _⟩ := DataW.trod_string Try.underlying9 t1
  obtain ⟨z2, e2, _, w2⟩ := DataW.trod_int Try.underlying3 t2
  obtain ⟨z3, e3, _, w3⟩ := DataW.trod_int Try.underlying3 t3
  have c4 : Try.prog.cellsOf 30 = 4 := by kernel_rfl
  have ci : Try.prog.cellsOf 3 = 1 := by kernel_rfl
  have cs1 : Try.prog.cellsOf 9 = 1 := by kernel_rfl
  rw [c4] at hl
  simp only [ci, cs1] at e0 e1 e2 e3
  refine ⟨⟨z0, s1, z2, z3⟩, ?_, in64_of_wf w0, in64_of_wf w2, in64_of_wf w3⟩
  match cs, hl with
  | [x0, x1, x2, x3], _ =>
    simp at e0 e1 e2 e3
    subst e0 e1 e2 e3
    rfl
set_option maxRecDepth 100000 in
theorem open_jobs {v : Value} {d : DataW H} {p : List MemPlace} (hval : Value.okWide Try.prog W .any base 22 v) (h1 : DataW.Trod enc Try.prog W 0 (fun _ => true) true 22 v d p) : ∃ js, JL W v js := by
  obtain ⟨a0, len0, cap0, rfl⟩ := okWide_slice Try.underlying22 hval
  obtain ⟨fuel, hf⟩ := h1
  have c4 : Try.prog.cellsOf 30 = 4 := by kernel_rfl
  rcases Deep.open_slice Try.underlying22 hf with ⟨hcs, hx⟩ | ⟨a, len, cap, m, n, D, Pl, hcs, hb, hl, hm, hmm, hx, hc⟩
  · have : Value.slice a0 len0 cap0 = .slice none 0 0 := by simpa [Value.cells] using hcs
    exact ⟨[], none, 0, by rw [this]; rfl, by simp, fun j x hj => by simp at hj⟩
  · have e0 : Value.slice a0 len0 cap0 = .slice (some a) len cap := by simpa [Value.cells] using hcs
    rw [e0]
    simp only [if_true] at hmm
    rw [c4] at hc
    have each : ∀ i, ∃ x : Jc, i < len → W.cells? 0 (a.add (i * 4)) 4 = some [.int .i64 x.what, .string x.id, .int .i64 x.per, .int .i64 x.age] ∧ In64 x.what ∧ In64 x.per ∧ In64 x.age := fun i => by
      by_cases hi : i < len
      · obtain ⟨cs', h1, h2⟩ := hc i (by omega)
        obtain ⟨x, e, hk⟩ := cells_job h2
        exact ⟨x, fun _ => ⟨by rw [h1, e], hk⟩⟩
      · exact ⟨⟨0, ⟨#[]⟩, 0, 0⟩, fun h => absurd h hi⟩
    obtain ⟨B, hB⟩ := Classical.axiomOfChoice each
    refine ⟨(List.range len).map B, some a, cap, by simp, by simp; omega, fun j x hj => ?_⟩
    have hj2 : j < len := by have := (List.getElem?_eq_some_iff.1 hj).1; simpa using this
    have e : B j = x := by simpa [hj2] using hj
    obtain ⟨h4, hk⟩ := hB j hj2
    rw [e] at h4 hk
    have hs := (World.cells?_some h4).2.2
    have q0 := hs 0 (by decide)
    have q1 := hs 1 (by decide)
    have q2 := hs 2 (by decide)
    have q3 := hs 3 (by decide)
    obtain ⟨h40, _⟩ := hB 0 (by omega)
    have q00 := (World.cells?_some h40).2.2 0 (by decide)
    have q01 : W.cell? (a.add 0) = some (.int .i64 (B 0).what) := by simpa [Addr.add] using q00
    obtain ⟨g, o, rfl⟩ := spot_none q01
    simp only [add_none] at q0 q1 q2 q3
    exact ⟨g, o, rfl, lt_of_cell (s := none) q0, q0, q1, q2, q3, hk⟩
end
end Go.Proofs.Ytcpapielklplcaa

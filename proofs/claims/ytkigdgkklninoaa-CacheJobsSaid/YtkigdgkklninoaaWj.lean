/-
  Lists that came in as arguments: texts; jobs of the law on caches.
-/
import Derived.Test.YtkigdgkklninoaaWi
import Derived.Deep.Slices
namespace Go.Proofs.Ytkigdgkklninoaa
open Go.ChangeShapes Go.WideShapes Go.ChangeAt Go.RowKit Go.Deep
set_option linter.unusedVariables false
set_option linter.unusedSimpArgs false
def In64 (z : Int) : Prop := -9223372036854775808 ≤ z ∧ z ≤ 9223372036854775807
theorem lt_of_cell {w : World} {g o : Nat} {s : Option Nat} {v : Value} (h : w.cell? ⟨g, o, none⟩ = some v) : g < w.heap.size := by
  rcases Nat.lt_or_ge g w.heap.size with h1 | h1
  · exact h1
  · have : w.heap[g]? = none := Array.getElem?_eq_none h1
    simp [World.cell?, this] at h
/-- Texts that came in. -/
def SL (w : World) (v : Value) (l : List ByteArray) : Prop := ∃ a cap, v = .slice a l.length cap ∧ l.length ≤ maxLen ∧ ∀ j x, l[j]? = some x → ∃ g o, a = some ⟨g, o, none⟩ ∧ g < w.heap.size ∧ w.cell? ⟨g, o + j, none⟩ = some (.string x)
/-- A job. -/
structure Jb where
  what : Int
  part : Int
  name : ByteArray
  kept : ByteArray
def JL (w : World) (v : Value) (js : List Jb) : Prop := ∃ a cap, v = .slice a js.length cap ∧ js.length ≤ maxLen ∧ ∀ j x, js[j]? = some x → ∃ g o, a = some ⟨g, o, none⟩ ∧ g < w.heap.size ∧ w.cell? ⟨g, o + j * 4, none⟩ = some (.int .i64 x.what) ∧ w.cell? ⟨g, o + j * 4 + 1, none⟩ = some (.int .i64 x.part) ∧ w.cell? ⟨g, o + j * 4 + 2, none⟩ = some (.string x.name) ∧ w.cell? ⟨g, o + j * 4 + 3, none⟩ = some (.string x.kept) ∧ In64 x.what ∧ In64 x.part
section
variable {H : Type} {enc : TypeId × Value → H} {W : World} {base : Nat}
theorem in64_of_wf {z : Int} (h : (Lit.int .i64 z).wf = true) : In64 z := by
  have h2 : IntKind.i64.min ≤ z ∧ z ≤ IntKind.i64.max := by simpa [Lit.wf] using h
  have e1 : IntKind.i64.min = -9223372036854775808 := by decide
  have e2 : IntKind.i64.max = 9223372036854775807 := by decide
  rw [e1, e2] at h2
  exact h2
theorem add_none (g o j : Nat) : (⟨g, o, none⟩ : Addr).add j = ⟨g, o + j, none⟩ := by unfold Addr.add; split <;> simp_all
theorem spot_none {a : Addr} {v0 : Value} (h0 : W.cell? (a.add 0) = some v0) : ∃ g o, a = ⟨g, o, none⟩ := by
  obtain ⟨g, o, s⟩ := a
  have hs : s = none := by
    have := World.cell?_spot h0
    simpa [Addr.add] using this
  subst hs
  exact ⟨g, o, rfl⟩
set_option maxRecDepth 100000 in
theorem open_texts {v : Value} {d : DataW H} {p : List MemPlace} (hval : Value.okWide Try.prog W .any base 33 v) (h1 : DataW.Trod enc Try.prog W 0 (fun _ => true) true 33 v d p) : ∃ l, SL W v l := by
  obtain ⟨a0, len0, cap0, rfl⟩ := okWide_slice Try.underlying33 hval
  obtain ⟨fuel, hf⟩ := h1
  rcases Deep.open_slice1 Try.underlying33 (by kernel_rfl) hf with ⟨hcs, hx⟩ | ⟨a, len, cap, m, n, V, D, Pl, hcs, hb, hl, hm, hmm, hx, hc⟩
  · have : Value.slice a0 len0 cap0 = .slice none 0 0 := by simpa [Value.cells] using hcs
    exact ⟨[], none, 0, by rw [this]; rfl, by simp, fun j x hj => by simp at hj⟩
  · have e0 : Value.slice a0 len0 cap0 = .slice (some a) len cap := by simpa [Value.cells] using hcs
    rw [e0]
    simp only [if_true] at hmm
    have each : ∀ i, ∃ b : ByteArray, i < len → W.cell? (a.add i) = some (.string b) := fun i => by
      by_cases hi : i < len
      · obtain ⟨h1, h2⟩ := hc i (by omega)
        obtain ⟨s, hs, _⟩ := DataW.trod_string Try.underlying9 h2
        have e : V i = .string s := by simpa using hs
        exact ⟨s, fun _ => by rw [h1, e]⟩
      · exact ⟨⟨#[]⟩, fun h => absurd h hi⟩
    obtain ⟨B, hB⟩ := Classical.axiomOfChoice each
    refine ⟨(List.range len).map B, some a, cap, by simp, by simp; omega, fun j x hj => ?_⟩
    have hj2 : j < len := by have := (List.getElem?_eq_some_iff.1 hj).1; simpa using this
    have e : B j = x := by simpa [hj2] using hj
    obtain ⟨g, o, rfl⟩ := spot_none (hB 0 (by omega))
    have hcell := hB j hj2
    rw [add_none] at hcell
    exact ⟨g, o, rfl, lt_of_cell (s := none) hcell, by rw [hcell, e]⟩
theorem trod_struct4 {P : Program} {w : World} {b : Nat} {spare : Nat → Bool} {held : Bool} {t : TypeId} {f0 f1 f2 f3 : Field} {fuel : Nat} {cs : List Value} {x : DataW H × List MemPlace} (ht : P.underlying t = some (.struct #[f0, f1, f2, f3])) (h : DataW.trod enc P w b spare held fuel t cs = some x) :
    ∃ y0 y1 y2 y3 n, cs.length = P.cellsOf t ∧ DataW.trod enc P w b spare held n f0.type ((cs.drop f0.offset).take (P.cellsOf f0.type)) = some y0 ∧ DataW.trod enc P w b spare held n f1.type ((cs.drop f1.offset).take (P.cellsOf f1.type)) = some y1 ∧
      DataW.trod enc P w b spare held n f2.type ((cs.drop f2.offset).take (P.cellsOf f2.type)) = some y2 ∧ DataW.trod enc P w b spare held n f3.type ((cs.drop f3.offset).take (P.cellsOf f3.type)) = some y3 := by
  obtain ⟨xs, n, _, rfl, hl, hlen, hf⟩ := DataW.trod_struct ht h
  match xs, hlen with
  | [y0, y1, y2, y3], _ => exact ⟨y0, y1, y2, y3, n, hl, by simpa using hf 0 f0 rfl, by simpa using hf 1 f1 rfl, by simpa using hf 2 f2 rfl, by simpa using hf 3 f3 rfl⟩
set_option maxRecDepth 100000 in
theorem cells_job {n : Nat} {cs : List Value} {y : DataW H × List MemPlace} (hf : DataW.trod enc Try.prog W 0 (fun _ => true) true n 42 cs = some y) : ∃ (x : Jb), cs = [.int .i64 x.what, .int .i64 x.part, .string x.name, .string x.kept] ∧ In64 x.what ∧ In64 x.part := by
  obtain ⟨y0, y1, y2, y3, n, hl, t0, t1, t2, t3⟩ := trod_struct4 Try.underlying42 hf
  obtain ⟨z0, e0, _, w0⟩ := DataW.trod_int Try.underlying3 t0
  obtain ⟨z1, e1, _, w1⟩ := DataW.trod_int Try.underlying3 t1
  obtain ⟨s2, e2, _⟩ := DataW.trod_string Try.underlying9 t2
  obtain ⟨s3, e3, _⟩ := DataW.trod_string Try.underlying9 t3
  have c4 : Try.prog.cellsOf 42 = 4 := by kernel_rfl
  have ci : Try.prog.cellsOf 3 = 1 := by kernel_rfl
  have cs1 : Try.prog.cellsOf 9 = 1 := by kernel_rfl
  rw [c4] at hl
  simp only [ci, cs1] at e0 e1 e2 e3
  refine ⟨⟨z0, z1, s2, s3⟩, ?_, in64_of_wf w0, in64_of_wf w1⟩
  match cs, hl with
  | [x0, x1, x2, x3], _ =>
    simp at e0 e1 e2 e3
    subst e0 e1 e2 e3
    rfl
set_option maxRecDepth 100000 in
theorem open_jobs {v : Value} {d : DataW H} {p : List MemPlace} (hval : Value.okWide Try.prog W .any base 22 v) (h1 : DataW.Trod enc Try.prog W 0 (fun _ => true) true 22 v d p) : ∃ js, JL W v js := by
  obtain ⟨a0, len0, cap0, rfl⟩ := okWide_slice Try.underlying22 hval
  obtain ⟨fuel, hf⟩ := h1
  have c4 : Try.prog.cellsOf 42 = 4 := by kernel_rfl
  rcases Deep.open_slice Try.underlying22 hf with ⟨hcs, hx⟩ | ⟨a, len, cap, m, n, D, Pl, hcs, hb, hl, hm, hmm, hx, hc⟩
  · have : Value.slice a0 len0 cap0 = .slice none 0 0 := by simpa [Value.cells] using hcs
    exact ⟨[], none, 0, by rw [this]; rfl, by simp, fun j x hj => by simp at hj⟩
  · have e0 : Value.slice a0 len0 cap0 = .slice (some a) len cap := by simpa [Value.cells] using hcs
    rw [e0]
    simp only [if_true] at hmm
    rw [c4] at hc
    have each : ∀ i, ∃ x : Jb, i < len → W.cells? 0 (a.add (i * 4)) 4 = some [.int .i64 x.what, .int .i64 x.part, .string x.name, .string x.kept] ∧ In64 x.what ∧ In64 x.part := fun i => by
      by_cases hi : i < len
      · obtain ⟨cs', h1, h2⟩ := hc i (by omega)
        obtain ⟨x, e, hk⟩ := cells_job h2
        exact ⟨x, fun _ => ⟨by rw [h1, e], hk⟩⟩
      · exact ⟨⟨0, 0, ⟨#[]⟩, ⟨#[]⟩⟩, fun h => absurd h hi⟩
    obtain ⟨B, hB⟩ := Classical.axiomOfChoice each
    refine ⟨(List.range len).map B, some a, cap, by simp, by simp; omega, fun j x hj => ?_⟩
    have hj2 : j < len := by have := (List.getElem?_eq_some_iff.1 hj).1; simpa using this
    have e : B j = x := by simpa [hj2] using hj
    obtain ⟨h4, hk⟩ := hB j hj2
    rw [e] at h4 hk
    have hs := (World.cells?_some h4).2.2
    have q0 := hs 0 (by decide)
    have q1 := hs 1 (by decide)
    have q2 := hs 2 (by decide)
    have q3 := hs 3 (by decide)
    obtain ⟨h40, _⟩ := hB 0 (by omega)
    have q00 := (World.cells?_some h40).2.2 0 (by decide)
    have q01 : W.cell? (a.add 0) = some (.int .i64 (B 0).what) := by simpa [Addr.add] using q00
    obtain ⟨g, o, rfl⟩ := spot_none q01
    simp only [add_none] at q0 q1 q2 q3
    exact ⟨g, o, rfl, lt_of_cell (s := none) q0, q0, q1, q2, q3, hk⟩
end
end Go.Proofs.Ytkigdgkklninoaa

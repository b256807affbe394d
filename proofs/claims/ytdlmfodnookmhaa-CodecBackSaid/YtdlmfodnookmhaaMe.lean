/-
  A list of parts that came in as an argument.
-/
import Derived.Test.YtdlmfodnookmhaaMd
import Derived.Test.YtdlmfodnookmhaaLaw
import Derived.WideKeyArr2
import Derived.Deep.Slices
import Derived.Deep.Strs
import Derived.Lib.LaidTab
namespace Go.Proofs.Ytdlmfodnookmhaa
open Go.ChangeShapes Go.WideShapes Go.ChangeAt Go.RowKit Go.Deep
set_option linter.unusedVariables false
set_option linter.unusedSimpArgs false
structure Prt where
  kind : Int
  num : Int
  sum : Nat → UInt8
  text : List UInt8
def Prt.cells (x : Prt) : Array Value := pt x.kind x.num x.sum x.text
def In64 (z : Int) : Prop := -9223372036854775808 ≤ z ∧ z ≤ 9223372036854775807
theorem lt_of_cell {w : World} {g o : Nat} {s : Option Nat} {v : Value} (h : w.cell? ⟨g, o, none⟩ = some v) : g < w.heap.size := by
  rcases Nat.lt_or_ge g w.heap.size with h1 | h1
  · exact h1
  · have : w.heap[g]? = none := Array.getElem?_eq_none h1
    simp [World.cell?, this] at h
theorem in64_of_wf {z : Int} (h : (Lit.int .i64 z).wf = true) : In64 z := by
  have := bounds_i64 h
  unfold In64; omega
def PL (w : World) (v : Value) (ps : List Prt) : Prop := ∃ a cap, v = .slice a ps.length cap ∧ ps.length ≤ maxLen ∧ ∀ j x, ps[j]? = some x → ∃ g o, a = some ⟨g, o, none⟩ ∧ g < w.heap.size ∧ (∀ i u, x.cells[i]? = some u → w.cell? ⟨g, o + j * 35 + i, none⟩ = some u) ∧ x.text.length ≤ maxLen ∧ In64 x.num
section
variable {H : Type} {enc : TypeId × Value → H} {W : World} {base : Nat}
theorem add_none (g o j : Nat) : (⟨g, o, none⟩ : Addr).add j = ⟨g, o + j, none⟩ := by unfold Addr.add; split <;> simp_all
theorem spot_none {a : Addr} {v0 : Value} (h0 : W.cell? (a.add 0) = some v0) : ∃ g o, a = ⟨g, o, none⟩ := by
  obtain ⟨g, o, s⟩ := a
  have hs : s = none := by
    have := World.cell?_spot h0
    simpa [Addr.add] using this
  subst hs
  exact ⟨g, o, rfl⟩
theorem trod_struct4 {P : Program} {w : World} {b : Nat} {spare : Nat → Bool} {held : Bool} {t : TypeId} {f0 f1 f2 f3 : Field} {fuel : Nat} {cs : List Value} {x : DataW H × List MemPlace} (ht : P.underlying t = some (.struct #[f0, f1, f2, f3])) (h : DataW.trod enc P w b spare held fuel t cs = some x) :
    ∃ y0 y1 y2 y3 n, cs.length = P.cellsOf t ∧ DataW.trod enc P w b spare held n f0.type ((cs.drop f0.offset).take (P.cellsOf f0.type)) = some y0 ∧ DataW.trod enc P w b spare held n f1.type ((cs.drop f1.offset).take (P.cellsOf f1.type)) = some y1 ∧
      DataW.trod enc P w b spare held n f2.type ((cs.drop f2.offset).take (P.cellsOf f2.type)) = some y2 ∧ DataW.trod enc P w b spare held n f3.type ((cs.drop f3.offset).take (P.cellsOf f3.type)) = some y3 := by
  obtain ⟨xs, n, _, rfl, hl, hlen, hf⟩ := DataW.trod_struct ht h
  match xs, hlen with
  | [y0, y1, y2, y3], _ => exact ⟨y0, y1, y2, y3, n, hl, by simpa using hf 0 f0 rfl, by simpa using hf 1 f1 rfl, by simpa using hf 2 f2 rfl, by simpa using hf 3 f3 rfl⟩
set_option maxRecDepth 100000 in
theorem cells_key {n : Nat} {cs : List Value} {y : DataW H × List MemPlace} (hf : DataW.trod enc Try.prog W 0 (fun _ => true) true n 32 cs = some y) : ∃ f : Nat → UInt8, cs = (ub 32 f).toList := by
  have A : WideMaps.ArrKey Try.prog 32 5 32 := ⟨Try.underlying32, by kernel_rfl, by kernel_rfl, by kernel_rfl⟩
  have hce : Try.prog.cellsOf 5 = 1 := A.one
  have hct : Try.prog.cellsOf 32 = 32 := A.size
  cases n with
  | zero => simp [DataW.trod] at hf
  | succ fuel =>
    simp only [DataW.trod, A.hu, hce, hct, Nat.mul_one] at hf
    split at hf
    · rename_i hlen
      obtain ⟨xs, hm, hx⟩ := Option.map_eq_some_iff.1 hf
      have key : ∀ i, i < 32 → ∃ y : UInt8, cs[i]? = some (.int .u8 (y.toNat : Int)) := by
        intro i hi
        obtain ⟨b, hb, hf2⟩ := Lib.mapM_at hm i i (by simp [hi])
        obtain ⟨z, hc, _, hwf⟩ := DataW.trod_int Try.underlying5 hf2
        have hb8 := bounds_u8 hwf
        refine ⟨UInt8.ofNat z.toNat, ?_⟩
        have h2 : cs[i]? = some (.int .u8 z) := by
          have := congrArg (·[0]?) hc
          simpa [List.getElem?_take, List.getElem?_drop] using this
        rw [h2]
        congr 2
        have : (UInt8.ofNat z.toNat).toNat = z.toNat % 256 := rfl
        omega
      obtain ⟨f, hf⟩ : ∃ f : Nat → UInt8, ∀ j, j < 32 → cs[j]? = some (.int .u8 ((f j).toNat : Int)) := ⟨fun i => if h : i < 32 then Classical.choose (key i h) else 0, fun j hj => by
        simp only [dif_pos hj]; exact Classical.choose_spec (key j hj)⟩
      refine ⟨f, ?_⟩
      apply List.ext_getElem?
      intro j
      by_cases hj : j < 32
      · rw [hf j hj, Array.getElem?_toList, ub_get 32 _ j hj]
      · rw [List.getElem?_eq_none (by omega), Array.getElem?_toList, Array.getElem?_eq_none (by rw [ub_size]; omega)]
    · cases hf
set_option maxRecDepth 100000 in
theorem cells_prt {n : Nat} {cs : List Value} {y : DataW H × List MemPlace} (hf : DataW.trod enc Try.prog W 0 (fun _ => true) true n 34 cs = some y) : ∃ x : Prt, cs = x.cells.toList ∧ x.text.length ≤ maxLen ∧ In64 x.num := by
  obtain ⟨y0, y1, y2, y3, n, hl, t0, t1, t2, t3⟩ := trod_struct4 Try.underlying34 hf
  obtain ⟨z0, e0, _, w0⟩ := DataW.trod_int Try.underlying3 t0
  obtain ⟨z1, e1, _, w1⟩ := DataW.trod_int Try.underlying3 t1
  obtain ⟨f, e2⟩ := cells_key t2
  obtain ⟨s, e3, _, w3⟩ := DataW.trod_string Try.underlying9 t3
  have c2 : Try.prog.cellsOf 34 = 35 := by kernel_rfl
  have ci : Try.prog.cellsOf 3 = 1 := by kernel_rfl
  have cu : Try.prog.cellsOf 32 = 32 := by kernel_rfl
  have cs' : Try.prog.cellsOf 9 = 1 := by kernel_rfl
  rw [c2] at hl
  rw [ci] at e0 e1
  rw [cu] at e2
  rw [cs'] at e3
  refine ⟨⟨z0, z1, f, s.data.toList⟩, ?_, by have : s.data.toList.length = s.size := by rw [Array.length_toList]; rfl
                                             rw [this]; exact w3, in64_of_wf w1⟩
  have es : (⟨s.data.toList.toArray⟩ : ByteArray) = s := by cases s; simp
  unfold Prt.cells pt
  rw [Array.toList_append, Array.toList_append]
  show cs = [.int .i64 z0, .int .i64 z1] ++ ((ub 32 f).toList ++ [.string ⟨s.data.toList.toArray⟩])
  rw [es, ← e2, ← e3]
  have a1 : (cs.drop 0).take 1 = [.int .i64 z0] := e0
  have a2 : (cs.drop 1).take 1 = [.int .i64 z1] := e1
  rw [show ([.int .i64 z0, .int .i64 z1] : List Value) = [.int .i64 z0] ++ [.int .i64 z1] from rfl, ← a1, ← a2]
  show cs = ((cs.drop 0).take 1 ++ (cs.drop 1).take 1) ++ ((cs.drop 2).take 32 ++ (cs.drop 34).take 1)
  have h34 : (cs.drop 34).take 1 = cs.drop 34 := List.take_of_length_le (by rw [List.length_drop]; omega)
  have h2 : (cs.drop 2).take 32 ++ cs.drop 34 = cs.drop 2 := by
    have := List.take_append_drop 32 (cs.drop 2)
    rwa [List.drop_drop] at this
  have h1 : (cs.drop 1).take 1 ++ cs.drop 2 = cs.drop 1 := by
    have := List.take_append_drop 1 (cs.drop 1)
    rwa [List.drop_drop] at this
  rw [h34, h2, List.append_assoc, h1, List.drop_zero, List.take_append_drop]
set_option maxRecDepth 100000 in
theorem open_parts {v : Value} {d : DataW H} {p : List MemPlace} (hval : Value.okWide Try.prog W .any base 22 v) (h1 : DataW.Trod enc Try.prog W 0 (fun _ => true) true 22 v d p) : ∃ ps, PL W v ps := by
  obtain ⟨a0, len0, cap0, rfl⟩ := okWide_slice Try.underlying22 hval
  obtain ⟨fuel, hf⟩ := h1
  have c2 : Try.prog.cellsOf 34 = 35 := by kernel_rfl
  rcases Deep.open_slice Try.underlying22 hf with ⟨hcs, hx⟩ | ⟨a, len, cap, m, n, D, Pl, hcs, hb, hl, hm, hmm, hx, hc⟩
  · have : Value.slice a0 len0 cap0 = .slice none 0 0 := by simpa [Value.cells] using hcs
    exact ⟨[], none, 0, by rw [this]; rfl, by simp, fun j x hj => by simp at hj⟩
  · have e0 : Value.slice a0 len0 cap0 = .slice (some a) len cap := by simpa [Value.cells] using hcs
    rw [e0]
    simp only [if_true] at hmm
    rw [c2] at hc
    have each : ∀ i, ∃ x : Prt, i < len → W.cells? 0 (a.add (i * 35)) 35 = some x.cells.toList ∧ x.text.length ≤ maxLen ∧ In64 x.num := fun i => by
      by_cases hi : i < len
      · obtain ⟨cs', h1, h2⟩ := hc i (by omega)
        obtain ⟨x, e, hk⟩ := cells_prt h2
        exact ⟨x, fun _ => ⟨by rw [h1, e], hk⟩⟩
      · exact ⟨⟨0, 0, fun _ => 0, []⟩, fun h => absurd h hi⟩
    obtain ⟨B, hB⟩ := Classical.axiomOfChoice each
    refine ⟨(List.range len).map B, some a, cap, by simp, by simp; omega, fun j x hj => ?_⟩
    have hj2 : j < len := by have := (List.getElem?_eq_some_iff.1 hj).1; simpa using this
    have e : B j = x := by simpa [hj2] using hj
    obtain ⟨h4, hk⟩ := hB j hj2
    rw [e] at h4 hk
    have hs := (World.cells?_some h4).2.2
    obtain ⟨h40, _⟩ := hB 0 (by omega)
    have q00 := (World.cells?_some h40).2.2 0 (by decide)
    have b0 : (B 0).cells.toList[0]? = some (.int .i64 (B 0).kind) := by rw [Array.getElem?_toList]; exact pt_0 _ _ _ _
    rw [b0] at q00
    generalize (B 0).kind = kk at q00
    have q01 : W.cell? (a.add 0) = some (.int .i64 kk) := by simpa [Addr.add] using q00
    obtain ⟨g, o, rfl⟩ := spot_none q01
    simp only [add_none] at hs
    have hall : ∀ i u, x.cells[i]? = some u → W.cell? ⟨g, o + j * 35 + i, none⟩ = some u := fun i u hu => by
      have hi : i < 35 := by have := (Array.getElem?_eq_some_iff.1 hu).1; rwa [show x.cells.size = 35 from pt_size _ _ _ _] at this
      have := hs i hi
      rw [Array.getElem?_toList, hu] at this
      exact this
    exact ⟨g, o, rfl, lt_of_cell (s := none) (hall 0 _ (pt_0 _ _ _ _)), hall, hk⟩
end
end Go.Proofs.Ytdlmfodnookmhaa

/-
  A table of tenants: its memory; New, what is small.
-/
import Derived.Test.YtancppfkkepdiaaLaw
import Derived.Test.YtancppfkkepdiaaKo
import Derived.Test.YtancppfkkepdiaaKw
import Derived.Test.YtancppfkkepdiaaLp
import Derived.Laws.MakeOwn
import Derived.Handy
namespace Go.Proofs.Ytancppfkkepdiaa
open Go.RowKit
set_option linter.unusedVariables false
set_option linter.unusedSimpArgs false
/-- A place. -/
structure Pl where
  id : ByteArray
  st : Int
  dir : Option Addr
def pv (x : Pl) : List Value := [.string x.id, .int .i64 x.st, .pointer x.dir]
def pc (L : List Pl) : List Value := L.flatMap pv
theorem pc_cons (x : Pl) (L : List Pl) : pc (x :: L) = .string x.id :: .int .i64 x.st :: .pointer x.dir :: pc L := rfl
theorem pc_len : ∀ L : List Pl, (pc L).length = L.length * 3
  | [] => rfl
  | x :: L => by rw [pc_cons]; simp only [List.length_cons, pc_len L]; omega
theorem pc_get : ∀ (L : List Pl) (k : Nat) (x : Pl), L[k]? = some x → (pc L)[k * 3]? = some (.string x.id) ∧ (pc L)[k * 3 + 1]? = some (.int .i64 x.st) ∧ (pc L)[k * 3 + 2]? = some (.pointer x.dir)
  | y :: L, 0, x, h => by
    obtain rfl : y = x := by simpa using h
    exact ⟨rfl, rfl, rfl⟩
  | y :: L, k + 1, x, h => by
    have := pc_get L k x (by simpa using h)
    rw [pc_cons, show (k + 1) * 3 = k * 3 + 1 + 1 + 1 by omega, show k * 3 + 1 + 1 + 1 + 1 = (k * 3 + 1) + 1 + 1 + 1 by omega, show k * 3 + 1 + 1 + 1 + 2 = (k * 3 + 2) + 1 + 1 + 1 by omega]
    simpa using this
/-- A table: its places' block, its row of those that are gone. -/
structure TB (w : World) (tb pb : Nat) (P : List Pl) (gv : Value) : Prop where
  blk : w.heap[tb]? = some (.cells #[.slice (some ⟨pb, 0, none⟩) P.length P.length, gv] 72 (0, 0))
  row : w.heap[pb]? = some (.cells (pc P).toArray 70 (0, 0))
  ne : tb ≠ pb
theorem TB.fr {w w' : World} {tb pb : Nat} {P : List Pl} {gv : Value} {S : Nat → Prop} (h : TB w tb pb P gv) (F : Fr S w w') (h1 : ¬ S tb) (h2 : ¬ S pb) : TB w' tb pb P gv :=
  ⟨(F.block tb (lt_of_block h.blk) h1).trans h.blk, (F.block pb (lt_of_block h.row) h2).trans h.row, h.ne⟩
theorem TB.ext {w w' : World} {tb pb : Nat} {P : List Pl} {gv : Value} (h : TB w tb pb P gv) (F : Fr (fun _ => False) w w') : TB w' tb pb P gv := h.fr F (fun h => h) (fun h => h)
theorem TB.c {w : World} {tb pb : Nat} {P : List Pl} {gv : Value} (h : TB w tb pb P gv) : w.cell? ⟨tb, 0, none⟩ = some (.slice (some ⟨pb, 0, none⟩) P.length P.length) ∧ w.cell? ⟨tb, 1, none⟩ = some gv ∧ w.frozen? ⟨tb, 1, none⟩ = false :=
  ⟨(cell_of_block h.blk 0).trans rfl, (cell_of_block h.blk 1).trans rfl, free_of_block h.blk 1⟩
theorem TB.p {w : World} {tb pb : Nat} {P : List Pl} {gv : Value} (h : TB w tb pb P gv) {k : Nat} {x : Pl} (hx : P[k]? = some x) : w.cell? ⟨pb, k * 3, none⟩ = some (.string x.id) ∧ w.cell? ⟨pb, k * 3 + 1, none⟩ = some (.int .i64 x.st) ∧ w.cell? ⟨pb, k * 3 + 2, none⟩ = some (.pointer x.dir) := by
  obtain ⟨e0, e1, e2⟩ := pc_get P k x hx
  rw [cell_of_block h.row, cell_of_block h.row, cell_of_block h.row, List.getElem?_toArray, List.getElem?_toArray, List.getElem?_toArray]
  exact ⟨e0, e1, e2⟩
def nob : Pl := ⟨⟨#[]⟩, 0, none⟩
set_option maxRecDepth 100000 in
theorem mk_places (n : Nat) (h : n ≤ 8) : ∀ W : World, (Instr.makeSlice 68 (.int .i64 (n : Int)) (.int .i64 (n : Int))).run Try.prog W = .ok (.slice (some ⟨W.heap.size, 0, none⟩) n n) (W.alloc (.cells (pc (List.replicate n nob)).toArray 70)) := by
  have hi : ∃ i, Try.prog.info? 70 = some i ∧ i.zero = some (.agg #[.string ⟨#[]⟩, .int .i64 0, .pointer none]) ∧ i.size = 3 ∧ i.bytes = 32 := ⟨_, rfl, by kernel_rfl, by kernel_rfl, by kernel_rfl⟩
  obtain ⟨i, h1, h2, h3, h4⟩ := hi
  intro W
  have hz : madeCells (Value.agg #[.string ⟨#[]⟩, .int .i64 0, .pointer none]).cells (n * 3) = (pc (List.replicate n nob)).toArray := by
    apply Array.ext_getElem?
    intro j
    by_cases hj : j < n * 3
    · have e : (madeCells (Value.agg #[.string ⟨#[]⟩, .int .i64 0, .pointer none]).cells (n * 3))[j]? = some ((#[Value.string ⟨#[]⟩, .int .i64 0, .pointer none])[j % 3]!) := by
        unfold madeCells
        simp [Value.cells, hj]
      obtain ⟨g0, g1, g2⟩ := pc_get (List.replicate n nob) (j / 3) nob (by rw [List.getElem?_replicate, if_pos (by omega)])
      rw [e, List.getElem?_toArray]
      have h3 : j % 3 = 0 ∨ j % 3 = 1 ∨ j % 3 = 2 := by omega
      rcases h3 with h | h | h
      · rw [h, show j = j / 3 * 3 by omega, g0]; rfl
      · rw [h, show j = j / 3 * 3 + 1 by omega, g1]; rfl
      · rw [h, show j = j / 3 * 3 + 2 by omega, g2]; rfl
    · rw [Array.getElem?_eq_none (by rw [size_madeCells]; omega), List.getElem?_toArray, List.getElem?_eq_none (by rw [pc_len, List.length_replicate]; omega)]
  have := run_makeSlice (P := Try.prog) (w := W) 68 70 i _ Try.underlying68 h1 h2 .i64 .i64 (n : Int) (n : Int) (by omega) (by omega) (by rw [h3]; simp; omega) (by rw [h4]; omega) (by omega)
  rw [h3] at this
  rw [← hz]
  simpa using this
set_option maxRecDepth 100000 in
set_option maxHeartbeats 1600000 in
theorem new_any (n : Nat) (n1 : 1 ≤ n) (n8 : n ≤ 8) (w : World) : Calls Try.prog 18 #[.int .i64 (n : Int)] w fun e w' => ∃ tb pb, e = .returned (.tuple #[.pointer (some ⟨tb, 0, none⟩), .int .i64 0]) ∧ TB w' tb pb (List.replicate n nob) (.slice none 0 0) ∧ w.heap.size ≤ tb ∧ w.heap.size ≤ pb ∧ Fr (fun _ => False) w w' := by
  have hmk := mk_places n n8
  have t1 : decide ((n : Int) < 1) = false := by simp; omega
  have t2 : decide ((8 : Int) < (n : Int)) = false := by simp; omega
  clear n1 n8
  go_enter Try.func18, Try.ntmps18
  go_wp2_with fail
  go_returns
  refine ⟨w.heap.size + 1, w.heap.size, rfl, ⟨?_, ?_, by omega⟩, by omega, by omega, ((Fr.refl _ w).alloc _).alloc _⟩
  · rw [List.length_replicate]
    have e : (w.alloc (.cells (pc (List.replicate n nob)).toArray 70)).heap.size = w.heap.size + 1 := by simp
    rw [← e]
    exact heap_alloc_new _ _
  · exact (((Fr.refl (fun _ => False) (w.alloc (.cells (pc (List.replicate n nob)).toArray 70))).alloc _).block _ (by simp) (fun h => h)).trans (heap_alloc_new w _)
set_option maxRecDepth 100000 in
theorem free_any (x : Pl) (w : World) : Calls Try.prog 30 #[.agg #[.string x.id, .int .i64 x.st, .pointer x.dir]] w fun e w' => e = .returned (.bool (x.st == 0)) ∧ Fr (fun _ => False) w w' := by
  have hb := heap_alloc_new w (.cells #[.string x.id, .int .i64 x.st, .pointer x.dir] 70)
  have c1 := (cell_of_block hb 1).trans (show _ = some (Value.int .i64 x.st) from rfl)
  have F := Lib.hid ((Fr.refl (fun _ => False) w).alloc (.cells #[.string x.id, .int .i64 x.st, .pointer x.dir] 70))
  clear hb
  go_enter Try.func30, Try.ntmps30
  go_wp2_with fail
  go_ret
  exact ⟨rfl, F.out⟩
set_option maxRecDepth 100000 in
theorem id_ok (a : Option Addr) (n c : Nat) (n1 : 1 ≤ n) (n16 : n ≤ 16) (w : World) : Calls Try.prog 28 #[.slice a n c] w fun e w' => e = .returned (.bool true) ∧ w = w' := by
  have t1 : (1 : Int) ≤ (n : Int) := by omega
  have t2 : (n : Int) ≤ 16 := by omega
  go_enter Try.func28, Try.ntmps28
  go_wp2_with fail
  go_ret
  exact ⟨by simp [t1, t2], rfl⟩
end Go.Proofs.Ytancppfkkepdiaa

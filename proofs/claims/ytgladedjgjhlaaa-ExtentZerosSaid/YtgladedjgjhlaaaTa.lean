/-
  New and Size of package disk.
-/
import Derived.Test.YtgladedjgjhlaaaLaw
import Derived.Test.YtgladedjgjhlaaaKo
import Derived.Test.YtgladedjgjhlaaaKw
import Derived.Laws.MakeOwn
import Derived.Handy
namespace Go.Proofs.Ytgladedjgjhlaaa
open Go.RowKit
set_option linter.unusedVariables false
set_option linter.unusedSimpArgs false

/-- A disk of n blocks: where its parts lie, and the numbers. -/
def dcells (bn bl n : Nat) (wv : Value) (wr ar : Int) (dn : Bool) : Array Value := #[.slice (some ⟨bn, 0, none⟩) n n, .slice (some ⟨bl, 0, none⟩) n n, wv, .int .i64 wr, .int .i64 ar, .bool dn]
set_option maxRecDepth 100000 in
theorem mk_blocks (n : Nat) (h : n ≤ 8192) : ∃ Z : Array Value, (∀ j, j < 128 * n → Z[j]? = some (.int .u8 0)) ∧ Z.size = 128 * n ∧ ∀ W : World, (Instr.makeSlice 103 (.int .i64 (n : Int)) (.int .i64 (n : Int))).run Try.prog W = .ok (.slice (some ⟨W.heap.size, 0, none⟩) n n) (W.alloc (.cells Z 30)) := by
  have hi : ∃ i, Try.prog.info? 30 = some i ∧ i.zero = some (.agg (Array.replicate 128 (.int .u8 0))) ∧ i.size = 128 ∧ i.bytes = 128 := ⟨_, rfl, by kernel_rfl, by kernel_rfl, by kernel_rfl⟩
  obtain ⟨i, h1, h2, h3, h4⟩ := hi
  refine ⟨madeCells (Value.agg (Array.replicate 128 (.int .u8 0))).cells (n * 128), ?_, ?_, fun W => ?_⟩
  · intro j hj
    unfold madeCells
    have hj2 : j < n * 128 := by omega
    have e : ∀ k, k < 128 → (Array.replicate 128 (Value.int IntKind.u8 0))[k]! = .int .u8 0 := fun k hk => by
      rw [getElem!_pos (Array.replicate 128 (Value.int IntKind.u8 0)) k (by simpa using hk)]
      simp
    have hm := e (j % 128) (Nat.mod_lt _ (by omega))
    simpa [Value.cells, hj2] using hm
  · rw [size_madeCells]; omega
  · have := run_makeSlice (P := Try.prog) (w := W) 103 30 i _ Try.underlying103 h1 h2 .i64 .i64 (n : Int) (n : Int) (by omega) (by omega) (by rw [h3]; simp; omega) (by rw [h4]; omega) (by omega)
    rw [h3] at this
    simpa using this
/-- A disk as New makes it. -/
structure Fresh (w0 w : World) (d bn bl n : Nat) (Z : Array Value) : Prop where
  blk : w.heap[d]? = some (.cells (dcells bn bl n (.slice none 0 0) 0 0 false) 106 (0, 0))
  now : w.heap[bn]? = some (.cells Z 30 (0, 0))
  las : w.heap[bl]? = some (.cells Z 30 (0, 0))
  d1 : d ≠ bn
  d2 : d ≠ bl
  d3 : bn ≠ bl
  b1 : w0.heap.size ≤ d
  b2 : w0.heap.size ≤ bn
  b3 : w0.heap.size ≤ bl
theorem Fresh.drew {w0 w : World} {d bn bl n : Nat} {Z : Array Value} (h : Fresh w0 w d bn bl n Z) : Fresh w0 w.drew d bn bl n Z := ⟨h.blk, h.now, h.las, h.d1, h.d2, h.d3, h.b1, h.b2, h.b3⟩
theorem heap_three (w : World) (A B C : Obj) : (((w.alloc A).alloc B).alloc C).heap[w.heap.size]? = some A := by
  rw [Below.heap_alloc _ _ _ (by simp; omega), Below.heap_alloc _ _ _ (by simp), heap_alloc_new]
theorem heap_three1 (w : World) (A B C : Obj) : (((w.alloc A).alloc B).alloc C).heap[w.heap.size + 1]? = some B := by
  rw [Below.heap_alloc _ _ _ (by simp)]
  have h := heap_alloc_new (w.alloc A) B
  rwa [show (w.alloc A).heap.size = w.heap.size + 1 by simp] at h
theorem heap_three2 (w : World) (A B C : Obj) : (((w.alloc A).alloc B).alloc C).heap[w.heap.size + 1 + 1]? = some C := by
  have h := heap_alloc_new ((w.alloc A).alloc B) C
  rwa [show ((w.alloc A).alloc B).heap.size = w.heap.size + 2 by simp] at h
theorem fresh_lo (w : World) (n : Nat) (Z : Array Value) : Fresh w (((w.alloc (.cells Z 30)).alloc (.cells Z 30)).alloc (.cells (dcells w.heap.size (w.heap.size + 1) n (.slice none 0 0) 0 0 false) 106)) (w.heap.size + 1 + 1) w.heap.size (w.heap.size + 1) n Z :=
  ⟨heap_three2 _ _ _ _, heap_three _ _ _ _, heap_three1 _ _ _ _, by omega, by omega, by omega, by omega, by omega, by omega⟩
theorem fresh_hi (w : World) (n : Nat) (Z : Array Value) : Fresh w (((w.alloc (.cells Z 30)).alloc (.cells Z 30)).alloc (.cells (dcells (w.heap.size + 1) w.heap.size n (.slice none 0 0) 0 0 false) 106)) (w.heap.size + 1 + 1) (w.heap.size + 1) w.heap.size n Z :=
  ⟨heap_three2 _ _ _ _, heap_three1 _ _ _ _, heap_three _ _ _ _, by omega, by omega, by omega, by omega, by omega, by omega⟩
set_option maxRecDepth 100000 in
set_option maxHeartbeats 1600000 in
theorem dnew_ok (n : Nat) (h1 : 1 ≤ n) (h2 : n ≤ 8192) (Z : Array Value) (hmk : ∀ W : World, (Instr.makeSlice 103 (.int .i64 (n : Int)) (.int .i64 (n : Int))).run Try.prog W = .ok (.slice (some ⟨W.heap.size, 0, none⟩) n n) (W.alloc (.cells Z 30))) (w : World) :
    Calls Try.prog 13 #[.int .i64 (n : Int)] w fun e w' => ∃ d bn bl, e = .returned (.tuple #[.pointer (some ⟨d, 0, none⟩), .int .i64 0]) ∧ Fresh w w' d bn bl n Z ∧ Fr (fun _ => False) w w' := by
  have q1 : ¬ ((n : Int) < 1) := by omega
  have q2 : ¬ ((8192 : Int) < (n : Int)) := by omega
  have t1 : decide ((n : Int) < 1) = false := by simpa using q1
  have t2 : decide ((8192 : Int) < (n : Int)) = false := by simpa using q2
  go_enter Try.func13, Try.ntmps13
  go_wp2_with fail
  go_region
  all_goals
    go_wp2_with fail
    go_returns
    have F3 : Fr (fun _ => False) w _ := (((Fr.refl (fun _ => False) w).alloc (.cells Z 30)).alloc (.cells Z 30))
    first
      | exact ⟨_, _, _, rfl, fresh_lo w n Z, F3.alloc _⟩
      | exact ⟨_, _, _, rfl, fresh_hi w n Z, F3.alloc _⟩
      | exact ⟨_, _, _, rfl, (fresh_lo w n Z).drew, (F3.alloc _).drew⟩
      | exact ⟨_, _, _, rfl, (fresh_hi w n Z).drew, (F3.alloc _).drew⟩
set_option maxRecDepth 100000 in
set_option maxHeartbeats 1600000 in
theorem dnew_bad (n : Int) (h : n < 1 ∨ 8192 < n) (w : World) :
    Calls Try.prog 13 #[.int .i64 n] w fun e w' => e = .returned (.tuple #[.pointer none, .int .i64 1]) ∧ Fr (fun _ => False) w w' := by
  by_cases h1 : n < 1
  · have t1 : decide (n < 1) = true := by simpa using h1
    go_enter Try.func13, Try.ntmps13
    go_wp2_with fail
    go_returns
    exact ⟨rfl, Fr.refl _ _⟩
  · have t1 : decide (n < 1) = false := by simpa using h1
    have t2 : decide (8192 < n) = true := by simp; omega
    go_enter Try.func13, Try.ntmps13
    go_wp2_with fail
    go_returns
    exact ⟨rfl, Fr.refl _ _⟩
set_option maxRecDepth 100000 in
theorem size_ok (d n : Nat) (a : Option Addr) (w : World) (hb : w.cell? ⟨d, 0, none⟩ = some (.slice a n n)) :
    Calls Try.prog 21 #[.pointer (some ⟨d, 0, none⟩)] w fun e w' => e = .returned (.int .i64 (n : Int)) ∧ Fr (fun _ => False) w w' := by
  go_enter Try.func21, Try.ntmps21
  go_wp2_with fail
  go_ret
  exact ⟨rfl, Fr.refl _ _⟩
set_option maxRecDepth 100000 in
theorem size_nil (w : World) :
    Calls Try.prog 21 #[.pointer none] w fun e w' => e = .returned (.int .i64 0) ∧ Fr (fun _ => False) w w' := by
  go_enter Try.func21, Try.ntmps21
  go_wp2_with fail
  go_ret
  exact ⟨rfl, Fr.refl _ _⟩
end Go.Proofs.Ytgladedjgjhlaaa

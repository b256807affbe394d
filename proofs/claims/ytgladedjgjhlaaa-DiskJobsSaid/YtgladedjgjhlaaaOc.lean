/-
  The document's disk: its state, New, DocWrite.
-/
import Derived.Test.YtgladedjgjhlaaaOb
namespace Go.Proofs.Ytgladedjgjhlaaa
open Go.RowKit
set_option linter.unusedVariables false
set_option linter.unusedSimpArgs false
/-- The document's disk, as it lies. -/
def rcells (bl n : Nat) (wv : Value) (wr ar : Int) (dn : Bool) : Array Value := #[.slice (some ⟨bl, 0, none⟩) n n, wv, .int .i64 wr, .int .i64 ar, .bool dn]
set_option maxRecDepth 100000 in
theorem rmk_blocks (n : Nat) (h : n ≤ 8192) : ∃ Z : Array Value, (∀ j, j < 128 * n → Z[j]? = some (.int .u8 0)) ∧ Z.size = 128 * n ∧ ∀ W : World, (Instr.makeSlice 48 (.int .i64 (n : Int)) (.int .i64 (n : Int))).run Try.prog W = .ok (.slice (some ⟨W.heap.size, 0, none⟩) n n) (W.alloc (.cells Z 29)) := by
  have hi : ∃ i, Try.prog.info? 29 = some i ∧ i.zero = some (.agg (Array.replicate 128 (.int .u8 0))) ∧ i.size = 128 ∧ i.bytes = 128 := ⟨_, rfl, by kernel_rfl, by kernel_rfl, by kernel_rfl⟩
  obtain ⟨i, h1, h2, h3, h4⟩ := hi
  refine ⟨madeCells (Value.agg (Array.replicate 128 (.int .u8 0))).cells (n * 128), ?_, ?_, fun W => ?_⟩
  · intro j hj
    unfold madeCells
    have hj2 : j < n * 128 := by omega
    have e : ∀ k, k < 128 → (Array.replicate 128 (Value.int IntKind.u8 0))[k]! = .int .u8 0 := fun k hk => by
      rw [getElem!_pos (Array.replicate 128 (Value.int IntKind.u8 0)) k (by simpa using hk)]
      simp
    have hm := e (j % 128) (Nat.mod_lt _ (by omega))
    simpa [Value.cells, hj2] using hm
  · rw [size_madeCells]; omega
  · have := run_makeSlice (P := Try.prog) (w := W) 48 29 i _ Try.underlying48 h1 h2 .i64 .i64 (n : Int) (n : Int) (by omega) (by omega) (by rw [h3]; simp; omega) (by rw [h4]; omega) (by omega)
    rw [h3] at this
    simpa using this
structure DB (w : World) (d bl n : Nat) (L : Nat → Nat → UInt8) (ws : List (Nat × (Nat → UInt8))) (wv : Value) (wr ar : Int) (dn : Bool) (base : Nat) : Prop where
  blk : w.heap[d]? = some (.cells (rcells bl n wv wr ar dn) 51 (0, 0))
  las : w.heap[bl]? = some (.cells (bk n L) 29 (0, 0))
  own : w.ownsRow base 110 129 wv ws.length (wcells ws)
  d2 : d ≠ bl
  o1 : wv.ownBlock ≠ some d
  o3 : wv.ownBlock ≠ some bl
  b1 : base ≤ d
  b3 : base ≤ bl
  hn : n ≤ 8192
  hw : ∀ p ∈ ws, p.1 < n
def TchB (d bl : Nat) (wv : Value) : Nat → Prop := fun k => k = d ∨ k = bl ∨ wv.ownBlock = some k
theorem DB.fr {w w' : World} {d bl n : Nat} {L : Nat → Nat → UInt8} {ws : List (Nat × (Nat → UInt8))} {wv : Value} {wr ar : Int} {dn : Bool} {base : Nat} {S : Nat → Prop} (h : DB w d bl n L ws wv wr ar dn base) (hF : Fr S w w') (hS : ∀ k, TchB d bl wv k → ¬ S k) : DB w' d bl n L ws wv wr ar dn base :=
  ⟨(hF.block d (lt_of_block h.blk) (hS _ (.inl rfl))).trans h.blk, (hF.block bl (lt_of_block h.las) (hS _ (.inr (.inl rfl)))).trans h.las, own_fr h.own hF (fun k hk => hS k (.inr (.inr hk))), h.d2, h.o1, h.o3, h.b1, h.b3, h.hn, h.hw⟩
theorem DB.c {w : World} {d bl n : Nat} {L : Nat → Nat → UInt8} {ws : List (Nat × (Nat → UInt8))} {wv : Value} {wr ar : Int} {dn : Bool} {base : Nat} (h : DB w d bl n L ws wv wr ar dn base) (j : Nat) {v : Value} (hv : (rcells bl n wv wr ar dn)[j]? = some v) : w.cell? ⟨d, j, none⟩ = some v := by
  rw [cell_of_block h.blk]; exact hv
theorem DB.up {w : World} {d bl n : Nat} {L : Nat → Nat → UInt8} {ws : List (Nat × (Nat → UInt8))} {wv : Value} {wr ar : Int} {dn : Bool} {base : Nat} (h : DB w d bl n L ws wv wr ar dn base) (k : Nat) (hk : TchB d bl wv k) : base ≤ k ∧ k < w.heap.size := by
  rcases hk with e | e | e
  · rw [e]; exact ⟨h.b1, lt_of_block h.blk⟩
  · rw [e]; exact ⟨h.b3, lt_of_block h.las⟩
  · rcases h.own.2 with ⟨e2, _⟩ | ⟨g, cap, cur, e2, hb, hg, _⟩
    · rw [e2] at e; exact absurd e (by simp [Value.ownBlock])
    · rw [e2] at e
      have : g = k := by simpa [Value.ownBlock] using e
      rw [← this]; exact ⟨hb, lt_of_block hg⟩
theorem DB.grow {w0 w w' : World} {d bl n : Nat} {L : Nat → Nat → UInt8} {ws : List (Nat × (Nat → UInt8))} {wv : Value} {wr ar : Int} {dn : Bool} (h : DB w d bl n L ws wv wr ar dn w0.heap.size) (F0 : Fr (fun _ => False) w0 w) {S : Nat → Prop} (F : Fr S w w') (hS : ∀ k, S k → TchB d bl wv k) : Fr (fun _ => False) w0 w' :=
  F0.trans F (fun k hk => Or.inr (h.up k (hS k hk)).1)
set_option maxRecDepth 100000 in
theorem rnew_any (n : Nat) (h2 : n ≤ 8192) (w : World) :
    Calls Try.prog 25 #[.int .i64 (n : Int)] w fun e w' => ∃ d bl, e = .returned (.pointer (some ⟨d, 0, none⟩)) ∧ DB w' d bl n (fun _ _ => 0) [] (.slice none 0 0) 0 0 false w.heap.size ∧ Fr (fun _ => False) w w' := by
  obtain ⟨Z, hz, hs, hmk⟩ := rmk_blocks n h2
  have HZ := Lib.hid hz
  have HS := Lib.hid hs
  clear hz hs
  go_enter Try.func25, Try.ntmps25
  go_wp2_with fail
  go_ret
  have eZ := z_bk n Z HZ.out HS.out
  have q1 : ((w.alloc (.cells Z 29)).alloc (.cells (rcells w.heap.size n (.slice none 0 0) 0 0 false) 51)).heap[w.heap.size]? = some (.cells Z 29 (0, 0)) := by
    rw [Below.heap_alloc _ _ _ (by simp), heap_alloc_new]
  have q2 : ((w.alloc (.cells Z 29)).alloc (.cells (rcells w.heap.size n (.slice none 0 0) 0 0 false) 51)).heap[w.heap.size + 1]? = some (.cells (rcells w.heap.size n (.slice none 0 0) 0 0 false) 51 (0, 0)) := by
    have h := heap_alloc_new (w.alloc (.cells Z 29)) (.cells (rcells w.heap.size n (.slice none 0 0) 0 0 false) 51)
    rwa [show (w.alloc (.cells Z 29)).heap.size = w.heap.size + 1 by simp] at h
  rw [eZ] at q1 q2 ⊢
  exact ⟨w.heap.size + 1, w.heap.size, rfl, ⟨q2, q1, World.ownsRow_nil _ _ _ _, by omega, by simp [Value.ownBlock], by simp [Value.ownBlock], by omega, by omega, h2, fun p hp => by simp at hp⟩, ((Fr.refl _ w).alloc _).alloc _⟩
end Go.Proofs.Ytgladedjgjhlaaa

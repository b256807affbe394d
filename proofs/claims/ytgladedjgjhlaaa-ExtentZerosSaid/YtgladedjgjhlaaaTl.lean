/-
  Read, Size, Down, Writes, Waiting, Arm of a disk that is told of.
-/
import Derived.Test.YtgladedjgjhlaaaTk
namespace Go.Proofs.Ytgladedjgjhlaaa
open Go.RowKit
set_option linter.unusedVariables false
set_option linter.unusedSimpArgs false

theorem read_nil (i : Int) (w : World) : Calls Try.prog 17 #[.pointer none, .int .i64 i] w fun e w' => e = .returned (.tuple #[.agg (ub 128 (fun _ => 0)), .int .i64 1]) ∧ Fr (fun _ => False) w w' :=
  read_bad _ i 1 (by decide) w fun W _ => reach_nil i W
theorem DA.c {w : World} {d bn bl n : Nat} {N L : Nat → Nat → UInt8} {ws : List (Nat × (Nat → UInt8))} {wv : Value} {wr ar : Int} {dn : Bool} {base : Nat} (h : DA w d bn bl n N L ws wv wr ar dn base) (j : Nat) {v : Value} (hv : (dcells bn bl n wv wr ar dn)[j]? = some v) : w.cell? ⟨d, j, none⟩ = some v := by
  rw [cell_of_block h.blk]; exact hv
theorem DA.reach {w : World} {d bn bl n : Nat} {N L : Nat → Nat → UInt8} {ws : List (Nat × (Nat → UInt8))} {wv : Value} {wr ar : Int} {dn : Bool} {base : Nat} (h : DA w d bn bl n N L ws wv wr ar dn base) (i : Int) (W : World) (hF : Fr (fun _ => False) w W) : Calls Try.prog 61 #[.pointer (some ⟨d, 0, none⟩), .int .i64 i] W fun e w' => e = .returned (.int .i64 (rcode n dn i)) ∧ Fr (fun _ => False) W w' := by
  have h2 := h.fr hF (fun _ _ h => h)
  exact reach_any d n (some ⟨bn, 0, none⟩) dn i W (h2.c 0 rfl) (h2.c 5 rfl)
theorem rcode_in {n : Nat} {dn : Bool} {i : Int} (h : rcode n dn i = 0) : dn = false ∧ 0 ≤ i ∧ i < (n : Int) := by
  unfold rcode at h
  cases dn with
  | true => simp at h
  | false =>
    simp only [Bool.false_eq_true, if_false] at h
    by_cases hc : 0 ≤ i ∧ i < (n : Int)
    · exact ⟨rfl, hc⟩
    · rw [if_neg hc] at h; exact absurd h (by decide)
/-- What Read answers. -/
theorem read_any {w : World} {d bn bl n : Nat} {N L : Nat → Nat → UInt8} {ws : List (Nat × (Nat → UInt8))} {wv : Value} {wr ar : Int} {dn : Bool} {base : Nat} (h : DA w d bn bl n N L ws wv wr ar dn base) (i : Int) :
    Calls Try.prog 17 #[.pointer (some ⟨d, 0, none⟩), .int .i64 i] w fun e w' => e = .returned (.tuple #[.agg (ub 128 (if rcode n dn i = 0 then N i.toNat else fun _ => 0)), .int .i64 (rcode n dn i)]) ∧ Fr (fun _ => False) w w' := by
  by_cases hc : rcode n dn i = 0
  · obtain ⟨h5, h0, h1⟩ := rcode_in hc
    have e : ((i.toNat : Nat) : Int) = i := Int.toNat_of_nonneg h0
    rw [if_pos hc, hc]
    have := read_ok d bn n N _ i.toNat (by omega) h.hn w h.blk rfl (by rw [h5]; rfl) h.now
    rwa [e] at this
  · rw [if_neg hc]
    exact read_bad _ i _ hc w fun W hF => h.reach i W hF
theorem down_nil (w : World) : Calls Try.prog 22 #[.pointer none] w fun e w' => e = .returned (.bool true) ∧ Fr (fun _ => False) w w' := by
  go_enter Try.func22, Try.ntmps22
  go_wp2_with fail
  go_ret
  exact ⟨rfl, Fr.refl _ _⟩
theorem down_any (d : Nat) (dn : Bool) (w : World) (c5 : w.cell? ⟨d, 5, none⟩ = some (.bool dn)) : Calls Try.prog 22 #[.pointer (some ⟨d, 0, none⟩)] w fun e w' => e = .returned (.bool dn) ∧ Fr (fun _ => False) w w' := by
  go_enter Try.func22, Try.ntmps22
  go_wp2_with fail
  go_ret
  exact ⟨rfl, Fr.refl _ _⟩
theorem writes_nil (w : World) : Calls Try.prog 23 #[.pointer none] w fun e w' => e = .returned (.int .i64 0) ∧ Fr (fun _ => False) w w' := by
  go_enter Try.func23, Try.ntmps23
  go_wp2_with fail
  go_ret
  exact ⟨rfl, Fr.refl _ _⟩
theorem writes_any (d : Nat) (k : Int) (w : World) (c3 : w.cell? ⟨d, 3, none⟩ = some (.int .i64 k)) : Calls Try.prog 23 #[.pointer (some ⟨d, 0, none⟩)] w fun e w' => e = .returned (.int .i64 k) ∧ Fr (fun _ => False) w w' := by
  go_enter Try.func23, Try.ntmps23
  go_wp2_with fail
  go_ret
  exact ⟨rfl, Fr.refl _ _⟩
theorem waiting_nil (w : World) : Calls Try.prog 24 #[.pointer none] w fun e w' => e = .returned (.int .i64 0) ∧ Fr (fun _ => False) w w' := by
  go_enter Try.func24, Try.ntmps24
  go_wp2_with fail
  go_ret
  exact ⟨rfl, Fr.refl _ _⟩
theorem waiting_any (d k cap : Nat) (a : Option Addr) (w : World) (c2 : w.cell? ⟨d, 2, none⟩ = some (.slice a k cap)) : Calls Try.prog 24 #[.pointer (some ⟨d, 0, none⟩)] w fun e w' => e = .returned (.int .i64 (k : Int)) ∧ Fr (fun _ => False) w w' := by
  go_enter Try.func24, Try.ntmps24
  go_wp2_with fail
  go_ret
  exact ⟨rfl, Fr.refl _ _⟩
theorem DA.waits {w : World} {d bn bl n : Nat} {N L : Nat → Nat → UInt8} {ws : List (Nat × (Nat → UInt8))} {wv : Value} {wr ar : Int} {dn : Bool} {base : Nat} (h : DA w d bn bl n N L ws wv wr ar dn base) : Calls Try.prog 24 #[.pointer (some ⟨d, 0, none⟩)] w fun e w' => e = .returned (.int .i64 (ws.length : Int)) ∧ Fr (fun _ => False) w w' := by
  rcases h.own.2 with ⟨e, h0⟩ | ⟨g, cap, cur, e, rest⟩
  · rw [h0]; exact waiting_any d 0 0 none w (h.c 2 (by rw [e]; rfl))
  · exact waiting_any d ws.length cap (some ⟨g, 0, none⟩) w (h.c 2 (by rw [e]; rfl))
theorem arm_nil (k : Int) (w : World) : Calls Try.prog 15 #[.pointer none, .int .i64 k] w fun e w' => e = .returned (.tuple #[]) ∧ Fr (fun _ => False) w w' := by
  go_enter Try.func15, Try.ntmps15
  go_wp2_with fail
  refine bodyPost_end (results_none rfl _ _ _) rfl ?_
  exact ⟨rfl, Fr.refl _ _⟩
set_option maxHeartbeats 3200000 in
set_option maxRecDepth 100000 in
theorem arm_any (d bn bl n : Nat) (wv : Value) (wr ar : Int) (dn : Bool) (k : Int) (w : World) (hb : w.heap[d]? = some (.cells (dcells bn bl n wv wr ar dn) 106 (0, 0))) : Calls Try.prog 15 #[.pointer (some ⟨d, 0, none⟩), .int .i64 k] w fun e w' => e = .returned (.tuple #[]) ∧ w'.heap[d]? = some (.cells (dcells bn bl n wv wr (if k < 0 then 0 else k) dn) 106 (0, 0)) ∧ Fr (fun k => k = d) w w' := by
  have szi : (Try.prog.info? 3).map (·.size) = some 1 := by kernel_rfl
  by_cases hk : k < 0
  · rw [if_pos hk]
    have t1 : decide (k < 0) = true := by simpa using hk
    go_enter Try.func15, Try.ntmps15
    go_wp2_with (focus ((with_reducible refine wpList_store_int ?h0 3 (.tmp 10) (.tmp 8) ?h1 d 4 ?h2 .i64 0 ?h3 ?h4 106 _ hb ?h5 ?h6); (case h0 => rfl); (case h1 => rfl); (case h2 => rfl); (case h3 => rfl); (case h4 => exact szi); (case h5 => simp [dcells]); intro w2 h2 F2; (simp only [Act.put, List.setIfInBounds_toArray, List.set_cons_zero, List.set_cons_succ])))
    refine bodyPost_end (results_none rfl _ _ _) rfl ?_
    exact ⟨rfl, h2, F2⟩
  · rw [if_neg hk]
    have t1 : decide (k < 0) = false := by simpa using hk
    go_enter Try.func15, Try.ntmps15
    go_wp2_with (focus ((with_reducible refine wpList_store_int ?g0 3 (.tmp 10) (.tmp 8) ?g1 d 4 ?g2 .i64 k ?g3 ?g4 106 _ hb ?g5 ?g6); (case g0 => rfl); (case g1 => rfl); (case g2 => rfl); (case g3 => trace_state; rfl); (case g4 => exact szi); (case g5 => simp [dcells]); intro w2 h2 F2; (simp only [Act.put, List.setIfInBounds_toArray, List.set_cons_zero, List.set_cons_succ])))
    refine bodyPost_end (results_none rfl _ _ _) rfl ?_
    exact ⟨rfl, h2, F2⟩
end Go.Proofs.Ytgladedjgjhlaaa

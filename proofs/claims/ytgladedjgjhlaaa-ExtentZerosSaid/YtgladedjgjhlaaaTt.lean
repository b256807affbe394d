/-
  Crash, whole.
-/
import Derived.Test.YtgladedjgjhlaaaTs
namespace Go.Proofs.Ytgladedjgjhlaaa
open Go.RowKit
set_option linter.unusedVariables false
set_option linter.unusedSimpArgs false
set_option maxRecDepth 100000 in
set_option maxHeartbeats 6400000 in
theorem crash_any {w : World} {d bn bl n : Nat} {N L : Nat → Nat → UInt8} {ws : List (Nat × (Nat → UInt8))} {wv : Value} {wr ar : Int} {dn : Bool} {base : Nat} (h : DA w d bn bl n N L ws wv wr ar dn base) (hm : ws.length < 1000000000000) {kv : Value} {ks : List Bool} (hkb : KB w kv ks (fun k => k = d ∨ k = bn ∨ k = bl)) :
    Calls Try.prog 16 #[.pointer (some ⟨d, 0, none⟩), kv] w fun e w' => e = .returned (.tuple #[]) ∧ DA w' d bn bl n (lay L (keepOf ws ks)) (lay L (keepOf ws ks)) [] (.slice none 0 0) wr 0 false base ∧ Fr (fun k => k = d ∨ k = bn ∨ k = bl) w w' := by
  obtain ⟨a, cap, rfl⟩ := own_slice h.own
  have hd := h.blk
  have c2 : w.cell? ⟨d, 2, none⟩ = some (.slice a ws.length cap) := (cell_of_block hd 2).trans rfl
  have HH := Lib.hid h
  have HM := Lib.hid hm
  have HKB := Lib.hid hkb
  clear h hd hm hkb
  go_enter Try.func16, Try.ntmps16
  go_wp2_with fail
  refine crash_loop HH.out HM.out HKB.out _ rfl rfl rfl rfl rfl rfl ?_
  intro t w2 hn p0 D F
  obtain ⟨f, hff, rfl⟩ := frame_open hn
  have e0 := hff 0 _ p0
  clear hff hn p0
  rw [lit56, e0]
  clear e0 c2
  have hd2 := D.blk
  have hn2 := D.now
  have hl2 := D.las
  have HD := Lib.hid D
  have HF := Lib.hid F
  have nd : ¬ (d = bn) := D.d1
  have nl : ¬ (bl = bn) := fun e => D.d3 e.symm
  clear D F
  obtain ⟨C, hC⟩ : ∃ C, bk n (lay L (keepOf ws ks)) = C := ⟨_, rfl⟩
  have sC : C.size = n * 128 := by rw [← hC, bk_size, Nat.mul_comm]
  have oC : C.all (·.oneCell') = true := by rw [← hC]; exact ub_one _ _
  obtain ⟨M, hM⟩ : ∃ M, bk n N = M := ⟨_, rfl⟩
  have sM : M.size = n * 128 := by rw [← hM, bk_size, Nat.mul_comm]
  rw [hC] at hl2
  rw [hM] at hn2
  have HC := Lib.hid hC
  have HMM := Lib.hid hM
  clear hC hM
  go_wp2_with fail
  refine Ks.wp_region_mono (fun k => k = bn) (sg 0 8 ++ ((8, true) :: [])) (by kernel_rfl) (by kernel_rfl) ?_
  refine Ks.Wk.seg 0 8 (by kernel_rfl) (by kernel_rfl) ?_
  apply Exists.intro
  refine ⟨?wk0, ?fin0⟩
  case wk0 =>
    intro γ
    have c0 : ∀ y : Ks.Ws γ, y.w.cell? ⟨d, 0, none⟩ = some (.slice (some ⟨bn, 0, none⟩) n n) := fun y => by rw [cell_of_block (y.blk hd2 nd)]; rfl
    have c1 : ∀ y : Ks.Ws γ, y.w.cell? ⟨d, 1, none⟩ = some (.slice (some ⟨bl, 0, none⟩) n n) := fun y => by rw [cell_of_block (y.blk hd2 nd)]; rfl
    simp only [List.drop_succ_cons, List.drop_zero, List.take_succ_cons, List.take_zero]
    repeat (any_goals (first | go_big_quiet_step (fail) | quiet_step (fail)))
    exact wpQuiet_nil rfl
  case fin0 =>
  (try simp only [Act.put, List.setIfInBounds_toArray, List.set_cons_zero, List.set_cons_succ])
  refine Ks.Wk.one rfl (fun w3 X3 => ?_)
  have n3 := (X3.block _ (lt_of_block hn2) (fun h => h)).trans hn2
  have l3 := (X3.block _ (lt_of_block hl2) (fun h => h)).trans hl2
  have d3 := (X3.block _ (lt_of_block hd2) (fun h => h)).trans hd2
  refine wpList_copy_whole rfl (.tmp 41) (.tmp 45) 103 103 rfl 30 Try.underlying103 128 Try.szBk bn bl n n n rfl rfl M C _ _ n3 l3 sC sM oC (fun w4 B4 F4 => ⟨rfl, F4, ?_⟩)
  simp only [Act.put, List.setIfInBounds_toArray, List.set_cons_zero, List.set_cons_succ]
  intro w5 X5
  have d5 := (X5.block _ (lt_of_block ((F4.block _ (lt_of_block d3) nd).trans d3)) (fun h => h)).trans ((F4.block _ (lt_of_block d3) nd).trans d3)
  have B5 := (X5.block _ (lt_of_block B4) (fun h => h)).trans B4
  have F25 : Fr (fun k => k = bn) w2 w5 := ((X3.mono (fun _ _ h => h.elim)).trans F4 (fun _ h => .inl h)).trans X5 (fun _ h => h.elim)
  clear n3 l3 d3 B4 F4 X5 X3 hd2 hn2 hl2
  have szs : (Try.prog.info? 104).map (·.size) = some 1 := by kernel_rfl
  have szi : (Try.prog.info? 3).map (·.size) = some 1 := by kernel_rfl
  have szb : (Try.prog.info? 4).map (·.size) = some 1 := by kernel_rfl
  have dd5 : w5.heap[d]? = some (.cells (dcells bn bl n (.slice a ws.length cap) wr ar dn) 106 (0, 0)) := d5
  clear d5
  go_wp2_with (first | (focus ((with_reducible refine wpList_store_one ?p0 104 (.tmp 51) (.const (.slice none 0 0)) ?p1 d 2 ?p2 (.slice none 0 0) ?p3 ?p4 ?p5 szs 106 _ dd5 ?p6 ?p7); (case p0 => rfl); (case p1 => rfl); (case p2 => rfl); (case p3 => rfl); (case p4 => rfl); (case p5 => rfl); (case p6 => simp [dcells]); intro w6 h6 F6; (simp only [Act.put, List.setIfInBounds_toArray, List.set_cons_zero, List.set_cons_succ]); have dd6 : w6.heap[d]? = some (.cells (dcells bn bl n (.slice none 0 0) wr ar dn) 106 (0, 0)) := h6; clear dd5 h6)) | (focus ((with_reducible refine wpList_store_one ?q0 3 (.tmp 53) (.const (.int .i64 0)) ?q1 d 4 ?q2 (.int .i64 0) ?q3 ?q4 ?q5 szi 106 _ dd6 ?q6 ?q7); (case q0 => rfl); (case q1 => rfl); (case q2 => rfl); (case q3 => rfl); (case q4 => rfl); (case q5 => rfl); (case q6 => simp [dcells]); intro w7 h7 F7; (simp only [Act.put, List.setIfInBounds_toArray, List.set_cons_zero, List.set_cons_succ]); have dd7 : w7.heap[d]? = some (.cells (dcells bn bl n (.slice none 0 0) wr 0 dn) 106 (0, 0)) := h7; clear dd6 h7)) | (focus ((with_reducible refine wpList_store_one ?r0 4 (.tmp 55) (.const (.bool false)) ?r1 d 5 ?r2 (.bool false) ?r3 ?r4 ?r5 szb 106 _ dd7 ?r6 ?r7); (case r0 => rfl); (case r1 => rfl); (case r2 => rfl); (case r3 => rfl); (case r4 => rfl); (case r5 => rfl); (case r6 => simp [dcells]); intro w8 h8 F8; (simp only [Act.put, List.setIfInBounds_toArray, List.set_cons_zero, List.set_cons_succ]); have dd8 : w8.heap[d]? = some (.cells (dcells bn bl n (.slice none 0 0) wr 0 false) 106 (0, 0)) := h8; clear dd7 h8)))
  have Fd : Fr (fun k => k = d) w5 w8 := (F6.trans F7 (fun _ e => .inl e)).trans F8 (fun _ e => .inl e)
  have B8 := (Fd.block bn (lt_of_block B5) (fun e => nd e.symm)).trans B5
  refine bodyPost_end (results_none rfl _ _ _) rfl ?_
  refine ⟨rfl, da_end HD.out dd8 (by rw [HC.out]; exact B8) ((F25.mono (fun _ _ e => .inr e)).trans Fd (fun _ e => .inl (.inl e))), ?_⟩
  exact ((HF.out.mono (fun _ _ e => .inr (.inr e))).trans F25 (fun _ e => .inl (.inr (.inl e)))).trans Fd (fun _ e => .inl (.inl e))
end Go.Proofs.Ytgladedjgjhlaaa

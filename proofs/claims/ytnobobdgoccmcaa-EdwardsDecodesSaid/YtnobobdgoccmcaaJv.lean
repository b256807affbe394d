/-
  EdwardsDecodes is true of all bytes.
-/
import Derived.Test.YtnobobdgoccmcaaJu
import Derived.Test.YtnobobdgoccmcaaJj
namespace Go.Proofs.Ytnobobdgoccmcaa
open Go.RowKit Pri
set_option linter.unusedVariables false
set_option linter.unusedSimpArgs false

theorem eql_bytes2 (x : List UInt8) (hx : x.length = 32) (w : World) : (binOp .eql 36 (.agg (bv x).toArray) (.agg (bv x).toArray)).run Try.prog w = .ok (.bool true) w := by
  have hb : ∀ z : List UInt8, bv z = z.map Extern.Stop.cell := fun z => rfl
  have hsz : ∀ w, (sizeOf 5).run Try.prog w = .ok 1 w := by
    intro w
    have h : (Try.prog.info? 5).map (·.size) = some 1 := by kernel_rfl
    obtain ⟨i0, hi, hz⟩ := Option.map_eq_some_iff.1 h
    simp [sizeOf, typeInfo, hi, hz]
  have h := run_eql_bytes w 36 5 32 Try.underlying36 Try.underlying5 hsz x x hx hx
  rw [← hb] at h
  rw [h, beq_self_eq_true]
theorem decode_all (Y c : Nat) (hY : Y < 57896044618658097711785492504343953926634992332820282019728792003956564819968) (hc : c < 2) : Ans Try.prog 53 #[.agg (bv (bl 32 (Y + 57896044618658097711785492504343953926634992332820282019728792003956564819968 * c))).toArray] (dpv Y c) := by
  rcases (show c = 0 ∨ c = 1 by omega) with h | h
  · subst h; exact decode_ans0 Y hY
  · subst h; exact decode_ans1 Y hY
theorem decode7_all (Y c : Nat) (hY : Y < 57896044618658097711785492504343953926634992332820282019728792003956564819968) (hc : c < 2) : Ans Try.prog 54 #[.string ⟨(bl 32 (Y + 57896044618658097711785492504343953926634992332820282019728792003956564819968 * c)).toArray⟩] (rpv Y c) := by
  rcases (show c = 0 ∨ c = 1 by omega) with h | h
  · subst h; exact decode7_ans0 Y hY
  · subst h; exact decode7_ans1 Y hY
theorem zero_same7 : Ans Try.prog 51 #[.agg #[.int .u64 0, .int .u64 0, .int .u64 0, .int .u64 0, .int .u64 0, .int .u64 0, .int .u64 0, .int .u64 0], .agg #[.int .u64 0, .int .u64 0, .int .u64 0, .int .u64 0, .int .u64 0, .int .u64 0, .int .u64 0, .int .u64 0]] (.bool true) := by
  rw [← pv_zero]; exact yes_same Cv.zero
theorem parts_of (X : Nat) (hX : X < 115792089237316195423570985008687907853269984665640564039457584007913129639936) : ∃ Y c, Y < 57896044618658097711785492504343953926634992332820282019728792003956564819968 ∧ c < 2 ∧ X = Y + 57896044618658097711785492504343953926634992332820282019728792003956564819968 * c := by
  refine ⟨X % 57896044618658097711785492504343953926634992332820282019728792003956564819968, X / 57896044618658097711785492504343953926634992332820282019728792003956564819968, ?_, ?_, ?_⟩ <;> omega
set_option maxHeartbeats 1600000 in
theorem edec_any (l : List UInt8) (hl : l.length = 32) (w : World) :
    Calls Try.prog 10 #[.agg (bv l).toArray] w fun e w' => e = .returned (.bool true) ∧ Fr (fun _ => False) w w' := by
  obtain ⟨X, hX, rfl⟩ := of_bytes l hl
  obtain ⟨Y, c, hY, hc, hXY⟩ := parts_of X hX
  have D1 := decode_all Y c hY hc
  have D2 := decode7_all Y c hY hc
  rw [← hXY] at D1 D2
  cases hd : dcode Y c with
  | none =>
    rw [dpv_none hd] at D1
    rw [rpv_none hd] at D2
    exact edec_bad ⟨(bl 32 X).toArray⟩ (pq 0 0) (rqq ⟨0, 0, 0⟩) (bv (bl 32 X)).toArray w D1 D2 bases_any zero_same7 (fun W g => str_of_bl _ W g) (sz_pq 0 0) (sz_rqq _) (sz_bl _)
  | some x =>
    obtain ⟨P, on, h1, h2, h3⟩ := dcode_pt hc hd
    rw [dpv_some hd, h1] at D1
    have D3 : Ans Try.prog 54 #[.string ⟨(bl 32 X).toArray⟩] (.tuple #[.agg (rqq ⟨x, Y, 1⟩), .int .i64 0]) := by
      have e : rpv Y c = .tuple #[.agg (rqq ⟨x, Y, 1⟩), .int .i64 0] := by unfold rpv; rw [hd]; rfl
      rw [e] at D2
      exact D2
    have EN := encode_pv P
    rw [h3, ← hXY] at EN
    exact edec_good ⟨(bl 32 X).toArray⟩ (pv P) (rqq ⟨x, Y, 1⟩) (bv (bl 32 X)).toArray w D1 D3 bases_any (same7_any h2) EN (fun W g => str_of_bl _ W g) (fun W => eql_bytes2 _ (bl_length _ _) W) (sz_pv _) (sz_rqq _) (sz_bl _)
end Go.Proofs.Ytnobobdgoccmcaa

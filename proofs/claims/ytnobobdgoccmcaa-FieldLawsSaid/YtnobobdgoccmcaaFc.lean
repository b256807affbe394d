/-
  The contract of folded of package field.
-/
import Derived.Test.YtnobobdgoccmcaaFb
namespace Go.Proofs.Ytnobobdgoccmcaa
open Go.RowKit Pri
set_option linter.unusedVariables false

theorem fold_num (X v : Nat) (hX : X < 115792089237316195423570985008687907853269984665640564039457584007913129639936) (hv : v ≤ 38) : let S := X + 38 * v; (S / 115792089237316195423570985008687907853269984665640564039457584007913129639936 ≤ 1) ∧ (S % 115792089237316195423570985008687907853269984665640564039457584007913129639936 + 38 * (S / 115792089237316195423570985008687907853269984665640564039457584007913129639936) < 115792089237316195423570985008687907853269984665640564039457584007913129639936) ∧ (S % 115792089237316195423570985008687907853269984665640564039457584007913129639936 + 38 * (S / 115792089237316195423570985008687907853269984665640564039457584007913129639936)) % p25519 = (X + 115792089237316195423570985008687907853269984665640564039457584007913129639936 * v) % p25519 ∧ (S / 115792089237316195423570985008687907853269984665640564039457584007913129639936 = 1 → S % 115792089237316195423570985008687907853269984665640564039457584007913129639936 < 2000) := by
  intro S
  have hS : S = X + 38 * v := rfl
  clear_value S
  rw [P_val]
  refine ⟨by omega, by omega, by omega, fun h => by omega⟩
theorem add_low (a b c d k : Nat) (ha : a + 38 * k < 18446744073709551616) (hb : b < 18446744073709551616) (hc : c < 18446744073709551616) (hd : d < 18446744073709551616) :
    nc (nv a b c d + 38 * k) = #[.int .u64 ((a + 38 * k : Nat) : Int), .int .u64 (b : Int), .int .u64 (c : Int), .int .u64 (d : Int)] := by
  rw [nc_of _ b c d ha hb hc hd]
  refine congrArg nc ?_
  unfold nv; omega
theorem low_small (a b c d k : Nat) (ha : a < 18446744073709551616) (hk : k ≤ 1) (h : k = 1 → nv a b c d < 2000) : a + 38 * k < 18446744073709551616 := by
  unfold nv at h
  rcases Nat.lt_or_ge k 1 with c | c
  · omega
  · have := h (by omega); omega
set_option maxRecDepth 100000 in
set_option maxHeartbeats 1600000 in
theorem ffolded_any (X v : Nat) (hX : X < 115792089237316195423570985008687907853269984665640564039457584007913129639936) (hv : v ≤ 38) (w : World) :
    Calls Try.prog 79 #[.agg (nc X), .int .u64 (v : Int)] w fun e w' => e = .returned (.agg (nc ((X + 115792089237316195423570985008687907853269984665640564039457584007913129639936 * v) % p25519))) ∧ Fr (fun _ => False) w w' := by
  obtain ⟨q1, q2, q3, q4⟩ := fold_num X v hX hv
  rw [← q3]
  have SU := fun (W : World) => fsum_any X (38 * v) hX (by omega) W
  rw [nc0_ (38 * v) (by omega)] at SU
  have RE := fun (W : World) => frest_any ((X + 38 * v) % 115792089237316195423570985008687907853269984665640564039457584007913129639936 + 38 * ((X + 38 * v) / 115792089237316195423570985008687907853269984665640564039457584007913129639936)) q2 W
  have hS : (X + 38 * v) % 115792089237316195423570985008687907853269984665640564039457584007913129639936 < 115792089237316195423570985008687907853269984665640564039457584007913129639936 := Nat.mod_lt _ (by decide)
  have w1 : IntKind.u64.wrap (38 * (v : Int)) = ((38 * v : Nat) : Int) := by rw [IntKind.wrap_u64]; omega
  have w2 : 38 * (v : Int) = ((38 * v : Nat) : Int) := by omega
  have w1' : IntKind.u64.wrap ((38 * v : Nat) : Int) = ((38 * v : Nat) : Int) := by rw [IntKind.wrap_u64]; omega
  generalize (X + 38 * v) / 115792089237316195423570985008687907853269984665640564039457584007913129639936 = k at *
  generalize (X + 38 * v) % 115792089237316195423570985008687907853269984665640564039457584007913129639936 = S at *
  generalize 38 * v = u at *
  obtain ⟨x0, x1, x2, x3, hx0, hx1, hx2, hx3, hx, ex⟩ := nc_open X hX
  obtain ⟨s0, s1, s2, s3, hs0, hs1, hs2, hs3, hs, es⟩ := nc_open S hS
  have hlow := low_small s0 s1 s2 s3 k hs0 q1 (fun h => by rw [← hs]; exact q4 h)
  have e2 := add_low s0 s1 s2 s3 k hlow hs1 hs2 hs3
  rw [← hs] at e2
  rw [es, ex] at SU
  rw [e2] at RE
  rw [ex]
  have w3 : IntKind.u64.wrap (38 * (k : Int)) = 38 * (k : Int) := by rw [IntKind.wrap_u64]; omega
  have w4 : IntKind.u64.wrap ((s0 : Int) + 38 * (k : Int)) = ((s0 + 38 * k : Nat) : Int) := by rw [IntKind.wrap_u64]; omega
  have w5 : (s0 : Int) + 38 * (k : Int) = ((s0 + 38 * k : Nat) : Int) := by omega
  have w4' : IntKind.u64.wrap ((s0 + 38 * k : Nat) : Int) = ((s0 + 38 * k : Nat) : Int) := by rw [IntKind.wrap_u64]; omega
  generalize s0 + 38 * k = r0 at *
  have hR : (S + 38 * k) % p25519 < 115792089237316195423570985008687907853269984665640564039457584007913129639936 := Nat.lt_trans (Nat.mod_lt _ p_pos) (by decide +kernel)
  generalize (S + 38 * k) % p25519 = R at *
  obtain ⟨t0, t1, t2, t3, _, _, _, _, _, et⟩ := nc_open R hR
  rw [et] at RE ⊢
  clear q1 q2 q3 q4 hX hx ex hs es hlow e2 hS hR et hv
  have k0 : (0 : Int) ≤ (k : Int) := by omega
  go_enter Try.func79, Try.ntmps79
  go_wp2_with fail
  refine (SU _).mono ?_
  rintro e w1 ⟨rfl, F1⟩
  have Z1 := (F1.block w.heap.size (by simp; omega) (fun h => h)).trans (heap_alloc2_old w _ _)
  have B1 := (F1.block (w.heap.size + 1) (by simp) (fun h => h)).trans (heap_alloc2_new w _ _)
  have G1 : Fr (fun _ => False) w w1 := (((Fr.refl _ w).alloc _).alloc _).trans F1 (fun _ h => h.elim)
  obtain ⟨c0, c1, c2, c3, c4, c5, c6, c7⟩ := blk4 Z1
  have Z2 := set4 Z1 (.int .u64 (s0 : Int)) (.int .u64 (s1 : Int)) (.int .u64 (s2 : Int)) (.int .u64 (s3 : Int))
  have Z3 := block_setCell Z2 0 (.int .u64 (r0 : Int))
  have K : ∀ (a : Nat) (W : World), W.heap[w.heap.size + 1]? = some (.cells #[.int .u64 0, .int .u64 0, .int .u64 0, .int .u64 0] 100 (0, 0)) → ∀ u : Value, (W.setCell ⟨w.heap.size, a, none⟩ u).heap[w.heap.size + 1]? = some (.cells #[.int .u64 0, .int .u64 0, .int .u64 0, .int .u64 0] 100 (0, 0)) := fun a W h u => keep_set h (by show ¬ _ = w.heap.size; omega) u
  have B3 := K 0 _ (K 3 _ (K 2 _ (K 1 _ (K 0 _ B1 (.int .u64 (s0 : Int))) (.int .u64 (s1 : Int))) (.int .u64 (s2 : Int))) (.int .u64 (s3 : Int))) (.int .u64 (r0 : Int))
  have J : ∀ (a : Nat) (W : World), Fr (fun _ => False) w W → ∀ u : Value, Fr (fun _ => False) w (W.setCell ⟨w.heap.size, a, none⟩ u) := fun a W h u => h.setCell (Or.inr (Nat.le_refl _)) u
  have G3 := J 0 _ (J 3 _ (J 2 _ (J 1 _ (J 0 _ G1 (.int .u64 (s0 : Int))) (.int .u64 (s1 : Int))) (.int .u64 (s2 : Int))) (.int .u64 (s3 : Int))) (.int .u64 (r0 : Int))
  have HB := Lib.hid B3
  have HG := Lib.hid G3
  have HZ := Lib.hid Z3
  clear F1 SU Z1 B1 G1 Z2 Z3 B3 G3 K J
  go_wp2_with fail
  refine (RE _).mono ?_
  rintro e w2 ⟨rfl, F2⟩
  have B4 := (F2.block _ (lt_of_block HB.out) (fun h => h)).trans HB.out
  have G4 := HG.out.trans F2 (fun _ h => h.elim)
  clear F2 RE HB HG HZ
  obtain ⟨b0, b1, b2, b3, b4, b5, b6, b7⟩ := blk4 B4
  have S4 := Lib.hid (set4 B4 (.int .u64 (t0 : Int)) (.int .u64 (t1 : Int)) (.int .u64 (t2 : Int)) (.int .u64 (t3 : Int)))
  have HG := Lib.hid G4
  clear B4 G4
  go_wp2_with fail
  refine bodyPost_ret (results_cell_row rfl _ _ (w.heap.size + 1) 100 #[.int .u64 (t0 : Int), .int .u64 (t1 : Int), .int .u64 (t2 : Int), .int .u64 (t3 : Int)] (0, 0) _ rfl S4.out Try.underlying100 rfl Try.size4f) rfl ?_
  exact ⟨rfl, (((HG.out.setCell (Or.inr (by show _ ≤ _ + 1; omega)) _).setCell (Or.inr (by show _ ≤ _ + 1; omega)) _).setCell (Or.inr (by show _ ≤ _ + 1; omega)) _).setCell (Or.inr (by show _ ≤ _ + 1; omega)) _⟩
end Go.Proofs.Ytnobobdgoccmcaa


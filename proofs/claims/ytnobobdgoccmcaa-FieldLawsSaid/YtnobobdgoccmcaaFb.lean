/-
  The contracts of rest, folded and product of package field.
-/
import Derived.Test.YtnobobdgoccmcaaFa
import Derived.Test.YtnobobdgoccmcaaFp
import Derived.Test.YtnobobdgoccmcaaMu
namespace Go.Proofs.Ytnobobdgoccmcaa
open Go.RowKit Pri
set_option linter.unusedVariables false

theorem andNot63 (x : Nat) (hx : x < 18446744073709551616) : bits .andNot .u64 (x : Int) 9223372036854775808 = ((x % 9223372036854775808 : Nat) : Int) := by
  have h1 : (BitVec.ofInt 64 (x : Int)).toNat = x := by
    rw [BitVec.ofInt_natCast, BitVec.toNat_ofNat]; exact Nat.mod_eq_of_lt (by omega)
  show IntKind.u64.wrap ((BitVec.ofInt 64 (x : Int) &&& ~~~ (BitVec.ofInt 64 9223372036854775808)).toNat : Int) = _
  rw [BitVec.toNat_and, h1, show (~~~ (BitVec.ofInt 64 9223372036854775808)).toNat = 2 ^ 63 - 1 from rfl, Nat.and_two_pow_sub_one_eq_mod, IntKind.wrap_u64]
  omega
theorem top_num (a b c d : Nat) (ha : a < 18446744073709551616) (hb : b < 18446744073709551616) (hc : c < 18446744073709551616) (hd : d < 18446744073709551616) (h : 9223372036854775808 ≤ d) : nv a b c d - 57896044618658097711785492504343953926634992332820282019728792003956564819968 = nv a b c (d % 9223372036854775808) := by
  unfold nv; omega
theorem P_val : p25519 = 57896044618658097711785492504343953926634992332820282019728792003956564819949 := rfl
theorem rest_num (X : Nat) (hX : X < 115792089237316195423570985008687907853269984665640564039457584007913129639936) : let S := X % 57896044618658097711785492504343953926634992332820282019728792003956564819968 + 19 * (X / 57896044618658097711785492504343953926634992332820282019728792003956564819968); S + 19 < 115792089237316195423570985008687907853269984665640564039457584007913129639936 ∧ S < 115792089237316195423570985008687907853269984665640564039457584007913129639936 ∧
    (57896044618658097711785492504343953926634992332820282019728792003956564819968 ≤ S + 19 → S + 19 - 57896044618658097711785492504343953926634992332820282019728792003956564819968 = X % p25519) ∧ (¬ 57896044618658097711785492504343953926634992332820282019728792003956564819968 ≤ S + 19 → S = X % p25519) := by
  intro S
  have hS : S = X % 57896044618658097711785492504343953926634992332820282019728792003956564819968 + 19 * (X / 57896044618658097711785492504343953926634992332820282019728792003956564819968) := rfl
  clear_value S
  rw [P_val]
  refine ⟨by omega, by omega, fun _ => by omega, fun _ => by omega⟩
theorem nc0_ (n : Nat) (h : n < 18446744073709551616) : nc n = #[.int .u64 (n : Int), .int .u64 0, .int .u64 0, .int .u64 0] := by
  have := nc_of n 0 0 0 h (by decide) (by decide) (by decide)
  rw [show nv n 0 0 0 = n by simp [nv]] at this
  exact this.symm
set_option maxRecDepth 100000 in
set_option maxHeartbeats 1600000 in
theorem frest_any (X : Nat) (hX : X < 115792089237316195423570985008687907853269984665640564039457584007913129639936) (w : World) :
    Calls Try.prog 77 #[.agg (nc X)] w fun e w' => e = .returned (.agg (nc (X % p25519))) ∧ Fr (fun _ => False) w w' := by
  obtain ⟨q1, q2, q3, q4⟩ := rest_num X hX
  have ht1 : X / 57896044618658097711785492504343953926634992332820282019728792003956564819968 ≤ 1 := by omega
  have hA : X % 57896044618658097711785492504343953926634992332820282019728792003956564819968 < 115792089237316195423570985008687907853269984665640564039457584007913129639936 := by omega
  obtain ⟨x0, x1, x2, x3, hx0, hx1, hx2, hx3, hx, ex⟩ := nc_open X hX
  have et : X / 57896044618658097711785492504343953926634992332820282019728792003956564819968 = x3 / 9223372036854775808 := by rw [hx]; unfold nv; omega
  have eA : nc (X % 57896044618658097711785492504343953926634992332820282019728792003956564819968) = #[.int .u64 (x0 : Int), .int .u64 (x1 : Int), .int .u64 (x2 : Int), .int .u64 ((x3 % 9223372036854775808 : Nat) : Int)] := by
    rw [nc_of x0 x1 x2 (x3 % 9223372036854775808) hx0 hx1 hx2 (by omega)]; congr 1; rw [hx]; unfold nv; omega
  have d1 : (x3 : Int) / 9223372036854775808 = ((x3 / 9223372036854775808 : Nat) : Int) := by omega
  have d2 := andNot63 x3 hx3
  rw [← et] at d1
  clear et
  have SU := fun (W : World) => fsum_any (X % 57896044618658097711785492504343953926634992332820282019728792003956564819968) (19 * (X / 57896044618658097711785492504343953926634992332820282019728792003956564819968)) hA (by omega) W
  rw [Nat.mod_eq_of_lt q2, Nat.div_eq_of_lt q2, eA, nc0_ (19 * (X / 57896044618658097711785492504343953926634992332820282019728792003956564819968)) (by omega)] at SU
  have SV := fun (W : World) => fsum_any (X % 57896044618658097711785492504343953926634992332820282019728792003956564819968 + 19 * (X / 57896044618658097711785492504343953926634992332820282019728792003956564819968)) 19 q2 (by decide) W
  rw [Nat.mod_eq_of_lt q1, Nat.div_eq_of_lt q1, nc0_ 19 (by decide)] at SV
  have w1 : IntKind.u64.wrap (19 * ((X / 57896044618658097711785492504343953926634992332820282019728792003956564819968 : Nat) : Int)) = ((19 * (X / 57896044618658097711785492504343953926634992332820282019728792003956564819968) : Nat) : Int) := by rw [IntKind.wrap_u64]; omega
  have w2 : 19 * ((X / 57896044618658097711785492504343953926634992332820282019728792003956564819968 : Nat) : Int) = ((19 * (X / 57896044618658097711785492504343953926634992332820282019728792003956564819968) : Nat) : Int) := by omega
  have t0 : 0 ≤ ((X / 57896044618658097711785492504343953926634992332820282019728792003956564819968 : Nat) : Int) := by omega
  have t1 : ((X / 57896044618658097711785492504343953926634992332820282019728792003956564819968 : Nat) : Int) ≤ 1 := by omega
  rw [ex]
  generalize X % 57896044618658097711785492504343953926634992332820282019728792003956564819968 + 19 * (X / 57896044618658097711785492504343953926634992332820282019728792003956564819968) = S at *
  generalize 19 * (X / 57896044618658097711785492504343953926634992332820282019728792003956564819968) = u at *
  generalize X / 57896044618658097711785492504343953926634992332820282019728792003956564819968 = t at *
  generalize x3 % 9223372036854775808 = y3 at *
  obtain ⟨s0, s1, s2, s3, hs0, hs1, hs2, hs3, hs, es⟩ := nc_open S q2
  obtain ⟨o0, o1, o2, o3, ho0, ho1, ho2, ho3, ho, eo⟩ := nc_open (S + 19) q1
  rw [es] at SU SV
  rw [eo] at SV
  rw [show ((0 : Nat) : Int) = 0 from rfl] at SU SV
  rw [show ((19 : Nat) : Int) = 19 from rfl] at SV
  have hge : (57896044618658097711785492504343953926634992332820282019728792003956564819968 ≤ S + 19) ↔ 9223372036854775808 ≤ o3 := by
    have h9 := ho
    unfold nv at h9
    clear SU SV hs es ex eA hx
    constructor <;> intro h <;> omega
  have d3 := andNot63 o3 ho3
  have eR : 9223372036854775808 ≤ o3 → nc (S + 19 - 57896044618658097711785492504343953926634992332820282019728792003956564819968) = #[.int .u64 (o0 : Int), .int .u64 (o1 : Int), .int .u64 (o2 : Int), .int .u64 ((o3 % 9223372036854775808 : Nat) : Int)] := fun h => by
    rw [nc_of o0 o1 o2 (o3 % 9223372036854775808) ho0 ho1 ho2 (Nat.lt_of_le_of_lt (Nat.mod_le _ _) ho3)]; refine congrArg nc ?_; rw [ho]; exact top_num o0 o1 o2 o3 ho0 ho1 ho2 ho3 h
  have HG := Lib.hid hge
  have HR := Lib.hid eR
  have HQ := Lib.hid (And.intro q3 q4)
  have HES := Lib.hid es
  clear hge eR q1 q2 q3 q4 es eo hs ho hX hA eA ex hx ht1
  generalize o3 % 9223372036854775808 = r3 at *
  have walk : ∀ (D : Bool) (R : Array Value), decide (9223372036854775808 ≤ (o3 : Int)) = D → (if D then #[.int .u64 (o0 : Int), .int .u64 (o1 : Int), .int .u64 (o2 : Int), .int .u64 (r3 : Int)] else #[.int .u64 (s0 : Int), .int .u64 (s1 : Int), .int .u64 (s2 : Int), .int .u64 (s3 : Int)]) = R →
      Calls Try.prog 77 #[.agg #[.int .u64 (x0 : Int), .int .u64 (x1 : Int), .int .u64 (x2 : Int), .int .u64 (x3 : Int)]] w fun e w' => e = .returned (.agg R) ∧ Fr (fun _ => False) w w' := by
    intro D R hD hR
    cases D with
    | true =>
      have HR := Lib.hid (show #[.int .u64 (o0 : Int), .int .u64 (o1 : Int), .int .u64 (o2 : Int), .int .u64 (r3 : Int)] = R from hR)
      clear hR
      go_enter Try.func77, Try.ntmps77
      go_wp2_with fail
      refine (SU _).mono ?_
      rintro e w1 ⟨rfl, F1⟩
      have Z1 := (F1.block w.heap.size (by simp; omega) (fun h => h)).trans (heap_alloc2_old w _ _)
      have B1 := (F1.block (w.heap.size + 1) (by simp) (fun h => h)).trans (heap_alloc2_new w _ _)
      have G1 : Fr (fun _ => False) w w1 := (((Fr.refl _ w).alloc _).alloc _).trans F1 (fun _ h => h.elim)
      obtain ⟨c0, c1, c2, c3, c4, c5, c6, c7⟩ := blk4 Z1
      have Z2 := set4 Z1 (.int .u64 (s0 : Int)) (.int .u64 (s1 : Int)) (.int .u64 (s2 : Int)) (.int .u64 (s3 : Int))
      have B2 := keep_set (keep_set (keep_set (keep_set B1 (a := ⟨w.heap.size, 0, none⟩) (by show ¬ _ = w.heap.size; omega) (.int .u64 (s0 : Int))) (a := ⟨w.heap.size, 1, none⟩) (by show ¬ _ = w.heap.size; omega) (.int .u64 (s1 : Int))) (a := ⟨w.heap.size, 2, none⟩) (by show ¬ _ = w.heap.size; omega) (.int .u64 (s2 : Int))) (a := ⟨w.heap.size, 3, none⟩) (by show ¬ _ = w.heap.size; omega) (.int .u64 (s3 : Int))
      have G2 : Fr (fun _ => False) w _ := (((G1.setCell (p := ⟨w.heap.size, 0, none⟩) (Or.inr (Nat.le_refl _)) (.int .u64 (s0 : Int))).setCell (p := ⟨w.heap.size, 1, none⟩) (Or.inr (Nat.le_refl _)) (.int .u64 (s1 : Int))).setCell (p := ⟨w.heap.size, 2, none⟩) (Or.inr (Nat.le_refl _)) (.int .u64 (s2 : Int))).setCell (p := ⟨w.heap.size, 3, none⟩) (Or.inr (Nat.le_refl _)) (.int .u64 (s3 : Int))
      have HZ := Lib.hid Z2
      have HB := Lib.hid B2
      have HG := Lib.hid G2
      clear F1 SU Z1 B1 G1 Z2 B2 G2
      go_wp2_with fail
      refine (SV _).mono ?_
      rintro e w2 ⟨rfl, F2⟩
      have Z3 := (F2.block _ (lt_of_block HZ.out) (fun h => h)).trans HZ.out
      have B3 := (F2.block _ (lt_of_block HB.out) (fun h => h)).trans HB.out
      have G3 := HG.out.trans F2 (fun _ h => h.elim)
      have zl := lt_of_block B3
      have zl0 : w.heap.size < w2.heap.size := by omega
      clear F2 SV HZ HB HG c0 c1 c2 c3 c4 c5 c6 c7
      obtain ⟨c0, c1, c2, c3, c4, c5, c6, c7⟩ := blk4 Z3
      obtain ⟨b0, b1, b2, b3, b4, b5, b6, b7⟩ := blk4 B3
      have HB := Lib.hid B3
      have HG := Lib.hid G3
      clear Z3 B3 G3
      go_wp2_with fail
      have S4 := set4 HB.out (.int .u64 (o0 : Int)) (.int .u64 (o1 : Int)) (.int .u64 (o2 : Int)) (.int .u64 (r3 : Int))
      refine bodyPost_ret (results_cell_row rfl _ _ (w.heap.size + 1) 100 #[.int .u64 (o0 : Int), .int .u64 (o1 : Int), .int .u64 (o2 : Int), .int .u64 (r3 : Int)] (0, 0) _ rfl ((Below.heap_alloc _ _ _ (lt_of_block S4)).trans S4) Try.underlying100 rfl Try.size4f) rfl ?_
      exact ⟨by rw [HR.out], ((((HG.out.setCell (Or.inr (by show _ ≤ _ + 1; omega)) _).setCell (Or.inr (by show _ ≤ _ + 1; omega)) _).setCell (Or.inr (by show _ ≤ _ + 1; omega)) _).setCell (Or.inr (by show _ ≤ _ + 1; omega)) _).alloc _⟩
    | false =>
      have HR := Lib.hid (show #[.int .u64 (s0 : Int), .int .u64 (s1 : Int), .int .u64 (s2 : Int), .int .u64 (s3 : Int)] = R from hR)
      clear hR
      go_enter Try.func77, Try.ntmps77
      go_wp2_with fail
      refine (SU _).mono ?_
      rintro e w1 ⟨rfl, F1⟩
      have Z1 := (F1.block w.heap.size (by simp; omega) (fun h => h)).trans (heap_alloc2_old w _ _)
      have B1 := (F1.block (w.heap.size + 1) (by simp) (fun h => h)).trans (heap_alloc2_new w _ _)
      have G1 : Fr (fun _ => False) w w1 := (((Fr.refl _ w).alloc _).alloc _).trans F1 (fun _ h => h.elim)
      obtain ⟨c0, c1, c2, c3, c4, c5, c6, c7⟩ := blk4 Z1
      have Z2 := set4 Z1 (.int .u64 (s0 : Int)) (.int .u64 (s1 : Int)) (.int .u64 (s2 : Int)) (.int .u64 (s3 : Int))
      have B2 := keep_set (keep_set (keep_set (keep_set B1 (a := ⟨w.heap.size, 0, none⟩) (by show ¬ _ = w.heap.size; omega) (.int .u64 (s0 : Int))) (a := ⟨w.heap.size, 1, none⟩) (by show ¬ _ = w.heap.size; omega) (.int .u64 (s1 : Int))) (a := ⟨w.heap.size, 2, none⟩) (by show ¬ _ = w.heap.size; omega) (.int .u64 (s2 : Int))) (a := ⟨w.heap.size, 3, none⟩) (by show ¬ _ = w.heap.size; omega) (.int .u64 (s3 : Int))
      have G2 : Fr (fun _ => False) w _ := (((G1.setCell (p := ⟨w.heap.size, 0, none⟩) (Or.inr (Nat.le_refl _)) (.int .u64 (s0 : Int))).setCell (p := ⟨w.heap.size, 1, none⟩) (Or.inr (Nat.le_refl _)) (.int .u64 (s1 : Int))).setCell (p := ⟨w.heap.size, 2, none⟩) (Or.inr (Nat.le_refl _)) (.int .u64 (s2 : Int))).setCell (p := ⟨w.heap.size, 3, none⟩) (Or.inr (Nat.le_refl _)) (.int .u64 (s3 : Int))
      have HZ := Lib.hid Z2
      have HB := Lib.hid B2
      have HG := Lib.hid G2
      clear F1 SU Z1 B1 G1 Z2 B2 G2
      go_wp2_with fail
      refine (SV _).mono ?_
      rintro e w2 ⟨rfl, F2⟩
      have Z3 := (F2.block _ (lt_of_block HZ.out) (fun h => h)).trans HZ.out
      have B3 := (F2.block _ (lt_of_block HB.out) (fun h => h)).trans HB.out
      have G3 := HG.out.trans F2 (fun _ h => h.elim)
      have zl := lt_of_block B3
      have zl0 : w.heap.size < w2.heap.size := by omega
      clear F2 SV HZ HB HG c0 c1 c2 c3 c4 c5 c6 c7
      obtain ⟨c0, c1, c2, c3, c4, c5, c6, c7⟩ := blk4 Z3
      obtain ⟨b0, b1, b2, b3, b4, b5, b6, b7⟩ := blk4 B3
      have HB := Lib.hid B3
      have HG := Lib.hid G3
      clear Z3 B3 G3
      go_wp2_with fail
      have S4 := set4 HB.out (.int .u64 (s0 : Int)) (.int .u64 (s1 : Int)) (.int .u64 (s2 : Int)) (.int .u64 (s3 : Int))
      refine bodyPost_ret (results_cell_row rfl _ _ (w.heap.size + 1) 100 #[.int .u64 (s0 : Int), .int .u64 (s1 : Int), .int .u64 (s2 : Int), .int .u64 (s3 : Int)] (0, 0) _ rfl ((Below.heap_alloc _ _ _ (lt_of_block S4)).trans S4) Try.underlying100 rfl Try.size4f) rfl ?_
      exact ⟨by rw [HR.out], ((((HG.out.setCell (Or.inr (by show _ ≤ _ + 1; omega)) _).setCell (Or.inr (by show _ ≤ _ + 1; omega)) _).setCell (Or.inr (by show _ ≤ _ + 1; omega)) _).setCell (Or.inr (by show _ ≤ _ + 1; omega)) _).alloc _⟩
  by_cases hc : 9223372036854775808 ≤ o3
  · have h1 := HQ.out.1 (HG.out.2 hc)
    rw [← h1, HR.out hc]
    exact walk true _ (by simp; omega) rfl
  · have h1 := HQ.out.2 (fun h => hc (HG.out.1 h))
    rw [← h1, HES.out]
    exact walk false _ (by simp; omega) rfl
end Go.Proofs.Ytnobobdgoccmcaa


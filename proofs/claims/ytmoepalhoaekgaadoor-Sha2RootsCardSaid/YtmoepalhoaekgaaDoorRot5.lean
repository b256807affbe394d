/-
  The contracts of bits.RotateLeft64, turned and shifted of package sha5.
-/
import Derived.Test.YtmoepalhoaekgaaDoorFr
import Derived.Test.YtmoepalhoaekgaaDoorProg
import Derived.Test.YtmoepalhoaekgaaDoorS5
import Derived.Lib.Hide
namespace Go.Proofs.YtmoepalhoaekgaaDoor
open Go.RowKit
set_option linter.unusedVariables false

theorem bits_u64_nat5 (a b : Nat) (ha : a < 18446744073709551616) (hb : b < 18446744073709551616) : bits .or .u64 (a : Int) (b : Int) = ((a ||| b : Nat) : Int) ∧ bits .and .u64 (a : Int) (b : Int) = ((a &&& b : Nat) : Int) ∧ bits .xor .u64 (a : Int) (b : Int) = ((a ^^^ b : Nat) : Int) := by
  have x1 : a ||| b < 2 ^ 64 := Nat.or_lt_two_pow (by omega) (by omega)
  have x2 : a &&& b < 2 ^ 64 := Nat.and_lt_two_pow a (by omega)
  have x3 : a ^^^ b < 2 ^ 64 := Nat.xor_lt_two_pow (by omega) (by omega)
  have h1 : (BitVec.ofInt 64 (a : Int)).toNat = a := by
    rw [BitVec.ofInt_natCast, BitVec.toNat_ofNat]; exact Nat.mod_eq_of_lt (by omega)
  have h2 : (BitVec.ofInt 64 (b : Int)).toNat = b := by
    rw [BitVec.ofInt_natCast, BitVec.toNat_ofNat]; exact Nat.mod_eq_of_lt (by omega)
  refine ⟨?_, ?_, ?_⟩
  · show IntKind.u64.wrap ((BitVec.ofInt 64 (a : Int) ||| BitVec.ofInt 64 (b : Int)).toNat : Int) = _
    rw [BitVec.toNat_or, h1, h2, IntKind.wrap_u64]; omega
  · show IntKind.u64.wrap ((BitVec.ofInt 64 (a : Int) &&& BitVec.ofInt 64 (b : Int)).toNat : Int) = _
    rw [BitVec.toNat_and, h1, h2, IntKind.wrap_u64]; omega
  · show IntKind.u64.wrap ((BitVec.ofInt 64 (a : Int) ^^^ BitVec.ofInt 64 (b : Int)).toNat : Int) = _
    rw [BitVec.toNat_xor, h1, h2, IntKind.wrap_u64]; omega
theorem ret_u645 {a b : Int} (h : a = b) : Ending.returned (.int .u64 a) = .returned (.int .u64 b) := by rw [h]
theorem rotr_lt5 (x p : Nat) (hx : x < 18446744073709551616) (hp : 1 ≤ p ∧ p ≤ 63) : S5.rotr x p < 18446744073709551616 := by
  unfold S5.rotr
  refine Nat.or_lt_two_pow (n := 64) ?_ (Nat.mod_lt _ (by decide))
  exact Nat.lt_of_le_of_lt (by rw [Nat.shiftRight_eq_div_pow]; exact Nat.div_le_self _ _) hx
theorem shr_lt5 (x r : Nat) (hx : x < 18446744073709551616) : x >>> r < 18446744073709551616 :=
  Nat.lt_of_le_of_lt (by rw [Nat.shiftRight_eq_div_pow]; exact Nat.div_le_self _ _) hx
theorem rot_eq5 (x q : Nat) (hx : x < 18446744073709551616) (h2 : q ≤ 63) : bits .or .u64 ((x : Int) * 2 ^ q % 18446744073709551616) ((x : Int) / 2 ^ (64 - q)) = ((S5.rotr x (64 - q) : Nat) : Int) := by
  have e1 : (x : Int) * 2 ^ q % 18446744073709551616 = ((x * 2 ^ q % 18446744073709551616 : Nat) : Int) := by simp
  have e2 : (x : Int) / 2 ^ (64 - q) = ((x / 2 ^ (64 - q) : Nat) : Int) := by simp
  rw [e1, e2, (bits_u64_nat5 _ _ (Nat.mod_lt _ (by decide)) (Nat.lt_of_le_of_lt (Nat.div_le_self _ _) hx)).1]
  unfold S5.rotr
  rw [Nat.shiftRight_eq_div_pow, Nat.shiftLeft_eq, Nat.or_comm, show 64 - (64 - q) = q by omega]
theorem xor35 {a b c : Nat} (ha : a < 18446744073709551616) (hb : b < 18446744073709551616) (hc : c < 18446744073709551616) : bits .xor .u64 (bits .xor .u64 (a : Int) (b : Int)) (c : Int) = ((a ^^^ b ^^^ c : Nat) : Int) := by
  rw [(bits_u64_nat5 a b ha hb).2.2, (bits_u64_nat5 _ c (Nat.xor_lt_two_pow (n := 64) ha hb) hc).2.2]

theorem and635 (q : Nat) (h1 : 1 ≤ q) (h2 : q ≤ 63) : bits .and .u64 (IntKind.u64.wrap (-((64 - q : Nat) : Int))) 63 = (q : Int) := by
  have e : IntKind.u64.wrap (-((64 - q : Nat) : Int)) = ((18446744073709551552 + q : Nat) : Int) := by rw [IntKind.wrap_u64]; omega
  rw [e, show (63 : Int) = ((63 : Nat) : Int) from rfl, bits_and_u64_nat _ _ (by omega) (by omega)]
  congr 1
  rw [show (63 : Nat) = 2 ^ 6 - 1 from rfl, Nat.and_two_pow_sub_one_eq_mod]
  omega

set_option maxRecDepth 100000 in
set_option maxHeartbeats 400000 in
theorem rot_any5 (x q : Nat) (N : Int) (hN : N = -((64 - q : Nat) : Int)) (hx : x < 18446744073709551616) (hp : 1 ≤ q) (hp2 : q ≤ 63) (w : World) :
    Calls Tryd.prog 61 #[.int .u64 x, .int .i64 N] w fun e w' => e = .returned (.int .u64 (S5.rotr x (64 - q))) ∧ w = w' := by
  have e1 := and635 q hp hp2
  have e2 : IntKind.u64.wrap (64 - (q : Int)) = ((64 - q : Nat) : Int) := by rw [IntKind.wrap_u64]; omega
  subst hN
  go_enter Tryd.func61, Tryd.ntmps61
  go_wp2
  go_ret
  exact ⟨ret_u645 (rot_eq5 x q hx hp2), rfl⟩

set_option maxRecDepth 100000 in
set_option maxHeartbeats 400000 in
theorem turned_any5 (x p q r : Nat) (P Q R : Int) (hP : P = p) (hQ : Q = q) (hR : R = r) (hx : x < 18446744073709551616) (hp : 1 ≤ p ∧ p ≤ 63) (hq : 1 ≤ q ∧ q ≤ 63) (hr : 1 ≤ r ∧ r ≤ 63) (w : World) :
    Calls Tryd.prog 57 #[.int .u64 x, .int .i64 P, .int .i64 Q, .int .i64 R] w fun e w' => e = .returned (.int .u64 (S5.rotr x p ^^^ S5.rotr x q ^^^ S5.rotr x r : Nat)) ∧ w = w' := by
  subst hP; subst hQ; subst hR
  go_enter Tryd.func57, Tryd.ntmps57
  go_wp2_with fail
  refine (rot_any5 x (64 - p) _ (by omega) hx (by omega) (by omega) _).mono ?_
  rintro e w1 ⟨rfl, rfl⟩
  go_wp2_with fail
  refine (rot_any5 x (64 - q) _ (by omega) hx (by omega) (by omega) _).mono ?_
  rintro e w1 ⟨rfl, rfl⟩
  go_wp2_with fail
  refine (rot_any5 x (64 - r) _ (by omega) hx (by omega) (by omega) _).mono ?_
  rintro e w1 ⟨rfl, rfl⟩
  go_wp2
  go_ret
  rw [show 64 - (64 - p) = p by omega, show 64 - (64 - q) = q by omega, show 64 - (64 - r) = r by omega]
  exact ⟨ret_u645 (xor35 (rotr_lt5 x p hx hp) (rotr_lt5 x q hx hq) (rotr_lt5 x r hx hr)), rfl⟩

theorem rot_p5 (x p : Nat) (hx : x < 18446744073709551616) (hp : 1 ≤ p) (hp2 : p ≤ 63) (w : World) :
    Calls Tryd.prog 61 #[.int .u64 x, .int .i64 (-(p : Int))] w fun e w' => e = .returned (.int .u64 (S5.rotr x p)) ∧ w' = w :=
  (rot_any5 x (64 - p) (-(p : Int)) (by omega) hx (by omega) (by omega) w).mono fun e w' ⟨he, hw⟩ => ⟨by rw [he, show 64 - (64 - p) = p by omega], hw.symm⟩

set_option maxRecDepth 100000 in
set_option maxHeartbeats 400000 in
theorem shifted_any5 (x p q r : Nat) (P Q R : Int) (hP : P = p) (hQ : Q = q) (hR : R = r) (hx : x < 18446744073709551616) (hp : 1 ≤ p ∧ p ≤ 63) (hq : 1 ≤ q ∧ q ≤ 63) (hr : 1 ≤ r ∧ r ≤ 63) (w : World) :
    Calls Tryd.prog 60 #[.int .u64 x, .int .i64 P, .int .i64 Q, .int .i64 R] w fun e w' => e = .returned (.int .u64 (S5.rotr x p ^^^ S5.rotr x q ^^^ (x >>> r) : Nat)) ∧ ∃ n, w' = w.drewN n := by
  subst hP; subst hQ; subst hR
  go_enter Tryd.func60, Tryd.ntmps60
  go_wp2_with fail
  go_quiet ((go_at_call 61; exact Calls.quiet_of_same (rot_p5 x _ hx (by omega) (by omega) _)))
  go_wp2
  go_ret
  exact ⟨ret_u645 (by rw [show (x : Int) / 2 ^ r = ((x >>> r : Nat) : Int) by rw [Nat.shiftRight_eq_div_pow]; simp]; exact xor35 (rotr_lt5 x p hx hp) (rotr_lt5 x q hx hq) (shr_lt5 x r hx)), _, rfl⟩

theorem ss0_any5 (x : Nat) (hx : x < 18446744073709551616) (w : World) : Calls Tryd.prog 60 #[.int .u64 x, .int .i64 1, .int .i64 8, .int .i64 7] w fun e w' => e = .returned (.int .u64 (S5.ss0 x : Nat)) ∧ ∃ n, w' = w.drewN n :=
  shifted_any5 x 1 8 7 1 8 7 rfl rfl rfl hx (by decide) (by decide) (by decide) w
theorem ss1_any5 (x : Nat) (hx : x < 18446744073709551616) (w : World) : Calls Tryd.prog 60 #[.int .u64 x, .int .i64 19, .int .i64 61, .int .i64 6] w fun e w' => e = .returned (.int .u64 (S5.ss1 x : Nat)) ∧ ∃ n, w' = w.drewN n :=
  shifted_any5 x 19 61 6 19 61 6 rfl rfl rfl hx (by decide) (by decide) (by decide) w
theorem bs0_any5 (x : Nat) (hx : x < 18446744073709551616) (w : World) : Calls Tryd.prog 57 #[.int .u64 x, .int .i64 28, .int .i64 34, .int .i64 39] w fun e w' => e = .returned (.int .u64 (S5.bs0 x : Nat)) ∧ w' = w :=
  (turned_any5 x 28 34 39 28 34 39 rfl rfl rfl hx (by decide) (by decide) (by decide) w).mono fun _ _ h => ⟨h.1, h.2.symm⟩
theorem bs1_any5 (x : Nat) (hx : x < 18446744073709551616) (w : World) : Calls Tryd.prog 57 #[.int .u64 x, .int .i64 14, .int .i64 18, .int .i64 41] w fun e w' => e = .returned (.int .u64 (S5.bs1 x : Nat)) ∧ w' = w :=
  (turned_any5 x 14 18 41 14 18 41 rfl rfl rfl hx (by decide) (by decide) (by decide) w).mono fun _ _ h => ⟨h.1, h.2.symm⟩
theorem bs0_lt5 (x : Nat) (hx : x < 18446744073709551616) : S5.bs0 x < 18446744073709551616 := Nat.xor_lt_two_pow (n := 64) (Nat.xor_lt_two_pow (n := 64) (rotr_lt5 x 28 hx (by decide)) (rotr_lt5 x 34 hx (by decide))) (rotr_lt5 x 39 hx (by decide))
theorem bs1_lt5 (x : Nat) (hx : x < 18446744073709551616) : S5.bs1 x < 18446744073709551616 := Nat.xor_lt_two_pow (n := 64) (Nat.xor_lt_two_pow (n := 64) (rotr_lt5 x 14 hx (by decide)) (rotr_lt5 x 18 hx (by decide))) (rotr_lt5 x 41 hx (by decide))
theorem ss0_lt5 (x : Nat) (hx : x < 18446744073709551616) : S5.ss0 x < 18446744073709551616 := Nat.xor_lt_two_pow (n := 64) (Nat.xor_lt_two_pow (n := 64) (rotr_lt5 x 1 hx (by decide)) (rotr_lt5 x 8 hx (by decide))) (shr_lt5 x 7 hx)
theorem ss1_lt5 (x : Nat) (hx : x < 18446744073709551616) : S5.ss1 x < 18446744073709551616 := Nat.xor_lt_two_pow (n := 64) (Nat.xor_lt_two_pow (n := 64) (rotr_lt5 x 19 hx (by decide)) (rotr_lt5 x 61 hx (by decide))) (shr_lt5 x 6 hx)
end Go.Proofs.YtmoepalhoaekgaaDoor


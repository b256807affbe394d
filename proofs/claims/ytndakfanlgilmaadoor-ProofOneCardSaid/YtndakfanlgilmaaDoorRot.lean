/-
  The contracts of bits.RotateLeft32, turned and shifted of package sha2.
-/
import Derived.Test.YtndakfanlgilmaaDoorFr
import Derived.Test.YtndakfanlgilmaaDoorProg
import Derived.Test.YtndakfanlgilmaaDoorS2
import Derived.Lib.Hide
namespace Go.Proofs.YtndakfanlgilmaaDoor
open Go.RowKit
set_option linter.unusedVariables false

set_option maxRecDepth 100000 in
theorem bits_u32_nat (a b : Nat) (ha : a < 4294967296) (hb : b < 4294967296) : bits .or .u32 (a : Int) (b : Int) = ((a ||| b : Nat) : Int) ∧ bits .and .u32 (a : Int) (b : Int) = ((a &&& b : Nat) : Int) ∧ bits .xor .u32 (a : Int) (b : Int) = ((a ^^^ b : Nat) : Int) := by
  have x1 : a ||| b < 2 ^ 32 := Nat.or_lt_two_pow (by omega) (by omega)
  have x2 : a &&& b < 2 ^ 32 := Nat.and_lt_two_pow a (by omega)
  have x3 : a ^^^ b < 2 ^ 32 := Nat.xor_lt_two_pow (by omega) (by omega)
  have h1 : (BitVec.ofInt 32 (a : Int)).toNat = a := by
    rw [BitVec.ofInt_natCast, BitVec.toNat_ofNat]; exact Nat.mod_eq_of_lt (by omega)
  have h2 : (BitVec.ofInt 32 (b : Int)).toNat = b := by
    rw [BitVec.ofInt_natCast, BitVec.toNat_ofNat]; exact Nat.mod_eq_of_lt (by omega)
  refine ⟨?_, ?_, ?_⟩
  · show IntKind.u32.wrap ((BitVec.ofInt 32 (a : Int) ||| BitVec.ofInt 32 (b : Int)).toNat : Int) = _
    rw [BitVec.toNat_or, h1, h2, IntKind.wrap_u32]; omega
  · show IntKind.u32.wrap ((BitVec.ofInt 32 (a : Int) &&& BitVec.ofInt 32 (b : Int)).toNat : Int) = _
    rw [BitVec.toNat_and, h1, h2, IntKind.wrap_u32]; omega
  · show IntKind.u32.wrap ((BitVec.ofInt 32 (a : Int) ^^^ BitVec.ofInt 32 (b : Int)).toNat : Int) = _
    rw [BitVec.toNat_xor, h1, h2, IntKind.wrap_u32]; omega
set_option maxRecDepth 100000 in
theorem ret_u32 {a b : Int} (h : a = b) : Ending.returned (.int .u32 a) = .returned (.int .u32 b) := by rw [h]
set_option maxRecDepth 100000 in
theorem rotr_lt (x p : Nat) (hx : x < 4294967296) (hp : 1 ≤ p ∧ p ≤ 31) : S2.rotr x p < 4294967296 := by
  unfold S2.rotr
  refine Nat.or_lt_two_pow (n := 32) ?_ (Nat.mod_lt _ (by decide))
  exact Nat.lt_of_le_of_lt (by rw [Nat.shiftRight_eq_div_pow]; exact Nat.div_le_self _ _) hx
set_option maxRecDepth 100000 in
theorem shr_lt (x r : Nat) (hx : x < 4294967296) : x >>> r < 4294967296 :=
  Nat.lt_of_le_of_lt (by rw [Nat.shiftRight_eq_div_pow]; exact Nat.div_le_self _ _) hx
set_option maxRecDepth 100000 in
theorem rot_eq (x q : Nat) (hx : x < 4294967296) (h2 : q ≤ 31) : bits .or .u32 ((x : Int) * 2 ^ q % 4294967296) ((x : Int) / 2 ^ (32 - q)) = ((S2.rotr x (32 - q) : Nat) : Int) := by
  have e1 : (x : Int) * 2 ^ q % 4294967296 = ((x * 2 ^ q % 4294967296 : Nat) : Int) := by simp
  have e2 : (x : Int) / 2 ^ (32 - q) = ((x / 2 ^ (32 - q) : Nat) : Int) := by simp
  rw [e1, e2, (bits_u32_nat _ _ (Nat.mod_lt _ (by decide)) (Nat.lt_of_le_of_lt (Nat.div_le_self _ _) hx)).1]
  unfold S2.rotr
  rw [Nat.shiftRight_eq_div_pow, Nat.shiftLeft_eq, Nat.or_comm, show 32 - (32 - q) = q by omega]
set_option maxRecDepth 100000 in
theorem xor3 {a b c : Nat} (ha : a < 4294967296) (hb : b < 4294967296) (hc : c < 4294967296) : bits .xor .u32 (bits .xor .u32 (a : Int) (b : Int)) (c : Int) = ((a ^^^ b ^^^ c : Nat) : Int) := by
  rw [(bits_u32_nat a b ha hb).2.2, (bits_u32_nat _ c (Nat.xor_lt_two_pow (n := 32) ha hb) hc).2.2]

set_option maxRecDepth 100000 in
theorem and31 (q : Nat) (h1 : 1 ≤ q) (h2 : q ≤ 31) : bits .and .u64 (IntKind.u64.wrap (-((32 - q : Nat) : Int))) 31 = (q : Int) := by
  have e : IntKind.u64.wrap (-((32 - q : Nat) : Int)) = ((18446744073709551584 + q : Nat) : Int) := by rw [IntKind.wrap_u64]; omega
  rw [e, show (31 : Int) = ((31 : Nat) : Int) from rfl, bits_and_u64_nat _ _ (by omega) (by omega)]
  congr 1
  rw [show (31 : Nat) = 2 ^ 5 - 1 from rfl, Nat.and_two_pow_sub_one_eq_mod]
  omega

set_option maxRecDepth 100000 in
set_option maxHeartbeats 400000 in
theorem rot_any (x q : Nat) (N : Int) (hN : N = -((32 - q : Nat) : Int)) (hx : x < 4294967296) (hp : 1 ≤ q) (hp2 : q ≤ 31) (w : World) :
    Calls Tryd.prog 47 #[.int .u32 x, .int .i64 N] w fun e w' => e = .returned (.int .u32 (S2.rotr x (32 - q))) ∧ w = w' := by
  have e1 := and31 q hp hp2
  have e2 : IntKind.u64.wrap (32 - (q : Int)) = ((32 - q : Nat) : Int) := by rw [IntKind.wrap_u64]; omega
  subst hN
  go_enter Tryd.func47, Tryd.ntmps47
  go_wp2
  go_ret
  exact ⟨ret_u32 (rot_eq x q hx hp2), rfl⟩

set_option maxRecDepth 100000 in
set_option maxHeartbeats 400000 in
theorem turned_any (x p q r : Nat) (P Q R : Int) (hP : P = p) (hQ : Q = q) (hR : R = r) (hx : x < 4294967296) (hp : 1 ≤ p ∧ p ≤ 31) (hq : 1 ≤ q ∧ q ≤ 31) (hr : 1 ≤ r ∧ r ≤ 31) (w : World) :
    Calls Tryd.prog 44 #[.int .u32 x, .int .i64 P, .int .i64 Q, .int .i64 R] w fun e w' => e = .returned (.int .u32 (S2.rotr x p ^^^ S2.rotr x q ^^^ S2.rotr x r : Nat)) ∧ w = w' := by
  subst hP; subst hQ; subst hR
  go_enter Tryd.func44, Tryd.ntmps44
  go_wp2_with fail
  refine (rot_any x (32 - p) _ (by omega) hx (by omega) (by omega) _).mono ?_
  rintro e w1 ⟨rfl, rfl⟩
  go_wp2_with fail
  refine (rot_any x (32 - q) _ (by omega) hx (by omega) (by omega) _).mono ?_
  rintro e w1 ⟨rfl, rfl⟩
  go_wp2_with fail
  refine (rot_any x (32 - r) _ (by omega) hx (by omega) (by omega) _).mono ?_
  rintro e w1 ⟨rfl, rfl⟩
  go_wp2
  go_ret
  rw [show 32 - (32 - p) = p by omega, show 32 - (32 - q) = q by omega, show 32 - (32 - r) = r by omega]
  exact ⟨ret_u32 (xor3 (rotr_lt x p hx hp) (rotr_lt x q hx hq) (rotr_lt x r hx hr)), rfl⟩

set_option maxRecDepth 100000 in
theorem rot_p (x p : Nat) (hx : x < 4294967296) (hp : 1 ≤ p) (hp2 : p ≤ 31) (w : World) :
    Calls Tryd.prog 47 #[.int .u32 x, .int .i64 (-(p : Int))] w fun e w' => e = .returned (.int .u32 (S2.rotr x p)) ∧ w' = w :=
  (rot_any x (32 - p) (-(p : Int)) (by omega) hx (by omega) (by omega) w).mono fun e w' ⟨he, hw⟩ => ⟨by rw [he, show 32 - (32 - p) = p by omega], hw.symm⟩

set_option maxRecDepth 100000 in
set_option maxHeartbeats 400000 in
theorem shifted_any (x p q r : Nat) (P Q R : Int) (hP : P = p) (hQ : Q = q) (hR : R = r) (hx : x < 4294967296) (hp : 1 ≤ p ∧ p ≤ 31) (hq : 1 ≤ q ∧ q ≤ 31) (hr : 1 ≤ r ∧ r ≤ 31) (w : World) :
    Calls Tryd.prog 46 #[.int .u32 x, .int .i64 P, .int .i64 Q, .int .i64 R] w fun e w' => e = .returned (.int .u32 (S2.rotr x p ^^^ S2.rotr x q ^^^ (x >>> r) : Nat)) ∧ ∃ n, w' = w.drewN n := by
  subst hP; subst hQ; subst hR
  go_enter Tryd.func46, Tryd.ntmps46
  go_wp2_with fail
  go_quiet ((go_at_call 47; exact Calls.quiet_of_same (rot_p x _ hx (by omega) (by omega) _)))
  go_wp2
  go_ret
  exact ⟨ret_u32 (by rw [show (x : Int) / 2 ^ r = ((x >>> r : Nat) : Int) by rw [Nat.shiftRight_eq_div_pow]; simp]; exact xor3 (rotr_lt x p hx hp) (rotr_lt x q hx hq) (shr_lt x r hx)), _, rfl⟩

set_option maxRecDepth 100000 in
theorem ss0_any (x : Nat) (hx : x < 4294967296) (w : World) : Calls Tryd.prog 46 #[.int .u32 x, .int .i64 7, .int .i64 18, .int .i64 3] w fun e w' => e = .returned (.int .u32 (S2.ss0 x : Nat)) ∧ ∃ n, w' = w.drewN n :=
  shifted_any x 7 18 3 7 18 3 rfl rfl rfl hx (by decide) (by decide) (by decide) w
set_option maxRecDepth 100000 in
theorem ss1_any (x : Nat) (hx : x < 4294967296) (w : World) : Calls Tryd.prog 46 #[.int .u32 x, .int .i64 17, .int .i64 19, .int .i64 10] w fun e w' => e = .returned (.int .u32 (S2.ss1 x : Nat)) ∧ ∃ n, w' = w.drewN n :=
  shifted_any x 17 19 10 17 19 10 rfl rfl rfl hx (by decide) (by decide) (by decide) w
set_option maxRecDepth 100000 in
theorem bs0_any (x : Nat) (hx : x < 4294967296) (w : World) : Calls Tryd.prog 44 #[.int .u32 x, .int .i64 2, .int .i64 13, .int .i64 22] w fun e w' => e = .returned (.int .u32 (S2.bs0 x : Nat)) ∧ w' = w :=
  (turned_any x 2 13 22 2 13 22 rfl rfl rfl hx (by decide) (by decide) (by decide) w).mono fun _ _ h => ⟨h.1, h.2.symm⟩
set_option maxRecDepth 100000 in
theorem bs1_any (x : Nat) (hx : x < 4294967296) (w : World) : Calls Tryd.prog 44 #[.int .u32 x, .int .i64 6, .int .i64 11, .int .i64 25] w fun e w' => e = .returned (.int .u32 (S2.bs1 x : Nat)) ∧ w' = w :=
  (turned_any x 6 11 25 6 11 25 rfl rfl rfl hx (by decide) (by decide) (by decide) w).mono fun _ _ h => ⟨h.1, h.2.symm⟩
set_option maxRecDepth 100000 in
theorem bs0_lt (x : Nat) (hx : x < 4294967296) : S2.bs0 x < 4294967296 := Nat.xor_lt_two_pow (n := 32) (Nat.xor_lt_two_pow (n := 32) (rotr_lt x 2 hx (by decide)) (rotr_lt x 13 hx (by decide))) (rotr_lt x 22 hx (by decide))
set_option maxRecDepth 100000 in
theorem bs1_lt (x : Nat) (hx : x < 4294967296) : S2.bs1 x < 4294967296 := Nat.xor_lt_two_pow (n := 32) (Nat.xor_lt_two_pow (n := 32) (rotr_lt x 6 hx (by decide)) (rotr_lt x 11 hx (by decide))) (rotr_lt x 25 hx (by decide))
set_option maxRecDepth 100000 in
theorem ss0_lt (x : Nat) (hx : x < 4294967296) : S2.ss0 x < 4294967296 := Nat.xor_lt_two_pow (n := 32) (Nat.xor_lt_two_pow (n := 32) (rotr_lt x 7 hx (by decide)) (rotr_lt x 18 hx (by decide))) (shr_lt x 3 hx)
set_option maxRecDepth 100000 in
theorem ss1_lt (x : Nat) (hx : x < 4294967296) : S2.ss1 x < 4294967296 := Nat.xor_lt_two_pow (n := 32) (Nat.xor_lt_two_pow (n := 32) (rotr_lt x 17 hx (by decide)) (rotr_lt x 19 hx (by decide))) (shr_lt x 10 hx)
end Go.Proofs.YtndakfanlgilmaaDoor


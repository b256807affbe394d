/-
  The law ScalarSums at all its contracts.
-/
import Derived.Test.YtokpaejkdkjloaaSs
import Derived.Test.YtokpaejkdkjloaaM6
import Derived.Test.YtokpaejkdkjloaaN6
import Derived.Test.YtokpaejkdkjloaaOa
import Derived.Test.YtokpaejkdkjloaaSb
import Derived.Test.YtokpaejkdkjloaaCa
import Derived.Test.YtokpaejkdkjloaaCp
import Derived.Test.YtokpaejkdkjloaaMu
namespace Go.Proofs.Ytokpaejkdkjloaa
open Go.RowKit
set_option linter.unusedVariables false

theorem tm0' (A Y : Nat) : tm A Y 0 = A * Y % LL := by unfold tm; rw [Nat.pow_zero, Nat.div_one]
set_option maxRecDepth 100000 in
theorem ssums_any (X Y : Nat) (hX : X < 115792089237316195423570985008687907853269984665640564039457584007913129639936) (hY : Y < 115792089237316195423570985008687907853269984665640564039457584007913129639936) (w : World) :
    Calls Try.prog 12 #[.agg (nc X), .agg (nc Y)] w fun e w' => e = .returned (.bool true) ∧ Fr (fun _ => False) w w' := by
  have hXl := mod_LL X
  have hYl := mod_LL Y
  refine ssumsl (bv (bl 32 (X % LL))) ⟨(bl 32 (X % LL)).toArray⟩ (nc X) (nc Y) (nd (X % LL)) (nd (Y % LL)) (nd ((X + Y) % LL)) (nd (X * Y % LL)) (nd ((LL - X % LL) % LL)) (nd LL) (nc (X * Y % LL)) (nc ((LL - X % LL) % LL)) (nc LL) (nc ((X + Y) % LL)) w ?OFA ?OFB ?SY ?OR ?AD ?AE ?S1 ?MU ?MF ?S2 ?NE ?NG ?S3 ?BY ?OD ?LH ?S4 ?str ?hb ?oneB rfl rfl rfl rfl (iq_one 16 _) (iq_one 16 _)
  case OFA => intro W; exact lof_any X hX W
  case OFB => intro W; exact lof_any Y hY W
  case SY => intro W; exact sbytes_any X hX W
  case OR => intro W; exact orders_any W
  case AD => intro W; exact sadd_any X Y hX hY W
  case AE => intro W; have := add6_any (X % LL) (Y % LL) hXl hYl W; rwa [← Nat.add_mod] at this
  case S1 => intro W; exact same6_any _ (mod_LP _) W
  case MU => intro W; have := smul_any X Y hX hY W; rwa [tm0', Nat.mod_mul_mod] at this
  case MF => intro W; have := mul6_any (X % LL) (Y % LL) hXl W; rwa [sv_bl 32 _ (by rw [p256]; exact mod_LP Y), ← Nat.mul_mod] at this
  case S2 => intro W; exact same6_any _ (mod_LP _) W
  case NE => intro W; exact sneg_any X hX W
  case NG => intro W; exact neg6_any (X % LL) hXl W
  case S3 => intro W; exact same6_any _ (mod_LP _) W
  case BY => intro W; exact bytes6_any (X % LL) W
  case OD => intro W; exact order_any W
  case LH => intro W; exact L6_any W
  case S4 => intro W; exact same6_any _ LL_lt W
  case str => intro b W hW; have := run_str (lies_blk hW) 32 9 Try.underlying9; rwa [bl_length] at this
  case hb => simp [bl_length]
  case oneB => exact bv_one _
end Go.Proofs.Ytokpaejkdkjloaa

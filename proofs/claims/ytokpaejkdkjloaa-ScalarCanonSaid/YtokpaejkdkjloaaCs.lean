/-
  The law ScalarCanon at all its contracts.
-/
import Derived.Test.YtokpaejkdkjloaaCn
import Derived.Test.YtokpaejkdkjloaaCf
namespace Go.Proofs.Ytokpaejkdkjloaa
open Go.RowKit
set_option linter.unusedVariables false

theorem nd_list (Y : Nat) : nd Y = ([.int .i64 (dig 65536 Y 0 : Nat), .int .i64 (dig 65536 Y 1 : Nat), .int .i64 (dig 65536 Y 2 : Nat), .int .i64 (dig 65536 Y 3 : Nat), .int .i64 (dig 65536 Y 4 : Nat), .int .i64 (dig 65536 Y 5 : Nat), .int .i64 (dig 65536 Y 6 : Nat), .int .i64 (dig 65536 Y 7 : Nat), .int .i64 (dig 65536 Y 8 : Nat), .int .i64 (dig 65536 Y 9 : Nat), .int .i64 (dig 65536 Y 10 : Nat), .int .i64 (dig 65536 Y 11 : Nat), .int .i64 (dig 65536 Y 12 : Nat), .int .i64 (dig 65536 Y 13 : Nat), .int .i64 (dig 65536 Y 14 : Nat), .int .i64 (dig 65536 Y 15 : Nat)] : List Value).toArray := by
  unfold nd iq
  rfl
theorem toList_arr (l : List UInt8) : (⟨l.toArray⟩ : ByteArray).toList = l := by
  exact (ByteArray.toList_eq _).trans rfl
set_option maxRecDepth 100000 in
theorem scanon_any (l : List UInt8) (hl : l.length = 32) (X : Nat) (hX : X < 115792089237316195423570985008687907853269984665640564039457584007913129639936) (w : World) :
    Calls Try.prog 13 #[.agg (bv l).toArray, .agg (nc X)] w fun e w' => e = .returned (.bool true) ∧ Fr (fun _ => False) w w' := by
  have svb : sv (bl 32 (X % LL)) = X % LL := sv_bl 32 _ (by rw [p256]; exact mod_LP X)
  have hbl : bl 32 (sv l) = l := by have := bl_sv l; rwa [hl] at this
  have hne : ¬ sv l < LL → (bl 32 (sv l % LL) == l) = false := fun h => by
    have := canon_eq l hl
    rw [Nat.mod_mod] at this
    simpa [h] using this
  obtain ⟨x0, x1, x2, x3, _, _, _, _, _, ex⟩ := nc_open (X) (hX)
  obtain ⟨m0, m1, m2, m3, _, _, _, _, _, em⟩ := nc_open (X % LL) (mod_LP X)
  rw [ex]
  by_cases h : sv l < LL
  · have e1 : sv l % LL = sv l := Nat.mod_eq_of_lt h
    obtain ⟨n0, n1, n2, n3, _, _, _, _, _, en⟩ := nc_open (sv l) (Nat.lt_trans h LL_lt)
    refine scanonl_t (bv l) (bv (bl 32 (X % LL))) (bv (clampl l)) _ (nd (X % LL)).toList ⟨l.toArray⟩ ⟨(l).toArray⟩ ⟨(clampl l).toArray⟩ n0 n1 n2 n3 m0 m1 m2 m3 x0 x1 x2 x3 w ?CA ?OF ?BY ?SY ?CM ?CL ?CR ?OR ?SA ?LO ?SM ?str1 ?str2 (dig 65536 (sv l % LL) 0 : Nat) (dig 65536 (sv l % LL) 1 : Nat) (dig 65536 (sv l % LL) 2 : Nat) (dig 65536 (sv l % LL) 3 : Nat) (dig 65536 (sv l % LL) 4 : Nat) (dig 65536 (sv l % LL) 5 : Nat) (dig 65536 (sv l % LL) 6 : Nat) (dig 65536 (sv l % LL) 7 : Nat) (dig 65536 (sv l % LL) 8 : Nat) (dig 65536 (sv l % LL) 9 : Nat) (dig 65536 (sv l % LL) 10 : Nat) (dig 65536 (sv l % LL) 11 : Nat) (dig 65536 (sv l % LL) 12 : Nat) (dig 65536 (sv l % LL) 13 : Nat) (dig 65536 (sv l % LL) 14 : Nat) (dig 65536 (sv l % LL) 15 : Nat) rfl ?eqs ?hb ?hc rfl ?oneB ?oneC ?oneS
    case CA => intro W; have := canon_any l hl (sv l) true (by simp [h]) (by simp [h]) W; rwa [en] at this
    case OF => intro W; have := of6_any l (by omega) W; rw [nd_list] at this; exact this
    case BY => intro W; have := bytes6_any (sv l % LL) W; rw [nd_list] at this; rw [e1] at this; rw [hbl] at this; rw [e1]; exact this
    case SY => intro W; have := sbytes_any X hX W; rwa [ex] at this
    case CM => intro W; have := canon_any (bl 32 (X % LL)) (bl_length 32 _) (X % LL) true (by rw [svb]; simp [mod_LL]) (by rw [svb, if_pos (mod_LL X)]) W; rwa [em] at this
    case CL => intro W; exact clamp_any l hl W
    case CR => intro W; exact rclamp_any l hl W
    case OR => intro W; exact orders_any W
    case SA => intro W; have := same6_any (sv l) (Nat.lt_trans h LL_lt) W; rw [en, nd_list] at this; rw [e1]; exact this
    case LO => intro W; have := lof_any X hX W; rw [ex] at this; simpa using this
    case SM => intro W; have := same6_any (X % LL) (mod_LP X) W; rw [em] at this; simpa using this
    case str1 => intro W hW; have := run_str (lies_blk hW) 32 9 Try.underlying9; rwa [hl] at this
    case str2 => intro b W hW; have := run_str (lies_blk hW) 32 9 Try.underlying9; rwa [clampl_length, hl] at this
    case eqs => exact beq_self_eq_true _
    case hb => simp [hl]
    case hc => simp [clampl_length, hl]
    case oneB => exact bv_one l
    case oneC => exact bv_one _
    case oneS => intro v hv; simp at hv; rcases hv with h | h | h | h | h | h | h | h | h | h | h | h | h | h | h | h <;> subst h <;> rfl
  · have h0 : nc 0 = #[.int .u64 0, .int .u64 0, .int .u64 0, .int .u64 0] := rfl
    refine scanonl_f (bv l) (bv (bl 32 (X % LL))) (bv (clampl l)) _ (nd (X % LL)).toList ⟨l.toArray⟩ ⟨((bl 32 (sv l % LL))).toArray⟩ ⟨(clampl l).toArray⟩ 0 0 0 0 m0 m1 m2 m3 x0 x1 x2 x3 w ?CA ?OF ?BY ?SY ?CM ?CL ?CR ?OR ?SA ?LO ?SM ?str1 ?str2 (dig 65536 (sv l % LL) 0 : Nat) (dig 65536 (sv l % LL) 1 : Nat) (dig 65536 (sv l % LL) 2 : Nat) (dig 65536 (sv l % LL) 3 : Nat) (dig 65536 (sv l % LL) 4 : Nat) (dig 65536 (sv l % LL) 5 : Nat) (dig 65536 (sv l % LL) 6 : Nat) (dig 65536 (sv l % LL) 7 : Nat) (dig 65536 (sv l % LL) 8 : Nat) (dig 65536 (sv l % LL) 9 : Nat) (dig 65536 (sv l % LL) 10 : Nat) (dig 65536 (sv l % LL) 11 : Nat) (dig 65536 (sv l % LL) 12 : Nat) (dig 65536 (sv l % LL) 13 : Nat) (dig 65536 (sv l % LL) 14 : Nat) (dig 65536 (sv l % LL) 15 : Nat) rfl ?eqs ?hb ?hc rfl ?oneB ?oneC ?oneS
    case CA => intro W; have := canon_any l hl (0) false (by simp [h]) (by simp [h]) W; rwa [h0] at this
    case OF => intro W; have := of6_any l (by omega) W; rw [nd_list] at this; exact this
    case BY => intro W; have := bytes6_any (sv l % LL) W; rw [nd_list] at this; exact this
    case SY => intro W; have := sbytes_any X hX W; rwa [ex] at this
    case CM => intro W; have := canon_any (bl 32 (X % LL)) (bl_length 32 _) (X % LL) true (by rw [svb]; simp [mod_LL]) (by rw [svb, if_pos (mod_LL X)]) W; rwa [em] at this
    case CL => intro W; exact clamp_any l hl W
    case CR => intro W; exact rclamp_any l hl W
    case OR => intro W; exact orders_any W
    case SA => trivial
    case LO => intro W; have := lof_any X hX W; rw [ex] at this; simpa using this
    case SM => intro W; have := same6_any (X % LL) (mod_LP X) W; rw [em] at this; simpa using this
    case str1 => intro W hW; have := run_str (lies_blk hW) 32 9 Try.underlying9; rwa [hl] at this
    case str2 => intro b W hW; have := run_str (lies_blk hW) 32 9 Try.underlying9; rwa [clampl_length, hl] at this
    case eqs => rw [toList_arr, toList_arr]; exact hne h
    case hb => simp [hl]
    case hc => simp [clampl_length, hl]
    case oneB => exact bv_one l
    case oneC => exact bv_one _
    case oneS => intro v hv; simp at hv; rcases hv with h | h | h | h | h | h | h | h | h | h | h | h | h | h | h | h <;> subst h <;> rfl
end Go.Proofs.Ytokpaejkdkjloaa

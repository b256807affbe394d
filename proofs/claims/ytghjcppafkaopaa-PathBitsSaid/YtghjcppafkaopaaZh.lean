/-
  PathThree and PathBits are true of all keys.
-/
import Derived.Test.YtghjcppafkaopaaZg
import Derived.Stop.BytesEq
namespace Go.Proofs.Ytghjcppafkaopaa
open Go.RowKit
set_option linter.unusedVariables false
set_option linter.unusedSimpArgs false

theorem run_eql_keys (x y : List UInt8) (hx : x.length = 32) (hy : y.length = 32) (w : World) : (binOp .eql 88 (.agg (kr x)) (.agg (kr y))).run Try.prog w = .ok (.bool (x == y)) w := by
  have hb : ∀ z : List UInt8, bv z = z.map Extern.Stop.cell := fun z => rfl
  have hsz : ∀ w, (sizeOf 5).run Try.prog w = .ok 1 w := by
    intro w
    have h : (Try.prog.info? 5).map (·.size) = some 1 := by kernel_rfl
    obtain ⟨i0, hi, hz⟩ := Option.map_eq_some_iff.1 h
    simp [sizeOf, typeInfo, hi, hz]
  have h := run_eql_bytes w 88 5 32 Try.underlying88 Try.underlying5 hsz x y hx hy
  rw [← hb, ← hb] at h
  exact h
/-- The key of the law's paths. -/
def k128 : List UInt8 := 128 :: List.replicate 31 0
def k0 : List UInt8 := List.replicate 32 0
theorem len128 : k128.length = 32 := rfl
theorem len0 : k0.length = 32 := rfl
theorem kr128 : kr k128 = #[.int .u8 128, .int .u8 0, .int .u8 0, .int .u8 0, .int .u8 0, .int .u8 0, .int .u8 0, .int .u8 0, .int .u8 0, .int .u8 0, .int .u8 0, .int .u8 0, .int .u8 0, .int .u8 0, .int .u8 0, .int .u8 0, .int .u8 0, .int .u8 0, .int .u8 0, .int .u8 0, .int .u8 0, .int .u8 0, .int .u8 0, .int .u8 0, .int .u8 0, .int .u8 0, .int .u8 0, .int .u8 0, .int .u8 0, .int .u8 0, .int .u8 0, .int .u8 0] := by kernel_rfl
theorem kr0 : kr k0 = #[.int .u8 0, .int .u8 0, .int .u8 0, .int .u8 0, .int .u8 0, .int .u8 0, .int .u8 0, .int .u8 0, .int .u8 0, .int .u8 0, .int .u8 0, .int .u8 0, .int .u8 0, .int .u8 0, .int .u8 0, .int .u8 0, .int .u8 0, .int .u8 0, .int .u8 0, .int .u8 0, .int .u8 0, .int .u8 0, .int .u8 0, .int .u8 0, .int .u8 0, .int .u8 0, .int .u8 0, .int .u8 0, .int .u8 0, .int .u8 0, .int .u8 0, .int .u8 0] := by kernel_rfl
theorem isC0 : IsC k128 k0 0 := ⟨by decide, fun i hi => by omega, fun _ => by decide +kernel⟩
theorem paths_ans : Ans Try.prog 52 #[] (.bool true) := fun W => by
  have B0 := bit_in len128 0 (by decide)
  have B1 := bit_in len128 1 (by decide)
  have CO := common_ans len128 len0 isC0
  have LE := less_ans len0 len128 isC0.symm
  rw [show bn (kb k128 0) = 1 by decide +kernel, kr128] at B0
  rw [show bn (kb k128 1) = 0 by decide +kernel, kr128] at B1
  rw [kr128, kr0] at CO LE
  rw [show ahead k0 k128 0 = true by decide +kernel] at LE
  exact paths_op #[] W B0 B1 CO LE ⟨rfl, by simp⟩
theorem beq_no {x y : List UInt8} (h : x ≠ y) : (x == y) = false := beq_eq_false_iff_ne.2 h
/-- PathThree. -/
theorem three_any (a b c : List UInt8) (ha : a.length = 32) (hb : b.length = 32) (hc : c.length = 32) (w : World) :
    Calls Try.prog 12 #[.agg (kr a), .agg (kr b), .agg (kr c)] w fun e w' => e = .returned (.bool true) ∧ Fr (fun _ => False) w w' := by
  obtain ⟨x, hx⟩ := IsC.some a b
  obtain ⟨y, hy⟩ := IsC.some b c
  obtain ⟨z, hz⟩ := IsC.some a c
  have C1 := common_ans ha hb hx
  have C2 := common_ans hb hc hy
  have C3 := common_ans ha hc hz
  have C4 := common_ans ha ha (IsC.self a)
  have C5 := common_ans hb ha hx.symm
  have L1 := less_ans ha hb hx
  have L2 := less_ans hb ha hx.symm
  have EQ := fun W => run_eql_keys a b ha hb W
  have ways := ahead_two hx
  have neq : x < 256 → (a == b) = false := fun h => beq_no fun e => by
    subst e
    have := (IsC.self a).one hx
    omega
  have sa := sz_kr ha
  have sb := sz_kr hb
  have sc := sz_kr hc
  have PA := paths_ans
  rcases hx.third hy hz with ⟨e1, e2⟩ | ⟨e1, e2⟩ | ⟨e1, e2⟩
  · subst e1
    by_cases e3 : z = x
    · subst e3
      rcases ways with ⟨h1, h2, h3⟩ | ⟨h1, h2, h3⟩ | ⟨h1, h2, h3⟩ <;> rw [h2] at L1 <;> rw [h3] at L2
      · have e0 := hx
        rw [h1] at e0
        have e := e0.full ha hb
        subst e
        rw [beq_self_eq_true] at EQ
        exact three_ae z (z + 1) _ _ _ w C1 C2 C3 C4 C5 PA L1 L2 (by omega) EQ sa sb sc
      · rw [neq h1] at EQ; exact three_af z (z + 1) _ _ _ w C1 C2 C3 C4 C5 PA L1 L2 (by omega) EQ sa sb sc
      · rw [neq h1] at EQ; exact three_ag z (z + 1) _ _ _ w C1 C2 C3 C4 C5 PA L1 L2 (by omega) EQ sa sb sc
    · rcases ways with ⟨h1, h2, h3⟩ | ⟨h1, h2, h3⟩ | ⟨h1, h2, h3⟩ <;> rw [h2] at L1 <;> rw [h3] at L2
      · have := hz.le; omega
      · rw [neq h1] at EQ; exact three_bf x z _ _ _ w C1 C2 C3 C4 C5 PA L1 L2 (by omega) EQ sa sb sc
      · rw [neq h1] at EQ; exact three_bg x z _ _ _ w C1 C2 C3 C4 C5 PA L1 L2 (by omega) EQ sa sb sc
  · subst e1
    rcases ways with ⟨h1, h2, h3⟩ | ⟨h1, h2, h3⟩ | ⟨h1, h2, h3⟩ <;> rw [h2] at L1 <;> rw [h3] at L2
    · have := hy.le; omega
    · rw [neq h1] at EQ; exact three_cf x y _ _ _ w C1 C2 C3 C4 C5 PA L1 L2 e2 EQ sa sb sc
    · rw [neq h1] at EQ; exact three_cg x y _ _ _ w C1 C2 C3 C4 C5 PA L1 L2 e2 EQ sa sb sc
  · subst e1
    rcases ways with ⟨h1, h2, h3⟩ | ⟨h1, h2, h3⟩ | ⟨h1, h2, h3⟩ <;> rw [h2] at L1 <;> rw [h3] at L2
    · have e0 := hx
      rw [h1] at e0
      have e := e0.full ha hb
      subst e
      rw [beq_self_eq_true] at EQ
      exact three_de y x _ _ _ w C1 C2 C3 C4 C5 PA L1 L2 e2 EQ sa sb sc
    · rw [neq h1] at EQ; exact three_df y x _ _ _ w C1 C2 C3 C4 C5 PA L1 L2 e2 EQ sa sb sc
    · rw [neq h1] at EQ; exact three_dg y x _ _ _ w C1 C2 C3 C4 C5 PA L1 L2 e2 EQ sa sb sc
/-- With one bit turned. -/
def fl (l : List UInt8) (i : Nat) : List UInt8 := l.set (i / 8) (UInt8.ofNat (by8 l (i / 8) ^^^ (128 / 2 ^ (i % 8))))
theorem fl_len {l : List UInt8} (h : l.length = 32) (i : Nat) : (fl l i).length = 32 := by unfold fl; rw [List.length_set, h]
theorem mask_bit : ∀ m, m < 8 → ∀ s, s < 8 → (128 / 2 ^ m).testBit (7 - s) = decide (m = s) := by decide +kernel
theorem mask_lt : ∀ m, m < 8 → 128 / 2 ^ m < 256 := by decide +kernel
theorem fl_at {l : List UInt8} (h : l.length = 32) (i j : Nat) (hi : i < 256) : by8 (fl l i) j = if j = i / 8 then by8 l (i / 8) ^^^ (128 / 2 ^ (i % 8)) else by8 l j := by
  have hx : by8 l (i / 8) ^^^ (128 / 2 ^ (i % 8)) < 256 := Nat.xor_lt_two_pow (n := 8) (by8_lt _ _) (mask_lt _ (by omega))
  unfold by8 fl
  rw [List.getD_eq_getElem?_getD, List.getElem?_set]
  by_cases e : j = i / 8
  · subst e
    rw [if_pos rfl, if_pos rfl, if_pos (by omega)]
    show (UInt8.ofNat _).toNat = _
    rw [UInt8.toNat_ofNat']
    exact Nat.mod_eq_of_lt hx
  · rw [if_neg (fun c => e c.symm), if_neg e, ← List.getD_eq_getElem?_getD]
theorem fl_bit {l : List UInt8} (h : l.length = 32) (i j : Nat) (hi : i < 256) : kb (fl l i) j = if j = i then !kb l i else kb l j := by
  rw [kb_by8, fl_at h i _ hi]
  by_cases e : j / 8 = i / 8
  · rw [if_pos e, Nat.testBit_xor, mask_bit _ (by omega) _ (by omega), ← e, ← kb_by8]
    by_cases e2 : j = i
    · subst e2
      rw [if_pos rfl, decide_eq_true rfl]
      cases kb l j <;> rfl
    · rw [if_neg e2, decide_eq_false (by omega)]
      cases kb l j <;> rfl
  · rw [if_neg e, if_neg (fun c => e (by rw [c])), ← kb_by8]
theorem fl_isC {l : List UInt8} (h : l.length = 32) (i : Nat) (hi : i < 256) : IsC (fl l i) l i :=
  ⟨by omega, fun j hj => by rw [fl_bit h i j hi, if_neg (by omega)], fun _ => by
    rw [fl_bit h i i hi, if_pos rfl]
    cases kb l i <;> decide⟩
theorem fl_two {l : List UInt8} (h : l.length = 32) (i : Nat) (hi : i < 256) : fl (fl l i) i = l :=
  list_of_bits (fl_len (fl_len h i) i) h fun j hj => by
    rw [fl_bit (fl_len h i) i j hi]
    by_cases e : j = i
    · subst e
      rw [if_pos rfl, fl_bit h j j hi, if_pos rfl, Bool.not_not]
    · rw [if_neg e, fl_bit h i j hi, if_neg e]
theorem fl_row {l : List UInt8} (h : l.length = 32) (i : Nat) (hi : i < 256) : (kr l).setIfInBounds (i / 8) (.int .u8 ((by8 l (i / 8) ^^^ (128 / 2 ^ (i % 8)) : Nat) : Int)) = kr (fl l i) := by
  apply Array.ext_getElem?
  intro j
  have hs : (kr l).size = 32 := (sz_kr h).1
  have hs2 : (kr (fl l i)).size = 32 := (sz_kr (fl_len h i)).1
  by_cases hj : j < 32
  · rw [kr_cell (fl_len h i) j hj, fl_at h i j hi, Array.getElem?_setIfInBounds]
    by_cases e : i / 8 = j
    · rw [if_pos e, if_pos (by omega), if_pos e.symm]
    · rw [if_neg e, if_neg (fun c => e c.symm), kr_cell h j hj]
  · rw [Array.getElem?_eq_none (by rw [Array.size_setIfInBounds]; omega), Array.getElem?_eq_none (by omega)]
theorem flip_ans {l : List UInt8} (h : l.length = 32) (i : Nat) (hi : i < 256) : Ans Try.prog 50 #[.agg (kr l), .int .i64 (i : Int)] (.agg (kr (fl l i))) := fun W =>
  flip_in (i : Int) (i / 8) (by8 l (i / 8)) (128 / 2 ^ (i % 8)) (by8 l (i / 8) ^^^ (128 / 2 ^ (i % 8))) (kr l) (kr (fl l i)) W (place_ans i hi) (mask_ans i hi) (quo8 i) (by omega) (kr_cell h _ (by omega)) (xor_u8 _ _ (by8_lt _ _) (mask_lt _ (by omega))) (fl_row h i hi) (sz_kr h) (sz_kr (fl_len h i))
theorem flip_off {l : List UInt8} (h : l.length = 32) (I : Int) (hi : I < 0 ∨ 255 < I) : Ans Try.prog 50 #[.agg (kr l), .int .i64 I] (.agg (kr l)) := fun W =>
  flip_out I (kr l) W (place_no I hi) (sz_kr h)
/-- PathBits. -/
theorem bits_any (k l : List UInt8) (hk : k.length = 32) (hl : l.length = 32) (I : Int) (w : World) :
    Calls Try.prog 10 #[.agg (kr k), .agg (kr l), .int .i64 I] w fun e w' => e = .returned (.bool true) ∧ Fr (fun _ => False) w w' := by
  obtain ⟨c, hc⟩ := IsC.some k l
  have h1 := hc.le
  have RC := rcommon_ans hk hl hc
  have C1 := common_ans hk hl hc
  have L1 := less_ans hk hl hc
  have L2 := rless_ans hk hl hc
  have UN := under_ans hk hl hc I
  have PA := paths_ans
  have sk := sz_kr hk
  have sl := sz_kr hl
  have EQ := fun W => run_eql_keys k k hk hk W
  rw [beq_self_eq_true] at EQ
  by_cases hin : 0 ≤ I ∧ I ≤ 255
  · obtain ⟨i, rfl⟩ := Int.eq_ofNat_of_zero_le hin.1
    have hi : i < 256 := by omega
    have FLI := flip_ans hk i hi
    have FL2 := flip_ans (fl_len hk i) i hi
    rw [fl_two hk i hi] at FL2
    have B3 := bit_in (fl_len hk i) i hi
    have hv : 1 - (bn (kb k i) : Int) = (bn (kb (fl k i) i) : Int) := by
      rw [fl_bit hk i i hi, if_pos rfl]
      cases kb k i <;> rfl
    by_cases le : (i : Int) ≤ (c : Int)
    · rw [decide_eq_true le, Bool.true_or] at UN
      exact bits_in1 (i : Int) c _ _ _ _ _ _ w FLI RC PA (bit_in hk i hi) (rbit_ans hk i hi) C1 L1 L2 UN B3 (common_ans (fl_len hk i) hk (fl_isC hk i hi)) FL2 (by omega) (by omega) (decide_eq_false (by omega)) (decide_eq_false (by omega)) hv (bn_lt _) le (decide_eq_true le) EQ sk sl (sz_kr (fl_len hk i))
    · have hf : (c == 256) = false := beq_eq_false_iff_ne.2 (by omega)
      rw [decide_eq_false le, hf] at UN
      exact bits_in2 (i : Int) c _ _ _ _ _ _ w FLI RC PA (bit_in hk i hi) (rbit_ans hk i hi) C1 L1 L2 UN B3 (common_ans (fl_len hk i) hk (fl_isC hk i hi)) FL2 (by omega) (by omega) (decide_eq_false (by omega)) (decide_eq_false (by omega)) hv (bn_lt _) le (decide_eq_false le) (beq_eq_false_iff_ne.2 (by omega)) hf (decide_eq_false (by omega)) EQ sk sl (sz_kr (fl_len hk i))
  · have ho : I < 0 ∨ 255 < I := by omega
    have FLO := flip_off hk I ho
    have B1 := bit_off hk I ho
    have B2 := rbit_off hk I ho
    by_cases h0 : I < 0
    · have le : I ≤ (c : Int) := by omega
      rw [decide_eq_true le, Bool.true_or] at UN
      exact bits_neg I c 0 0 _ _ _ _ w FLO RC PA B1 B2 C1 L1 L2 UN h0 (decide_eq_true h0) le (decide_eq_true le) EQ sk sl sk
    · have h2 : 255 < I := by omega
      by_cases le : I ≤ (c : Int)
      · rw [decide_eq_true le, Bool.true_or] at UN
        exact bits_far1 I c 0 0 _ _ _ _ w FLO RC PA B1 B2 C1 L1 L2 UN h0 h2 (decide_eq_false h0) (decide_eq_true h2) le (decide_eq_true le) EQ sk sl sk
      · rw [decide_eq_false le, Bool.false_or] at UN
        by_cases hc6 : c = 256
        · have hf : (c == 256) = true := beq_iff_eq.2 hc6
          rw [hf] at UN
          exact bits_far2 I c 0 0 _ _ _ _ w FLO RC PA B1 B2 C1 L1 L2 UN h0 h2 (decide_eq_false h0) (decide_eq_true h2) le (decide_eq_false le) (beq_iff_eq.2 (by omega)) hf (decide_eq_true (by omega)) EQ sk sl sk
        · have hf : (c == 256) = false := beq_eq_false_iff_ne.2 hc6
          rw [hf] at UN
          exact bits_far3 I c 0 0 _ _ _ _ w FLO RC PA B1 B2 C1 L1 L2 UN h0 h2 (decide_eq_false h0) (decide_eq_true h2) le (decide_eq_false le) (beq_eq_false_iff_ne.2 (by omega)) hf (decide_eq_false (by omega)) EQ sk sl sk
end Go.Proofs.Ytghjcppafkaopaa

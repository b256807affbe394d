/-
  The contracts of package path and of the document's answer on bits of keys.
-/
import Derived.Test.YtghjcppafkaopaaZe
namespace Go.Proofs.Ytghjcppafkaopaa
open Go.RowKit
set_option linter.unusedVariables false
set_option linter.unusedSimpArgs false

theorem bv_oneA (l : List UInt8) : ((bv l).toArray).all (·.oneCell') = true := by
  rw [List.all_toArray, List.all_eq_true]; exact bv_one l
set_option maxRecDepth 100000 in
set_option maxHeartbeats 1600000 in
/-- A key's row. -/
def kr (l : List UInt8) : Array Value := (bv l).toArray
theorem sz_kr {l : List UInt8} (h : l.length = 32) : Sz 32 (kr l) := ⟨by simp [kr, bv, h], bv_oneA _⟩
def by8 (l : List UInt8) (i : Nat) : Nat := (l.getD i 0).toNat
theorem by8_lt (l : List UInt8) (i : Nat) : by8 l i < 256 := (l.getD i 0).toNat_lt
theorem kr_cell {l : List UInt8} (h : l.length = 32) (j : Nat) (hj : j < 32) : (kr l)[j]? = some (.int .u8 (by8 l j : Int)) := by
  have := bv_get' l j (by omega)
  have e : by8 l j = (l[j]'(by omega)).toNat := by unfold by8; rw [List.getD_eq_getElem?_getD, List.getElem?_eq_getElem (by omega)]; rfl
  rw [e]
  simpa [kr] using this
def bn (b : Bool) : Nat := if b then 1 else 0
theorem bn_lt (b : Bool) : bn b < 2 := by cases b <;> decide
theorem kb_by8 (l : List UInt8) (i : Nat) : kb l i = (by8 l (i / 8)).testBit (7 - i % 8) := rfl
theorem and_fact : ∀ m, m < 8 → ∀ a, a < 256 → bits .and .u8 ((a : Nat) : Int) ((128 / 2 ^ m : Nat) : Int) = ((if a.testBit (7 - m) then 128 / 2 ^ m else 0 : Nat) : Int) := by decide +kernel
theorem mask_ne : ∀ m, m < 8 → 128 / 2 ^ m ≠ 0 := by decide +kernel
theorem shr_fact : ∀ m, m < 8 → ∀ a, a < 256 → a / 2 ^ (7 - m) < 256 ∧ ((a / 2 ^ (7 - m)) % 2 : Nat) = bn (a.testBit (7 - m)) := by decide +kernel
theorem quo8 (i : Nat) : (i : Int).tdiv 8 = ((i / 8 : Nat) : Int) := by rw [Int.tdiv_eq_ediv_of_nonneg (by omega)]; simp
theorem rem8 (i : Nat) : (i : Int).tmod 8 = ((i % 8 : Nat) : Int) := by rw [Int.tmod_eq_emod_of_nonneg (by omega)]; simp
theorem place_ans (i : Nat) (hi : i < 256) : Ans Try.prog 69 #[.int .i64 (i : Int)] (.bool true) := fun W => place_yes i hi W
theorem mask_ans (i : Nat) (hi : i < 256) : Ans Try.prog 70 #[.int .i64 (i : Int)] (.int .u8 ((128 / 2 ^ (i % 8) : Nat) : Int)) := fun W => mask_any i hi W
/-- Bit: of each place. -/
theorem bit_in {l : List UInt8} (h : l.length = 32) (i : Nat) (hi : i < 256) : Ans Try.prog 53 #[.agg (kr l), .int .i64 (i : Int)] (.int .i64 (bn (kb l i) : Int)) := fun W => by
  have hf := and_fact (i % 8) (by omega) (by8 l (i / 8)) (by8_lt _ _)
  have hm := mask_ne (i % 8) (by omega)
  cases hk : kb l i with
  | true =>
    rw [kb_by8] at hk
    rw [hk, if_pos rfl] at hf
    exact bit_one (i : Int) (i / 8) _ _ _ (kr l) W (place_ans i hi) (mask_ans i hi) (quo8 i) (by omega) (kr_cell h _ (by omega)) hf (by rw [beq_eq_false_iff_ne]; omega) (by rw [beq_eq_false_iff_ne]; exact hm) (sz_kr h)
  | false =>
    rw [kb_by8] at hk
    rw [hk, if_neg (by decide)] at hf
    exact bit_nil (i : Int) (i / 8) _ _ _ (kr l) W (place_ans i hi) (mask_ans i hi) (quo8 i) (by omega) (kr_cell h _ (by omega)) hf rfl rfl (sz_kr h)
theorem bit_off {l : List UInt8} (h : l.length = 32) (I : Int) (hi : I < 0 ∨ 255 < I) : Ans Try.prog 53 #[.agg (kr l), .int .i64 I] (.int .i64 0) := fun W =>
  bit_out I 0 0 0 0 (kr l) W (place_no I hi) (sz_kr h)
theorem rbit_ans {l : List UInt8} (h : l.length = 32) (i : Nat) (hi : i < 256) : Ans Try.prog 54 #[.agg (kr l), .int .i64 (i : Int)] (.int .i64 (bn (kb l i) : Int)) := fun W => by
  obtain ⟨s1, s2⟩ := shr_fact (i % 8) (by omega) (by8 l (i / 8)) (by8_lt _ _)
  refine rbit_in (i : Int) (i / 8) (by8 l (i / 8)) (i % 8) (by8 l (i / 8) / 2 ^ (7 - i % 8)) (bn (kb l i)) (kr l) W (by omega) (by omega) (decide_eq_false (by omega)) (decide_eq_false (by omega)) (quo8 i) (by omega) (kr_cell h _ (by omega)) (rem8 i) (by omega) (by simp) s1 ?_ (sz_kr h)
  rw [Int.tmod_eq_emod_of_nonneg (Int.natCast_nonneg _), kb_by8, ← s2]
  simp
theorem rbit_off {l : List UInt8} (h : l.length = 32) (I : Int) (hi : I < 0 ∨ 255 < I) : Ans Try.prog 54 #[.agg (kr l), .int .i64 I] (.int .i64 0) := fun W => by
  rcases hi with c | c
  · exact rbit_neg I 0 0 0 0 0 (kr l) W c (decide_eq_true c) (sz_kr h)
  · exact rbit_far I 0 0 0 0 0 (kr l) W (by omega) c (decide_eq_false (by omega)) (decide_eq_true c) (sz_kr h)
theorem getD_of_by8 {k l : List UInt8} {j : Nat} (h : k.getD j 0 = l.getD j 0) : by8 k j = by8 l j := by unfold by8; rw [h]
theorem xor_u8 (a b : Nat) (ha : a < 256) (hb : b < 256) : bits .xor .u8 (a : Int) (b : Int) = ((a ^^^ b : Nat) : Int) := by
  have h1 : (BitVec.ofInt 8 (a : Int)).toNat = a := by rw [BitVec.ofInt_natCast, BitVec.toNat_ofNat]; exact Nat.mod_eq_of_lt (by omega)
  have h2 : (BitVec.ofInt 8 (b : Int)).toNat = b := by rw [BitVec.ofInt_natCast, BitVec.toNat_ofNat]; exact Nat.mod_eq_of_lt (by omega)
  show IntKind.u8.wrap ((BitVec.ofInt 8 (a : Int) ^^^ BitVec.ofInt 8 (b : Int)).toNat : Int) = _
  have := Nat.xor_lt_two_pow (n := 8) ha hb
  rw [BitVec.toNat_xor, h1, h2, IntKind.wrap_u8]
  omega
/-- Common: so many bits alike. -/
theorem common_ans {k l : List UInt8} (hk : k.length = 32) (hl : l.length = 32) {c : Nat} (h : IsC k l c) : Ans Try.prog 55 #[.agg (kr k), .agg (kr l)] (.int .i64 (c : Int)) := fun W => by
  have h1 := h.le
  by_cases hc : c = 256
  · subst hc
    exact cm_full 0 0 0 (kr k) (kr l) W (by8 k) (by8 l) (fun j hj => kr_cell hk j hj) (fun j hj => kr_cell hl j hj) (fun j hj => getD_of_by8 (h.part j (by omega))) (sz_kr hk) (sz_kr hl)
  · have hlt : ∀ j, j < c / 8 → k.getD j 0 = l.getD j 0 := fun j hj => h.part j (by omega)
    have hne : k.getD (c / 8) 0 ≠ l.getD (c / 8) 0 := fun e => h.ne (by omega) (by have := bits_of_bytes (k := k) (l := l) c e; exact this)
    obtain ⟨g, g1, g2⟩ := IsC.of_byte (c / 8) (by omega) hlt hne
    have e := g.one h
    have := cm_part (c / 8) (by8 k (c / 8) ^^^ by8 l (c / 8)) (8 - len8 (by8 k (c / 8) ^^^ by8 l (c / 8))) (kr k) (kr l) W (fun V => lead8_any _ (Nat.xor_lt_two_pow (n := 8) (by8_lt _ _) (by8_lt _ _)) V) (by8 k) (by8 l) (fun j hj => kr_cell hk j hj) (fun j hj => kr_cell hl j hj) (fun j hj => getD_of_by8 (hlt j hj)) (by omega) (by omega) (fun e2 => hne (UInt8.toNat_inj.1 e2)) (xor_u8 _ _ (by8_lt _ _) (by8_lt _ _)) (sz_kr hk) (sz_kr hl)
    rw [show 8 * (c / 8) + (8 - len8 (by8 k (c / 8) ^^^ by8 l (c / 8))) = c from e] at this
    exact this
theorem bn_ne {a b : Bool} (h : a ≠ b) : bn a ≠ bn b := by cases a <;> cases b <;> simp_all [bn]
theorem rcommon_ans {k l : List UInt8} (hk : k.length = 32) (hl : l.length = 32) {c : Nat} (h : IsC k l c) : Ans Try.prog 51 #[.agg (kr k), .agg (kr l)] (.int .i64 (c : Int)) := fun W => by
  have h1 := h.le
  by_cases hc : c = 256
  · subst hc
    exact rcm_full 0 (fun j => bn (kb k j)) (fun j => bn (kb l j)) (kr k) (kr l) W (fun j hj => rbit_ans hk j hj) (fun j hj => rbit_ans hl j hj) (fun j hj => congrArg bn (h.eq j hj)) (sz_kr hk) (sz_kr hl)
  · exact rcm_part c (fun j => bn (kb k j)) (fun j => bn (kb l j)) (kr k) (kr l) W (fun j hj => rbit_ans hk j hj) (fun j hj => rbit_ans hl j hj) (fun j hj => congrArg bn (h.eq j hj)) (by omega) (bn_ne (h.ne (by omega))) (sz_kr hk) (sz_kr hl)
/-- Bit at the place up to which two keys are alike, the end too. -/
def bo (l : List UInt8) (c : Nat) : Nat := if c < 256 then bn (kb l c) else 0
theorem bo_lt (l : List UInt8) (c : Nat) : bo l c < 2 := by unfold bo; split; exact bn_lt _; decide
theorem bit_at {l : List UInt8} (h : l.length = 32) (c : Nat) (hc : c ≤ 256) : Ans Try.prog 53 #[.agg (kr l), .int .i64 (c : Int)] (.int .i64 (bo l c : Int)) := by
  unfold bo
  by_cases e : c < 256
  · rw [if_pos e]; exact bit_in h c e
  · rw [if_neg e]; exact bit_off h c (by omega)
theorem order_ans {k l : List UInt8} (hk : k.length = 32) (hl : l.length = 32) {c : Nat} (h : IsC k l c) : Ans Try.prog 72 #[.agg (kr k), .agg (kr l)] (.int .i64 ((bo k c : Int) - (bo l c : Int))) := fun W =>
  order_op c (bo k c) (bo l c) (kr k) (kr l) W (common_ans hk hl h) (bit_at hk c h.le) (bit_at hl c h.le) (bo_lt _ _) (bo_lt _ _) (sz_kr hk) (sz_kr hl)
theorem ahead_bo {k l : List UInt8} {c : Nat} (h : IsC k l c) : decide ((bo k c : Int) - (bo l c : Int) < 0) = ahead k l c := by
  unfold bo ahead
  by_cases e : c < 256
  · have hn := h.ne e
    rw [if_pos e, if_pos e, decide_eq_true e]
    cases hk : kb k c <;> cases hl : kb l c <;> rw [hk, hl] at hn <;> first | exact absurd rfl hn | rfl
  · rw [if_neg e, if_neg e, decide_eq_false e]; rfl
/-- Less: does it stand ahead? -/
theorem less_ans {k l : List UInt8} (hk : k.length = 32) (hl : l.length = 32) {c : Nat} (h : IsC k l c) : Ans Try.prog 56 #[.agg (kr k), .agg (kr l)] (.bool (ahead k l c)) := fun W =>
  less_op _ (ahead k l c) (kr k) (kr l) W (order_ans hk hl h) (ahead_bo h) (sz_kr hk) (sz_kr hl)
theorem rless_ans {k l : List UInt8} (hk : k.length = 32) (hl : l.length = 32) {c : Nat} (h : IsC k l c) : Ans Try.prog 57 #[.agg (kr k), .agg (kr l)] (.bool (ahead k l c)) := fun W => by
  have h1 := h.le
  by_cases e : c < 256
  · have hb := rbit_ans hk c e
    unfold ahead
    rw [decide_eq_true e]
    cases hx : kb k c with
    | false =>
      rw [hx] at hb
      exact rless_yes c (kr k) (kr l) W (rcommon_ans hk hl h) hb (by omega) (decide_eq_true (by omega)) (sz_kr hk) (sz_kr hl)
    | true =>
      rw [hx] at hb
      exact rless_not c (kr k) (kr l) W (rcommon_ans hk hl h) hb (by omega) (decide_eq_true (by omega)) (sz_kr hk) (sz_kr hl)
  · have ha : ahead k l c = false := by unfold ahead; rw [decide_eq_false e]; rfl
    rw [ha]
    exact rless_same c (kr k) (kr l) W (rcommon_ans hk hl h) (by omega) (decide_eq_false (by omega)) (sz_kr hk) (sz_kr hl)
/-- Under: are so many bits alike? -/
theorem under_ans {k l : List UInt8} (hk : k.length = 32) (hl : l.length = 32) {c : Nat} (h : IsC k l c) (I : Int) : Ans Try.prog 58 #[.agg (kr k), .agg (kr l), .int .i64 I] (.bool (decide (I ≤ (c : Int)) || (c == 256))) := fun W => by
  have h1 := h.le
  by_cases e : I ≤ 256
  · have hr : decide (I ≤ (c : Int)) = (decide (I ≤ (c : Int)) || (c == 256)) := by
      by_cases hc : c = 256
      · rw [decide_eq_true (by omega)]; rfl
      · rw [beq_eq_false_iff_ne.2 hc, Bool.or_false]
    exact under_lo I c _ (kr k) (kr l) W (common_ans hk hl h) e (by omega) hr (sz_kr hk) (sz_kr hl)
  · have hr : decide ((256 : Int) ≤ (c : Int)) = (decide (I ≤ (c : Int)) || (c == 256)) := by
      rw [decide_eq_false (show ¬ I ≤ (c : Int) by omega), Bool.false_or]
      by_cases hc : c = 256
      · subst hc; rfl
      · rw [beq_eq_false_iff_ne.2 hc, decide_eq_false (by omega)]
    exact under_hi I c _ (kr k) (kr l) W (common_ans hk hl h) (by omega) e (by omega) hr (sz_kr hk) (sz_kr hl)
end Go.Proofs.Ytghjcppafkaopaa

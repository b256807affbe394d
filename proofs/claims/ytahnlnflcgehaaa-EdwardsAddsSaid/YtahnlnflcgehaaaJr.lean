/-
  Decode of package custumalref07, by numbers.
-/
import Derived.Test.YtahnlnflcgehaaaJq
namespace Go.Proofs.Ytahnlnflcgehaaa
open Go.RowKit Pri
set_option linter.unusedVariables false
set_option linter.unusedSimpArgs false

theorem one_ltp : 1 < p25519 := by decide +kernel
theorem ms5_one (X : Nat) (hX : X < p25519) : ms5 X 1 = ms X 1 := by
  have h := one_ltp
  unfold ms5 ms
  rw [Nat.mod_eq_of_lt hX, Nat.mod_eq_of_lt h, Nat.mod_eq_of_lt (show p25519 - 1 < p25519 by omega)]
theorem and_low : ∀ z, z < 128 → bits .and .u8 ((z : Nat) : Int) 127 = ((z : Nat) : Int) ∧ bits .and .u8 ((z + 128 : Nat) : Int) 127 = ((z : Nat) : Int) := by decide +kernel
theorem top_le (z : Nat) (h : z < 128) : decide ((128 : Int) ≤ ((z : Nat) : Int)) = false ∧ decide ((128 : Int) ≤ ((z + 128 : Nat) : Int)) = true :=
  ⟨decide_eq_false (by omega), decide_eq_true (by omega)⟩
def rpv (Y c : Nat) : Value := match dcode Y c with
  | some x => .tuple #[.agg (rq x Y 1), .int .i64 0]
  | none => .tuple #[.agg #[.int .i64 0, .int .i64 0, .int .i64 0, .int .i64 0, .int .i64 0, .int .i64 0, .int .i64 0, .int .i64 0, .int .i64 0, .int .i64 0, .int .i64 0, .int .i64 0, .int .i64 0, .int .i64 0, .int .i64 0, .int .i64 0, .int .i64 0, .int .i64 0, .int .i64 0, .int .i64 0, .int .i64 0, .int .i64 0, .int .i64 0, .int .i64 0, .int .i64 0, .int .i64 0, .int .i64 0, .int .i64 0, .int .i64 0, .int .i64 0, .int .i64 0, .int .i64 0, .int .i64 0, .int .i64 0, .int .i64 0, .int .i64 0, .int .i64 0, .int .i64 0, .int .i64 0, .int .i64 0, .int .i64 0, .int .i64 0, .int .i64 0, .int .i64 0, .int .i64 0, .int .i64 0, .int .i64 0, .int .i64 0], .int .i64 15]
theorem rpv_none {Y c : Nat} (h : dcode Y c = none) : rpv Y c = .tuple #[.agg #[.int .i64 0, .int .i64 0, .int .i64 0, .int .i64 0, .int .i64 0, .int .i64 0, .int .i64 0, .int .i64 0, .int .i64 0, .int .i64 0, .int .i64 0, .int .i64 0, .int .i64 0, .int .i64 0, .int .i64 0, .int .i64 0, .int .i64 0, .int .i64 0, .int .i64 0, .int .i64 0, .int .i64 0, .int .i64 0, .int .i64 0, .int .i64 0, .int .i64 0, .int .i64 0, .int .i64 0, .int .i64 0, .int .i64 0, .int .i64 0, .int .i64 0, .int .i64 0, .int .i64 0, .int .i64 0, .int .i64 0, .int .i64 0, .int .i64 0, .int .i64 0, .int .i64 0, .int .i64 0, .int .i64 0, .int .i64 0, .int .i64 0, .int .i64 0, .int .i64 0, .int .i64 0, .int .i64 0, .int .i64 0], .int .i64 15] := by unfold rpv; rw [h]
theorem rpv_some {Y c x : Nat} (h : dcode Y c = some x) : rpv Y c = .tuple #[.agg (cat3 (nd x) (nd Y) #[.int .i64 1, .int .i64 0, .int .i64 0, .int .i64 0, .int .i64 0, .int .i64 0, .int .i64 0, .int .i64 0, .int .i64 0, .int .i64 0, .int .i64 0, .int .i64 0, .int .i64 0, .int .i64 0, .int .i64 0, .int .i64 0]), .int .i64 0] := by unfold rpv; rw [h]; show Value.tuple #[.agg (cat3 (nd x) (nd Y) (nd 1)), .int .i64 0] = _; rw [nd_one_]
set_option maxRecDepth 100000 in
theorem decode7_ans0 (Y : Nat) (hY : Y < 57896044618658097711785492504343953926634992332820282019728792003956564819968) : Ans Try.prog 71 #[.string ⟨(bl 32 (Y + 57896044618658097711785492504343953926634992332820282019728792003956564819968 * 0)).toArray⟩] (rpv Y 0) := fun W => by
  obtain ⟨z1, z2⟩ := high_byte Y hY
  have tl := top_le (Y / 256 ^ 31 % 256) z1
  have al := and_low (Y / 256 ^ 31 % 256) z1
  have hYP : Y < 115792089237316195423570985008687907853269984665640564039457584007913129639936 := Nat.lt_trans hY (by decide)
  have hz : (Y + 57896044618658097711785492504343953926634992332820282019728792003956564819968 * 0) / 256 ^ 31 % 256 = Y / 256 ^ 31 % 256 := by rw [Nat.mul_zero, Nat.add_zero]
  have hm : (Y + 57896044618658097711785492504343953926634992332820282019728792003956564819968 * 0) % 57896044618658097711785492504343953926634992332820282019728792003956564819968 = Y := by rw [Nat.add_mul_mod_self_left, Nat.mod_eq_of_lt hY]
  have FB : Ans Try.prog 30 #[.string ⟨(bl 32 (Y + 57896044618658097711785492504343953926634992332820282019728792003956564819968 * 0)).toArray⟩] (.agg (nd (Y % p25519))) := fun W => by
    have := from5_any (Y + 57896044618658097711785492504343953926634992332820282019728792003956564819968 * 0) (by omega) W
    rwa [hm] at this
  have BY : Ans Try.prog 31 #[.agg (nd (Y % p25519))] (.string ⟨(bl 32 (Y % p25519)).toArray⟩) := fun W => bytes5_any (Y % p25519) W
  have hi : ∀ W : World, (Instr.index 9 (.string ⟨(bl 32 (Y + 57896044618658097711785492504343953926634992332820282019728792003956564819968 * 0)).toArray⟩) (.int .i64 31)).run Try.prog W = .ok (.int .u8 ((Y / 256 ^ 31 % 256 : Nat) : Int)) W := fun W => by
    have := run_index_str (P := Try.prog) (t := 9) (k := 31) Try.underlying9 (bl_at (Y + 57896044618658097711785492504343953926634992332820282019728792003956564819968 * 0) 31 (by decide)) W
    rw [tn, hz] at this
    exact this
  have CV := bl_conv (Y + 57896044618658097711785492504343953926634992332820282019728792003956564819968 * 0)
  have C31 : ∀ W : World, (Lib.bytesWorld W 5 ⟨(bl 32 (Y + 57896044618658097711785492504343953926634992332820282019728792003956564819968 * 0)).toArray⟩).cell? ⟨W.heap.size, 31, none⟩ = some (.int .u8 ((Y / 256 ^ 31 % 256 : Nat) : Int)) := fun W => by
    have := bw_cell (Y + 57896044618658097711785492504343953926634992332820282019728792003956564819968 * 0) W 31 (by decide)
    rwa [hz] at this
  have F31 := fun W : World => bw_free W ⟨(bl 32 (Y + 57896044618658097711785492504343953926634992332820282019728792003956564819968 * 0)).toArray⟩ 31 (by rw [bl_size]; decide)
  have CS : ∀ (W W2 : World) (c : Nat), Fr (fun _ => False) ((Lib.bytesWorld W 5 ⟨(bl 32 (Y + 57896044618658097711785492504343953926634992332820282019728792003956564819968 * 0)).toArray⟩).setCell ⟨W.heap.size, 31, none⟩ (.int .u8 ((Y / 256 ^ 31 % 256 : Nat) : Int))) W2 → (convert 40 9 (.slice (some ⟨W.heap.size, 0, none⟩) 32 c)).run Try.prog W2 = .ok (.string ⟨(bl 32 Y).toArray⟩) W2 := fun W W2 c F =>
    str_at W2 _ c Y (fun j hj => Fr.cellSome F (fun h => h) (by
      by_cases e : j = 31
      · subst e
        exact World.cell?_setCell_same _ _ _ (bw_cell (Y + 57896044618658097711785492504343953926634992332820282019728792003956564819968 * 0) W 31 (by decide))
      · rw [← low_byte Y 0 j (by omega)]
        exact cell_set_other (bw_cell (Y + 57896044618658097711785492504343953926634992332820282019728792003956564819968 * 0) W j hj) (fun e2 => e e2.symm)))
  by_cases hp : p25519 ≤ Y
  · have E0 : ((⟨(bl 32 (Y % p25519)).toArray⟩ : ByteArray).toList == (⟨(bl 32 Y).toArray⟩ : ByteArray).toList) = false := by
      rw [toList_arr2, toList_arr2, beq_eq_false_iff_ne]
      intro e
      have e1 := bl_inj (mod_p_lt _) hYP e
      have e2 := Nat.mod_lt Y p_pos
      omega
    rw [rpv_none (dcode_bad hp)]
    exact rdec_bad0 (Y / 256 ^ 31 % 256) (Y / 256 ^ 31 % 256) (dig 65536 (axN Y) 0) ⟨(bl 32 (Y + 57896044618658097711785492504343953926634992332820282019728792003956564819968 * 0)).toArray⟩ ⟨(bl 32 (Y % p25519)).toArray⟩ ⟨(bl 32 Y).toArray⟩ (nd (Y % p25519)) (nd (mm Y Y)) #[] #[] #[] #[] (nd 0) (nd 0) W FB BY  hi tl.1 CV C31 F31 al.1 CS E0   (sz_nd _) (sz_nd _) (sz_nd _) (sz_nd _)
  have hlt := Nat.lt_of_not_le hp
  have hq : Y % p25519 = Y := Nat.mod_eq_of_lt hlt
  rw [hq] at FB BY
  have E0 : ((⟨(bl 32 Y).toArray⟩ : ByteArray).toList == (⟨(bl 32 Y).toArray⟩ : ByteArray).toList) = true := by rw [beq_iff_eq]
  have M1 := mul5_ans Y Y hlt hlt
  have SU := sub5_ans (mm Y Y) 1 (mm_lt _ _) one_ltp
  rw [nd_one_, ms5_one _ (mm_lt _ _)] at SU
  have M2 := mul5_ans dD (mm Y Y) dD_ltp (mm_lt _ _)
  have AD := add5_ans (mm dD (mm Y Y)) 1 (mm_lt _ _) one_ltp
  rw [nd_one_] at AD
  have RT : Ans Try.prog 38 #[.agg (nd (ms (mm Y Y) 1)), .agg (nd (ma (mm dD (mm Y Y)) 1))] (.tuple #[.agg (nd (axN Y)), .bool (axB Y)]) := fun W => root5_any _ _ (ms_lt _ _) (ma_lt _ _) W
  have hx := axN_lt Y
  have hxP := Nat.lt_trans hx p_lt
  have x0 : (nd (axN Y))[0]? = some (.int .i64 ((dig 65536 (axN Y) 0 : Nat) : Int)) := iq_get 16 _ 0 (by decide)
  have hpar : ((dig 65536 (axN Y) 0 : Nat) : Int).tmod 2 = ((axN Y % 2 : Nat) : Int) := by
    rw [tmod_two]; unfold dig; rw [Nat.pow_zero, Nat.div_one]; omega
  have E9 := fun W : World => eql_nd5 (axN Y) 0 hxP (by decide) W
  rw [nd_lit0_] at E9
  cases hb : axB Y
  · rw [hb] at RT
    rw [rpv_none (dcode_none hp hb)]
    exact rdec_none0 (Y / 256 ^ 31 % 256) (Y / 256 ^ 31 % 256) (dig 65536 (axN Y) 0) ⟨(bl 32 (Y + 57896044618658097711785492504343953926634992332820282019728792003956564819968 * 0)).toArray⟩ ⟨(bl 32 Y).toArray⟩ ⟨(bl 32 Y).toArray⟩ (nd Y) (nd (mm Y Y)) _ (nd dD) _ _ (nd (axN Y)) (nd 0) W FB BY M1 SU d7_any M2 AD RT hi tl.1 CV C31 F31 al.1 CS E0   (sz_nd _) (sz_nd _) (sz_nd _) (sz_nd _)
  rw [hb] at RT
  have m2 : axN Y % 2 < 2 := Nat.mod_lt _ (by decide)
  by_cases h0 : axN Y = 0
  · rw [show decide (axN Y = 0) = true from decide_eq_true h0] at E9
    rw [show axN Y % 2 = 0 by rw [h0]] at hpar
    rw [rpv_some (dcode_keep hp hb (by rw [h0]))]
    exact rdec_nought0 (Y / 256 ^ 31 % 256) (Y / 256 ^ 31 % 256) (dig 65536 (axN Y) 0) ⟨(bl 32 (Y + 57896044618658097711785492504343953926634992332820282019728792003956564819968 * 0)).toArray⟩ ⟨(bl 32 Y).toArray⟩ ⟨(bl 32 Y).toArray⟩ (nd Y) (nd (mm Y Y)) _ (nd dD) _ _ (nd (axN Y)) (nd 0) W FB BY M1 SU d7_any M2 AD RT hi tl.1 CV C31 F31 al.1 CS E0 E9 x0 hpar (sz_nd _) (sz_nd _) (sz_nd _) (sz_nd _)
  rw [show decide (axN Y = 0) = false from decide_eq_false h0] at E9
  by_cases ho : axN Y % 2 = 0
  · rw [ho] at hpar
    rw [rpv_some (dcode_keep hp hb ho)]
    exact rdec_keep0 (Y / 256 ^ 31 % 256) (Y / 256 ^ 31 % 256) (dig 65536 (axN Y) 0) ⟨(bl 32 (Y + 57896044618658097711785492504343953926634992332820282019728792003956564819968 * 0)).toArray⟩ ⟨(bl 32 Y).toArray⟩ ⟨(bl 32 Y).toArray⟩ (nd Y) (nd (mm Y Y)) _ (nd dD) _ _ (nd (axN Y)) (nd 0) W FB BY M1 SU d7_any M2 AD RT hi tl.1 CV C31 F31 al.1 CS E0 E9 x0 hpar (sz_nd _) (sz_nd _) (sz_nd _) (sz_nd _)
  rw [show axN Y % 2 = 1 by omega] at hpar
  have NE := fun W : World => neg5_any (axN Y) (Nat.le_of_lt hx) W
  rw [Nat.mod_eq_of_lt (show p25519 - axN Y < p25519 by omega)] at NE
  rw [rpv_some (dcode_neg hp hb ho h0)]
  exact rdec_neg0 (Y / 256 ^ 31 % 256) (Y / 256 ^ 31 % 256) (dig 65536 (axN Y) 0) ⟨(bl 32 (Y + 57896044618658097711785492504343953926634992332820282019728792003956564819968 * 0)).toArray⟩ ⟨(bl 32 Y).toArray⟩ ⟨(bl 32 Y).toArray⟩ (nd Y) (nd (mm Y Y)) _ (nd dD) _ _ (nd (axN Y)) (nd (p25519 - axN Y)) W FB BY M1 SU d7_any M2 AD RT NE hi tl.1 CV C31 F31 al.1 CS E0 E9 x0 hpar (sz_nd _) (sz_nd _) (sz_nd _) (sz_nd _)
set_option maxRecDepth 100000 in
theorem decode7_ans1 (Y : Nat) (hY : Y < 57896044618658097711785492504343953926634992332820282019728792003956564819968) : Ans Try.prog 71 #[.string ⟨(bl 32 (Y + 57896044618658097711785492504343953926634992332820282019728792003956564819968 * 1)).toArray⟩] (rpv Y 1) := fun W => by
  obtain ⟨z1, z2⟩ := high_byte Y hY
  have tl := top_le (Y / 256 ^ 31 % 256) z1
  have al := and_low (Y / 256 ^ 31 % 256) z1
  have hYP : Y < 115792089237316195423570985008687907853269984665640564039457584007913129639936 := Nat.lt_trans hY (by decide)
  have hz : (Y + 57896044618658097711785492504343953926634992332820282019728792003956564819968 * 1) / 256 ^ 31 % 256 = Y / 256 ^ 31 % 256 + 128 := z2
  have hm : (Y + 57896044618658097711785492504343953926634992332820282019728792003956564819968 * 1) % 57896044618658097711785492504343953926634992332820282019728792003956564819968 = Y := by rw [Nat.add_mul_mod_self_left, Nat.mod_eq_of_lt hY]
  have FB : Ans Try.prog 30 #[.string ⟨(bl 32 (Y + 57896044618658097711785492504343953926634992332820282019728792003956564819968 * 1)).toArray⟩] (.agg (nd (Y % p25519))) := fun W => by
    have := from5_any (Y + 57896044618658097711785492504343953926634992332820282019728792003956564819968 * 1) (by omega) W
    rwa [hm] at this
  have BY : Ans Try.prog 31 #[.agg (nd (Y % p25519))] (.string ⟨(bl 32 (Y % p25519)).toArray⟩) := fun W => bytes5_any (Y % p25519) W
  have hi : ∀ W : World, (Instr.index 9 (.string ⟨(bl 32 (Y + 57896044618658097711785492504343953926634992332820282019728792003956564819968 * 1)).toArray⟩) (.int .i64 31)).run Try.prog W = .ok (.int .u8 ((Y / 256 ^ 31 % 256 + 128 : Nat) : Int)) W := fun W => by
    have := run_index_str (P := Try.prog) (t := 9) (k := 31) Try.underlying9 (bl_at (Y + 57896044618658097711785492504343953926634992332820282019728792003956564819968 * 1) 31 (by decide)) W
    rw [tn, hz] at this
    exact this
  have CV := bl_conv (Y + 57896044618658097711785492504343953926634992332820282019728792003956564819968 * 1)
  have C31 : ∀ W : World, (Lib.bytesWorld W 5 ⟨(bl 32 (Y + 57896044618658097711785492504343953926634992332820282019728792003956564819968 * 1)).toArray⟩).cell? ⟨W.heap.size, 31, none⟩ = some (.int .u8 ((Y / 256 ^ 31 % 256 + 128 : Nat) : Int)) := fun W => by
    have := bw_cell (Y + 57896044618658097711785492504343953926634992332820282019728792003956564819968 * 1) W 31 (by decide)
    rwa [hz] at this
  have F31 := fun W : World => bw_free W ⟨(bl 32 (Y + 57896044618658097711785492504343953926634992332820282019728792003956564819968 * 1)).toArray⟩ 31 (by rw [bl_size]; decide)
  have CS : ∀ (W W2 : World) (c : Nat), Fr (fun _ => False) ((Lib.bytesWorld W 5 ⟨(bl 32 (Y + 57896044618658097711785492504343953926634992332820282019728792003956564819968 * 1)).toArray⟩).setCell ⟨W.heap.size, 31, none⟩ (.int .u8 ((Y / 256 ^ 31 % 256 : Nat) : Int))) W2 → (convert 40 9 (.slice (some ⟨W.heap.size, 0, none⟩) 32 c)).run Try.prog W2 = .ok (.string ⟨(bl 32 Y).toArray⟩) W2 := fun W W2 c F =>
    str_at W2 _ c Y (fun j hj => Fr.cellSome F (fun h => h) (by
      by_cases e : j = 31
      · subst e
        exact World.cell?_setCell_same _ _ _ (bw_cell (Y + 57896044618658097711785492504343953926634992332820282019728792003956564819968 * 1) W 31 (by decide))
      · rw [← low_byte Y 1 j (by omega)]
        exact cell_set_other (bw_cell (Y + 57896044618658097711785492504343953926634992332820282019728792003956564819968 * 1) W j hj) (fun e2 => e e2.symm)))
  by_cases hp : p25519 ≤ Y
  · have E0 : ((⟨(bl 32 (Y % p25519)).toArray⟩ : ByteArray).toList == (⟨(bl 32 Y).toArray⟩ : ByteArray).toList) = false := by
      rw [toList_arr2, toList_arr2, beq_eq_false_iff_ne]
      intro e
      have e1 := bl_inj (mod_p_lt _) hYP e
      have e2 := Nat.mod_lt Y p_pos
      omega
    rw [rpv_none (dcode_bad hp)]
    exact rdec_bad1 (Y / 256 ^ 31 % 256 + 128) (Y / 256 ^ 31 % 256) (dig 65536 (axN Y) 0) ⟨(bl 32 (Y + 57896044618658097711785492504343953926634992332820282019728792003956564819968 * 1)).toArray⟩ ⟨(bl 32 (Y % p25519)).toArray⟩ ⟨(bl 32 Y).toArray⟩ (nd (Y % p25519)) (nd (mm Y Y)) #[] #[] #[] #[] (nd 0) (nd 0) W FB BY  hi tl.2 CV C31 F31 al.2 CS E0   (sz_nd _) (sz_nd _) (sz_nd _) (sz_nd _)
  have hlt := Nat.lt_of_not_le hp
  have hq : Y % p25519 = Y := Nat.mod_eq_of_lt hlt
  rw [hq] at FB BY
  have E0 : ((⟨(bl 32 Y).toArray⟩ : ByteArray).toList == (⟨(bl 32 Y).toArray⟩ : ByteArray).toList) = true := by rw [beq_iff_eq]
  have M1 := mul5_ans Y Y hlt hlt
  have SU := sub5_ans (mm Y Y) 1 (mm_lt _ _) one_ltp
  rw [nd_one_, ms5_one _ (mm_lt _ _)] at SU
  have M2 := mul5_ans dD (mm Y Y) dD_ltp (mm_lt _ _)
  have AD := add5_ans (mm dD (mm Y Y)) 1 (mm_lt _ _) one_ltp
  rw [nd_one_] at AD
  have RT : Ans Try.prog 38 #[.agg (nd (ms (mm Y Y) 1)), .agg (nd (ma (mm dD (mm Y Y)) 1))] (.tuple #[.agg (nd (axN Y)), .bool (axB Y)]) := fun W => root5_any _ _ (ms_lt _ _) (ma_lt _ _) W
  have hx := axN_lt Y
  have hxP := Nat.lt_trans hx p_lt
  have x0 : (nd (axN Y))[0]? = some (.int .i64 ((dig 65536 (axN Y) 0 : Nat) : Int)) := iq_get 16 _ 0 (by decide)
  have hpar : ((dig 65536 (axN Y) 0 : Nat) : Int).tmod 2 = ((axN Y % 2 : Nat) : Int) := by
    rw [tmod_two]; unfold dig; rw [Nat.pow_zero, Nat.div_one]; omega
  have E9 := fun W : World => eql_nd5 (axN Y) 0 hxP (by decide) W
  rw [nd_lit0_] at E9
  cases hb : axB Y
  · rw [hb] at RT
    rw [rpv_none (dcode_none hp hb)]
    exact rdec_none1 (Y / 256 ^ 31 % 256 + 128) (Y / 256 ^ 31 % 256) (dig 65536 (axN Y) 0) ⟨(bl 32 (Y + 57896044618658097711785492504343953926634992332820282019728792003956564819968 * 1)).toArray⟩ ⟨(bl 32 Y).toArray⟩ ⟨(bl 32 Y).toArray⟩ (nd Y) (nd (mm Y Y)) _ (nd dD) _ _ (nd (axN Y)) (nd 0) W FB BY M1 SU d7_any M2 AD RT hi tl.2 CV C31 F31 al.2 CS E0   (sz_nd _) (sz_nd _) (sz_nd _) (sz_nd _)
  rw [hb] at RT
  have m2 : axN Y % 2 < 2 := Nat.mod_lt _ (by decide)
  by_cases h0 : axN Y = 0
  · rw [show decide (axN Y = 0) = true from decide_eq_true h0] at E9
    rw [show axN Y % 2 = 0 by rw [h0]] at hpar
    rw [rpv_none (dcode_zero hp (by rw [h0]; decide) h0)]
    exact rdec_zero1 (Y / 256 ^ 31 % 256 + 128) (Y / 256 ^ 31 % 256) (dig 65536 (axN Y) 0) ⟨(bl 32 (Y + 57896044618658097711785492504343953926634992332820282019728792003956564819968 * 1)).toArray⟩ ⟨(bl 32 Y).toArray⟩ ⟨(bl 32 Y).toArray⟩ (nd Y) (nd (mm Y Y)) _ (nd dD) _ _ (nd (axN Y)) (nd 0) W FB BY M1 SU d7_any M2 AD RT hi tl.2 CV C31 F31 al.2 CS E0 E9 x0  (sz_nd _) (sz_nd _) (sz_nd _) (sz_nd _)
  rw [show decide (axN Y = 0) = false from decide_eq_false h0] at E9
  by_cases ho : axN Y % 2 = 1
  · rw [ho] at hpar
    rw [rpv_some (dcode_keep hp hb ho)]
    exact rdec_keep1 (Y / 256 ^ 31 % 256 + 128) (Y / 256 ^ 31 % 256) (dig 65536 (axN Y) 0) ⟨(bl 32 (Y + 57896044618658097711785492504343953926634992332820282019728792003956564819968 * 1)).toArray⟩ ⟨(bl 32 Y).toArray⟩ ⟨(bl 32 Y).toArray⟩ (nd Y) (nd (mm Y Y)) _ (nd dD) _ _ (nd (axN Y)) (nd 0) W FB BY M1 SU d7_any M2 AD RT hi tl.2 CV C31 F31 al.2 CS E0 E9 x0 hpar (sz_nd _) (sz_nd _) (sz_nd _) (sz_nd _)
  rw [show axN Y % 2 = 0 by omega] at hpar
  have NE := fun W : World => neg5_any (axN Y) (Nat.le_of_lt hx) W
  rw [Nat.mod_eq_of_lt (show p25519 - axN Y < p25519 by omega)] at NE
  rw [rpv_some (dcode_neg hp hb ho h0)]
  exact rdec_neg1 (Y / 256 ^ 31 % 256 + 128) (Y / 256 ^ 31 % 256) (dig 65536 (axN Y) 0) ⟨(bl 32 (Y + 57896044618658097711785492504343953926634992332820282019728792003956564819968 * 1)).toArray⟩ ⟨(bl 32 Y).toArray⟩ ⟨(bl 32 Y).toArray⟩ (nd Y) (nd (mm Y Y)) _ (nd dD) _ _ (nd (axN Y)) (nd (p25519 - axN Y)) W FB BY M1 SU d7_any M2 AD RT NE hi tl.2 CV C31 F31 al.2 CS E0 E9 x0 hpar (sz_nd _) (sz_nd _) (sz_nd _) (sz_nd _)
end Go.Proofs.Ytahnlnflcgehaaa

/-
  What a string of 32 bytes decodes to, by numbers; Decode of package edwards.
-/
import Derived.Test.YtahnlnflcgehaaaJp
import Derived.Stop.BytesEq
namespace Go.Proofs.Ytahnlnflcgehaaa
open Go.RowKit Pri
set_option linter.unusedVariables false
set_option linter.unusedSimpArgs false

theorem toList_arr2 (l : List UInt8) : (⟨l.toArray⟩ : ByteArray).toList = l := (ByteArray.toList_eq _).trans rfl
theorem neq_bytes2 (x y : List UInt8) (hx : x.length = 32) (hy : y.length = 32) (w : World) : (binOp .neq 36 (.agg (bv x).toArray) (.agg (bv y).toArray)).run Try.prog w = .ok (.bool (x != y)) w := by
  have hb : ∀ z : List UInt8, bv z = z.map Extern.Stop.cell := fun z => rfl
  have hsz : ∀ w, (sizeOf 5).run Try.prog w = .ok 1 w := by
    intro w
    have h : (Try.prog.info? 5).map (·.size) = some 1 := by kernel_rfl
    obtain ⟨i0, hi, hz⟩ := Option.map_eq_some_iff.1 h
    simp [sizeOf, typeInfo, hi, hz]
  have h := run_eql_bytes w 36 5 32 Try.underlying36 Try.underlying5 hsz x y hx hy
  rw [← hb, ← hb, run_eql_struct] at h
  rw [run_neq_struct]
  revert h
  cases (Op.equalIn 10000 36 (.agg (bv x).toArray) (.agg (bv y).toArray)).run Try.prog w with
  | ok b w2 =>
    intro h
    simp only [Result.andThen_ok] at h ⊢
    injection h with h1 h2
    injection h1 with h1
    rw [h1, h2]
    rfl
  | halt a b => intro h; simp [Result.andThen] at h
theorem bl_inj {A B : Nat} (hA : A < 115792089237316195423570985008687907853269984665640564039457584007913129639936) (hB : B < 115792089237316195423570985008687907853269984665640564039457584007913129639936) (h : bl 32 A = bl 32 B) : A = B := by
  have e : val 256 (dig 256 A) 32 = val 256 (dig 256 B) 32 := val_congr 256 32 (fun j hj => by
    have h1 := congrArg (fun l : List UInt8 => l.toArray[j]?) h
    replace h1 : (bl 32 A).toArray[j]? = (bl 32 B).toArray[j]? := h1
    rw [bl_at A j hj, bl_at B j hj] at h1
    have h2 := congrArg UInt8.toNat (Option.some.inj h1)
    rwa [tn, tn] at h2)
  rwa [val_dig, val_dig, p256h, Nat.mod_eq_of_lt hA, Nat.mod_eq_of_lt hB] at e
/-- The x that belongs to a y, by numbers, and whether there is one. -/
def axN (Y : Nat) : Nat := rootN (ms (mm Y Y) 1) (ma (mm dD (mm Y Y)) 1)
def axB (Y : Nat) : Bool := rootB (ms (mm Y Y) 1) (ma (mm dD (mm Y Y)) 1)
theorem axN_lt (Y : Nat) : axN Y < p25519 := by
  unfold axN
  rcases rootN_cases (ms (mm Y Y) 1) (ma (mm dD (mm Y Y)) 1) with ⟨_, h, _⟩ | ⟨_, _, h, _⟩ | ⟨_, _, h, _⟩
  · rw [h]; exact Nat.mod_lt _ p_pos
  · rw [h]; exact Nat.mod_lt _ p_pos
  · rw [h]; exact p_pos
/-- What Decode finds: the x of the point, if there is a point. -/
def dcode (Y c : Nat) : Option Nat := if p25519 ≤ Y then none else if axB Y = false then none else if axN Y % 2 = c then some (axN Y) else if axN Y = 0 then none else some (p25519 - axN Y)
theorem dcode_bad {Y c : Nat} (h : p25519 ≤ Y) : dcode Y c = none := by unfold dcode; rw [if_pos h]
theorem dcode_none {Y c : Nat} (h : ¬ p25519 ≤ Y) (hb : axB Y = false) : dcode Y c = none := by unfold dcode; rw [if_neg h, if_pos hb]
theorem dcode_keep {Y c : Nat} (h : ¬ p25519 ≤ Y) (hb : axB Y = true) (hx : axN Y % 2 = c) : dcode Y c = some (axN Y) := by unfold dcode; rw [if_neg h, if_neg (by rw [hb]; decide), if_pos hx]
theorem dcode_zero {Y c : Nat} (h : ¬ p25519 ≤ Y) (hx : ¬ axN Y % 2 = c) (hz : axN Y = 0) : dcode Y c = none := by
  unfold dcode; rw [if_neg h]; by_cases hb : axB Y = false; · rw [if_pos hb]
  rw [if_neg hb, if_neg hx, if_pos hz]
theorem dcode_neg {Y c : Nat} (h : ¬ p25519 ≤ Y) (hb : axB Y = true) (hx : ¬ axN Y % 2 = c) (hz : ¬ axN Y = 0) : dcode Y c = some (p25519 - axN Y) := by unfold dcode; rw [if_neg h, if_neg (by rw [hb]; decide), if_neg hx, if_neg hz]
theorem p_odd2 : p25519 % 2 = 1 := by decide +kernel
theorem and_top : ∀ z, z < 128 → bits .and .u8 (((z : Nat)) : Int) 128 = 0 ∧ bits .and .u8 ((z + 128 : Nat) : Int) 128 = 128 ∧ bits .andNot .u8 ((z : Nat) : Int) 128 = ((z : Nat) : Int) ∧ bits .andNot .u8 ((z + 128 : Nat) : Int) 128 = ((z : Nat) : Int) := by decide +kernel
theorem one_lt : 1 < 115792089237316195423570985008687907853269984665640564039457584007913129639936 := by decide
theorem across_ans (Y : Nat) (hY : Y < 115792089237316195423570985008687907853269984665640564039457584007913129639936) : Ans Try.prog 105 #[.agg (nc Y)] (.tuple #[.agg (nc (axN Y)), .bool (axB Y)]) := fun W =>
  across_op _ (nc Y) (nc 1) (nc (mm Y Y)) _ (nc dD) _ _ _ W small_one (mul_ans Y Y hY hY) (sub_ans _ _ (mmP _ _) one_lt) bend_any (mul_ans _ _ dD_lt (mmP _ _)) (add_ans _ _ (mmP _ _) one_lt) (fun W => froot_any _ _ (msP _ _) (maP _ _) W) (sz_nc _) (sz_nc _) (sz_nc _) (sz_nc _)
def dpv (Y c : Nat) : Value := match dcode Y c with
  | some x => .tuple #[.agg (pq x (ms Y 1)), .int .i64 0]
  | none => .tuple #[.agg #[.int .u64 0, .int .u64 0, .int .u64 0, .int .u64 0, .int .u64 0, .int .u64 0, .int .u64 0, .int .u64 0], .int .i64 15]
theorem dpv_none {Y c : Nat} (h : dcode Y c = none) : dpv Y c = .tuple #[.agg #[.int .u64 0, .int .u64 0, .int .u64 0, .int .u64 0, .int .u64 0, .int .u64 0, .int .u64 0, .int .u64 0], .int .i64 15] := by unfold dpv; rw [h]
theorem dpv_some {Y c x : Nat} (h : dcode Y c = some x) : dpv Y c = .tuple #[.agg (pq x (ms Y 1)), .int .i64 0] := by unfold dpv; rw [h]
set_option maxRecDepth 100000 in
theorem decode_ans0 (Y : Nat) (hY : Y < 57896044618658097711785492504343953926634992332820282019728792003956564819968) : Ans Try.prog 70 #[.agg (bv (bl 32 (Y + 57896044618658097711785492504343953926634992332820282019728792003956564819968 * 0))).toArray] (dpv Y 0) := fun W => by
  obtain ⟨z1, z2⟩ := high_byte Y hY
  have t1 := and_top (Y / 256 ^ 31 % 256) z1
  have hYP : Y < 115792089237316195423570985008687907853269984665640564039457584007913129639936 := Nat.lt_trans hY (by decide)
  have h31 := bl_cell (Y + 57896044618658097711785492504343953926634992332820282019728792003956564819968 * 0) 31 (by decide)
  have hz : (Y + 57896044618658097711785492504343953926634992332820282019728792003956564819968 * 0) / 256 ^ 31 % 256 = Y / 256 ^ 31 % 256 := by rw [Nat.mul_zero, Nat.add_zero]
  rw [hz] at h31
  have hB : ((bv (bl 32 (Y + 57896044618658097711785492504343953926634992332820282019728792003956564819968 * 0))).toArray).setIfInBounds 31 (.int .u8 ((Y / 256 ^ 31 % 256 : Nat) : Int)) = (bv (bl 32 Y)).toArray := cells_u8 _ Y 31 _ (by decide) rfl (fun j hj hn => low_byte Y 0 j (by omega))
  have OF : Ans Try.prog 29 #[.agg (bv (bl 32 Y)).toArray] (.agg (nc (Y % p25519))) := fun W => by
    have := fof_any Y hYP W
    rwa [Nat.mod_eq_of_lt hY] at this
  have BY : Ans Try.prog 28 #[.agg (nc (Y % p25519))] (.agg (bv (bl 32 (Y % p25519))).toArray) := fun W => by
    have := fbytes_any (Y % p25519) (mod_p_lt _) W
    rwa [Nat.mod_mod] at this
  have E0 := fun W : World => neq_bytes2 (bl 32 (Y % p25519)) (bl 32 Y) (bl_length _ _) (bl_length _ _) W
  by_cases hp : p25519 ≤ Y
  · have hne : (bl 32 (Y % p25519) != bl 32 Y) = true := by
      rw [bne_iff_ne]
      intro e
      have e1 := bl_inj (mod_p_lt _) hYP e
      have e2 := Nat.mod_lt Y p_pos
      omega
    rw [hne] at E0
    rw [dpv_none (dcode_bad hp)]
    exact dec_bad0 (Y / 256 ^ 31 % 256) (Y / 256 ^ 31 % 256) ((bv (bl 32 (Y + 57896044618658097711785492504343953926634992332820282019728792003956564819968 * 0))).toArray) ((bv (bl 32 Y)).toArray) (nc (Y % p25519)) ((bv (bl 32 (Y % p25519))).toArray) (nc 0) (nc 0) (pq 0 0) W OF BY h31 t1.1 t1.2.2.1 hB E0 (sz_bl _) (sz_bl _) (sz_nc _) (sz_nc _) (sz_nc _) (sz_pq _ _)
  have hq : Y % p25519 = Y := Nat.mod_eq_of_lt (Nat.lt_of_not_le hp)
  rw [hq] at OF BY E0
  have hne : (bl 32 Y != bl 32 Y) = false := by simp
  rw [hne] at E0
  have AC := across_ans Y hYP
  have hx := axN_lt Y
  have hxP := Nat.lt_trans hx p_lt
  have OX := fun W : World => fodd_any (axN Y) hxP W
  rw [Nat.mod_eq_of_lt hx] at OX
  cases hb : axB Y
  · rw [hb] at AC
    rw [dpv_none (dcode_none hp hb)]
    exact dec_none0 (Y / 256 ^ 31 % 256) (Y / 256 ^ 31 % 256) ((bv (bl 32 (Y + 57896044618658097711785492504343953926634992332820282019728792003956564819968 * 0))).toArray) ((bv (bl 32 Y)).toArray) (nc Y) ((bv (bl 32 Y)).toArray) (nc (axN Y)) (nc 0) (pq 0 0) W OF BY AC h31 t1.1 t1.2.2.1 hB E0 (sz_bl _) (sz_bl _) (sz_nc _) (sz_nc _) (sz_nc _) (sz_pq _ _)
  rw [hb] at AC
  have m2 : axN Y % 2 < 2 := Nat.mod_lt _ (by decide)
  by_cases ho : axN Y % 2 = 0
  · rw [show decide (axN Y % 2 = 1) = false from by rw [ho]; rfl] at OX
    rw [dpv_some (dcode_keep hp hb ho)]
    exact dec_keep0 (Y / 256 ^ 31 % 256) (Y / 256 ^ 31 % 256) ((bv (bl 32 (Y + 57896044618658097711785492504343953926634992332820282019728792003956564819968 * 0))).toArray) ((bv (bl 32 Y)).toArray) (nc Y) ((bv (bl 32 Y)).toArray) (nc (axN Y)) (nc 0) _ W OF BY AC OX (pair_ans (axN Y) Y hYP) h31 t1.1 t1.2.2.1 hB E0 (sz_bl _) (sz_bl _) (sz_nc _) (sz_nc _) (sz_nc _) (sz_pq _ _)
  rw [show decide (axN Y % 2 = 1) = true from by rw [show axN Y % 2 = 1 by omega]; rfl] at OX
  have NE := fun W : World => fneg_any (axN Y) hxP W
  rw [Nat.mod_eq_of_lt hx] at NE
  by_cases h0 : axN Y = 0
  · exact absurd (by rw [h0]) ho
  have hl : p25519 - axN Y < p25519 := by omega
  rw [Nat.mod_eq_of_lt hl] at NE
  have ON := fun W : World => fodd_any (p25519 - axN Y) (Nat.lt_trans hl p_lt) W
  have hpo := p_odd2
  rw [Nat.mod_eq_of_lt hl, show decide ((p25519 - axN Y) % 2 = 1) = false from by rw [show (p25519 - axN Y) % 2 = 0 by omega]; rfl] at ON
  rw [dpv_some (dcode_neg hp hb ho h0)]
  exact dec_neg0 (Y / 256 ^ 31 % 256) (Y / 256 ^ 31 % 256) ((bv (bl 32 (Y + 57896044618658097711785492504343953926634992332820282019728792003956564819968 * 0))).toArray) ((bv (bl 32 Y)).toArray) (nc Y) ((bv (bl 32 Y)).toArray) (nc (axN Y)) (nc (p25519 - axN Y)) _ W OF BY AC OX NE ON (pair_ans (p25519 - axN Y) Y hYP) h31 t1.1 t1.2.2.1 hB E0 (sz_bl _) (sz_bl _) (sz_nc _) (sz_nc _) (sz_nc _) (sz_pq _ _)
set_option maxRecDepth 100000 in
theorem decode_ans1 (Y : Nat) (hY : Y < 57896044618658097711785492504343953926634992332820282019728792003956564819968) : Ans Try.prog 70 #[.agg (bv (bl 32 (Y + 57896044618658097711785492504343953926634992332820282019728792003956564819968 * 1))).toArray] (dpv Y 1) := fun W => by
  obtain ⟨z1, z2⟩ := high_byte Y hY
  have t1 := and_top (Y / 256 ^ 31 % 256) z1
  have hYP : Y < 115792089237316195423570985008687907853269984665640564039457584007913129639936 := Nat.lt_trans hY (by decide)
  have h31 := bl_cell (Y + 57896044618658097711785492504343953926634992332820282019728792003956564819968 * 1) 31 (by decide)
  have hz : (Y + 57896044618658097711785492504343953926634992332820282019728792003956564819968 * 1) / 256 ^ 31 % 256 = Y / 256 ^ 31 % 256 + 128 := z2
  rw [hz] at h31
  have hB : ((bv (bl 32 (Y + 57896044618658097711785492504343953926634992332820282019728792003956564819968 * 1))).toArray).setIfInBounds 31 (.int .u8 ((Y / 256 ^ 31 % 256 : Nat) : Int)) = (bv (bl 32 Y)).toArray := cells_u8 _ Y 31 _ (by decide) rfl (fun j hj hn => low_byte Y 1 j (by omega))
  have OF : Ans Try.prog 29 #[.agg (bv (bl 32 Y)).toArray] (.agg (nc (Y % p25519))) := fun W => by
    have := fof_any Y hYP W
    rwa [Nat.mod_eq_of_lt hY] at this
  have BY : Ans Try.prog 28 #[.agg (nc (Y % p25519))] (.agg (bv (bl 32 (Y % p25519))).toArray) := fun W => by
    have := fbytes_any (Y % p25519) (mod_p_lt _) W
    rwa [Nat.mod_mod] at this
  have E0 := fun W : World => neq_bytes2 (bl 32 (Y % p25519)) (bl 32 Y) (bl_length _ _) (bl_length _ _) W
  by_cases hp : p25519 ≤ Y
  · have hne : (bl 32 (Y % p25519) != bl 32 Y) = true := by
      rw [bne_iff_ne]
      intro e
      have e1 := bl_inj (mod_p_lt _) hYP e
      have e2 := Nat.mod_lt Y p_pos
      omega
    rw [hne] at E0
    rw [dpv_none (dcode_bad hp)]
    exact dec_bad1 (Y / 256 ^ 31 % 256 + 128) (Y / 256 ^ 31 % 256) ((bv (bl 32 (Y + 57896044618658097711785492504343953926634992332820282019728792003956564819968 * 1))).toArray) ((bv (bl 32 Y)).toArray) (nc (Y % p25519)) ((bv (bl 32 (Y % p25519))).toArray) (nc 0) (nc 0) (pq 0 0) W OF BY h31 t1.2.1 t1.2.2.2 hB E0 (sz_bl _) (sz_bl _) (sz_nc _) (sz_nc _) (sz_nc _) (sz_pq _ _)
  have hq : Y % p25519 = Y := Nat.mod_eq_of_lt (Nat.lt_of_not_le hp)
  rw [hq] at OF BY E0
  have hne : (bl 32 Y != bl 32 Y) = false := by simp
  rw [hne] at E0
  have AC := across_ans Y hYP
  have hx := axN_lt Y
  have hxP := Nat.lt_trans hx p_lt
  have OX := fun W : World => fodd_any (axN Y) hxP W
  rw [Nat.mod_eq_of_lt hx] at OX
  cases hb : axB Y
  · rw [hb] at AC
    rw [dpv_none (dcode_none hp hb)]
    exact dec_none1 (Y / 256 ^ 31 % 256 + 128) (Y / 256 ^ 31 % 256) ((bv (bl 32 (Y + 57896044618658097711785492504343953926634992332820282019728792003956564819968 * 1))).toArray) ((bv (bl 32 Y)).toArray) (nc Y) ((bv (bl 32 Y)).toArray) (nc (axN Y)) (nc 0) (pq 0 0) W OF BY AC h31 t1.2.1 t1.2.2.2 hB E0 (sz_bl _) (sz_bl _) (sz_nc _) (sz_nc _) (sz_nc _) (sz_pq _ _)
  rw [hb] at AC
  have m2 : axN Y % 2 < 2 := Nat.mod_lt _ (by decide)
  by_cases ho : axN Y % 2 = 1
  · rw [show decide (axN Y % 2 = 1) = true from by rw [ho]; rfl] at OX
    rw [dpv_some (dcode_keep hp hb ho)]
    exact dec_keep1 (Y / 256 ^ 31 % 256 + 128) (Y / 256 ^ 31 % 256) ((bv (bl 32 (Y + 57896044618658097711785492504343953926634992332820282019728792003956564819968 * 1))).toArray) ((bv (bl 32 Y)).toArray) (nc Y) ((bv (bl 32 Y)).toArray) (nc (axN Y)) (nc 0) _ W OF BY AC OX (pair_ans (axN Y) Y hYP) h31 t1.2.1 t1.2.2.2 hB E0 (sz_bl _) (sz_bl _) (sz_nc _) (sz_nc _) (sz_nc _) (sz_pq _ _)
  rw [show decide (axN Y % 2 = 1) = false from by rw [show axN Y % 2 = 0 by omega]; rfl] at OX
  have NE := fun W : World => fneg_any (axN Y) hxP W
  rw [Nat.mod_eq_of_lt hx] at NE
  by_cases h0 : axN Y = 0
  · have hn : (p25519 - axN Y) % p25519 = 0 := by rw [h0, Nat.sub_zero, Nat.mod_self]
    rw [hn] at NE
    have ON := fun W : World => fodd_any 0 (by decide) W
    rw [show decide (0 % p25519 % 2 = 1) = false from by rw [Nat.zero_mod]; rfl] at ON
    rw [dpv_none (dcode_zero hp ho h0)]
    exact dec_zero1 (Y / 256 ^ 31 % 256 + 128) (Y / 256 ^ 31 % 256) ((bv (bl 32 (Y + 57896044618658097711785492504343953926634992332820282019728792003956564819968 * 1))).toArray) ((bv (bl 32 Y)).toArray) (nc Y) ((bv (bl 32 Y)).toArray) (nc (axN Y)) (nc 0) (pq 0 0) W OF BY AC OX NE ON h31 t1.2.1 t1.2.2.2 hB E0 (sz_bl _) (sz_bl _) (sz_nc _) (sz_nc _) (sz_nc _) (sz_pq _ _)
  have hl : p25519 - axN Y < p25519 := by omega
  rw [Nat.mod_eq_of_lt hl] at NE
  have ON := fun W : World => fodd_any (p25519 - axN Y) (Nat.lt_trans hl p_lt) W
  have hpo := p_odd2
  rw [Nat.mod_eq_of_lt hl, show decide ((p25519 - axN Y) % 2 = 1) = true from by rw [show (p25519 - axN Y) % 2 = 1 by omega]; rfl] at ON
  rw [dpv_some (dcode_neg hp hb ho h0)]
  exact dec_neg1 (Y / 256 ^ 31 % 256 + 128) (Y / 256 ^ 31 % 256) ((bv (bl 32 (Y + 57896044618658097711785492504343953926634992332820282019728792003956564819968 * 1))).toArray) ((bv (bl 32 Y)).toArray) (nc Y) ((bv (bl 32 Y)).toArray) (nc (axN Y)) (nc (p25519 - axN Y)) _ W OF BY AC OX NE ON (pair_ans (p25519 - axN Y) Y hYP) h31 t1.2.1 t1.2.2.2 hB E0 (sz_bl _) (sz_bl _) (sz_nc _) (sz_nc _) (sz_nc _) (sz_pq _ _)
end Go.Proofs.Ytahnlnflcgehaaa

/-
  EdwardsTimes and EdwardsAdds are true of all numbers.
-/
import Derived.Test.YtahnlnflcgehaaaJx
namespace Go.Proofs.Ytahnlnflcgehaaa
open Go.RowKit Pri
set_option linter.unusedVariables false
set_option linter.unusedSimpArgs false

theorem bl_zero : (bv (bl 32 0)).toArray = #[.int .u8 0, .int .u8 0, .int .u8 0, .int .u8 0, .int .u8 0, .int .u8 0, .int .u8 0, .int .u8 0, .int .u8 0, .int .u8 0, .int .u8 0, .int .u8 0, .int .u8 0, .int .u8 0, .int .u8 0, .int .u8 0, .int .u8 0, .int .u8 0, .int .u8 0, .int .u8 0, .int .u8 0, .int .u8 0, .int .u8 0, .int .u8 0, .int .u8 0, .int .u8 0, .int .u8 0, .int .u8 0, .int .u8 0, .int .u8 0, .int .u8 0, .int .u8 0] := by kernel_rfl
theorem yes_same (P : Fp × Fp) : Ans Try.prog 68 #[.agg (pv P), .agg (pv P)] (.bool true) := same_pv P P true ⟨fun _ => rfl, fun _ => rfl⟩
theorem decode_all (Y c : Nat) (hY : Y < 57896044618658097711785492504343953926634992332820282019728792003956564819968) (hc : c < 2) : Ans Try.prog 70 #[.agg (bv (bl 32 (Y + 57896044618658097711785492504343953926634992332820282019728792003956564819968 * c))).toArray] (dpv Y c) := by
  rcases (show c = 0 ∨ c = 1 by omega) with h | h
  · subst h; exact decode_ans0 Y hY
  · subst h; exact decode_ans1 Y hY
theorem decode7_all (Y c : Nat) (hY : Y < 57896044618658097711785492504343953926634992332820282019728792003956564819968) (hc : c < 2) : Ans Try.prog 71 #[.string ⟨(bl 32 (Y + 57896044618658097711785492504343953926634992332820282019728792003956564819968 * c)).toArray⟩] (rpv Y c) := by
  rcases (show c = 0 ∨ c = 1 by omega) with h | h
  · subst h; exact decode7_ans0 Y hY
  · subst h; exact decode7_ans1 Y hY
theorem str_of_zero (W : World) (g : Nat) (h : W.heap[g]? = some (.cells #[.int .u8 0, .int .u8 0, .int .u8 0, .int .u8 0, .int .u8 0, .int .u8 0, .int .u8 0, .int .u8 0, .int .u8 0, .int .u8 0, .int .u8 0, .int .u8 0, .int .u8 0, .int .u8 0, .int .u8 0, .int .u8 0, .int .u8 0, .int .u8 0, .int .u8 0, .int .u8 0, .int .u8 0, .int .u8 0, .int .u8 0, .int .u8 0, .int .u8 0, .int .u8 0, .int .u8 0, .int .u8 0, .int .u8 0, .int .u8 0, .int .u8 0, .int .u8 0] 5 (0, 0))) : (convert 40 9 (.slice (some ⟨g, 0, none⟩) 32 32)).run Try.prog W = .ok (.string ⟨(bl 32 0).toArray⟩) W := by
  rw [← bl_zero] at h
  have hl : Lies W (some ⟨g, 0, none⟩) (bl 32 0) := Or.inr ⟨g, 0, rfl, fun j hj => by
    rw [Nat.zero_add, cell_of_block h]
    simpa using bv_get' (bl 32 0) j hj⟩
  have := run_str hl 32 9 Try.underlying9
  rwa [bl_length] at this
theorem tmod_beq (s : Nat) (b : Bool) (h : (s % 2 == 1) = b) : ((s : Int).tmod 2 == 1) = b ∧ ((s : Int) % 2 == 1) = b := by
  have e : (s : Int).tmod 2 = ((s % 2 : Nat) : Int) := by rw [Int.tmod_eq_emod_of_nonneg (by omega)]; simp
  have e2 : (s : Int) % 2 = ((s % 2 : Nat) : Int) := by simp
  rw [e, e2, ← h]
  have : s % 2 = 0 ∨ s % 2 = 1 := by omega
  rcases this with h | h <;> rw [h] <;> exact ⟨rfl, rfl⟩
theorem pair_all (X : Nat) (hX : X < 115792089237316195423570985008687907853269984665640564039457584007913129639936) (s : Nat) (hs : s < 256) :
    ∃ P q, RW P q ∧ Ans Try.prog 56 #[.agg (bv (bl 32 X)).toArray, .int .u8 (s : Int)] (.tuple #[.agg (pv P), .agg (rqq q)]) := by
  obtain ⟨hr, hR⟩ := rtimes_rw RW_base X hX
  have hp := ptimes_pv bB bB_on X hX
  have on := hr.1
  by_cases h : s % 2 = 1
  · have hb : (s % 2 == 1) = true := by rw [h]; rfl
    obtain ⟨t1, t2⟩ := tmod_beq s true hb
    obtain ⟨y0, hy⟩ : ∃ y : Nat, y = 0 := ⟨0, rfl⟩
    have D1 := decode_all y0 y0 (by rw [hy]; decide) (by rw [hy]; decide)
    have D2 := decode7_all y0 y0 (by rw [hy]; decide) (by rw [hy]; decide)
    have e1 : y0 + 57896044618658097711785492504343953926634992332820282019728792003956564819968 * y0 = 0 := by rw [hy]
    rw [e1, bl_zero] at D1
    rw [e1] at D2
    have hc2 : y0 < 2 := by rw [hy]; decide
    clear e1 hy
    cases hd : dcode y0 y0 with
    | none =>
      rw [dpv_none hd] at D1
      rw [rpv_none hd] at D2
      exact ⟨_, _, hr, fun W => pair_none s ⟨(bl 32 X).toArray⟩ ⟨(bl 32 0).toArray⟩ _ _ _ _ _ (pq 0 0) (rqq ⟨0, 0, 0⟩) (pv bB) (rqq ⟨0, 0, 0⟩) W base_pv hp base7_ans hR D1 D2 (fun W g => str_of_bl _ W g) str_of_zero t1 hs hb t2 (sz_bl _) (sz_pv _) (sz_rqq _) (sz_pq _ _) (sz_rqq _) (sz_pv _) (sz_rqq _)⟩
    | some x =>
      obtain ⟨P0, on0, h1, h2, h3⟩ := dcode_pt hc2 hd
      rw [dpv_some hd, h1] at D1
      have D3 : Ans Try.prog 71 #[.string ⟨(bl 32 0).toArray⟩] (.tuple #[.agg (rqq ⟨x, y0, 1⟩), .int .i64 0]) := by
        have e : rpv y0 y0 = .tuple #[.agg (rqq ⟨x, y0, 1⟩), .int .i64 0] := by unfold rpv; rw [hd]; rfl
        rw [e] at D2
        exact D2
      exact ⟨_, _, hr.add h2, fun W => pair_odd s ⟨(bl 32 X).toArray⟩ ⟨(bl 32 0).toArray⟩ _ _ _ _ _ _ _ _ _ W base_pv hp base7_ans hR D1 D3 (padd_pv _ _ on on0) (radd_ans _ _ hr.2.2 h2.2.2) (fun W g => str_of_bl _ W g) str_of_zero t1 hs hb t2 (sz_bl _) (sz_pv _) (sz_rqq _) (sz_pv _) (sz_rqq _) (sz_pv _) (sz_rqq _)⟩
  · have hb : (s % 2 == 1) = false := by rw [beq_eq_false_iff_ne]; exact h
    obtain ⟨t1, t2⟩ := tmod_beq s false hb
    exact ⟨_, _, hr, fun W => pair_even s ⟨(bl 32 X).toArray⟩ ⟨(bl 32 0).toArray⟩ _ _ _ _ _ (pv bB) (rqq ⟨0, 0, 0⟩) (pv bB) (rqq ⟨0, 0, 0⟩) W base_pv hp base7_ans hR (fun W g => str_of_bl _ W g) str_of_zero t1 hs hb t2 (sz_bl _) (sz_pv _) (sz_rqq _) (sz_pv _) (sz_rqq _) (sz_pv _) (sz_rqq _)⟩
theorem mm_bb : ms5 (mm bY bY) (mm bX bX) = ma 1 (mm dD (mm (mm bX bX) (mm bY bY))) := by decide +kernel
theorem mm_five : mm bY 5 = 4 := by decide +kernel
theorem mm_d : mm dD 121666 = (p25519 - 121665) % p25519 := by decide +kernel
theorem n_121666 : nd 121666 = #[.int .i64 56130, .int .i64 1, .int .i64 0, .int .i64 0, .int .i64 0, .int .i64 0, .int .i64 0, .int .i64 0, .int .i64 0, .int .i64 0, .int .i64 0, .int .i64 0, .int .i64 0, .int .i64 0, .int .i64 0, .int .i64 0] := by kernel_rfl
theorem n_121665 : nd 121665 = #[.int .i64 56129, .int .i64 1, .int .i64 0, .int .i64 0, .int .i64 0, .int .i64 0, .int .i64 0, .int .i64 0, .int .i64 0, .int .i64 0, .int .i64 0, .int .i64 0, .int .i64 0, .int .i64 0, .int .i64 0, .int .i64 0] := by kernel_rfl
theorem n_five : nd 5 = #[.int .i64 5, .int .i64 0, .int .i64 0, .int .i64 0, .int .i64 0, .int .i64 0, .int .i64 0, .int .i64 0, .int .i64 0, .int .i64 0, .int .i64 0, .int .i64 0, .int .i64 0, .int .i64 0, .int .i64 0, .int .i64 0] := by kernel_rfl
theorem n_four : nd 4 = #[.int .i64 4, .int .i64 0, .int .i64 0, .int .i64 0, .int .i64 0, .int .i64 0, .int .i64 0, .int .i64 0, .int .i64 0, .int .i64 0, .int .i64 0, .int .i64 0, .int .i64 0, .int .i64 0, .int .i64 0, .int .i64 0] := by kernel_rfl
theorem n_one : nd 1 = #[.int .i64 1, .int .i64 0, .int .i64 0, .int .i64 0, .int .i64 0, .int .i64 0, .int .i64 0, .int .i64 0, .int .i64 0, .int .i64 0, .int .i64 0, .int .i64 0, .int .i64 0, .int .i64 0, .int .i64 0, .int .i64 0] := by kernel_rfl
theorem bX_ltp : bX < p25519 := by decide +kernel
theorem bY_ltp : bY < p25519 := by decide +kernel
theorem lt_6 : 121666 < p25519 := by decide +kernel
theorem lt_5 : 121665 < p25519 := by decide +kernel
theorem lt5 : 5 < p25519 := by decide +kernel
theorem lt1 : 1 < p25519 := by decide +kernel
theorem eq_nd (X : Nat) (h : X < p25519) (W : World) : (binOp .eql 26 (.agg (nd X)) (.agg (nd X))).run Try.prog W = .ok (.bool true) W := by
  have := eql_nd5 X X (P_of h) (P_of h) W
  rwa [decide_eq_true rfl] at this
theorem right_all : Ans Try.prog 58 #[] (.bool true) := fun W => by
  have M3 := mul5_ans dD 121666 dD_ltp lt_6
  have NE := fun V => neg5_any 121665 (Nat.le_of_lt lt_5) V
  have M4 := mul5_ans bY 5 bY_ltp lt5
  have AD := add5_ans 1 (mm dD (mm (mm bX bX) (mm bY bY))) lt1 (mm_lt _ _)
  rw [n_121666] at M3
  rw [n_121665] at NE
  rw [n_five, mm_five] at M4
  rw [n_one] at AD
  have E2 := fun W => eq_nd 4 (Nat.lt_trans (by decide) lt5) W
  have E1 := fun W => eq_nd (mm dD 121666) (mm_lt _ _) W
  have E3 := fun W => eq_nd (ms5 (mm bY bY) (mm bX bX)) (ms5_lt _ _) W
  rw [n_four] at E2 M4
  refine right_op (bX % 65536) (rqq ⟨bX, bY, 1⟩) (nd bX) (nd bY) (nd (mm bY bY)) (nd (mm bX bX)) (nd dD) (nd (mm dD 121666)) _ _ (nd (ms5 (mm bY bY) (mm bX bX))) (nd (mm (mm bX bX) (mm bY bY))) (nd (mm dD (mm (mm bX bX) (mm bY bY)))) _ W base7_ans (mul5_ans bY bY bY_ltp bY_ltp) (mul5_ans bX bX bX_ltp bX_ltp) (fun V => d7_any V) M3 NE M4 (sub5_ans _ _ (mm_lt _ _) (mm_lt _ _)) (mul5_ans _ _ (mm_lt _ _) (mm_lt _ _)) (mul5_ans dD _ dD_ltp (mm_lt _ _)) AD (part3_0 _ _ _) (part3_1 (sz_nd _) _ _) ?_ (by decide +kernel) ?_ E2 ?_ (sz_rqq _) (sz_nd _) (sz_nd _) (sz_nd _) (sz_nd _)
  · show (cat3 (nd bX) (nd bY) (nd 1))[0]? = _
    rw [nd_bX]; rfl
  · intro V
    rw [← mm_d]
    exact E1 V
  · intro V
    rw [← mm_bb]
    exact E3 V
theorem etimes_any (l m : List UInt8) (hl : l.length = 32) (hm : m.length = 32) (z : Int) (h0 : 0 ≤ z) (h1 : z < 256) (w : World) :
    Calls Try.prog 10 #[.agg (bv l).toArray, .agg (bv m).toArray, .int .u8 z] w fun e w' => e = .returned (.bool true) ∧ Fr (fun _ => False) w w' := by
  obtain ⟨s, rfl⟩ := Int.eq_ofNat_of_zero_le h0
  obtain ⟨X, hX, rfl⟩ := of_bytes l hl
  obtain ⟨Y, hY, rfl⟩ := of_bytes m hm
  obtain ⟨P, q, hq, PA⟩ := pair_all X hX s (by omega)
  obtain ⟨hr, hR⟩ := rtimes_rw hq Y hY
  exact etimes_op s ⟨(bl 32 Y).toArray⟩ _ _ (pv P) (rqq q) _ _ w PA bases_any right_all (same7_any hq) (ptimes_pv P hq.1 Y hY) hR (same7_any hr) (fun W g => str_of_bl _ W g) (sz_bl _) (sz_bl _) (sz_pv _) (sz_rqq _)
theorem zero_times (n : Nat) : Cv.times cC Cv.zero n = Cv.zero := by
  induction n with
  | zero => rfl
  | succ n ih =>
    have := Cv.times_add cC (Cv.on_zero cC) n 1
    rw [this, ih, Cv.zero_add]
    show Cv.times cC Cv.zero 1 = Cv.zero
    have h1 : Cv.times cC Cv.zero (0 + 1) = Cv.add cC (Cv.times cC Cv.zero 0) Cv.zero := rfl
    rw [show (1 : Nat) = 0 + 1 from rfl, h1]
    show Cv.add cC Cv.zero Cv.zero = Cv.zero
    exact Cv.add_zero cC _
theorem eadds_any (l m : List UInt8) (hl : l.length = 32) (hm : m.length = 32) (z : Int) (h0 : 0 ≤ z) (h1 : z < 256) (w : World) :
    Calls Try.prog 11 #[.agg (bv l).toArray, .agg (bv m).toArray, .int .u8 z] w fun e w' => e = .returned (.bool true) ∧ Fr (fun _ => False) w w' := by
  obtain ⟨s, rfl⟩ := Int.eq_ofNat_of_zero_le h0
  obtain ⟨X, hX, rfl⟩ := of_bytes l hl
  obtain ⟨Y, hY, rfl⟩ := of_bytes m hm
  obtain ⟨P, q, hq, PA⟩ := pair_all X hX s (by omega)
  obtain ⟨Q, r, hr, PB⟩ := pair_all Y hY (s / 2) (by omega)
  have d1 : ((s : Nat) : Int).tdiv 2 = ((s / 2 : Nat) : Int) := by rw [Int.tdiv_eq_ediv_of_nonneg (by omega)]; simp
  have d3 : ((s : Nat) : Int) / 2 = ((s / 2 : Nat) : Int) := by simp
  obtain ⟨nq, NQ⟩ := hq.neg
  obtain ⟨r8, e8, E8⟩ := hq.eight
  have oz := Cv.on_zero cC
  have Z1 := padd_pv P Cv.zero hq.1 oz
  have Z2 := padd_pv P (Cv.neg P) hq.1 (Cv.on_neg cC hq.1)
  have Z3 := peight_pv Cv.zero oz
  have Z4 := ptimes_pv Cv.zero oz Y hY
  have X4 := yes_same Cv.zero
  rw [Cv.add_zero, pv_zero] at Z1
  rw [Cv.add_neg cC hq.1, pv_zero] at Z2
  rw [zero_times, pv_zero] at Z3 Z4
  rw [pv_zero] at X4
  by_cases h : P = Q
  · exact eadds_true s (s / 2) _ _ (pv P) (rqq q) (pv Q) (rqq r) _ _ _ _ _ _ _ _ w PA PB bases_any (padd_pv P Q hq.1 hr.1) (radd_ans _ _ hq.2.2 hr.2.2) (same7_any (hq.add hr)) (pneg_pv P) NQ (same7_any nq) (peight_pv P hq.1) E8 (same7_any e8) (padd_pv P P hq.1 hq.1) (radd_ans _ _ hq.2.2 hq.2.2) (same7_any (hq.add hq)) (same_pv P Q true ⟨fun _ => h, fun _ => rfl⟩) (hq.same hr true ⟨fun _ => h, fun _ => rfl⟩) Z1 (yes_same P) Z2 X4 Z3 Z4 d1 rfl d3 (by omega) (sz_bl _) (sz_bl _) (sz_pv _) (sz_rqq _) (sz_pv _) (sz_rqq _)
  · exact eadds_false s (s / 2) _ _ (pv P) (rqq q) (pv Q) (rqq r) _ _ _ _ _ _ _ _ w PA PB bases_any (padd_pv P Q hq.1 hr.1) (radd_ans _ _ hq.2.2 hr.2.2) (same7_any (hq.add hr)) (pneg_pv P) NQ (same7_any nq) (peight_pv P hq.1) E8 (same7_any e8) (padd_pv P P hq.1 hq.1) (radd_ans _ _ hq.2.2 hq.2.2) (same7_any (hq.add hq)) (same_pv P Q false ⟨fun e => (by cases e), fun e => absurd e h⟩) (hq.same hr false ⟨fun e => (by cases e), fun e => absurd e h⟩) Z1 (yes_same P) Z2 X4 Z3 Z4 d1 rfl d3 (by omega) (sz_bl _) (sz_bl _) (sz_pv _) (sz_rqq _) (sz_pv _) (sz_rqq _)
end Go.Proofs.Ytahnlnflcgehaaa

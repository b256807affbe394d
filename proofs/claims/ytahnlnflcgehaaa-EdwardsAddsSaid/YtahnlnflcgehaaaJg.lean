/-
  So often a point; the base; a point's bytes.
-/
import Derived.Test.YtahnlnflcgehaaaJf
namespace Go.Proofs.Ytahnlnflcgehaaa
open Go.RowKit Pri
set_option linter.unusedVariables false
set_option linter.unusedSimpArgs false

/-- The program's few multiples, and its sum from the highest four bits on. -/
def few (q : W4) : Nat → W4
  | 0 => widen 0 0
  | j + 1 => waddn (few q j) q
def tacc (q : W4) (X : Nat) : Nat → W4
  | 0 => few q 0
  | d + 1 => waddn (waddn (weightn (tacc q X d)) (weightn (tacc q X d))) (few q (X / 16 ^ (63 - d) % 16))
theorem few_ok (q : W4) : ∀ j, (few q j).ok
  | 0 => widen_ok 0 0 (by decide)
  | _ + 1 => waddn_ok _ _
theorem tacc_ok (q : W4) (X : Nat) : ∀ d, (tacc q X d).ok
  | 0 => few_ok q 0
  | _ + 1 => waddn_ok _ _
theorem val_zero : ((0 : Fp)).val = 0 := by rw [← fv_zero, fv_val, Nat.zero_mod]
theorem px_zero : px Cv.zero = 0 := val_zero
theorem pr_zero : pr Cv.zero = 0 := by
  show ((1 : Fp) - 1).val = 0
  have sub_same : ∀ a : Fp, a - a = 0 := fun a => by grind
  have : (1 : Fp) - 1 = 0 := sub_same 1
  rw [this]; exact val_zero
theorem few_pw {P : Fp × Fp} {q : W4} (h : PW P q) : ∀ j, PW (Cv.times cC P j) (few q j)
  | 0 => by
    have := widen_pw Cv.zero (Cv.on_zero cC)
    rw [px_zero, pr_zero] at this
    exact this
  | j + 1 => (few_pw h j).add h
theorem pw_twice {P : Fp × Fp} {q : W4} {a : Nat} (hP : Cv.On cC P) (h : PW (Cv.times cC P a) q) : PW (Cv.times cC P (a + a)) (waddn q q) := by
  rw [Cv.times_add cC hP]; exact h.add h
theorem tacc_pw {P : Fp × Fp} {q : W4} (hP : Cv.On cC P) (h : PW P q) (X : Nat) (hX : X < 115792089237316195423570985008687907853269984665640564039457584007913129639936) : ∀ d, d ≤ 64 → PW (Cv.times cC P (X / 16 ^ (64 - d))) (tacc q X d)
  | 0, _ => by
    rw [show X / 16 ^ (64 - 0) = 0 from Nat.div_eq_of_lt (Nat.lt_of_lt_of_le hX (by decide +kernel))]
    exact few_pw h 0
  | d + 1, hd => by
    have ih := tacc_pw hP h X hX d (by omega)
    have e : X / 16 ^ (64 - (d + 1)) = 16 * (X / 16 ^ (64 - d)) + X / 16 ^ (63 - d) % 16 := by
      rw [show 64 - (d + 1) = 63 - d by omega, show 64 - d = (63 - d) + 1 by omega, Nat.pow_succ, ← Nat.div_div_eq_div_mul]
      omega
    rw [e, Cv.times_add cC hP]
    have h2 := pw_twice hP ih
    have h4 := pw_twice hP h2
    have h8 := pw_twice hP h4
    have h16 := pw_twice hP h8
    rw [show X / 16 ^ (64 - d) + X / 16 ^ (64 - d) + (X / 16 ^ (64 - d) + X / 16 ^ (64 - d)) + (X / 16 ^ (64 - d) + X / 16 ^ (64 - d) + (X / 16 ^ (64 - d) + X / 16 ^ (64 - d))) + (X / 16 ^ (64 - d) + X / 16 ^ (64 - d) + (X / 16 ^ (64 - d) + X / 16 ^ (64 - d)) + (X / 16 ^ (64 - d) + X / 16 ^ (64 - d) + (X / 16 ^ (64 - d) + X / 16 ^ (64 - d)))) = 16 * (X / 16 ^ (64 - d)) by omega] at h16
    exact h16.add (few_pw h _)
theorem pv_zero : pv Cv.zero = #[.int .u64 0, .int .u64 0, .int .u64 0, .int .u64 0, .int .u64 0, .int .u64 0, .int .u64 0, .int .u64 0] := by
  unfold pv
  rw [px_zero, pr_zero]; kernel_rfl
theorem few_ans (q : W4) (hq : q.ok) : Ans Try.prog 98 #[.agg (wq q)] (.agg (rowsOf 16 16 (fun j => wq (few q j)))) := fun W => by
  have h0 := pwide_pv Cv.zero
  rw [pv_zero, px_zero, pr_zero] at h0
  exact first_op (wq q) (wq (few q 0)) W h0 (fun j => wq (few q j)) (fun j => sz_wq _) rfl (fun j hj => wadd_ans _ _ (few_ok q j) hq) (sz_wq _)
theorem ptimes_pv (P : Fp × Fp) (hP : Cv.On cC P) (X : Nat) (hX : X < 115792089237316195423570985008687907853269984665640564039457584007913129639936) : Ans Try.prog 60 #[.agg (pv P), .agg (bv (bl 32 X)).toArray] (.agg (pv (Cv.times cC P X))) := fun W => by
  have hw := widen_pw P hP
  have hok := widen_ok (px P) (pr P) (pxP P)
  generalize hq : widen (px P) (pr P) = q at *
  have hend := tacc_pw hP hw X hX 64 (by omega)
  rw [show X / 16 ^ (64 - 64) = X by rw [Nat.sub_self, Nat.pow_zero, Nat.div_one]] at hend
  have hW := pwide_pv P
  rw [hq] at hW
  exact times_op X (pv P) (wq q) (pv (Cv.times cC P X)) W (fun j => wq (few q j)) (fun m => wq (tacc q X (64 - m))) (fun m => wq (weightn (tacc q X (64 - (m + 1))))) (fun m => wq (waddn (weightn (tacc q X (64 - (m + 1)))) (weightn (tacc q X (64 - (m + 1))))))
    (fun j => sz_wq _) (fun m => sz_wq _) rfl (fun m hm => weight_ans _ (tacc_ok q X _)) (fun m hm => twice_ans _ (waddn_ok _ _)) (fun m hm => by
      have := wadd_ans (waddn (weightn (tacc q X (64 - (m + 1)))) (weightn (tacc q X (64 - (m + 1))))) (few q (X / 16 ^ m % 16)) (waddn_ok _ _) (few_ok q _)
      have e : waddn (waddn (weightn (tacc q X (64 - (m + 1)))) (weightn (tacc q X (64 - (m + 1))))) (few q (X / 16 ^ m % 16)) = tacc q X (64 - m) := by
        rw [show 64 - m = (64 - (m + 1)) + 1 by omega, tacc, show 63 - (64 - (m + 1)) = m by omega]
      rwa [e] at this) hW (few_ans q hok) (point_pv (tacc_ok q X 64) hend) (sz_pv _) (sz_pv _)

/-- The base. -/
def bX : Nat := 15112221349535400772501151409588531511454012693041857206046113283949847762202
def bY : Nat := 46316835694926478169428394003475163141307993866256225615783033603165251855960
def bY1 : Nat := 46316835694926478169428394003475163141307993866256225615783033603165251855959
def bB : Fp × Fp := (fv bX, fv bY)
theorem bB_on : Cv.On cC bB := of_nums bX bY (by decide +kernel)
theorem nc_bx : nc bX = #[.int .u64 14507833142362363162, .int .u64 7578651490590762930, .int .u64 13881468655802702940, .int .u64 2407515759118799870] := by
  have := nc_of 14507833142362363162 7578651490590762930 13881468655802702940 2407515759118799870 (by decide) (by decide) (by decide) (by decide)
  rw [show nv 14507833142362363162 7578651490590762930 13881468655802702940 2407515759118799870 = bX from by decide +kernel] at this
  exact this.symm
theorem nc_by : nc bY1 = #[.int .u64 7378697629483820631, .int .u64 7378697629483820646, .int .u64 7378697629483820646, .int .u64 7378697629483820646] := by
  have := nc_of 7378697629483820631 7378697629483820646 7378697629483820646 7378697629483820646 (by decide) (by decide) (by decide) (by decide)
  rw [show nv 7378697629483820631 7378697629483820646 7378697629483820646 7378697629483820646 = bY1 from by decide +kernel] at this
  exact this.symm
theorem px_bB : px bB = bX := by show bX % p25519 = bX; decide +kernel
theorem pr_bB : pr bB = bY1 := by
  refine (val_fv (a := bY1) (by decide +kernel) ?_).symm
  have h : bY = bY1 + 1 := by decide +kernel
  show fv bY1 = fv bY - 1
  rw [h, fv_add, fv_one]; grind
set_option maxRecDepth 100000 in
theorem base_lit (w : World) : Calls Try.prog 73 #[] w fun e w' => e = .returned (.agg #[.int .u64 14507833142362363162, .int .u64 7578651490590762930, .int .u64 13881468655802702940, .int .u64 2407515759118799870, .int .u64 7378697629483820631, .int .u64 7378697629483820646, .int .u64 7378697629483820646, .int .u64 7378697629483820646]) ∧ Fr (fun _ => False) w w' := by
  go_enter Try.func73, Try.ntmps73
  go_wp2
  refine bodyPost_ret (results_cell_row rfl _ _ w.heap.size 72 _ (0, 0) _ rfl (heap_alloc_new w _) Try.underlying72 rfl Try.szPt) rfl ?_
  exact ⟨rfl, (Fr.refl _ w).alloc _⟩
theorem pv_bB : pv bB = #[.int .u64 14507833142362363162, .int .u64 7578651490590762930, .int .u64 13881468655802702940, .int .u64 2407515759118799870, .int .u64 7378697629483820631, .int .u64 7378697629483820646, .int .u64 7378697629483820646, .int .u64 7378697629483820646] := by
  unfold pv pq
  rw [px_bB, pr_bB, nc_bx, nc_by]; kernel_rfl
theorem base_pv : Ans Try.prog 73 #[] (.agg (pv bB)) := fun W => by rw [pv_bB]; exact base_lit W
/-- A point's bytes, as a number. -/
def encn (P : Fp × Fp) : Nat := P.2.val + 57896044618658097711785492504343953926634992332820282019728792003956564819968 * (P.1.val % 2)
theorem encn_lt (P : Fp × Fp) : encn P < 115792089237316195423570985008687907853269984665640564039457584007913129639936 := by
  have h1 : P.2.val < p25519 := P.2.isLt
  have h2 : P.1.val % 2 < 2 := Nat.mod_lt _ (by decide)
  have h1 := Nat.lt_of_lt_of_eq h1 P_val
  unfold encn; omega
theorem or_top (z : Nat) (h : z < 128) : bits .or .u8 (z : Int) 128 = ((z + 128 : Nat) : Int) := by
  have h1 : (BitVec.ofInt 8 (z : Int)).toNat = z := by
    rw [BitVec.ofInt_natCast, BitVec.toNat_ofNat]; exact Nat.mod_eq_of_lt (by omega)
  have h2 : (BitVec.ofInt 8 (128 : Int)).toNat = 128 := rfl
  show IntKind.u8.wrap ((BitVec.ofInt 8 (z : Int) ||| BitVec.ofInt 8 (128 : Int)).toNat : Int) = _
  rw [BitVec.toNat_or, h1, h2, IntKind.wrap_u8, show z ||| 128 = z + 128 by
    rw [Nat.or_comm, show 128 = 2 ^ 7 * 1 from rfl, ← Nat.two_pow_add_eq_or_of_lt (show z < 2 ^ 7 from h)]; omega]
  omega
theorem cells_u8 (X Y i v : Nat) (hi : i < 32) (hv : v = Y / 256 ^ i % 256) (h : ∀ j, j < 32 → j ≠ i → X / 256 ^ j % 256 = Y / 256 ^ j % 256) : ((bv (bl 32 X)).toArray).setIfInBounds i (.int .u8 (v : Int)) = (bv (bl 32 Y)).toArray := by
  apply Array.ext_getElem?
  intro k
  by_cases hk : k < 32
  · rw [bl_cell Y k hk, Array.getElem?_setIfInBounds]
    by_cases c : i = k
    · subst c
      rw [if_pos rfl, if_pos (by simp [bl_length]; exact hi), hv]
    · rw [if_neg c, bl_cell X k hk, h k hk (fun e => c e.symm)]
  · rw [Array.getElem?_eq_none (by simp [bl_length]; omega), Array.getElem?_eq_none (by simp [bl_length]; omega)]
theorem p31 : (256 : Nat) ^ 31 = 452312848583266388373324160190187140051835877600158453279131187530910662656 := by decide
theorem low_byte (Y c j : Nat) (hj : j < 31) : (Y + 57896044618658097711785492504343953926634992332820282019728792003956564819968 * c) / 256 ^ j % 256 = Y / 256 ^ j % 256 := by
  obtain ⟨m, hm⟩ : ∃ m, 31 = j + 1 + m := ⟨30 - j, by omega⟩
  have e : (57896044618658097711785492504343953926634992332820282019728792003956564819968 : Nat) = 256 ^ j * (256 * (256 ^ m * 128)) := by
    rw [← Nat.mul_assoc, ← Nat.mul_assoc, ← Nat.pow_succ, ← Nat.pow_add, ← hm]
  rw [e, Nat.mul_assoc, Nat.add_mul_div_left _ _ (Nat.pow_pos (by decide)), Nat.mul_assoc, Nat.add_mul_mod_self_left]
theorem high_byte (Y : Nat) (hY : Y < 57896044618658097711785492504343953926634992332820282019728792003956564819968) : Y / 256 ^ 31 % 256 < 128 ∧ (Y + 57896044618658097711785492504343953926634992332820282019728792003956564819968 * 1) / 256 ^ 31 % 256 = Y / 256 ^ 31 % 256 + 128 := by
  rw [p31]; omega
set_option maxRecDepth 100000 in
set_option maxHeartbeats 3200000 in
theorem encode_odd (z v : Nat) (A XA Y C : Array Value) (w : World)
    (YY : Ans Try.prog 107 #[.agg A] (.agg Y))
    (BY : Ans Try.prog 28 #[.agg Y] (.agg C))
    (OD : Ans Try.prog 27 #[.agg XA] (.bool true))
    (pXA : Part A 0 XA) (h31 : C[31]? = some (.int .u8 (z : Int))) (hv : bits .or .u8 (z : Int) 128 = (v : Int)) (sD : Sz 32 (C.setIfInBounds 31 (.int .u8 (v : Int))))
    (sA : Sz 8 A) (sXA : Sz 4 XA) (sC : Sz 32 C) :
    Calls Try.prog 72 #[.agg A] w fun e w' => e = .returned (.agg (C.setIfInBounds 31 (.int .u8 (v : Int)))) ∧ Fr (fun _ => False) w w' := by
  have i31 : 31 < 32 := by omega
  have K := (((Kn.start w).new (w.heap.size) 8 A 72 rfl sA.1).new (w.heap.size + 1) 32 #[.int .u8 0, .int .u8 0, .int .u8 0, .int .u8 0, .int .u8 0, .int .u8 0, .int .u8 0, .int .u8 0, .int .u8 0, .int .u8 0, .int .u8 0, .int .u8 0, .int .u8 0, .int .u8 0, .int .u8 0, .int .u8 0, .int .u8 0, .int .u8 0, .int .u8 0, .int .u8 0, .int .u8 0, .int .u8 0, .int .u8 0, .int .u8 0, .int .u8 0, .int .u8 0, .int .u8 0, .int .u8 0, .int .u8 0, .int .u8 0, .int .u8 0, .int .u8 0] 36 (by simp) rfl)
  go_enter Try.func72, Try.ntmps72
  go_wp2_with (first
      | (go_at_call 27; (with_reducible refine Calls.kn K (OD _) ?_); intro wz Kz; clear K; have K := Kz; clear Kz; have c0 := K.cell 0 rfl 31 h31)
      | (focus ((with_reducible refine' wpList_store1_kn K rfl 5 _ _ rfl 0 _ _ 31 _ _ .u8 (v : Int) rfl rfl Try.iU8 _ i31 _); rotate_left 2; (focus exact rfl); intro wz Kz; clear K; have K := Kz; clear Kz; simp only [List.set_cons_zero, List.set_cons_succ] at K; try (simp only [Act.put, List.setIfInBounds_toArray, List.set_cons_zero, List.set_cons_succ])))
      | (focus (first | ((with_reducible refine' wpList_load_kn K rfl 72 (.tmp 1) rfl 1 _ _ _ _ rfl _ Try.underlying72 rfl Try.szPt _ _); rotate_left 2; (focus exact rfl)) | ((with_reducible refine' wpList_load_pt K rfl 24 (.tmp 7) rfl 2 _ _ 0 4 _ _ _ rfl _ Try.underlying24 rfl Try.szEl _ pXA (Sz.n sXA) _); rotate_left 2; (focus exact rfl)) | ((with_reducible refine' wpList_load_kn K rfl 36 (.tmp 3) rfl 0 _ _ _ _ rfl _ Try.underlying36 rfl Try.szBa _ _); rotate_left 2; (focus exact rfl))))
      | (focus ((first | ((with_reducible refine' wpList_store_kn K rfl 36 (.tmp 3) _ rfl 0 _ _ _ _ _ rfl rfl Try.szBa _ _ _); rotate_left 2; (focus exact rfl)) | ((with_reducible refine' wpList_store_kn K rfl 36 (.tmp 2) _ rfl 1 _ _ _ _ _ rfl rfl Try.szBa _ _ _); rotate_left 2; (focus exact rfl))); (focus assumption); intro wz Kz; clear K; have K := Kz; clear Kz; simp only [List.set_cons_zero, List.set_cons_succ] at K; try (simp only [Act.put, List.setIfInBounds_toArray, List.set_cons_zero, List.set_cons_succ])))
      | ((with_reducible refine wpList_new_kn K 36 _ _ _ _ #[.int .u8 0, .int .u8 0, .int .u8 0, .int .u8 0, .int .u8 0, .int .u8 0, .int .u8 0, .int .u8 0, .int .u8 0, .int .u8 0, .int .u8 0, .int .u8 0, .int .u8 0, .int .u8 0, .int .u8 0, .int .u8 0, .int .u8 0, .int .u8 0, .int .u8 0, .int .u8 0, .int .u8 0, .int .u8 0, .int .u8 0, .int .u8 0, .int .u8 0, .int .u8 0, .int .u8 0, .int .u8 0, .int .u8 0, .int .u8 0, .int .u8 0, .int .u8 0] 32 rfl Try.alBa rfl ?_); intro gz wz Kz; clear K; have K := Kz; clear Kz; try (simp only [Act.put, List.setIfInBounds_toArray, List.set_cons_zero, List.set_cons_succ]))
      | (go_at_call 107; (with_reducible refine Calls.kn K (YY _) ?_); intro wz Kz; clear K; have K := Kz; clear Kz)
      | (go_at_call 28; (with_reducible refine Calls.kn K (BY _) ?_); intro wz Kz; clear K; have K := Kz; clear Kz)
      | (go_at_call 27; (with_reducible refine Calls.kn K (OD _) ?_); intro wz Kz; clear K; have K := Kz; clear Kz))
  refine bodyPost_ret (results_kn K rfl _ 1 _ _ _ _ rfl _ Try.underlying36 rfl Try.szBa rfl) rfl ?_
  exact ⟨rfl, K.fr⟩
set_option maxRecDepth 100000 in
set_option maxHeartbeats 3200000 in
theorem encode_even (A XA Y C : Array Value) (w : World)
    (YY : Ans Try.prog 107 #[.agg A] (.agg Y))
    (BY : Ans Try.prog 28 #[.agg Y] (.agg C))
    (OD : Ans Try.prog 27 #[.agg XA] (.bool false))
    (pXA : Part A 0 XA)
    (sA : Sz 8 A) (sXA : Sz 4 XA) (sC : Sz 32 C) :
    Calls Try.prog 72 #[.agg A] w fun e w' => e = .returned (.agg C) ∧ Fr (fun _ => False) w w' := by
  have i31 : 31 < 32 := by omega
  have K := (((Kn.start w).new (w.heap.size) 8 A 72 rfl sA.1).new (w.heap.size + 1) 32 #[.int .u8 0, .int .u8 0, .int .u8 0, .int .u8 0, .int .u8 0, .int .u8 0, .int .u8 0, .int .u8 0, .int .u8 0, .int .u8 0, .int .u8 0, .int .u8 0, .int .u8 0, .int .u8 0, .int .u8 0, .int .u8 0, .int .u8 0, .int .u8 0, .int .u8 0, .int .u8 0, .int .u8 0, .int .u8 0, .int .u8 0, .int .u8 0, .int .u8 0, .int .u8 0, .int .u8 0, .int .u8 0, .int .u8 0, .int .u8 0, .int .u8 0, .int .u8 0] 36 (by simp) rfl)
  go_enter Try.func72, Try.ntmps72
  go_wp2_with (first
      | (focus (first | ((with_reducible refine' wpList_load_kn K rfl 72 (.tmp 1) rfl 1 _ _ _ _ rfl _ Try.underlying72 rfl Try.szPt _ _); rotate_left 2; (focus exact rfl)) | ((with_reducible refine' wpList_load_pt K rfl 24 (.tmp 7) rfl 2 _ _ 0 4 _ _ _ rfl _ Try.underlying24 rfl Try.szEl _ pXA (Sz.n sXA) _); rotate_left 2; (focus exact rfl)) | ((with_reducible refine' wpList_load_kn K rfl 36 (.tmp 3) rfl 0 _ _ _ _ rfl _ Try.underlying36 rfl Try.szBa _ _); rotate_left 2; (focus exact rfl))))
      | (focus ((first | ((with_reducible refine' wpList_store_kn K rfl 36 (.tmp 3) _ rfl 0 _ _ _ _ _ rfl rfl Try.szBa _ _ _); rotate_left 2; (focus exact rfl)) | ((with_reducible refine' wpList_store_kn K rfl 36 (.tmp 2) _ rfl 1 _ _ _ _ _ rfl rfl Try.szBa _ _ _); rotate_left 2; (focus exact rfl))); (focus assumption); intro wz Kz; clear K; have K := Kz; clear Kz; simp only [List.set_cons_zero, List.set_cons_succ] at K; try (simp only [Act.put, List.setIfInBounds_toArray, List.set_cons_zero, List.set_cons_succ])))
      | ((with_reducible refine wpList_new_kn K 36 _ _ _ _ #[.int .u8 0, .int .u8 0, .int .u8 0, .int .u8 0, .int .u8 0, .int .u8 0, .int .u8 0, .int .u8 0, .int .u8 0, .int .u8 0, .int .u8 0, .int .u8 0, .int .u8 0, .int .u8 0, .int .u8 0, .int .u8 0, .int .u8 0, .int .u8 0, .int .u8 0, .int .u8 0, .int .u8 0, .int .u8 0, .int .u8 0, .int .u8 0, .int .u8 0, .int .u8 0, .int .u8 0, .int .u8 0, .int .u8 0, .int .u8 0, .int .u8 0, .int .u8 0] 32 rfl Try.alBa rfl ?_); intro gz wz Kz; clear K; have K := Kz; clear Kz; try (simp only [Act.put, List.setIfInBounds_toArray, List.set_cons_zero, List.set_cons_succ]))
      | (go_at_call 107; (with_reducible refine Calls.kn K (YY _) ?_); intro wz Kz; clear K; have K := Kz; clear Kz)
      | (go_at_call 28; (with_reducible refine Calls.kn K (BY _) ?_); intro wz Kz; clear K; have K := Kz; clear Kz)
      | (go_at_call 27; (with_reducible refine Calls.kn K (OD _) ?_); intro wz Kz; clear K; have K := Kz; clear Kz))
  refine bodyPost_ret (results_kn K rfl _ 1 _ _ _ _ rfl _ Try.underlying36 rfl Try.szBa rfl) rfl ?_
  exact ⟨rfl, K.fr⟩
theorem encode_pv (P : Fp × Fp) : Ans Try.prog 72 #[.agg (pv P)] (.agg (bv (bl 32 (encn P))).toArray) := fun W => by
  have hy : P.2.val < p25519 := P.2.isLt
  have YY := y_ans (px P) (pr P) (prP P)
  have ey : ma (pr P) 1 = P.2.val := val_fv (ma_lt _ _) (by rw [fv_ma, fv_pr, fv_one]; grind)
  rw [ey] at YY
  have hyP : P.2.val < 115792089237316195423570985008687907853269984665640564039457584007913129639936 := Nat.lt_trans hy p_lt
  have BY := fun W : World => fbytes_any P.2.val hyP W
  rw [Nat.mod_eq_of_lt hy] at BY
  have OD := fun W : World => fodd_any (px P) (pxP P) W
  rw [Nat.mod_eq_of_lt (px_lt P)] at OD
  have hY2 : P.2.val < 57896044618658097711785492504343953926634992332820282019728792003956564819968 := by have := Nat.lt_of_lt_of_eq hy P_val; omega
  unfold encn
  rcases Nat.mod_two_eq_zero_or_one P.1.val with c | c
  · have c' : px P % 2 = 0 := c
    rw [c', show decide (0 = 1) = false from rfl] at OD
    rw [c, Nat.mul_zero, Nat.add_zero]
    exact encode_even (pv P) (nc (px P)) _ _ W YY BY OD (part2_0 _ _) (sz_pv _) (sz_nc _) (sz_bl _)
  · have c' : px P % 2 = 1 := c
    rw [c', decide_eq_true rfl] at OD
    rw [c]
    obtain ⟨h1, h2⟩ := high_byte P.2.val hY2
    have hset := cells_u8 P.2.val (P.2.val + 57896044618658097711785492504343953926634992332820282019728792003956564819968 * 1) 31 (P.2.val / 256 ^ 31 % 256 + 128) (by decide) h2.symm (fun j hj hne => (low_byte _ _ j (by omega)).symm)
    have := encode_odd (P.2.val / 256 ^ 31 % 256) (P.2.val / 256 ^ 31 % 256 + 128) (pv P) (nc (px P)) _ _ W YY BY OD (part2_0 _ _) (bl_cell P.2.val 31 (by decide)) (or_top _ h1) (by rw [hset]; exact sz_bl _) (sz_pv _) (sz_nc _) (sz_bl _)
    rwa [hset] at this
end Go.Proofs.Ytahnlnflcgehaaa

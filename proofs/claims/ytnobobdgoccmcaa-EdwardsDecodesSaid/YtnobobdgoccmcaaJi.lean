/-
  The law EdwardsLaws.
-/
import Derived.Test.YtnobobdgoccmcaaJh
namespace Go.Proofs.Ytnobobdgoccmcaa
open Go.RowKit Pri
set_option linter.unusedVariables false
set_option linter.unusedSimpArgs false

theorem and_127 (z : Nat) (h : z < 256) : bits .and .u8 (z : Int) 127 = ((z % 128 : Nat) : Int) := by
  have h1 : (BitVec.ofInt 8 (z : Int)).toNat = z := by
    rw [BitVec.ofInt_natCast, BitVec.toNat_ofNat]; exact Nat.mod_eq_of_lt (by omega)
  have h2 : (BitVec.ofInt 8 (127 : Int)).toNat = 2 ^ 7 - 1 := rfl
  show IntKind.u8.wrap ((BitVec.ofInt 8 (z : Int) &&& BitVec.ofInt 8 (127 : Int)).toNat : Int) = _
  rw [BitVec.toNat_and, h1, h2, Nat.and_two_pow_sub_one_eq_mod, IntKind.wrap_u8]
  omega
theorem mod_low (X j : Nat) (hj : j < 31) : X % 57896044618658097711785492504343953926634992332820282019728792003956564819968 / 256 ^ j % 256 = X / 256 ^ j % 256 := by
  have h := low_byte (X % 57896044618658097711785492504343953926634992332820282019728792003956564819968) (X / 57896044618658097711785492504343953926634992332820282019728792003956564819968) j hj
  rw [Nat.mod_add_div] at h
  exact h.symm
theorem clear_top (X : Nat) (hX : X < 115792089237316195423570985008687907853269984665640564039457584007913129639936) : ((bv (bl 32 X)).toArray).setIfInBounds 31 (.int .u8 ((X / 256 ^ 31 % 256 % 128 : Nat) : Int)) = (bv (bl 32 (X % 57896044618658097711785492504343953926634992332820282019728792003956564819968))).toArray :=
  cells_u8 X (X % 57896044618658097711785492504343953926634992332820282019728792003956564819968) 31 _ (by decide) (by rw [p31]; omega) (fun j hj hne => (mod_low X j (by omega)).symm)
theorem Kn.put1 {w0 w : World} {L : List Bk} (K : Kn w0 L w) (i : Nat) {g n : Nat} {cs : Array Value} {T : TypeId} (hi : L[i]? = some ⟨g, n, cs, T⟩) (off : Nat) (v : Value) : Kn w0 (L.set i ⟨g, n, cs.setIfInBounds off v, T⟩) (w.setCell ⟨g, off, none⟩ v) :=
  K.set i ⟨g, n, cs, T⟩ hi _ (by rw [Array.size_setIfInBounds]; exact K.size i hi) (Fr.setCell (S := fun k => k = g) (p := ⟨g, off, none⟩) (Fr.refl _ _) (Or.inl rfl) v) (block_setCell (K.heap i hi) off v)
theorem Kn.drew {w0 w : World} {L : List Bk} (K : Kn w0 L w) : Kn w0 L w.drew := K.call (Fr.refl _ w).drew
set_option maxRecDepth 100000 in
set_option maxHeartbeats 3200000 in
theorem laws7_op (zn zm yn ym : Nat) (nb mb ov : Nat → Nat) (B P Q S O E BN BM AN AM AS : Array Value) (w : World)
    (BS : Ans Try.prog 40 #[] (.bool true))
    (BA : Ans Try.prog 56 #[] (.agg B))
    (TN : Ans Try.prog 43 #[.agg B, .agg AN] (.agg P))
    (TMm : Ans Try.prog 43 #[.agg B, .agg AM] (.agg Q))
    (AD : Ans Try.prog 45 #[.agg P, .agg Q] (.agg S))
    (TS : Ans Try.prog 43 #[.agg B, .agg AS] (.agg S))
    (SS : Ans Try.prog 51 #[.agg S, .agg S] (.bool true))
    (AE : Ans Try.prog 45 #[.agg Q, .agg P] (.agg S))
    (NE : Ans Try.prog 47 #[.agg P] (.agg O))
    (AF : Ans Try.prog 45 #[.agg S, .agg O] (.agg Q))
    (SQ : Ans Try.prog 51 #[.agg Q, .agg Q] (.bool true))
    (T8 : Ans Try.prog 43 #[.agg P, .agg #[.int .u8 8, .int .u8 0, .int .u8 0, .int .u8 0, .int .u8 0, .int .u8 0, .int .u8 0, .int .u8 0, .int .u8 0, .int .u8 0, .int .u8 0, .int .u8 0, .int .u8 0, .int .u8 0, .int .u8 0, .int .u8 0, .int .u8 0, .int .u8 0, .int .u8 0, .int .u8 0, .int .u8 0, .int .u8 0, .int .u8 0, .int .u8 0, .int .u8 0, .int .u8 0, .int .u8 0, .int .u8 0, .int .u8 0, .int .u8 0, .int .u8 0, .int .u8 0]] (.agg E))
    (EI : Ans Try.prog 49 #[.agg P] (.agg E))
    (SE : Ans Try.prog 51 #[.agg E, .agg E] (.bool true))
    (n31 : BN[31]? = some (.int .u8 (zn : Int))) (m31 : BM[31]? = some (.int .u8 (zm : Int))) (an : bits .and .u8 (zn : Int) 127 = (yn : Int)) (am : bits .and .u8 (zm : Int) 127 = (ym : Int)) (sn : BN.setIfInBounds 31 (.int .u8 (yn : Int)) = AN) (sm : BM.setIfInBounds 31 (.int .u8 (ym : Int)) = AM)
    (SA : Nat → Array Value) (s0 : SA 0 = #[.int .u8 0, .int .u8 0, .int .u8 0, .int .u8 0, .int .u8 0, .int .u8 0, .int .u8 0, .int .u8 0, .int .u8 0, .int .u8 0, .int .u8 0, .int .u8 0, .int .u8 0, .int .u8 0, .int .u8 0, .int .u8 0, .int .u8 0, .int .u8 0, .int .u8 0, .int .u8 0, .int .u8 0, .int .u8 0, .int .u8 0, .int .u8 0, .int .u8 0, .int .u8 0, .int .u8 0, .int .u8 0, .int .u8 0, .int .u8 0, .int .u8 0, .int .u8 0]) (s32 : SA 32 = AS) (cn : ∀ k, k < 32 → AN[k]? = some (.int .u8 (nb k : Int))) (cm : ∀ k, k < 32 → AM[k]? = some (.int .u8 (mb k : Int))) (o0 : ov 0 = 0) (st : ∀ k, k < 32 → nb k < 256 ∧ mb k < 256 ∧ ov k ≤ 1 ∧ ov (k + 1) = (nb k + mb k + ov k) / 256 ∧ (SA k).setIfInBounds k (.int .u8 (((nb k + mb k + ov k) % 256 : Nat) : Int)) = SA (k + 1))
    (sP : Sz 8 P) (sQ : Sz 8 Q) (sBN : Sz 32 BN) (sBM : Sz 32 BM) :
    Calls Try.prog 11 #[.agg BN, .agg BM] w fun e w' => e = .returned (.bool true) ∧ Fr (fun _ => False) w w' := by
  have HSN := Lib.hid sn
  have HSM := Lib.hid sm
  have Hn31 := Lib.hid n31
  have Hm31 := Lib.hid m31
  have Hs0 := Lib.hid s0
  have Hs32 := Lib.hid s32
  have Hcn := Lib.hid cn
  have Hcm := Lib.hid cm
  have Ho0 := Lib.hid o0
  have Hst := Lib.hid st
  have i31 : 31 < 32 := by omega
  clear sn sm n31 m31 s0 s32 cn cm o0 st
  have K := (((Kn.start w).new (w.heap.size) 32 BN 36 rfl sBN.1).new (w.heap.size + 1) 32 BM 36 (by simp) sBM.1)
  go_enter Try.func11, Try.ntmps11
  have cn := K.cell 1 rfl 31 Hn31.out
  have cm := K.cell 0 rfl 31 Hm31.out
  go_wp2_with fail
  have fn := K.free 1 rfl 31
  have fm := K.free 0 rfl 31
  have HK := Lib.hid K
  clear K
  generalize (w.alloc (.cells BN 36)).alloc (.cells BM 36) = W0 at *
  go_region
  have K := ((HK.out.put1 1 rfl 31 (.int .u8 (yn : Int))).put1 0 rfl 31 (.int .u8 (ym : Int))).drew
  simp only [List.set_cons_zero, List.set_cons_succ] at K
  rw [HSN.out, HSM.out] at K
  generalize ((W0.setCell ⟨w.heap.size, 31, none⟩ (.int .u8 (yn : Int))).setCell ⟨w.heap.size + 1, 31, none⟩ (.int .u8 (ym : Int))).drew = W1 at *
  clear HK cn cm fn fm an am HSN HSM Hn31 Hm31
  go_wp2_with (first
      | ((with_reducible refine wpList_new_kn K 36 _ _ _ _ #[.int .u8 0, .int .u8 0, .int .u8 0, .int .u8 0, .int .u8 0, .int .u8 0, .int .u8 0, .int .u8 0, .int .u8 0, .int .u8 0, .int .u8 0, .int .u8 0, .int .u8 0, .int .u8 0, .int .u8 0, .int .u8 0, .int .u8 0, .int .u8 0, .int .u8 0, .int .u8 0, .int .u8 0, .int .u8 0, .int .u8 0, .int .u8 0, .int .u8 0, .int .u8 0, .int .u8 0, .int .u8 0, .int .u8 0, .int .u8 0, .int .u8 0, .int .u8 0] 32 rfl Try.alBa rfl ?_); intro gz wz Kz; clear K; have K := Kz; clear Kz; try (simp only [Act.put, List.setIfInBounds_toArray, List.set_cons_zero, List.set_cons_succ])))
  rw [← Hs0.out] at K
  go_loopw [6, 7, 8] (fun o i x wr => ∃ k : Nat, k ≤ 32 ∧ i = .int .i64 k ∧ o = .int .i64 (ov k : Int) ∧ Kn w [⟨gz, 32, SA k, 36⟩, ⟨w.heap.size + 1, 32, AM, 36⟩, ⟨w.heap.size, 32, AN, 36⟩] wr) (fun _ i _ _ => 32 - (intOf i).toNat)
  case atStart => exact ⟨0, by omega, by simp, by rw [Ho0.out]; simp, K⟩
  case round =>
    clear K
    obtain ⟨k, hk, rfl, rfl, K⟩ := hrel
    by_cases h32 : k < 32
    · as_aux_lemma =>
      have q0 : (0 : Int) ≤ (k : Int) := by omega
      have q1 : (k : Int) < 32 := by omega
      have gn := Hcn.out k h32
      have gm := Hcm.out k h32
      obtain ⟨ln, lm, lo, eo, es⟩ := Hst.out k h32
      have HES := Lib.hid es
      have HEO := Lib.hid eo
      generalize nb k = n at *
      generalize mb k = m at *
      generalize ov k = o at *
      have n0 : (0 : Int) ≤ (n : Int) := by omega
      have n1 : (n : Int) < 256 := by omega
      have m0 : (0 : Int) ≤ (m : Int) := by omega
      have m1 : (m : Int) < 256 := by omega
      have o0 : (0 : Int) ≤ (o : Int) := by omega
      have o1 : (o : Int) ≤ 1 := by omega
      have hv : ((n : Int) + (m : Int) + (o : Int)) % 256 = (((n + m + o) % 256 : Nat) : Int) := by omega
      have ho2 : ((n : Int) + (m : Int) + (o : Int)) / 256 = (((n + m + o) / 256 : Nat) : Int) := by omega
      generalize hvv : (n + m + o) % 256 = v at *
      generalize hoo : (n + m + o) / 256 = o2 at *
      have HV := Lib.hid hv
      clear hv es eo ln lm lo hvv hoo Hs0 Hs32 Hcn Hcm Ho0 Hst
      have c0 := fun y : Wd wr => K.celld y 2 rfl k gn
      have c1 := fun y : Wd wr => K.celld y 1 rfl k gm
      go_wp2_with fail
      refine wp_region_keep (by kernel_rfl) (by kernel_rfl) ?_
      repeat (any_goals (first | go_big_quiet_step (fail) | quiet_step (fail)))
      refine wpQuiet_nil ?_
      intro _ hwz
      obtain ⟨y, rfl⟩ := hwz
      have Kz := K.call y.h
      clear K c0 c1
      have K := Kz
      clear Kz
      generalize y.w = wz at K ⊢
      clear y
      go_wp2_with (first
          | (focus ((with_reducible refine' wpList_store1_kn K rfl 5 _ _ rfl 0 _ _ k _ _ .u8 (((n : Int) + (m : Int) + (o : Int)) % 256) rfl rfl Try.iU8 _ h32 _); rotate_left 2; (focus exact rfl); intro wz Kz; clear K; have K := Kz; clear Kz; simp only [List.set_cons_zero, List.set_cons_succ] at K; rw [HV.out, HES.out] at K; try (simp only [Act.put, List.setIfInBounds_toArray, List.set_cons_zero, List.set_cons_succ]))))
      go_roundw
      case rel => exact ⟨k + 1, by omega, by go_num, by rw [HEO.out], K⟩
      case measure => simp [intOf]; omega
    · as_aux_lemma =>
      obtain rfl : k = 32 := by omega
      rw [Hs32.out] at K
      clear Hs0 Hs32 Hcn Hcm Ho0 Hst
      rw [show ((32 : Nat) : Int) = 32 from rfl]
      generalize ov 32 = oz
      go_wp2_with fail
      refine wp_region_kn_tail K 6 [(9, 8, #[.int .u64 0, .int .u64 0, .int .u64 0, .int .u64 0, .int .u64 0, .int .u64 0, .int .u64 0, .int .u64 0], 53), (10, 8, #[.int .u64 0, .int .u64 0, .int .u64 0, .int .u64 0, .int .u64 0, .int .u64 0, .int .u64 0, .int .u64 0], 53)] (by kernel_rfl) (by kernel_rfl) (mk_two ⟨_, rfl, makes_alloc _ _ _ _ _ _ Try.alPt⟩ ⟨_, rfl, makes_alloc _ _ _ _ _ _ Try.alPt⟩) (sz_two rfl rfl) ?_
      apply Exists.intro
      refine ⟨?wk10, ?fin10⟩
      case wk10 =>
        intro γ
  
        simp only [List.take_succ_cons, List.take_zero]
        repeat (any_goals (first | (focus (go_big_quiet_want; (first | ((with_reducible refine' quiet_load_kng K 36 (.tmp 2) rfl 2 _ _ _ _ rfl _ Try.underlying36 rfl Try.szBa _ _); rotate_left 2; (focus exact rfl)) | ((with_reducible refine' quiet_load_kng K 36 (.tmp 3) rfl 1 _ _ _ _ rfl _ Try.underlying36 rfl Try.szBa _ _); rotate_left 2; (focus exact rfl))); simp only [Act.put, List.setIfInBounds_toArray, List.set_cons_zero, List.set_cons_succ]; go_big_quiet_on)) | go_big_quiet_step ((first | (go_at_call 56; with_reducible exact Calls.keepg (BA _)) | (go_at_call 43; with_reducible exact Calls.keepg (TN _)) | (go_at_call 43; with_reducible exact Calls.keepg (TMm _)) | (go_at_call 43; with_reducible exact Calls.keepg (TS _)) | (go_at_call 43; with_reducible exact Calls.keepg (T8 _)))) | quiet_step ((first | (go_at_call 56; with_reducible exact Calls.keepg (BA _)) | (go_at_call 43; with_reducible exact Calls.keepg (TN _)) | (go_at_call 43; with_reducible exact Calls.keepg (TMm _)) | (go_at_call 43; with_reducible exact Calls.keepg (TS _)) | (go_at_call 43; with_reducible exact Calls.keepg (T8 _))))))
        exact wpQuiet_nil rfl
      case fin10 =>
        intro gs wz Kz
        clear K
        have K := Kz
        clear Kz
        try simp only [mkAll, asObj, List.map_cons, List.map_nil, putAll, List.drop_succ_cons, List.drop_zero, List.length_cons, List.length_nil, Nat.zero_add, Nat.add_zero] at K ⊢
        try simp only [Act.put, List.setIfInBounds_toArray, List.set_cons_zero, List.set_cons_succ]
        generalize gs 0 = gz0 at *
        generalize gs 1 = gz1 at *
        go_wp2_with (first
          | (focus ((first | ((with_reducible refine' wpList_store_kn K rfl 53 (.tmp 9) _ rfl 1 _ _ _ _ _ rfl rfl Try.szPt _ _ _); rotate_left 2; (focus exact rfl)) | ((with_reducible refine' wpList_store_kn K rfl 53 (.tmp 10) _ rfl 0 _ _ _ _ _ rfl rfl Try.szPt _ _ _); rotate_left 2; (focus exact rfl))); (focus assumption); intro wz Kz; clear K; have K := Kz; clear Kz; simp only [List.set_cons_zero, List.set_cons_succ] at K; try (simp only [Act.put, List.setIfInBounds_toArray, List.set_cons_zero, List.set_cons_succ]))))
        refine wp_region_keep (by kernel_rfl) (by kernel_rfl) ?_
        repeat (any_goals (first | (focus (go_big_quiet_want; (first | ((with_reducible refine' quiet_load_kn K 53 (.tmp 9) rfl 1 _ _ _ _ rfl _ Try.underlying53 rfl Try.szPt _ _); rotate_left 2; (focus exact rfl)) | ((with_reducible refine' quiet_load_kn K 53 (.tmp 10) rfl 0 _ _ _ _ rfl _ Try.underlying53 rfl Try.szPt _ _); rotate_left 2; (focus exact rfl)) | ((with_reducible refine' quiet_load_kn K 36 (.tmp 5) rfl 2 _ _ _ _ rfl _ Try.underlying36 rfl Try.szBa _ _); rotate_left 2; (focus exact rfl))); simp only [Act.put, List.setIfInBounds_toArray, List.set_cons_zero, List.set_cons_succ]; go_big_quiet_on)) | go_big_quiet_step ((first | (go_at_call 40; with_reducible exact Calls.keep (BS _)) | (go_at_call 56; with_reducible exact Calls.keep (BA _)) | (go_at_call 43; with_reducible exact Calls.keep (TN _)) | (go_at_call 43; with_reducible exact Calls.keep (TMm _)) | (go_at_call 45; with_reducible exact Calls.keep (AD _)) | (go_at_call 43; with_reducible exact Calls.keep (TS _)) | (go_at_call 51; with_reducible exact Calls.keep (SS _)) | (go_at_call 45; with_reducible exact Calls.keep (AE _)) | (go_at_call 47; with_reducible exact Calls.keep (NE _)) | (go_at_call 45; with_reducible exact Calls.keep (AF _)) | (go_at_call 51; with_reducible exact Calls.keep (SQ _)) | (go_at_call 43; with_reducible exact Calls.keep (T8 _)) | (go_at_call 49; with_reducible exact Calls.keep (EI _)) | (go_at_call 51; with_reducible exact Calls.keep (SE _)))) | quiet_step ((first | (go_at_call 40; with_reducible exact Calls.keep (BS _)) | (go_at_call 56; with_reducible exact Calls.keep (BA _)) | (go_at_call 43; with_reducible exact Calls.keep (TN _)) | (go_at_call 43; with_reducible exact Calls.keep (TMm _)) | (go_at_call 45; with_reducible exact Calls.keep (AD _)) | (go_at_call 43; with_reducible exact Calls.keep (TS _)) | (go_at_call 51; with_reducible exact Calls.keep (SS _)) | (go_at_call 45; with_reducible exact Calls.keep (AE _)) | (go_at_call 47; with_reducible exact Calls.keep (NE _)) | (go_at_call 45; with_reducible exact Calls.keep (AF _)) | (go_at_call 51; with_reducible exact Calls.keep (SQ _)) | (go_at_call 43; with_reducible exact Calls.keep (T8 _)) | (go_at_call 49; with_reducible exact Calls.keep (EI _)) | (go_at_call 51; with_reducible exact Calls.keep (SE _))))))
        refine wpQuiet_nil ?_
        intro _ hwz
        obtain ⟨y, rfl⟩ := hwz
        have Kz := K.call y.h
        clear K 
        have K := Kz
        clear Kz
        generalize y.w = wz at K ⊢
        clear y
        go_wp2_with fail
        go_ret
        exact ⟨rfl, K.fr⟩

end Go.Proofs.Ytnobobdgoccmcaa

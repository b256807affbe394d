/-
  The law FieldBytes at all its contracts.
-/
import Derived.Test.YtahnlnflcgehaaaQe
import Derived.Test.YtahnlnflcgehaaaGx
namespace Go.Proofs.Ytahnlnflcgehaaa
open Go.RowKit Pri
set_option linter.unusedVariables false
set_option linter.unusedSimpArgs false

/-- The number of bytes, the lowest first. -/
def lv : List UInt8 → Nat
  | [] => 0
  | b :: l => b.toNat + 256 * lv l
theorem lv_lt : ∀ l : List UInt8, lv l < 256 ^ l.length := by
  intro l
  induction l with
  | nil => simp [lv]
  | cons b l ih =>
    have := b.toNat_lt
    rw [lv, List.length_cons, Nat.pow_succ]
    omega
theorem bl_cons1 (n X : Nat) : bl (n + 1) X = UInt8.ofNat (X % 256) :: bl n (X / 256) := by
  unfold bl
  rw [List.range_succ_eq_map, List.map_cons, List.map_map, Nat.pow_zero, Nat.div_one]
  congr 1
  refine List.map_congr_left (fun i _ => ?_)
  show UInt8.ofNat (X / 256 ^ (i + 1) % 256) = _
  rw [Nat.pow_succ, Nat.mul_comm, ← Nat.div_div_eq_div_mul]
theorem bl_lv : ∀ l : List UInt8, bl l.length (lv l) = l := by
  intro l
  induction l with
  | nil => rfl
  | cons b l ih =>
    have hb := b.toNat_lt
    rw [List.length_cons, bl_cons1, lv, show (b.toNat + 256 * lv l) % 256 = b.toNat by omega, show (b.toNat + 256 * lv l) / 256 = lv l by omega, ih]
    simp
theorem of_bytes (l : List UInt8) (h : l.length = 32) : ∃ Y, Y < 115792089237316195423570985008687907853269984665640564039457584007913129639936 ∧ l = bl 32 Y := by
  refine ⟨lv l, ?_, ?_⟩
  · have := lv_lt l
    rwa [h, p256h] at this
  · have := bl_lv l
    rw [h] at this; exact this.symm
theorem str_of_bl (Y : Nat) (W : World) (g : Nat) (h : W.heap[g]? = some (.cells (bv (bl 32 Y)).toArray 36 (0, 0))) : (convert 40 9 (.slice (some ⟨g, 0, none⟩) 32 32)).run Try.prog W = .ok (.string ⟨(bl 32 Y).toArray⟩) W := by
  have hl : Lies W (some ⟨g, 0, none⟩) (bl 32 Y) := Or.inr ⟨g, 0, rfl, fun j hj => by
    rw [Nat.zero_add, cell_of_block h]
    simpa using bv_get' (bl 32 Y) j hj⟩
  have := run_str hl 32 9 Try.underlying9
  rwa [bl_length] at this
theorem sz_bl (Y : Nat) : Sz 32 (bv (bl 32 Y)).toArray := ⟨by simp [bl_length], bv_oneA _⟩
theorem below255 (R : Nat) (h : R < p25519) : R % 57896044618658097711785492504343953926634992332820282019728792003956564819968 % p25519 = R := by
  rw [Nat.mod_eq_of_lt (show R < 57896044618658097711785492504343953926634992332820282019728792003956564819968 from Nat.lt_trans h (by decide +kernel)), Nat.mod_eq_of_lt h]
set_option maxRecDepth 100000 in
set_option maxHeartbeats 3200000 in
theorem fbytesl (SB SC : ByteArray) (n : Int) (A B O D CB C R : Array Value) (w : World)
    (HV : ∀ W : World, Calls Try.prog 15 #[] W fun e w' => e = .returned (.bool true) ∧ Fr (fun _ => False) W w')
    (OB : ∀ W : World, Calls Try.prog 29 #[.agg B] W fun e w' => e = .returned (.agg O) ∧ Fr (fun _ => False) W w')
    (F5 : ∀ W : World, Calls Try.prog 30 #[.string SB] W fun e w' => e = .returned (.agg D) ∧ Fr (fun _ => False) W w')
    (S1 : ∀ W : World, Calls Try.prog 16 #[.agg O, .agg D] W fun e w' => e = .returned (.bool true) ∧ Fr (fun _ => False) W w')
    (BY : ∀ W : World, Calls Try.prog 28 #[.agg A] W fun e w' => e = .returned (.agg CB) ∧ Fr (fun _ => False) W w')
    (LO : ∀ W : World, Calls Try.prog 14 #[.agg A] W fun e w' => e = .returned (.agg C) ∧ Fr (fun _ => False) W w')
    (B5 : ∀ W : World, Calls Try.prog 31 #[.agg C] W fun e w' => e = .returned (.string SC) ∧ Fr (fun _ => False) W w')
    (SM : ∀ W : World, Calls Try.prog 32 #[.int .u64 n] W fun e w' => e = .returned (.agg #[.int .u64 n, .int .u64 0, .int .u64 0, .int .u64 0]) ∧ Fr (fun _ => False) W w')
    (OC : ∀ W : World, Calls Try.prog 29 #[.agg CB] W fun e w' => e = .returned (.agg R) ∧ Fr (fun _ => False) W w')
    (RE : ∀ W : World, Calls Try.prog 17 #[.agg A] W fun e w' => e = .returned (.agg R) ∧ Fr (fun _ => False) W w')
    (E1 : ∀ W : World, (binOp .eql 24 (.agg #[.int .u64 n, .int .u64 0, .int .u64 0, .int .u64 0]) (.agg #[.int .u64 n, .int .u64 0, .int .u64 0, .int .u64 0])).run Try.prog W = .ok (.bool true) W) (E2 : ∀ W : World, (binOp .eql 24 (.agg R) (.agg R)).run Try.prog W = .ok (.bool true) W)
    (V1 : ∀ (W : World) (g : Nat), W.heap[g]? = some (.cells B 36 (0, 0)) → (convert 40 9 (.slice (some ⟨g, 0, none⟩) 32 32)).run Try.prog W = .ok (.string SB) W) (V2 : ∀ (W : World) (g : Nat), W.heap[g]? = some (.cells CB 36 (0, 0)) → (convert 40 9 (.slice (some ⟨g, 0, none⟩) 32 32)).run Try.prog W = .ok (.string SC) W)
    (sB : Sz 32 B) (sA : Sz 4 A) (sCB : Sz 32 CB) :
    Calls Try.prog 4 #[.agg B, .agg A, .int .u64 n] w fun e w' => e = .returned (.bool true) ∧ Fr (fun _ => False) w w' := by
  have K := (((Kn.start w).new (w.heap.size) 32 B 36 rfl sB.1).new (w.heap.size + 1) 4 A 24 (by simp) sA.1)
  have EG := Try.guardElem
  have HV1 := Lib.hid V1
  have HV2 := Lib.hid V2
  clear V1 V2
  go_enter Try.func4, Try.ntmps4
  go_wp2_with (first
      | (focus (first | ((with_reducible refine' wpList_load_kn K rfl 24 (.tmp 4) rfl 0 _ _ _ _ rfl _ Try.underlying24 rfl Try.szEl _ _); rotate_left 2; (focus exact rfl))))
      | (focus ((first | ((with_reducible refine' wpList_store_kn K rfl 36 (.tmp 7) _ rfl 0 _ _ _ _ _ rfl rfl Try.szBa _ _ _); rotate_left 2; (focus exact rfl))); (focus assumption); intro wz Kz; clear K; have K := Kz; clear Kz; simp only [List.set_cons_zero, List.set_cons_succ] at K; try (simp only [Act.put, List.setIfInBounds_toArray, List.set_cons_zero, List.set_cons_succ])))
      | ((with_reducible refine wpList_new_kn K 36 _ _ _ _ #[.int .u8 0, .int .u8 0, .int .u8 0, .int .u8 0, .int .u8 0, .int .u8 0, .int .u8 0, .int .u8 0, .int .u8 0, .int .u8 0, .int .u8 0, .int .u8 0, .int .u8 0, .int .u8 0, .int .u8 0, .int .u8 0, .int .u8 0, .int .u8 0, .int .u8 0, .int .u8 0, .int .u8 0, .int .u8 0, .int .u8 0, .int .u8 0, .int .u8 0, .int .u8 0, .int .u8 0, .int .u8 0, .int .u8 0, .int .u8 0, .int .u8 0, .int .u8 0] 32 rfl Try.alBa rfl ?_); intro gz wz Kz; clear K; have K := Kz; clear Kz; try (simp only [Act.put, List.setIfInBounds_toArray, List.set_cons_zero, List.set_cons_succ]))
      | (go_at_call 28; (with_reducible refine Calls.kn K (BY _) ?_); intro wz Kz; clear K; have K := Kz; clear Kz))
  have cv1 : ∀ y : Wd wz, (convert 40 9 (.slice (some ⟨w.heap.size, 0, none⟩) 32 32)).run Try.prog y.w = .ok (.string SB) y.w := fun y => HV1.out y.w _ (y.blk (K.heap 2 rfl))
  have cv2 : ∀ y : Wd wz, (convert 40 9 (.slice (some ⟨gz, 0, none⟩) 32 32)).run Try.prog y.w = .ok (.string SC) y.w := fun y => HV2.out y.w _ (y.blk (K.heap 0 rfl))
  refine wp_region_keep (by kernel_rfl) (by kernel_rfl) ?_
  repeat (any_goals (first | (focus (go_big_quiet_want; (first | ((with_reducible refine' quiet_load_kn K 36 (.tmp 3) rfl 2 _ _ _ _ rfl _ Try.underlying36 rfl Try.szBa _ _); rotate_left 2; (focus exact rfl)) | ((with_reducible refine' quiet_load_kn K 24 (.tmp 4) rfl 1 _ _ _ _ rfl _ Try.underlying24 rfl Try.szEl _ _); rotate_left 2; (focus exact rfl)) | ((with_reducible refine' quiet_load_kn K 36 (.tmp 7) rfl 0 _ _ _ _ rfl _ Try.underlying36 rfl Try.szBa _ _); rotate_left 2; (focus exact rfl))); simp only [Act.put, List.setIfInBounds_toArray, List.set_cons_zero, List.set_cons_succ]; go_big_quiet_on)) | go_big_quiet_step ((first | (go_at_call 15; with_reducible exact Calls.keep (HV _)) | (go_at_call 29; with_reducible exact Calls.keep (OB _)) | (go_at_call 30; with_reducible exact Calls.keep (F5 _)) | (go_at_call 16; with_reducible exact Calls.keep (S1 _)) | (go_at_call 14; with_reducible exact Calls.keep (LO _)) | (go_at_call 31; with_reducible exact Calls.keep (B5 _)) | (go_at_call 32; with_reducible exact Calls.keep (SM _)) | (go_at_call 29; with_reducible exact Calls.keep (OC _)) | (go_at_call 17; with_reducible exact Calls.keep (RE _)))) | quiet_step ((first | (go_at_call 15; with_reducible exact Calls.keep (HV _)) | (go_at_call 29; with_reducible exact Calls.keep (OB _)) | (go_at_call 30; with_reducible exact Calls.keep (F5 _)) | (go_at_call 16; with_reducible exact Calls.keep (S1 _)) | (go_at_call 14; with_reducible exact Calls.keep (LO _)) | (go_at_call 31; with_reducible exact Calls.keep (B5 _)) | (go_at_call 32; with_reducible exact Calls.keep (SM _)) | (go_at_call 29; with_reducible exact Calls.keep (OC _)) | (go_at_call 17; with_reducible exact Calls.keep (RE _))))))
  refine wpQuiet_nil ?_
  intro _ hwz
  obtain ⟨y, rfl⟩ := hwz
  have Kz := K.call y.h
  clear K cv1 cv2
  have K := Kz
  clear Kz
  generalize y.w = wz at K ⊢
  clear y
  go_wp2_with fail
  go_ret
  exact ⟨rfl, K.fr⟩
theorem fbytes_law (l : List UInt8) (hl : l.length = 32) (X : Nat) (hX : X < 115792089237316195423570985008687907853269984665640564039457584007913129639936) (n : Nat) (hn : n < 18446744073709551616) (w : World) :
    Calls Try.prog 4 #[.agg (bv l).toArray, .agg (nc X), .int .u64 (n : Int)] w fun e w' => e = .returned (.bool true) ∧ Fr (fun _ => False) w w' := by
  obtain ⟨Y, hY, rfl⟩ := of_bytes l hl
  have hR : X % p25519 < p25519 := Nat.mod_lt _ p_pos
  have OC := fun W : World => fof_any (X % p25519) (mod_p_lt X) W
  rw [below255 _ hR] at OC
  have SM := fun W : World => fsmall_any n hn W
  have E1 := fun W : World => eql_same n (by omega) W
  rw [nc0_ n hn] at SM E1
  exact fbytesl ⟨(bl 32 Y).toArray⟩ ⟨(bl 32 (X % p25519)).toArray⟩ (n : Int) (nc X) (bv (bl 32 Y)).toArray (nc (Y % 57896044618658097711785492504343953926634992332820282019728792003956564819968 % p25519)) (nd (Y % 57896044618658097711785492504343953926634992332820282019728792003956564819968 % p25519)) (bv (bl 32 (X % p25519))).toArray (nd (X % p25519)) (nc (X % p25519)) w halves_any (fof_any Y hY) (from5_any Y hY) (same5_any _ (mod_p_lt _)) (fbytes_any X hX) (lof5_any X hX) (bytes5_any (X % p25519)) SM OC (fRest_any X hX) E1 (eql_same _ (mod_p_lt X)) (str_of_bl Y) (str_of_bl (X % p25519)) (sz_bl Y) (sz_nc X) (sz_bl _)
theorem fbytes_int (l : List UInt8) (hl : l.length = 32) (X : Nat) (hX : X < 115792089237316195423570985008687907853269984665640564039457584007913129639936) (z : Int) (hz : (Lit.int .u64 z).wf = true) (w : World) :
    Calls Try.prog 4 #[.agg (bv l).toArray, .agg (nc X), .int .u64 z] w fun e w' => e = .returned (.bool true) ∧ Fr (fun _ => False) w w' := by
  have h : 0 ≤ z ∧ z < 18446744073709551616 := by
    have e0 : IntKind.u64.min = 0 := rfl
    have e1 : IntKind.u64.max = 18446744073709551615 := rfl
    simp only [Lit.wf, e0, e1, Bool.and_eq_true, decide_eq_true_eq] at hz
    omega
  obtain ⟨n, rfl⟩ := Int.eq_ofNat_of_zero_le h.1
  exact fbytes_law l hl X hX n (by omega) w
end Go.Proofs.Ytahnlnflcgehaaa

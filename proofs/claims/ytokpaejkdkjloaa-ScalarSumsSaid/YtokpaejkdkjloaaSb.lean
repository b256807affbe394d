/-
  The contract of Bytes of package scalar.
-/
import Derived.Test.YtokpaejkdkjloaaRw
namespace Go.Proofs.Ytokpaejkdkjloaa
open Go.RowKit
set_option linter.unusedVariables false

theorem z32_bv : (#[.int .u8 0, .int .u8 0, .int .u8 0, .int .u8 0, .int .u8 0, .int .u8 0, .int .u8 0, .int .u8 0, .int .u8 0, .int .u8 0, .int .u8 0, .int .u8 0, .int .u8 0, .int .u8 0, .int .u8 0, .int .u8 0, .int .u8 0, .int .u8 0, .int .u8 0, .int .u8 0, .int .u8 0, .int .u8 0, .int .u8 0, .int .u8 0, .int .u8 0, .int .u8 0, .int .u8 0, .int .u8 0, .int .u8 0, .int .u8 0, .int .u8 0, .int .u8 0] : Array Value) = (bv (List.replicate 32 0)).toArray := by kernel_rfl
theorem bytes_set (R k : Nat) (hk : k < 32) : ((bv (bl k R ++ List.replicate (32 - k) 0)).toArray).setIfInBounds k (.int .u8 ((UInt8.ofNat (R / 256 ^ k % 256)).toNat : Int)) = (bv (bl (k + 1) R ++ List.replicate (32 - (k + 1)) 0)).toArray := by
  apply Array.toList_inj.1
  rw [Array.toList_setIfInBounds]
  apply List.ext_getElem
  · simp [bl_length]; omega
  · intro i h1 h2
    simp [bl_length] at h1 h2
    simp only [List.getElem_set, bv, List.getElem_map, List.getElem_append, bl_length]
    by_cases e : k = i
    · subst e
      simp [bl]
    · rw [if_neg e]
      by_cases e2 : i < k
      · simp [e2, bl, show i < k + 1 by omega]
      · simp [e2, show ¬ i < k + 1 by omega]
theorem bytes_size (l : List UInt8) (h : l.length = 32) : ((bv l).toArray).size = 32 := by simp [h]
theorem Try.sizeB32 (l : List UInt8) (h : l.length = 32) : (Try.prog.info? 36).map (·.size) = some ((bv l).toArray).size := by
  rw [bytes_size l h]; kernel_rfl
theorem bv_oneA (l : List UInt8) : ((bv l).toArray).all (·.oneCell') = true := by
  rw [List.all_toArray, List.all_eq_true]; exact bv_one l
set_option maxRecDepth 100000 in
set_option maxHeartbeats 1600000 in
theorem sbytes_any (X : Nat) (hX : X < 115792089237316195423570985008687907853269984665640564039457584007913129639936) (w : World) :
    Calls Try.prog 58 #[.agg (nc X)] w fun e w' => e = .returned (.agg (bv (bl 32 (X % LL))).toArray) ∧ Fr (fun _ => False) w w' := by
  have RX := fun (W : World) => srest_any X hX W
  generalize hRe : X % LL = R at RX ⊢
  have hR : R < 115792089237316195423570985008687907853269984665640564039457584007913129639936 := by rw [← hRe]; exact mod_LP _
  clear hRe
  obtain ⟨x0, x1, x2, x3, _, _, _, _, _, ex⟩ := nc_open (X) (hX)
  rw [ex] at RX ⊢
  clear ex
  have enq : nc R = uq 4 (dig 18446744073709551616 R) := nc_uq R
  obtain ⟨a0, a1, a2, a3, _, _, _, _, _, ea⟩ := nc_open R hR
  rw [ea] at RX enq
  clear ea hR
  go_enter Try.func58, Try.ntmps58
  go_wp2_with fail
  refine (RX _).mono ?_
  rintro e w1 ⟨rfl, F1⟩
  have A1 : w1.heap[w.heap.size]? = some (.cells #[.int .u64 (x0 : Int), .int .u64 (x1 : Int), .int .u64 (x2 : Int), .int .u64 (x3 : Int)] 77 (0, 0)) := F1.keepM (heap_alloc2_old w _ _)
  have C1 : w1.heap[w.heap.size + 1]? = some (.cells #[.int .u8 0, .int .u8 0, .int .u8 0, .int .u8 0, .int .u8 0, .int .u8 0, .int .u8 0, .int .u8 0, .int .u8 0, .int .u8 0, .int .u8 0, .int .u8 0, .int .u8 0, .int .u8 0, .int .u8 0, .int .u8 0, .int .u8 0, .int .u8 0, .int .u8 0, .int .u8 0, .int .u8 0, .int .u8 0, .int .u8 0, .int .u8 0, .int .u8 0, .int .u8 0, .int .u8 0, .int .u8 0, .int .u8 0, .int .u8 0, .int .u8 0, .int .u8 0] 36 (0, 0)) := F1.keepM (heap_alloc2_new w _ _)
  have G1 : Fr (fun _ => False) w w1 := (((Fr.refl _ w).alloc _).alloc _).trans F1 (fun _ h => h.elim)
  obtain ⟨i0, i1, i2, i3, i4, i5, i6, i7⟩ := blk4 A1
  have HA1 := Lib.hid A1
  have HC1 := Lib.hid C1
  have HG1 := Lib.hid G1
  have ENQ := Lib.hid enq
  clear RX A1 C1 G1 F1 enq
  go_wp2_with fail
  have zT : ((((w1.setCell ⟨w.heap.size, 0, none⟩ (.int .u64 (a0 : Int))).setCell ⟨w.heap.size, 1, none⟩ (.int .u64 (a1 : Int))).setCell ⟨w.heap.size, 2, none⟩ (.int .u64 (a2 : Int))).setCell ⟨w.heap.size, 3, none⟩ (.int .u64 (a3 : Int))).heap.size = w1.heap.size := by simp
  have T2 := heap_alloc_new ((((w1.setCell ⟨w.heap.size, 0, none⟩ (.int .u64 (a0 : Int))).setCell ⟨w.heap.size, 1, none⟩ (.int .u64 (a1 : Int))).setCell ⟨w.heap.size, 2, none⟩ (.int .u64 (a2 : Int))).setCell ⟨w.heap.size, 3, none⟩ (.int .u64 (a3 : Int))) (.cells #[.int .u8 0, .int .u8 0, .int .u8 0, .int .u8 0, .int .u8 0, .int .u8 0, .int .u8 0, .int .u8 0, .int .u8 0, .int .u8 0, .int .u8 0, .int .u8 0, .int .u8 0, .int .u8 0, .int .u8 0, .int .u8 0, .int .u8 0, .int .u8 0, .int .u8 0, .int .u8 0, .int .u8 0, .int .u8 0, .int .u8 0, .int .u8 0, .int .u8 0, .int .u8 0, .int .u8 0, .int .u8 0, .int .u8 0, .int .u8 0, .int .u8 0, .int .u8 0] 36)
  rw [zT] at T2
  have A2 := (Below.heap_alloc _ (.cells #[.int .u8 0, .int .u8 0, .int .u8 0, .int .u8 0, .int .u8 0, .int .u8 0, .int .u8 0, .int .u8 0, .int .u8 0, .int .u8 0, .int .u8 0, .int .u8 0, .int .u8 0, .int .u8 0, .int .u8 0, .int .u8 0, .int .u8 0, .int .u8 0, .int .u8 0, .int .u8 0, .int .u8 0, .int .u8 0, .int .u8 0, .int .u8 0, .int .u8 0, .int .u8 0, .int .u8 0, .int .u8 0, .int .u8 0, .int .u8 0, .int .u8 0, .int .u8 0] 36) _ (lt_of_block (set4 HA1.out _ _ _ _))).trans (set4 HA1.out (.int .u64 (a0 : Int)) (.int .u64 (a1 : Int)) (.int .u64 (a2 : Int)) (.int .u64 (a3 : Int)))
  have lC := lt_of_block HC1.out
  have C2 : (((((w1.setCell ⟨w.heap.size, 0, none⟩ (.int .u64 (a0 : Int))).setCell ⟨w.heap.size, 1, none⟩ (.int .u64 (a1 : Int))).setCell ⟨w.heap.size, 2, none⟩ (.int .u64 (a2 : Int))).setCell ⟨w.heap.size, 3, none⟩ (.int .u64 (a3 : Int))).alloc (.cells #[.int .u8 0, .int .u8 0, .int .u8 0, .int .u8 0, .int .u8 0, .int .u8 0, .int .u8 0, .int .u8 0, .int .u8 0, .int .u8 0, .int .u8 0, .int .u8 0, .int .u8 0, .int .u8 0, .int .u8 0, .int .u8 0, .int .u8 0, .int .u8 0, .int .u8 0, .int .u8 0, .int .u8 0, .int .u8 0, .int .u8 0, .int .u8 0, .int .u8 0, .int .u8 0, .int .u8 0, .int .u8 0, .int .u8 0, .int .u8 0, .int .u8 0, .int .u8 0] 36)).heap[w.heap.size + 1]? = some (.cells #[.int .u8 0, .int .u8 0, .int .u8 0, .int .u8 0, .int .u8 0, .int .u8 0, .int .u8 0, .int .u8 0, .int .u8 0, .int .u8 0, .int .u8 0, .int .u8 0, .int .u8 0, .int .u8 0, .int .u8 0, .int .u8 0, .int .u8 0, .int .u8 0, .int .u8 0, .int .u8 0, .int .u8 0, .int .u8 0, .int .u8 0, .int .u8 0, .int .u8 0, .int .u8 0, .int .u8 0, .int .u8 0, .int .u8 0, .int .u8 0, .int .u8 0, .int .u8 0] 36 (0, 0)) :=
    (Below.heap_alloc _ _ _ (by simpa using lC)).trans (keep_setM (keep_setM (keep_setM (keep_setM HC1.out (by simp) _) (by simp) _) (by simp) _) (by simp) _)
  have G2 : Fr (fun _ => False) w (((((w1.setCell ⟨w.heap.size, 0, none⟩ (.int .u64 (a0 : Int))).setCell ⟨w.heap.size, 1, none⟩ (.int .u64 (a1 : Int))).setCell ⟨w.heap.size, 2, none⟩ (.int .u64 (a2 : Int))).setCell ⟨w.heap.size, 3, none⟩ (.int .u64 (a3 : Int))).alloc (.cells #[.int .u8 0, .int .u8 0, .int .u8 0, .int .u8 0, .int .u8 0, .int .u8 0, .int .u8 0, .int .u8 0, .int .u8 0, .int .u8 0, .int .u8 0, .int .u8 0, .int .u8 0, .int .u8 0, .int .u8 0, .int .u8 0, .int .u8 0, .int .u8 0, .int .u8 0, .int .u8 0, .int .u8 0, .int .u8 0, .int .u8 0, .int .u8 0, .int .u8 0, .int .u8 0, .int .u8 0, .int .u8 0, .int .u8 0, .int .u8 0, .int .u8 0, .int .u8 0] 36)) :=
    ((((HG1.out.setCell (Or.inr (by simp)) _).setCell (Or.inr (by simp)) _).setCell (Or.inr (by simp)) _).setCell (Or.inr (by simp)) _).alloc _
  generalize ((((w1.setCell ⟨w.heap.size, 0, none⟩ (.int .u64 (a0 : Int))).setCell ⟨w.heap.size, 1, none⟩ (.int .u64 (a1 : Int))).setCell ⟨w.heap.size, 2, none⟩ (.int .u64 (a2 : Int))).setCell ⟨w.heap.size, 3, none⟩ (.int .u64 (a3 : Int))).alloc (.cells #[.int .u8 0, .int .u8 0, .int .u8 0, .int .u8 0, .int .u8 0, .int .u8 0, .int .u8 0, .int .u8 0, .int .u8 0, .int .u8 0, .int .u8 0, .int .u8 0, .int .u8 0, .int .u8 0, .int .u8 0, .int .u8 0, .int .u8 0, .int .u8 0, .int .u8 0, .int .u8 0, .int .u8 0, .int .u8 0, .int .u8 0, .int .u8 0, .int .u8 0, .int .u8 0, .int .u8 0, .int .u8 0, .int .u8 0, .int .u8 0, .int .u8 0, .int .u8 0] 36) = W2 at *
  generalize w1.heap.size = T at *
  rw [ENQ.out] at A2
  rw [z32_bv] at T2 C2
  clear i0 i1 i2 i3 i4 i5 i6 i7 HA1 HC1 HG1 zT
  go_loopw [4, 7] (fun i c wr => ∃ k : Nat, k ≤ 32 ∧ c = .int .i64 k ∧ wr.heap[T]? = some (.cells ((bv (bl k R ++ List.replicate (32 - k) 0)).toArray) 36 (0, 0)) ∧ wr.heap[w.heap.size]? = some (.cells (uq 4 (dig 18446744073709551616 R)) 77 (0, 0)) ∧ wr.heap[w.heap.size + 1]? = some (.cells (bv (List.replicate 32 0)).toArray 36 (0, 0)) ∧ Fr (fun _ => False) w wr) (fun _ c _ => 32 - (intOf c).toNat)
  case atStart => exact ⟨0, by omega, by simp, T2, A2, C2, G2⟩
  case round =>
    clear T2 A2 C2 G2
    obtain ⟨k, hk, rfl, hT, hA, hC, hF⟩ := hrel
    by_cases h32 : k < 32
    · have q0 : (0 : Int) ≤ (k : Int) := by omega
      have q1 : (k : Int) < 32 := by omega
      have hq4 : k / 8 < 4 := by omega
      have cA := cell_of_block hA (k / 8)
      rw [uq_get 4 _ _ hq4] at cA
      have cT := cell_of_block hT k
      have cT2 : ∃ v, ((bv (bl k R ++ List.replicate (32 - k) 0)).toArray)[k]? = some v := ⟨_, Array.getElem?_eq_getElem (by simp [bl_length]; omega)⟩
      obtain ⟨vo, hvo⟩ := cT2
      rw [hvo] at cT
      have fT := free_of_block hT k
      have hbw := byte_word R k
      have hset := bytes_set R k h32
      rw [← hbw] at hset
      have hq : ((k : Int)).tdiv 8 = ((k / 8 : Nat) : Int) := by rw [Int.tdiv_eq_ediv_of_nonneg (by omega)]; omega
      have hr : ((k : Int)).tmod 8 = ((k % 8 : Nat) : Int) := by rw [Int.tmod_eq_emod_of_nonneg (by omega)]; omega
      have hr64 : k % 8 < 8 := by omega
      clear hbw hvo
      generalize dig 18446744073709551616 R (k / 8) = z at cA hset
      generalize k / 8 = q at hq hq4 cA
      generalize hrr : k % 8 = r at hr hr64 hset
      obtain ⟨s, hs⟩ : ∃ s, s = 8 * r := ⟨_, rfl⟩
      rw [← hs] at hset
      have hs1 : (r : Int) * 8 = (s : Int) := by omega
      have qa : (0 : Int) ≤ (q : Int) := by omega
      have qb : (q : Int) < 4 := by omega
      have ra : (0 : Int) ≤ (s : Int) := by omega
      have rb : (s : Int) ≤ 64 := by omega
      have hsh : (z : Int) / 2 ^ s = ((z / 2 ^ s : Nat) : Int) := by simp
      have hby := byte_toNat (z / 2 ^ s)
      generalize UInt8.ofNat (z / 2 ^ s % 256) = y at hset hby
      generalize z / 2 ^ s = zz at hsh hby
      have B1 := block_setCell hT k (.int .u8 (y.toNat : Int))
      rw [hset, hby] at B1
      have E1 : Fr (fun i => i = T) wr (wr.setCell ⟨T, k, none⟩ (.int .u8 ((zz : Int) % 256))) := Fr.setCell (S := fun i => i = T) (Fr.refl _ wr) (Or.inl rfl) _
      have E5 := Lib.hid ((E1.block w.heap.size (lt_of_block hA) (by omega)).trans hA)
      have E6 := Lib.hid ((E1.block (w.heap.size + 1) (lt_of_block hC) (by omega)).trans hC)
      have E7 := Lib.hid (hF.setCell (p := ⟨T, k, none⟩) (Or.inr (by show w.heap.size ≤ T; omega)) (.int .u8 ((zz : Int) % 256)))
      have HB := Lib.hid B1
      clear hs hrr hby hset B1 E1 hT hA hC hF
      go_wp2_with fail
      go_roundw
      case rel => exact ⟨k + 1, by omega, by go_num, HB.out, E5.out, E6.out, E7.out⟩
      case measure => simp [intOf]; omega
    · obtain rfl : k = 32 := by omega
      rw [show 32 - 32 = 0 from rfl, List.replicate_zero, List.append_nil] at hT
      have hl := bl_length 32 R
      have s3 := Try.sizeB32 (bl 32 R) hl
      have s1 : ((bv (List.replicate 32 0)).toArray).size = ((bv (bl 32 R)).toArray).size := by rw [bytes_size _ hl, bytes_size _ (by simp)]
      have s2 := bv_oneA (bl 32 R)
      generalize hRR : (bv (bl 32 R)).toArray = RR at *
      have HR := Lib.hid hRR
      generalize (bv (List.replicate 32 0)).toArray = ZZ at *
      clear hA hRR h32 hk hl
      rw [show ((32 : Nat) : Int) = 32 from rfl]
      go_wp2_with (first
        | (with_reducible refine wpList_load_row rfl 36 (.tmp 3) rfl T rfl 36 RR (0, 0) _ hT Try.underlying36 rfl s3 ?_)
        | (with_reducible refine wpList_store_row rfl 36 (.tmp 2) (.tmp 22) rfl (w.heap.size + 1) RR rfl rfl 36 _ hC s3 s1 s2 ?_))
      refine bodyPost_ret (results_cell_row rfl _ _ (w.heap.size + 1) 36 RR (0, 0) _ rfl (setRow_heap _ _ _ _ _ _ hC) Try.underlying36 rfl s3) rfl ?_
      exact ⟨by rw [HR.out], hF.trans (Fr.setRow (S := fun k => k = w.heap.size + 1) (Fr.refl _ _) rfl _) (fun i hi => Or.inr (by omega))⟩
end Go.Proofs.Ytokpaejkdkjloaa


/-
  The contract of Of of package hmac.
-/
import Derived.Test.YtpgbghnjeonmjaaDoorHm
import Derived.Deep.RegionWith
namespace Go.Proofs.YtpgbghnjeonmjaaDoor
open Go.RowKit
set_option linter.unusedVariables false

set_option maxRecDepth 100000 in
theorem xor_lies {w : World} {b : Nat} {f : Nat → UInt8} {x : UInt8} {t : TypeId} {fr : Nat × Nat} (h : w.heap[b]? = some (.cells (ub 64 (fun j => f j ^^^ x)) t fr)) : Lies w (some ⟨b, 0, none⟩) (HM.xor f x) :=
  ub_lies h (by rw [HM.xor_length]; omega) (fun j hj => by rw [HM.xor_length] at hj; simp [HM.xor, List.getD, hj])
def HM.inn (k m : List UInt8) : List UInt8 := HM.xor (HM.blk k) 0x36 ++ m
def HM.out (k m : List UInt8) : List UInt8 := HM.xor (HM.blk k) 0x5c ++ S2.sum (HM.inn k m)
set_option maxRecDepth 100000 in
theorem HM.of_eq (k m : List UInt8) : HM.of k m = S2.sum (HM.out k m) := rfl

theorem run_load64 {w : World} {b : Nat} {f : Nat → UInt8} {t : TypeId} {fr : Nat × Nat} (h : w.heap[b]? = some (.cells (ub 64 f) t fr)) : (loadCells ⟨b, 0, none⟩ 64).run Tryd.prog w = .ok (ub 64 f) w := by
  have := run_loadCells_list (P := Tryd.prog) w ⟨b, 0, none⟩ (ub 64 f).toList (fun j v hv => by
    rw [addr_add, Nat.zero_add, cell_of_block h, ← Array.getElem?_toList]
    exact hv)
  simpa [ub_size] using this
set_option maxRecDepth 100000 in
theorem run_store32 {w : World} {b : Nat} {cs : Array Value} {l : List UInt8} {t : TypeId} (h : w.heap[b]? = some (.cells cs t (0, 0))) (hs : cs.size = 32) : (storeCells ⟨b, 0, none⟩ (sumc l).toList).run Tryd.prog w = .ok () (w.setRow b (sumc l)) := by
  have h1 := sumv_size (S2.hw (l ++ S2.pad l.length))
  have hone : (sumc l).all (·.oneCell') = true := sumv_one _
  have := run_storeCells_at Tryd.prog b 0 t (sumc l).toList 0 cs w h (by simp [hs]; exact Nat.le_of_eq h1) (fun v hv => (Array.all_eq_true_iff_forall_mem.1 hone) v (by simpa using hv))
  simp only [Nat.add_zero, List.take_zero, List.nil_append, Nat.zero_add] at this
  rw [this]
  have e : cs.toList.drop (sumc l).toList.length = [] := List.drop_eq_nil_of_le (by rw [Array.length_toList, Array.length_toList, hs]; exact Nat.le_of_eq h1.symm)
  rw [e]
  simp
set_option maxRecDepth 100000 in
theorem of_last {w9 : World} {b10 b9 : Nat} {k : List UInt8} {L : List UInt8} {t1 t2 : TypeId} {f1 f2 : Nat × Nat} (h10 : w9.heap[b10]? = some (.cells (ub 64 (fun j => HM.blk k j ^^^ 0x5c)) t1 f1)) (h9 : w9.heap[b9]? = some (.cells (sumc (HM.inn k L)) t2 f2)) (hE : Env w9) :
    Calls Tryd.prog 21 #[.slice (some ⟨w9.heap.size, 0, none⟩) 2 2] (w9.alloc (.cells #[.slice (some ⟨b10, 0, none⟩) 64 64, .slice (some ⟨b9, 0, none⟩) 32 32] 22)) fun e w' => e = .returned (.agg (sumc (HM.out k L))) ∧ Fr (fun _ => False) w9 w' := by
  have F0 := (Fr.refl (fun _ => False) w9).alloc (.cells #[.slice (some ⟨b10, 0, none⟩) 64 64, .slice (some ⟨b9, 0, none⟩) 32 32] 22)
  have c1 : Came w9 (some ⟨b10, 0, none⟩) 64 64 (HM.xor (HM.blk k) 0x5c) := ⟨HM.xor_length _ _, Nat.le_refl _, by unfold maxLen; omega, xor_lies h10, fun h => by cases h⟩
  have c2 : Came w9 (some ⟨b9, 0, none⟩) 32 32 (S2.sum (HM.inn k L)) := ⟨sum_length _, Nat.le_refl _, by unfold maxLen; omega, sum_lies h9, fun h => by cases h⟩
  refine (psum_any _ [HM.xor (HM.blk k) 0x5c, S2.sum (HM.inn k L)] 2 2 rfl _ (parts2 (heap_alloc_new w9 _) (c1.grow F0 (fun _ _ h => h)) (c2.grow F0 (fun _ _ h => h))) (by unfold maxLen; omega) (by simp [HM.xor_length, sum_length]) (hE.fr F0 (fun h => h))).mono ?_
  rintro e w1 ⟨rfl, F1⟩
  refine ⟨?_, F0.trans F1 (fun _ h => h.elim)⟩
  rw [show [HM.xor (HM.blk k) 0x5c, S2.sum (HM.inn k L)].flatten = HM.out k L by simp [HM.out]]
set_option maxRecDepth 100000 in
set_option maxHeartbeats 1600000 in
theorem hof_any (a a2 : Option Addr) (k : List UInt8) (n c : Nat) (L : List (List UInt8)) (m c2 : Nat) (w : World) (h : Came w a n c k) (hn2 : n ≤ 1152921504606846976) (hp : Parts w a2 L) (hm : L.length = m) (hm2 : m ≤ maxLen)
    (hl : L.flatten.length ≤ 1000000000000000000) (hE : Env w) :
    Calls Tryd.prog 20 #[.slice a n c, .slice a2 m c2] w fun e w' => e = .returned (.agg (sumc (HM.out k L.flatten))) ∧ Fr (fun _ => False) w w' := by
  have hm3 : m ≤ 9223372036854775807 := by unfold maxLen at hm2; omega
  go_enter Tryd.func20, Tryd.ntmps20
  go_wp2_with fail
  have hb0 := heap_alloc_new w (.cells (ub 32 (fun _ => 0)) 34)
  have F0 : Fr (fun _ => False) w (w.alloc (.cells (ub 32 (fun _ => 0)) 34)) := (Fr.refl _ w).alloc _
  rw [← zero32] at hb0 F0
  have h0 := h.grow F0 (fun _ _ h => h)
  have hE0 := hE.fr F0 (fun h => h)
  generalize (w.alloc (.cells _ 34)) = w0 at *
  rw [zero32] at hb0
  refine (filled_any a k n c w0 h0 hn2 hE0).mono ?_
  rintro e w1 ⟨rfl, F1⟩
  have b1 := (F1.block _ (lt_of_block hb0) (fun h => h)).trans hb0
  have F01 := F0.trans F1 (fun _ h => h.elim)
  clear h0 hE0 hb0 F0 F1
  have hone : (ub 64 (HM.blk k)).all (·.oneCell') = true := ub_one _ _
  have hsz : (ub 64 (fun _ => 0)).size = (ub 64 (HM.blk k)).size := (ub_size _ _).trans (ub_size _ _).symm
  have hnew := heap_alloc_new w1 (.cells (ub 64 (fun _ => 0)) 25)
  rw [← zero64] at hnew hsz
  go_wp2_with (with_reducible refine wpList_store_rowA rfl 25 (.tmp 5) (.tmp 11) rfl w1.heap.size (ub 64 (HM.blk k)) rfl rfl 25 _ hnew Tryd.size64u hsz hone ?k1)
  case k1 =>
  intro w2 b5 hG2
  have F12 : Fr (fun _ => False) w1 w2 := ((Fr.refl (fun _ => False) w1).alloc _).trans hG2 (fun i hi => Or.inr (by omega))
  have F02 := F01.trans F12 (fun _ h => h.elim)
  have b2 := (F12.block _ (lt_of_block b1) (fun h => h)).trans b1
  have z1 := lt_of_block b1
  have z5 := lt_of_block b5
  generalize hB5 : w1.heap.size = B5 at *
  clear hnew hG2 hsz
  go_wp2_with fail
  refine (new_any _).mono ?_
  rintro e w3 ⟨rfl, H3, F3⟩
  have b53 := (F3.block _ (lt_of_block b5) (fun h => h)).trans b5
  have b33 := (F3.block _ (lt_of_block b2) (fun h => h)).trans b2
  have F03 := F02.trans F3 (fun _ h => h.elim)
  generalize hBH : w2.heap.size = BH at *
  have z3 := H3.lt
  go_wp2_with (with_reducible refine wpList_load_row rfl 25 (.tmp 5) rfl B5 rfl 25 (ub 64 (HM.blk k)) (0, 0) _ b53 Tryd.underlying25 rfl Tryd.size64u ?_)
  refine (hturned_any (HM.blk k) 0x36 54 rfl w3).mono ?_
  rintro e w4 ⟨rfl, b4, F4⟩
  have H4 := H3.fr F4 (fun h => h)
  have F04 := F03.trans F4 (fun _ h => h.elim)
  have hE4 := hE.fr F04 (fun h => h)
  have hl4 := xor_lies b4
  have z4 := F4.size
  go_wp2_with fail
  refine (write_any' BH [] (HM.xor (HM.blk k) 54) _ 64 64 (HM.xor_length _ _) w4 H4 hl4 (Nat.le_refl _) (by unfold maxLen; omega) (Or.inr ?hnb) (by simp) hE4.tab hE4.lt (by have := hE.lt; omega)).mono ?_
  case hnb =>
    rintro ⟨ad, e, hb⟩
    cases e
    simp at hb
    omega
  rintro e w5 ⟨rfl, H5, G5⟩
  rw [List.nil_append] at H5
  have F05 : Fr (fun _ => False) w w5 := F04.trans G5 (fun i hi => Or.inr (by omega))
  have b55 := (G5.block B5 (by omega) (by omega)).trans ((F4.block _ (lt_of_block b53) (fun h => h)).trans b53)
  have b35 := (G5.block w.heap.size (by omega) (by omega)).trans ((F4.block _ (lt_of_block b33) (fun h => h)).trans b33)
  clear b1 b2 b5 b53 b33 b4 hl4 H3 H4 hE4 F01 F12 F02 F03 F04
  go_wp2_with fail
  go_loopw [19] (fun i wr => ∃ q : Nat, q ≤ m ∧ i = .int .i64 q ∧ HIs wr BH (HM.xor (HM.blk k) 54 ++ (L.take q).flatten) ∧ wr.heap[B5]? = some (.cells (ub 64 (HM.blk k)) 25 (0, 0)) ∧ wr.heap[w.heap.size]? = some (.cells (ub 32 (fun _ => 0)) 34 (0, 0)) ∧ Fr (fun _ => False) w wr) (fun i _ => m - (intOf i).toNat)
  case atStart => exact ⟨0, by omega, by simp, by simpa using H5, b55, b35, F05⟩
  case round =>
    clear H5 b55 b35 F05 F4 F3 G5
    obtain ⟨q, hq, rfl, hI, hb5, hb3, hF⟩ := hrel
    have hE1 := hE.fr hF (fun h => h)
    have hxl := HM.xor_length (HM.blk k) 54
    have z6 := hI.lt
    by_cases hlt : q < m
    · have hkL : q < L.length := by omega
      obtain ⟨p, hp1⟩ : ∃ p, p = L[q]'hkL := ⟨_, rfl⟩
      have e2 : L.take (q + 1) = L.take q ++ [p] := by rw [hp1, List.take_succ_eq_append_getElem hkL]
      have hsub : ((L.take q).flatten).length + p.length ≤ 1000000000000000000 := by
        have e3 : L.flatten = (L.take (q + 1)).flatten ++ (L.drop (q + 1)).flatten := by rw [← List.flatten_append, List.take_append_drop]
        have e4 : (L.take (q + 1)).flatten = (L.take q).flatten ++ p := by rw [e2, List.flatten_append]; simp
        rw [e3, e4, List.length_append, List.length_append] at hl
        omega
      obtain ⟨g, o, ha, hc⟩ := hp.resolve_left (fun e => by rw [e] at hm; simp at hm; omega)
      obtain ⟨aj, cj, h1, h2, h3, h4⟩ := hc q hkL
      rw [← hp1] at h1 h2 h3
      clear hp1
      subst ha
      have h1' := hF.cellSome (p := ⟨g, o + q, none⟩) (fun h => h) h1
      have hnb : p = [] ∨ ¬ inBlk aj BH := by
        by_cases e : p = []
        · exact Or.inl e
        · exact Or.inr fun hb => by have := h2.lt e _ hb; omega
      have hz := hE.lt
      go_wp2_with fail
      refine (write_any BH _ p aj cj _ hI (h2.grow hF) h3 h4 hnb (by rw [List.length_append, hxl]; omega) hE1.tab hE1.lt (by omega)).mono ?_
      rintro e w6 ⟨rfl, hI2, hG2⟩
      have hF2 : Fr (fun _ => False) w w6 := hF.trans hG2 (fun i hi => Or.inr (by omega))
      have hI3 : HIs w6 BH (HM.xor (HM.blk k) 54 ++ (L.take (q + 1)).flatten) := by
        rw [e2, List.flatten_append]
        simpa using hI2
      have hb52 := (hG2.block B5 (lt_of_block hb5) (by omega)).trans hb5
      have hb32 := (hG2.block w.heap.size (lt_of_block hb3) (by omega)).trans hb3
      clear hI hF hI2 hG2 h1 h1' hE1 e2 hb5 hb3
      go_wp2
      go_roundw
      case rel => exact ⟨q + 1, by omega, by go_num, hI3, hb52, hb32, hF2⟩
      case measure => simp [intOf]; omega
    · have e1 : L.take q = L := List.take_of_length_le (by omega)
      rw [e1] at hI
      clear e1
      have ht : decide ((q : Int) < (m : Int)) = false := by simp; omega
      go_wp2_with fail
      refine (hsum_any BH _ _ hI (by rw [List.length_append, hxl]; omega) hE1).mono ?_
      rintro e w7 ⟨rfl, F7⟩
      replace hb5 := (F7.block _ (lt_of_block hb5) (fun h => h)).trans hb5
      replace hb3 := (F7.block _ (lt_of_block hb3) (fun h => h)).trans hb3
      replace hF := hF.trans F7 (fun _ h => h.elim)
      have hin : HM.xor (HM.blk k) 54 ++ L.flatten = HM.inn k L.flatten := rfl
      rw [hin]
      have hone : (sumc (HM.inn k L.flatten)).all (·.oneCell') = true := sumv_one _
      have hsz : (ub 32 (fun _ => 0)).size = (sumc (HM.inn k L.flatten)).size := (ub_size _ _).trans (sumv_size _).symm
      have hnew := heap_alloc_new w7 (.cells (ub 32 (fun _ => 0)) 34)
      have z7 := F7.size
      rw [← zero32] at hnew hsz
      clear F7 hI hE1
      go_wp2_with (with_reducible refine wpList_store_rowA rfl 34 (.tmp 9) (.tmp 28) rfl w7.heap.size (sumc (HM.inn k L.flatten)) rfl rfl 34 _ hnew Tryd.sizeC hsz hone ?k1)
      case k1 =>
      intro w8 b9 hG8
      have F78 : Fr (fun _ => False) w7 w8 := ((Fr.refl (fun _ => False) w7).alloc _).trans hG8 (fun i hi => Or.inr (by omega))
      have b59 := (F78.block _ (lt_of_block hb5) (fun h => h)).trans hb5
      have b39 := (F78.block _ (lt_of_block hb3) (fun h => h)).trans hb3
      have F8 := hF.trans F78 (fun _ h => h.elim)
      clear hb5 hb3 hF F78 hG8 hnew hsz hone
      go_wp2_with fail
      generalize hB9 : w7.heap.size = B9 at *
      have b58 : w8.drew.heap[B5]? = some (.cells (ub 64 (HM.blk k)) 25 (0, 0)) := b59
      have hE8 := hE.fr F8.drew (fun h => h)
      have z8 : w.heap.size < w8.drew.heap.size := lt_of_block (w := w8.drew) b39
      have z9 : B9 < w8.drew.heap.size := lt_of_block (w := w8.drew) b9
      refine wp_region_any (by kernel_rfl) ?_
      change wpAny _ _ _ _ _ _ _ (World.drew w8)
      refine wpAny_take (i := 2) (v := .slice (some ⟨B9, 0, none⟩) 32 32) rfl (by kernel_rfl) (by kernel_rfl) (by kernel_rfl) (fun _ _ _ h => h) (Or.inl ⟨by rfl, ?_⟩) ?_
      · intro w
        go_simp
      refine wpAny_ready (rs := [0]) (by kernel_rfl) (by simp) ?_
      refine AllReady.cons rfl (fun K hK => ?_) AllReady.nil
      refine wp_load_row 25 (.tmp 5) rfl B5 rfl 25 (ub 64 (HM.blk k)) (0, 0) _ b58 Tryd.underlying25 rfl Tryd.size64u ?_
      refine hK _ _ ?_; clear hK K
      refine wpAny_ready (rs := [1]) (by kernel_rfl) (by simp) ?_
      refine AllReady.cons rfl (fun K hK => ?_) AllReady.nil
      go_simp
      refine (hturned_any (HM.blk k) 0x5c 92 rfl _).mono ?_
      rintro e w9 ⟨rfl, b10, F9⟩
      have b99 := (F9.block _ z9 (fun h => h)).trans b9
      have hE9 := hE8.fr F9 (fun h => h)
      have b40 := (F9.block _ z8 (fun h => h)).trans b39
      go_simp
      refine hK _ _ ?_; clear hK K
      refine wpAny_ready (rs := [3]) (by kernel_rfl) (by simp) ?_
      refine AllReady.cons rfl (fun K hK => ?_) AllReady.nil
      go_simp
      refine hK _ _ ?_; clear hK K
      refine wpAny_ready (rs := [4]) (by kernel_rfl) (by simp) ?_
      refine AllReady.cons rfl (fun K hK => ?_) AllReady.nil
      go_simp
      refine (of_last b10 b99 hE9).mono ?_
      rintro e w10 ⟨rfl, F10⟩
      have b41 := (F10.block _ (lt_of_block b40) (fun h => h)).trans b40
      have hsz : (ub 32 (fun _ => 0)).size = (sumc (HM.out k L.flatten)).size := (ub_size _ _).trans (sumv_size _).symm
      have hone : (sumc (HM.out k L.flatten)).all (·.oneCell') = true := sumv_one _
      go_simp
      refine hK _ _ ?_; clear hK K
      refine wpAny_ready (rs := [5]) (by kernel_rfl) (by simp) ?_
      refine AllReady.cons rfl (fun K hK => ?_) AllReady.nil
      refine wp_store_row 34 (.tmp 4) (.tmp 33) rfl w.heap.size (sumc (HM.out k L.flatten)) rfl rfl 34 _ b41 Tryd.sizeC hsz hone ?_
      refine hK _ _ ?_; clear hK K
      refine wpAny_done (by kernel_rfl) ?_ _
      go_wp2
      refine bodyPost_ret (results_cell_row rfl _ _ w.heap.size 34 (sumc (HM.out k L.flatten)) (0, 0) _ rfl (setRow_heap _ _ _ _ _ _ b41) Tryd.underlying34 rfl Tryd.sizeC) rfl ?_
      exact ⟨rfl, ((F8.drew.trans F9 (fun _ h => h.elim)).trans F10 (fun _ h => h.elim)).trans (Fr.setRow (S := fun k => k = w.heap.size) (Fr.refl _ _) rfl _) (fun i hi => Or.inr (by omega))⟩
end Go.Proofs.YtpgbghnjeonmjaaDoor


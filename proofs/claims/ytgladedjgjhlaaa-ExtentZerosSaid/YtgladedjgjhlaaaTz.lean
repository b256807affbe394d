/-
  DiskLasts: the third loop: what is read behind the crash.
-/
import Derived.Test.YtgladedjgjhlaaaTy
import Derived.Test.YtgladedjgjhlaaaTw
namespace Go.Proofs.Ytgladedjgjhlaaa
open Go.RowKit
set_option linter.unusedVariables false
set_option linter.unusedSimpArgs false
theorem bld0 : Try.zeroCells30.setIfInBounds 0 (.int .u8 0) = ub 128 (b1 0) := bld 0
set_option maxRecDepth 100000 in
set_option maxHeartbeats 6400000 in
theorem lasts3 {Q : Exit → Act → World → Prop} {w0 w : World} {d bn bl gt : Nat} {v0 vw : Value} {first : List UInt8} {M : Nat → Nat → UInt8} {wr : Int} {Tf : Nat → Bool} (hM : ∀ j, j < 8 → Tf j = false → M j = b1 (first.getD j 0)) (hb : BL w0 v0 first) (D : DA w d bn bl 8 M M [] vw wr 0 false w0.heap.size) (F : Fr (fun _ => False) w0 w) (G : w.heap[gt]? = some (.cells (tbl Tf) 54 (0, 0))) (t : Array Value) (hn : t.size = 112)
    (p0 : t[0]? = some v0) (p7 : t[7]? = some (.pointer (some ⟨d, 0, none⟩))) (p9 : t[9]? = some (.pointer (some ⟨gt, 0, none⟩))) (p13 : t[13]? = some (.int .i64 0))
    (hexit : ∀ t' w', t'.size = 112 → Fr (fun _ => False) w0 w' → Q (.exit 4) ⟨t', []⟩ w') :
    Code.wp Try.prog (.loop (loopAt Try.f5 2)) Q ⟨t, []⟩ w := by
  obtain ⟨a, cap, rfl, hl, hc⟩ := hb
  refine wp_loop_up 8 (fun k t w' => t.size = 112 ∧ t[0]? = some (.slice a first.length cap) ∧ t[7]? = some (.pointer (some ⟨d, 0, none⟩)) ∧ t[9]? = some (.pointer (some ⟨gt, 0, none⟩)) ∧ t[13]? = some (.int .i64 (k : Int)) ∧ DA w' d bn bl 8 M M [] vw wr 0 false w0.heap.size ∧ Fr (fun _ => False) w0 w' ∧ w'.heap[gt]? = some (.cells (tbl Tf) 54 (0, 0))) t w ⟨hn, p0, p7, p9, p13, D, F, G⟩ ?_
  clear hn p0 p7 p9 p13 t D F G
  rintro k t w1 hk ⟨hn, p0, p7, p9, p13, D, F1, G1⟩ K hK
  obtain ⟨f, hff, rfl⟩ := frame_open hn
  have e0 := hff 0 _ p0
  have e7 := hff 7 _ p7
  have e9 := hff 9 _ p9
  have e13 := hff 13 _ p13
  clear hff hn p0 p7 p9 p13
  rw [lit112, e0, e7, e9, e13]
  clear e0 e7 e9 e13
  conv => arg 2; whnf
  have HE := Lib.hid hexit
  have HK := Lib.hid hK
  have HD := Lib.hid D
  have HF := Lib.hid F1
  have HC := Lib.hid hc
  have HM := Lib.hid hM
  clear hexit hK D hc hM
  have w4 : wrap64 ((k : Int) + 1) = (k : Int) + 1 := IntWalk.wrap64_in _ (by omega)
  have v4 : IntKind.i64.wrap ((k : Int) + 1) = (k : Int) + 1 := IntWalk.i64_in _ (by omega)
  have sZ : Sz 128 Try.zeroCells30 := by rw [Try.zBk]; exact ⟨ub_size _ _, ub_one _ _⟩
  by_cases hlt : k < 8
  · have hk8 : k < 8 := hlt
    have q8 : (k : Int) < 8 := by omega
    have q0 : (0 : Int) ≤ (k : Int) := by omega
    clear F1
    go_wp2_with fail
    refine (read_in HD.out k hk8 (M k) rfl).mono ?_
    rintro e w2 ⟨rfl, F2⟩
    have K1 := (Kn.start w2).new (w2.heap.size) 128 Try.zeroCells30 30 rfl sZ.1
    have sB : Sz 128 (ub 128 (M k)) := ⟨ub_size _ _, ub_one _ _⟩
    have HG := Lib.hid (show ∀ W : World, Fr (fun _ => False) w2 W → W.cell? ⟨gt, k, none⟩ = some (.bool (Tf k)) from fun W hF => by rw [cell_of_block ((F2.trans hF (fun _ h => h.elim)).kp G1)]; exact tbl_get Tf k hk8)
    by_cases hkl : k < first.length
    · have ql : (k : Int) < (first.length : Int) := by omega
      obtain ⟨x, hx⟩ : ∃ x, first[k]? = some x := ⟨_, List.getElem?_eq_getElem hkl⟩
      obtain ⟨g, o, rfl, hgl, hcell⟩ := HC.out k x hx
      have HB := Lib.hid (show ∀ W : World, Fr (fun _ => False) w2 W → W.cell? ⟨g, o + k, none⟩ = some (.int .u8 (x.toNat : Int)) from fun W hF => by rw [cell_fr ((HF.out.trans F2 (fun _ h => h.elim)).trans hF (fun _ h => h.elim)) hgl (fun h => h)]; exact hcell)
      have hgx : first.getD k 0 = x := by rw [List.getD_eq_getElem?_getD, hx]; rfl
      clear hcell hx hgl
      cases hTk : Tf k with
      | false =>
        rw [hTk] at HG
        have e1 : M k = b1 x := by rw [HM.out k hk8 hTk, hgx]
        have hneq : ∀ W : World, (binOp .neq 30 (.agg (ub 128 (M k))) (.agg (Try.zeroCells30.setIfInBounds 0 (.int .u8 (x.toNat : Int))))).run Try.prog W = .ok (.bool false) W := fun W => by rw [e1, bld x, neq_blk, beq_self_eq_true]; rfl
        clear e1
        generalize ub 128 (M k) = B at sB hneq ⊢
        go_wp2_with (first | (focus (((with_reducible refine' wpList_store_kn K1 rfl 30 (.tmp 14) _ rfl 0 _ _ _ _ _ rfl rfl Try.szBk _ _ _); rotate_left 2; (focus exact rfl)); (focus (with_reducible assumption)); intro wz Kz; clear K1; have K1 := Kz; clear Kz; simp only [List.set_cons_zero] at K1; have cf := HB.out _ K1.fr; have cg := HG.out _ K1.fr; try (simp only [Act.put, List.setIfInBounds_toArray, List.set_cons_zero, List.set_cons_succ]))) | (focus (refine' wpList_load_pt_gd K1 rfl 30 (.tmp 14) rfl 0 _ _ 0 128 _ _ _ rfl _ Try.underlying30 rfl Try.szBk rfl (Part.whole _) sB.1 _)))
        exact HK.out _ _ hlt ⟨rfl, rfl, rfl, rfl, by simp, HD.out.fr (F2.trans K1.fr (fun _ h => h.elim)) (fun _ _ h => h), HF.out.trans (F2.trans K1.fr (fun _ h => h.elim)) (fun _ h => h.elim), (F2.trans K1.fr (fun _ h => h.elim)).kp G1⟩
      | true =>
        rw [hTk] at HG
        generalize ub 128 (M k) = B at sB ⊢
        go_wp2_with (focus (((with_reducible refine' wpList_store_kn K1 rfl 30 (.tmp 14) _ rfl 0 _ _ _ _ _ rfl rfl Try.szBk _ _ _); rotate_left 2; (focus exact rfl)); (focus (with_reducible assumption)); intro wz Kz; clear K1; have K1 := Kz; clear Kz; simp only [List.set_cons_zero] at K1; have cf := HB.out _ K1.fr; have cg := HG.out _ K1.fr; try (simp only [Act.put, List.setIfInBounds_toArray, List.set_cons_zero, List.set_cons_succ])))
        exact HK.out _ _ hlt ⟨rfl, rfl, rfl, rfl, by simp, HD.out.fr (F2.trans K1.fr (fun _ h => h.elim)) (fun _ _ h => h), HF.out.trans (F2.trans K1.fr (fun _ h => h.elim)) (fun _ h => h.elim), (F2.trans K1.fr (fun _ h => h.elim)).kp G1⟩
    · have ql : ¬ ((k : Int) < (first.length : Int)) := by omega
      have t2 : decide ((k : Int) < (first.length : Int)) = false := by simpa using ql
      have hg0x : first.getD k 0 = 0 := by rw [List.getD_eq_getElem?_getD, List.getElem?_eq_none (by omega)]; rfl
      cases hTk : Tf k with
      | false =>
        rw [hTk] at HG
        have e1 : M k = b1 0 := by rw [HM.out k hk8 hTk, hg0x]
        have hneq : ∀ W : World, (binOp .neq 30 (.agg (ub 128 (M k))) (.agg (Try.zeroCells30.setIfInBounds 0 (.int .u8 0)))).run Try.prog W = .ok (.bool false) W := fun W => by rw [e1, bld0, neq_blk, beq_self_eq_true]; rfl
        clear e1
        generalize ub 128 (M k) = B at sB hneq ⊢
        go_wp2_with (first | (focus (((with_reducible refine' wpList_store_kn K1 rfl 30 (.tmp 14) _ rfl 0 _ _ _ _ _ rfl rfl Try.szBk _ _ _); rotate_left 2; (focus exact rfl)); (focus (with_reducible assumption)); intro wz Kz; clear K1; have K1 := Kz; clear Kz; simp only [List.set_cons_zero] at K1; have cg := HG.out _ K1.fr; try (simp only [Act.put, List.setIfInBounds_toArray, List.set_cons_zero, List.set_cons_succ]))) | (focus (refine' wpList_load_pt_gd K1 rfl 30 (.tmp 14) rfl 0 _ _ 0 128 _ _ _ rfl _ Try.underlying30 rfl Try.szBk rfl (Part.whole _) sB.1 _)))
        exact HK.out _ _ hlt ⟨rfl, rfl, rfl, rfl, by simp, HD.out.fr (F2.trans K1.fr (fun _ h => h.elim)) (fun _ _ h => h), HF.out.trans (F2.trans K1.fr (fun _ h => h.elim)) (fun _ h => h.elim), (F2.trans K1.fr (fun _ h => h.elim)).kp G1⟩
      | true =>
        rw [hTk] at HG
        generalize ub 128 (M k) = B at sB ⊢
        go_wp2_with (focus (((with_reducible refine' wpList_store_kn K1 rfl 30 (.tmp 14) _ rfl 0 _ _ _ _ _ rfl rfl Try.szBk _ _ _); rotate_left 2; (focus exact rfl)); (focus (with_reducible assumption)); intro wz Kz; clear K1; have K1 := Kz; clear Kz; simp only [List.set_cons_zero] at K1; have cg := HG.out _ K1.fr; try (simp only [Act.put, List.setIfInBounds_toArray, List.set_cons_zero, List.set_cons_succ])))
        exact HK.out _ _ hlt ⟨rfl, rfl, rfl, rfl, by simp, HD.out.fr (F2.trans K1.fr (fun _ h => h.elim)) (fun _ _ h => h), HF.out.trans (F2.trans K1.fr (fun _ h => h.elim)) (fun _ h => h.elim), (F2.trans K1.fr (fun _ h => h.elim)).kp G1⟩
  · obtain rfl : k = 8 := by omega
    go_wp2_with fail
    exact HE.out _ _ rfl HF.out
end Go.Proofs.Ytgladedjgjhlaaa

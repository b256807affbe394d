/-
  ExtentZeros: what is read behind the crash.
-/
import Derived.Test.YtgladedjgjhlaaaXs
import Derived.Test.YtgladedjgjhlaaaTw
namespace Go.Proofs.Ytgladedjgjhlaaa
open Go.RowKit
set_option linter.unusedVariables false
set_option linter.unusedSimpArgs false
set_option maxRecDepth 100000 in
set_option maxHeartbeats 6400000 in
theorem zeros5 {Q : Exit → Act → World → Prop} {w : World} {d bn bl gt q : Nat} {Wf : Nat → UInt8} {M : Nat → Nat → UInt8} {vw : Value} {wr : Int} {base : Nat} {b24 : Bool} (hq : q < 4) (hM : ∀ j, j < 20 → M j = b127 (if 2 + 4 * q ≤ j ∧ j < 6 + 4 * q then 0 else Wf j)) (D : DA w d bn bl 20 M M [] vw wr 0 false base) (G : w.heap[gt]? = some (.cells (ub 20 Wf) 82 (0, 0))) (t : Array Value) (hn : t.size = 211)
    (p7 : t[7]? = some (.pointer (some ⟨d, 0, none⟩))) (p8 : t[8]? = some (.int .i64 0)) (p11 : t[11]? = some (.pointer (some ⟨gt, 0, none⟩))) (p14 : t[14]? = some (.int .i64 (q : Int))) (p24 : t[24]? = some (.bool b24)) (p25 : t[25]? = some (.int .i64 0))
    (hexit : ∀ t' w', t'.size = 211 → t'[8]? = some (.int .i64 0) → t'[24]? = some (.bool b24) → Fr (fun _ => False) w w' → Q (.exit 8) ⟨t', []⟩ w') :
    Code.wp Try.prog (.loop (loopAt Try.f8 4)) Q ⟨t, []⟩ w := by
  refine wp_loop_up 20 (fun k t w' => t.size = 211 ∧ t[7]? = some (.pointer (some ⟨d, 0, none⟩)) ∧ t[8]? = some (.int .i64 0) ∧ t[11]? = some (.pointer (some ⟨gt, 0, none⟩)) ∧ t[14]? = some (.int .i64 (q : Int)) ∧ t[24]? = some (.bool b24) ∧ t[25]? = some (.int .i64 (k : Int)) ∧ Fr (fun _ => False) w w') t w ⟨hn, p7, p8, p11, p14, p24, p25, Fr.refl _ _⟩ ?_
  clear hn p7 p8 p11 p14 p24 p25 t
  rintro k t w1 hk ⟨hn, p7, p8, p11, p14, p24, p25, F1⟩ K hK
  obtain ⟨f, hff, rfl⟩ := frame_open hn
  have e7 := hff 7 _ p7
  have e8 := hff 8 _ p8
  have e11 := hff 11 _ p11
  have e14 := hff 14 _ p14
  have e24 := hff 24 _ p24
  have e25 := hff 25 _ p25
  clear hff hn p7 p8 p11 p14 p24 p25
  rw [lit211, e7, e8, e11, e14, e24, e25]
  clear e7 e8 e11 e14 e24 e25
  conv => arg 2; whnf
  have HE := Lib.hid hexit
  have HK0 := Lib.hid hK
  have HD := Lib.hid (D.fr F1 (fun _ _ h => h))
  have HG := Lib.hid (F1.kp G)
  have HF0 := Lib.hid F1
  have HM := Lib.hid hM
  have sZ : Sz 128 Try.zeroCells30 := by rw [Try.zBk]; exact ⟨ub_size _ _, ub_one _ _⟩
  clear hexit hK D F1 G hM
  by_cases hlt : k < 20
  · have q8 : (k : Int) < 20 := by omega
    have q0 : (0 : Int) ≤ (k : Int) := Int.natCast_nonneg k
    have hk8 : k ≤ 8192 := by omega
    have n1 : 2 + 4 * q ≤ k ↔ ((2 + 4 * q : Nat) : Int) ≤ (k : Int) := Int.ofNat_le.symm
    have n2 : k < 6 + 4 * q ↔ (k : Int) < ((6 + 4 * q : Nat) : Int) := Int.ofNat_lt.symm
    have hMk := HM.out k hlt
    have m1 := wrs k hk8
    have m2 := wrs2 k hk8
    have r1 := dr1 q hq
    have r2 := dr2 q hq
    have r3 := dr6 q hq
    have u1 := ds1 q hq
    have u2 := ds2 q hq
    have u3 := ds6 q hq
    generalize 2 + 4 * q = b at *
    generalize 6 + 4 * q = c at *
    generalize 4 * q = a at *
    have N1 := Lib.hid n1
    have N2 := Lib.hid n2
    have HMk := Lib.hid hMk
    clear n1 n2 hMk
    go_wp2_with fail
    refine (read_in HD.out k hlt (M k) rfl).mono ?_
    rintro e w2 ⟨rfl, F2⟩
    have HF := Lib.hid (HF0.out.trans F2 (fun _ h => h.elim))
    have HWW := Lib.hid (show ∀ W : World, Fr (fun _ => False) w2 W → W.cell? ⟨gt, k, none⟩ = some (.int .u8 ((Wf k).toNat : Int)) from fun W hF => (cell_of_block ((F2.trans hF (fun _ h => h.elim)).kp HG.out) k).trans (ub_get 20 Wf k hlt))
    have HK := Lib.hid (show ∀ t' w', k < 20 → (t'.size = 211 ∧ t'[7]? = some (.pointer (some ⟨d, 0, none⟩)) ∧ t'[8]? = some (.int .i64 0) ∧ t'[11]? = some (.pointer (some ⟨gt, 0, none⟩)) ∧ t'[14]? = some (.int .i64 (q : Int)) ∧ t'[24]? = some (.bool b24) ∧ t'[25]? = some (.int .i64 ((k + 1 : Nat) : Int)) ∧ Fr (fun _ => False) w w') → K ⟨t', []⟩ w' from HK0.out)
    have K1 := (Kn.start w2).new (w2.heap.size) 128 Try.zeroCells30 30 rfl sZ.1
    have sB : Sz 128 (ub 128 (M k)) := ⟨ub_size _ _, ub_one _ _⟩
    clear F2
    by_cases h1 : (b : Int) ≤ (k : Int)
    · by_cases h2 : (k : Int) < (c : Int)
      · have hm : M k = b127 0 := by rw [HMk.out, if_pos ⟨N1.out.2 h1, N2.out.2 h2⟩]
        have HMK := Lib.hid hm
        clear hm
        have hne : ∀ W : World, (binOp .neq 30 (.agg (ub 128 (M k))) (.agg (Try.zeroCells30.setIfInBounds 127 (.int .u8 0)))).run Try.prog W = .ok (.bool false) W := fun W => by rw [bld127_0, neq_blk, HMK.out, beq_self_eq_true]; rfl
        generalize ub 128 (M k) = B at sB hne ⊢
        go_wp2_with (first | (focus (((with_reducible refine' wpList_store_kn K1 rfl 30 (.tmp 26) _ rfl 0 _ _ _ _ _ rfl rfl Try.szBk _ _ _); rotate_left 2; (focus exact rfl)); (focus (with_reducible assumption)); intro wz Kz; clear K1; have K1 := Kz; clear Kz; simp only [List.set_cons_zero, List.set_cons_succ] at K1; have cw := HWW.out _ K1.fr; try (simp only [Act.put, List.setIfInBounds_toArray, List.set_cons_zero, List.set_cons_succ]))) | (focus (refine' wpList_load_pt_gd K1 rfl 30 (.tmp 26) rfl 0 _ _ 0 128 _ _ _ rfl _ Try.underlying30 rfl Try.szBk rfl (Part.whole _) sB.1 _)))
        exact HK.out _ _ hlt ⟨rfl, rfl, rfl, rfl, rfl, rfl, by simp, HF.out.trans K1.fr (fun _ h => h.elim)⟩
      · have hm : M k = b127 (Wf k) := by rw [HMk.out, if_neg (fun h => h2 (N2.out.1 h.2))]
        have t2 : decide ((k : Int) < (c : Int)) = false := decide_eq_false h2
        have h2' : ((k : Int) < (c : Int)) = False := eq_false h2
        clear h2
        have HMK := Lib.hid hm
        clear hm
        have hne : ∀ W : World, (binOp .neq 30 (.agg (ub 128 (M k))) (.agg (Try.zeroCells30.setIfInBounds 127 (.int .u8 ((Wf k).toNat : Int))))).run Try.prog W = .ok (.bool false) W := fun W => by rw [bld127, neq_blk, HMK.out, beq_self_eq_true]; rfl
        generalize ub 128 (M k) = B at sB hne ⊢
        go_wp2_with (first | (focus (((with_reducible refine' wpList_store_kn K1 rfl 30 (.tmp 26) _ rfl 0 _ _ _ _ _ rfl rfl Try.szBk _ _ _); rotate_left 2; (focus exact rfl)); (focus (with_reducible assumption)); intro wz Kz; clear K1; have K1 := Kz; clear Kz; simp only [List.set_cons_zero, List.set_cons_succ] at K1; have cw := HWW.out _ K1.fr; try (simp only [Act.put, List.setIfInBounds_toArray, List.set_cons_zero, List.set_cons_succ]))) | (focus (refine' wpList_load_pt_gd K1 rfl 30 (.tmp 26) rfl 0 _ _ 0 128 _ _ _ rfl _ Try.underlying30 rfl Try.szBk rfl (Part.whole _) sB.1 _)))
        exact HK.out _ _ hlt ⟨rfl, rfl, rfl, rfl, rfl, rfl, by simp, HF.out.trans K1.fr (fun _ h => h.elim)⟩
    · have hm : M k = b127 (Wf k) := by rw [HMk.out, if_neg (fun h => h1 (N1.out.1 h.1))]
      have t1 : decide ((b : Int) ≤ (k : Int)) = false := decide_eq_false h1
      have HMK := Lib.hid hm
      clear hm
      have hne : ∀ W : World, (binOp .neq 30 (.agg (ub 128 (M k))) (.agg (Try.zeroCells30.setIfInBounds 127 (.int .u8 ((Wf k).toNat : Int))))).run Try.prog W = .ok (.bool false) W := fun W => by rw [bld127, neq_blk, HMK.out, beq_self_eq_true]; rfl
      generalize ub 128 (M k) = B at sB hne ⊢
      go_wp2_with (first | (focus (((with_reducible refine' wpList_store_kn K1 rfl 30 (.tmp 26) _ rfl 0 _ _ _ _ _ rfl rfl Try.szBk _ _ _); rotate_left 2; (focus exact rfl)); (focus (with_reducible assumption)); intro wz Kz; clear K1; have K1 := Kz; clear Kz; simp only [List.set_cons_zero, List.set_cons_succ] at K1; have cw := HWW.out _ K1.fr; try (simp only [Act.put, List.setIfInBounds_toArray, List.set_cons_zero, List.set_cons_succ]))) | (focus (refine' wpList_load_pt_gd K1 rfl 30 (.tmp 26) rfl 0 _ _ 0 128 _ _ _ rfl _ Try.underlying30 rfl Try.szBk rfl (Part.whole _) sB.1 _)))
      exact HK.out _ _ hlt ⟨rfl, rfl, rfl, rfl, rfl, rfl, by simp, HF.out.trans K1.fr (fun _ h => h.elim)⟩
  · obtain rfl : k = 20 := by omega
    go_wp2_with fail
    exact HE.out _ _ rfl rfl rfl HF0.out
end Go.Proofs.Ytgladedjgjhlaaa

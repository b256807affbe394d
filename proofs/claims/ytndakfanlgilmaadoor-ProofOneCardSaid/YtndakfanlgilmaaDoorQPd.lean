/-
  Of the empty tree nothing is proved.
  Of the empty tree nothing is proved: it is taken under its sum, and not under noughts.
  The law's log: its filling.
  The document's paths, and what shows a beginning.
  A proof's texts: the document's.
  A proof's texts: the document's, the whole.
  Two rows of sums of one's own; a byte stored into one; operations of which any may come first.
-/
import Derived.Test.YtndakfanlgilmaaDoorQPc
import Derived.Test.YtndakfanlgilmaaDoorQPa
namespace Go.Proofs.YtndakfanlgilmaaDoor
open Go.RowKit
set_option linter.unusedVariables false
set_option linter.unusedSimpArgs false
set_option maxRecDepth 100000 in
theorem results_tct {P : Program} {fn : Func} {p q r : Tmp} {ty : TypeId} (h : fn.results = #[.tmp q, .cell p ty, .tmp r]) (tmps : Array Value) (w : World) (g : Nat) (t : TypeId) (cs : Array Value) (fr : Nat × Nat) (d : TypeDesc)
    (hp : tmps.getD p undef = .pointer (some ⟨g, 0, none⟩)) (hg : w.heap[g]? = some (.cells cs t fr)) (hu : P.underlying ty = some d) (hd : (match d with | .struct _ | .array _ _ => true | _ => false) = true) (hi : (P.info? ty).map (·.size) = some cs.size) :
    (results fn tmps).run P w = .ok (.tuple #[tmps.getD q undef, .agg cs, tmps.getD r undef]) w := by
  have hp' : tmps[p]?.getD undef = .pointer (some ⟨g, 0, none⟩) := by simpa using hp
  simp [results, h, hp', asAddr, run_loadVar_row w g t ty cs fr d hg hu hd hi]
set_option maxRecDepth 100000 in
theorem built_zl : Tryd.prog.built 33 [] = some (leafRow Pf.z Pf.z) := by kernel_rfl
def k5 : List UInt8 := 5 :: List.replicate 31 0
set_option maxRecDepth 100000 in
theorem k5_len : k5.length = 32 := by decide
set_option maxRecDepth 100000 in
theorem bk5 : Tryd.prog.built 23 [(0, .int .u8 5)] = some (krow k5) := by kernel_rfl
set_option maxRecDepth 100000 in
theorem ub_zl : (ub 64 (fun _ => 0)) = leafRow Pf.z Pf.z := by kernel_rfl
set_option maxRecDepth 100000 in
theorem sum2_ne : (S2.sum [2] == Pf.z) = false := by decide +kernel
set_option maxRecDepth 100000 in
set_option maxHeartbeats 6400000 in
theorem tlen_nil (w : World) : Calls Tryd.prog 40 #[.pointer none] w fun e w' => e = .returned (.int .i64 0) ∧ w = w' := by
  go_enter Tryd.func40, Tryd.ntmps40
  go_wp2_with fail
  go_ret
  exact ⟨rfl, rfl⟩
set_option maxRecDepth 100000 in
set_option maxHeartbeats 6400000 in
theorem beside_nil (key : List UInt8) (hkey : key.length = 32) (w : World) : Calls Tryd.prog 33 #[.pointer none, .agg (krow key)] w fun e w' => e = .returned (.tuple #[.slice none 0 0, .agg (leafRow Pf.z Pf.z), .bool false]) ∧ Fr (fun _ => False) w w' := by
  have s1 : (Tryd.prog.info? 23).map (·.size) = some (krow key).size := by rw [krow_size, hkey]; kernel_rfl
  have b1 := heap_alloc2_new w (.cells (krow key) 23) (.cells (ub 64 (fun _ => 0)) 33)
  have F0 := ((Fr.refl (fun _ => False) w).alloc (.cells (krow key) 23)).alloc (.cells (ub 64 (fun _ => 0)) 33)
  have HB := Lib.hid b1
  have HF := Lib.hid F0
  have HSZ := Lib.hid (show ((w.alloc (.cells (krow key) 23)).alloc (.cells (ub 64 (fun _ => 0)) 33)).heap.size = w.heap.size + 2 by simp)
  have hlz := leaf_size Pf.z_len Pf.z_len
  have hl1 := leaf_one Pf.z Pf.z
  have hbz := built_zl
  generalize leafRow Pf.z Pf.z = lz at *
  have HLZ := Lib.hid (And.intro hlz (And.intro hl1 hbz))
  clear b1 F0 hkey hlz hl1 hbz
  go_enter Tryd.func33, Tryd.ntmps33
  go_wp2_with fail
  rw [zero64]
  generalize ((w.alloc (.cells (krow key) 23)).alloc (.cells (ub 64 (fun _ => 0)) 33)) = w1 at *
  refine wp_loop_up 0 (fun i t w' => t = _ ∧ w1 = w') _ w1 ⟨rfl, rfl⟩ ?_
  rintro i t w' hi ⟨rfl, rfl⟩ KK hKK
  go_wp2_with fail
  refine (tlen_nil w1).mono ?_
  rintro e w2 ⟨rfl, rfl⟩
  go_wp2_with fail
  refine (tlen_nil w1).mono ?_
  rintro e w2 ⟨rfl, rfl⟩
  go_upto_region 6 with fail
  refine wp_region_lit ?_
  refine wpList_val (v := .slice none 0 0) rfl rfl ?_
  simp only [Act.put, List.setIfInBounds_toArray, List.set_cons_zero, List.set_cons_succ]
  refine wpList_build0 rfl 33 rfl lz HLZ.out.2.2 ?_
  simp only [Act.put, List.setIfInBounds_toArray, List.set_cons_zero, List.set_cons_succ]
  refine wpList_val (v := .slice none 0 0) rfl rfl ?_
  simp only [Act.put, List.setIfInBounds_toArray, List.set_cons_zero, List.set_cons_succ]
  refine wpList_store_rowA rfl 33 (.tmp 5) (.tmp 36) rfl (w.heap.size + 1) lz rfl rfl 33 _ HB.out (by rw [szLd, HLZ.out.1]) (by rw [ub_size, HLZ.out.1]) HLZ.out.2.1 ?_
  intro w8 B8 F8
  simp only [Act.put, List.setIfInBounds_toArray, List.set_cons_zero, List.set_cons_succ]
  have HX := Lib.hid (HF.out.trans F8 (fun k h => .inr (by rw [h]; omega)))
  have HB8 := Lib.hid B8
  clear B8 F8
  go_wp2_with fail
  refine bodyPost_ret (results_tct rfl _ _ (w.heap.size + 1) 33 lz (0, 0) _ rfl HB8.out Tryd.underlying33 rfl (by rw [szLd, HLZ.out.1])) rfl ?_
  exact ⟨rfl, HX.out⟩
set_option maxRecDepth 100000 in
set_option maxHeartbeats 6400000 in
theorem prove_nil (key : List UInt8) (hkey : key.length = 32) (w : World) : Calls Tryd.prog 21 #[.pointer none, .agg (krow key)] w fun e w' => e = .returned (.agg (pfRow (.slice none 0 0) false Pf.z Pf.z)) ∧ Fr (fun _ => False) w w' := by
  have s1 : (Tryd.prog.info? 23).map (·.size) = some (krow key).size := by rw [krow_size, hkey]; kernel_rfl
  have hzv := zv35
  have hzn := zn66
  have b0 := heap_alloc2_old w (.cells (krow key) 23) (.cells zp66 35)
  have b1 := heap_alloc2_new w (.cells (krow key) 23) (.cells zp66 35)
  have F0 := ((Fr.refl (fun _ => False) w).alloc (.cells (krow key) 23)).alloc (.cells zp66 35)
  have HB := Lib.hid (And.intro b0 b1)
  have HF := Lib.hid F0
  have hlz := leaf_size Pf.z_len Pf.z_len
  have hl1 := leaf_one Pf.z Pf.z
  have hbs := fun V => beside_nil key hkey V
  have hbp := bp35 none 0 0 false Pf.z_len Pf.z_len
  have hps := pf_size (s := .slice none 0 0) (th := false) Pf.z_len Pf.z_len
  have hp1 := pf_one (.slice none 0 0) rfl false Pf.z Pf.z
  generalize leafRow Pf.z Pf.z = lz at *
  generalize pfRow (.slice none 0 0) false Pf.z Pf.z = pz at *
  have HBS := Lib.hid hbs
  have HLZ := Lib.hid (And.intro hlz (And.intro hl1 hbp))
  have HPZ := Lib.hid (And.intro hps hp1)
  clear b0 b1 F0 hkey hlz hl1 hbs hbp hps hp1
  go_enter Tryd.func21, Tryd.ntmps21
  go_upto_region 1 with fail
  clear hzv hzn
  generalize ((w.alloc (.cells (krow key) 23)).alloc (.cells zp66 35)) = w1 at *
  go_wp2_with (first | (focus ((refine wpList_load_row rfl 23 (.tmp 3) rfl w.heap.size rfl 23 (krow key) (0, 0) _ HB.out.1 Tryd.underlying23 rfl s1 ?_); simp only [Act.put, List.setIfInBounds_toArray, List.set_cons_zero, List.set_cons_succ])))
  refine (HBS.out w1).mono ?_
  rintro e w2 ⟨rfl, F2⟩
  have HF2 := Lib.hid F2
  have HB2 := Lib.hid ((F2.block _ (lt_of_block HB.out.2) (fun h => h)).trans HB.out.2)
  clear F2
  go_wp2_with (focus (rw [zero64]; refine wpList_store_rowA rfl 33 (.tmp 6) (.tmp 13) rfl w2.heap.size lz rfl rfl 33 _ (heap_alloc_new _ _) (by rw [szLd, HLZ.out.1]) (by rw [ub_size, HLZ.out.1]) HLZ.out.2.1 ?_; intro w8 B8 F8; simp only [Act.put, List.setIfInBounds_toArray, List.set_cons_zero, List.set_cons_succ]; refine Hid.out ?_))
  have F28 : Fr (fun _ => False) w2 w8 := ((Fr.refl (fun _ => False) w2).alloc _).trans F8 (fun k hk => .inr (by rw [hk]; exact Nat.le_refl _))
  have HB8 := Lib.hid B8
  have HB28 := Lib.hid ((F28.block _ (lt_of_block HB2.out) (fun h => h)).trans HB2.out)
  have HF28 := Lib.hid (HF.out.trans (HF2.out.trans F28 (fun _ h => h.elim)) (fun _ h => h.elim))
  generalize w2.heap.size = g8 at *
  clear B8 F8 F28
  refine Lib.hid ?_
  go_wp2_with (first | (focus ((refine wpList_load_row rfl 33 (.tmp 6) rfl g8 rfl 33 lz (0, 0) _ HB8.out Tryd.underlying33 rfl (by rw [szLd, HLZ.out.1]) ?_); simp only [Act.put, List.setIfInBounds_toArray, List.set_cons_zero, List.set_cons_succ])) | (focus ((refine wpList_build3 rfl 35 0 1 2 (.tmp 15) (.tmp 16) (.tmp 17) (.slice none 0 0) (.bool false) (.agg lz) rfl pz HLZ.out.2.2 rfl rfl rfl ?_); simp only [Act.put, List.setIfInBounds_toArray, List.set_cons_zero, List.set_cons_succ])) | (focus (refine wpList_store_rowA rfl 35 (.tmp 4) (.tmp 18) rfl (w.heap.size + 1) pz rfl rfl 35 _ HB28.out (by rw [szPd, HPZ.out.1]) (by rw [zs66, HPZ.out.1]) HPZ.out.2 ?_; intro w9 B9 F9; simp only [Act.put, List.setIfInBounds_toArray, List.set_cons_zero, List.set_cons_succ]; refine Hid.out ?_)))
  have HX := Lib.hid (HF28.out.trans F9 (fun k h => .inr (by rw [h]; omega)))
  have HB9 := Lib.hid B9
  clear B9 F9
  refine Lib.hid ?_
  go_wp2_with fail
  refine bodyPost_ret (results_cell_row rfl _ _ (w.heap.size + 1) 35 pz (0, 0) _ rfl HB9.out Tryd.underlying35 rfl (by rw [szPd, HPZ.out.1])) rfl ?_
  exact ⟨rfl, HX.out⟩
end Go.Proofs.YtndakfanlgilmaaDoor
namespace Go.Proofs.YtndakfanlgilmaaDoor
open Go.RowKit
set_option linter.unusedVariables false
set_option linter.unusedSimpArgs false
set_option maxRecDepth 100000 in
set_option maxHeartbeats 6400000 in
theorem proofs_any (w : World) (hE : Env w) : Calls Tryd.prog 8 #[] w fun e w' => e = .returned (.bool true) ∧ Fr (fun _ => False) w w' := by
  obtain ⟨cc, hC⟩ := IsC.some Pf.z k5
  have hzv := zv35
  have hzn := zn66
  have hpr := fun V => prove_nil k5 k5_len V
  have hc1 := fun (V : World) (hV : Env V) => pchk_any Tn.none k5 Pf.z Pf.z false [] none 0 0 cc rfl (by omega) (Nat.le_refl _) (by unfold maxLen; omega) Tn.none_len k5_len Pf.z_len Pf.z_len hC V (Kv.nil V none) (fun k h => by obtain ⟨ad, e, _⟩ := h; cases e) hV
  have hc2 := fun (V : World) (hV : Env V) => pchk_any Pf.z k5 Pf.z Pf.z false [] none 0 0 cc rfl (by omega) (Nat.le_refl _) (by unfold maxLen; omega) Pf.z_len k5_len Pf.z_len Pf.z_len hC V (Kv.nil V none) (fun k h => by obtain ⟨ad, e, _⟩ := h; cases e) hV
  have p1 : Pf.pass k5 Tn.none [] false Pf.z Pf.z cc = true := by
    have : (S2.sum [2] == Tn.none) = true := beq_self_eq_true _
    show (decide (0 ≤ 256) && (!false || _) && (S2.sum [2] == Tn.none)) = true
    rw [this]; rfl
  have p2 : Pf.pass k5 Pf.z [] false Pf.z Pf.z cc = false := by
    show (decide (0 ≤ 256) && (!false || _) && (S2.sum [2] == Pf.z)) = false
    rw [sum2_ne, Bool.and_false]
  have p3 : Pf.val k5 false Pf.z Pf.z = Pf.z := rfl
  rw [p1, p3] at hc1
  rw [p2] at hc2
  have hc1' : ∀ V : World, Env V → Calls Tryd.prog 10 #[.agg (krow Tn.none), .agg (krow k5), .agg (pfRow (.slice none 0 0) false Pf.z Pf.z)] V fun e w' => e = .returned (.tuple #[.agg (krow Pf.z), .bool false, .int .i64 0]) ∧ Fr (fun _ => False) V w' := hc1
  have hc2' : ∀ V : World, Env V → Calls Tryd.prog 10 #[.agg (krow Pf.z), .agg (krow k5), .agg (pfRow (.slice none 0 0) false Pf.z Pf.z)] V fun e w' => e = .returned (.tuple #[.agg (krow Pf.z), .bool false, .int .i64 17]) ∧ Fr (fun _ => False) V w' := hc2
  have hps := pf_size (s := .slice none 0 0) (th := false) Pf.z_len Pf.z_len
  have hp1 := pf_one (.slice none 0 0) rfl false Pf.z Pf.z
  have htn := fun (V : World) (hV : Env V) => tnone_any V hV
  have hbz := built_z
  have hzl := Pf.z_len
  clear hc1 hc2 p1 p2 p3 hC
  generalize pfRow (.slice none 0 0) false Pf.z Pf.z = pz at *
  generalize Tn.none = tn at *
  generalize Pf.z = z at *
  have HPR := Lib.hid hpr
  have HC1 := Lib.hid hc1'
  have HC2 := Lib.hid hc2'
  have HPZ := Lib.hid (And.intro hps hp1)
  have HTN := Lib.hid htn
  have HBZ := Lib.hid (And.intro hbz hzl)
  have HE := Lib.hid hE
  clear hpr hc1' hc2' hps hp1 htn hbz hzl hE
  go_enter Tryd.func8, Tryd.ntmps8
  go_upto_region 2 with fail
  refine wp_region_lit ?_
  refine wpList_val (v := .pointer none) rfl rfl ?_
  simp only [Act.put, List.setIfInBounds_toArray, List.set_cons_zero, List.set_cons_succ]
  refine wpList_build1 rfl 23 0 (.const (.int .u8 5)) (.int .u8 5) rfl (krow k5) bk5 rfl ?_
  simp only [Act.put, List.setIfInBounds_toArray, List.set_cons_zero, List.set_cons_succ]
  go_wp2_with fail
  refine (HPR.out w).mono ?_
  rintro e w2 ⟨rfl, F2⟩
  have HF2 := Lib.hid F2
  clear F2
  go_wp2_with (focus (refine wpList_store_rowA rfl 35 (.tmp 2) (.tmp 11) rfl w2.heap.size pz rfl rfl 35 _ (heap_alloc_new _ _) (by rw [szPd, HPZ.out.1]) (by rw [zs66, HPZ.out.1]) HPZ.out.2 ?_; intro w3 B3 F3; simp only [Act.put, List.setIfInBounds_toArray, List.set_cons_zero, List.set_cons_succ]; refine Hid.out ?_))
  have F23 : Fr (fun _ => False) w2 w3 := ((Fr.refl (fun _ => False) w2).alloc _).trans F3 (fun k hk => .inr (by rw [hk]; exact Nat.le_refl _))
  have HF3 := Lib.hid (HF2.out.trans F23 (fun _ h => h.elim))
  have HB3 := Lib.hid B3
  have HE3 := Lib.hid (HE.out.ext HF3.out)
  have HN3 := Lib.hid (lt_of_block B3)
  have s35 : (Tryd.prog.info? 35).map (·.size) = some pz.size := by rw [szPd, HPZ.out.1]
  generalize w2.heap.size = g2 at *
  clear B3 F3 F23 hzv hzn HF2
  refine Lib.hid ?_
  go_wp2_with fail
  refine Ks.wp_region_mono (fun b => w3.heap.size ≤ b) (sg 0 8 ++ ((8, true) :: ((9, true) :: (sg 10 2 ++ ([]))))) (by kernel_rfl) (by kernel_rfl) ?_
  refine Ks.Wk.seg 0 8 (by kernel_rfl) (by kernel_rfl) ?_
  apply Exists.intro
  refine ⟨?wk0, ?fin0⟩
  case wk0 =>
    intro γ
    have hEz : ∀ u : Ks.Ws γ, Env u.w := fun u => HE3.out.fr u.h (by have := HE3.out.lt; show ¬ _ ≤ _; omega)
    simp only [List.drop_succ_cons, List.drop_zero, List.take_succ_cons, List.take_zero]
    repeat (any_goals (first | (focus (go_big_quiet_want; (refine quiet_build1 23 0 (.const (.int .u8 5)) (.int .u8 5) rfl (krow k5) bk5 rfl ?_); simp only [Act.put, List.setIfInBounds_toArray, List.set_cons_zero, List.set_cons_succ]; go_big_quiet_on)) | (focus (go_big_quiet_want; (refine Ks.quiet_load_rows 35 (.tmp 2) rfl g2 rfl 35 pz (0, 0) _ HB3.out (by have := HN3.out; show ¬ _ ≤ _; omega) Tryd.underlying35 rfl s35 ?_); simp only [Act.put, List.setIfInBounds_toArray, List.set_cons_zero, List.set_cons_succ]; go_big_quiet_on)) | go_big_quiet_step ((first | (go_at_call 22; exact Ks.Calls.keeps (HTN.out _ (hEz _))) | (go_at_call 10; exact Ks.Calls.keeps (HC1.out _ (hEz _))))) | quiet_step ((first | (go_at_call 22; exact Ks.Calls.keeps (HTN.out _ (hEz _))) | (go_at_call 10; exact Ks.Calls.keeps (HC1.out _ (hEz _)))))))
    exact wpQuiet_nil rfl
  case fin0 =>
  (try simp only [Act.put, List.setIfInBounds_toArray, List.set_cons_zero, List.set_cons_succ])
  refine Ks.Wk.one rfl (fun w4 Xw4 => ?_)
  go_wp2_with fail
  rw [zero32]
  refine ⟨Ks.Es.of ((Fr.refl _ w4).alloc _), ?_⟩
  (try simp only [List.getElem_toArray, List.getElem_cons_succ, List.getElem_cons_zero, Act.put, List.setIfInBounds_toArray, List.set_cons_zero, List.set_cons_succ])
  have B4 := heap_alloc_new w4 (.cells (ub 32 (fun _ => 0)) 22)
  have X4 : Fr (fun _ => False) w3 (w4.alloc (.cells (ub 32 (fun _ => 0)) 22)) := Xw4.alloc _
  have HZ4 := Lib.hid Xw4.size
  refine Ks.Wk.one rfl (fun w5 Xw5 => ?_)
  refine wpList_store_rowA rfl 22 (.tmp 3) (.tmp 17) rfl w4.heap.size (krow z) rfl rfl 22 _ ((Xw5.block _ (lt_of_block B4) (fun h => h)).trans B4) (sz32' HBZ.out.2) (by rw [ub_size, krow_size, HBZ.out.2]) (krow_one _) (fun w6 B6 F6 => ⟨rfl, F6.mono (fun b _ h => by rw [h]; exact HZ4.out), ?_⟩)
  (try simp only [List.getElem_toArray, List.getElem_cons_succ, List.getElem_cons_zero, Act.put, List.setIfInBounds_toArray, List.set_cons_zero, List.set_cons_succ])
  refine Ks.Wk.seg 10 2 (by kernel_rfl) (by kernel_rfl) ?_
  apply Exists.intro
  refine ⟨?wk3, ?fin3⟩
  case wk3 =>
    intro γ
    simp only [List.drop_succ_cons, List.drop_zero, List.take_succ_cons, List.take_zero]
    repeat (any_goals (first | go_big_quiet_step (fail) | quiet_step (fail)))
    exact wpQuiet_nil rfl
  case fin3 =>
  (try simp only [Act.put, List.setIfInBounds_toArray, List.set_cons_zero, List.set_cons_succ])
  intro w7 X7
  have X37 : Fr (fun b => w3.heap.size ≤ b) w3 w7 := (((X4.trans Xw5 (fun _ h => h.elim)).mono (T := fun b => w3.heap.size ≤ b) (fun _ _ h => h.elim)).trans F6 (fun b h => .inl (by rw [h]; exact HZ4.out))).trans X7 (fun _ h => h.elim)
  have Y37 : Fr (fun _ => False) w3 w7 := (Fr.refl (fun _ => False) w3).trans X37 (fun b h => .inr h)
  have HF7 := Lib.hid (HF3.out.trans Y37 (fun _ h => h.elim))
  have HB7 := Lib.hid ((Y37.block _ HN3.out (fun h => h)).trans HB3.out)
  have HE7 := Lib.hid (HE.out.ext HF7.out)
  clear X37 Y37 X7 F6 B6 B4 X4 Xw4 Xw5
  go_upto_region 4 with fail
  refine wp_region_lit ?_
  refine wpList_build0 rfl 22 rfl (krow z) HBZ.out.1 ?_
  simp only [Act.put, List.setIfInBounds_toArray, List.set_cons_zero, List.set_cons_succ]
  refine wpList_build1 rfl 23 0 (.const (.int .u8 5)) (.int .u8 5) rfl (krow k5) bk5 rfl ?_
  simp only [Act.put, List.setIfInBounds_toArray, List.set_cons_zero, List.set_cons_succ]
  refine wpList_load_row rfl 35 (.tmp 2) rfl g2 rfl 35 pz (0, 0) _ HB7.out Tryd.underlying35 rfl s35 ?_
  simp only [Act.put, List.setIfInBounds_toArray, List.set_cons_zero, List.set_cons_succ]
  go_wp2_with fail
  refine (HC2.out w7 HE7.out).mono ?_
  rintro e w8 ⟨rfl, F8⟩
  have HF8 := Lib.hid F8
  clear F8
  go_wp2_with (focus (rw [zero32]; refine wpList_store_rowA rfl 22 (.tmp 6) (.tmp 25) rfl w8.heap.size (krow z) rfl rfl 22 _ (heap_alloc_new _ _) (sz32' HBZ.out.2) (by rw [ub_size, krow_size, HBZ.out.2]) (krow_one _) ?_; intro w9 B9 F9; simp only [Act.put, List.setIfInBounds_toArray, List.set_cons_zero, List.set_cons_succ]; refine Hid.out ?_))
  have F89 : Fr (fun _ => False) w8 w9 := ((Fr.refl (fun _ => False) w8).alloc _).trans F9 (fun k hk => .inr (by rw [hk]; exact Nat.le_refl _))
  have HX := Lib.hid (HF7.out.trans (HF8.out.trans F89 (fun _ h => h.elim)) (fun _ h => h.elim))
  clear B9 F9 F89
  refine Lib.hid ?_
  go_wp2_with fail
  go_ret
  exact ⟨rfl, HX.out⟩
end Go.Proofs.YtndakfanlgilmaaDoor
namespace Go.Proofs.YtndakfanlgilmaaDoor
open Go.RowKit
set_option linter.unusedVariables false
set_option linter.unusedSimpArgs false
/-- A row of bytes, whatever they are, that may be written. -/
def Tw (w : World) (a : Option Addr) (n : Nat) : Prop := n = 0 ∨ ∃ g cs T fz, a = some ⟨g, 0, none⟩ ∧ w.heap[g]? = some (.cells cs T fz) ∧ (fz = (0, 0) ∨ n ≤ fz.1) ∧ ∀ j, j < n → ∃ y : UInt8, cs[j]? = some (.int .u8 (y.toNat : Int))
set_option maxRecDepth 100000 in
theorem Tw.fr {w w' : World} {a : Option Addr} {n : Nat} {S : Nat → Prop} (h : Tw w a n) (F : Fr S w w') (hS : ∀ k, ob a = some k → ¬ S k) : Tw w' a n := by
  rcases h with h | ⟨g, cs, T, fz, e, hg, r⟩
  · exact Or.inl h
  · exact Or.inr ⟨g, cs, T, fz, e, (F.block g (lt_of_block hg) (hS g (by rw [e]; rfl))).trans hg, r⟩
set_option maxRecDepth 100000 in
theorem Tw.at {w : World} {a : Option Addr} {n : Nat} (h : Tw w a n) (j : Nat) (hj : j < n) : ∃ (g : Nat) (y : UInt8), a = some ⟨g, 0, none⟩ ∧ g < w.heap.size ∧ w.cell? ⟨g, j, none⟩ = some (.int .u8 (y.toNat : Int)) ∧ w.frozen? ⟨g, j, none⟩ = false ∧ ∀ u : UInt8, Tw (w.setCell ⟨g, j, none⟩ (.int .u8 (u.toNat : Int))) a n := by
  rcases h with h | ⟨g, cs, T, fz, e, hg, hfz, hc⟩
  · omega
  · obtain ⟨y, hy⟩ := hc j hj
    refine ⟨g, y, e, lt_of_block hg, (cell_of_block hg j).trans hy, ?_, fun u => Or.inr ⟨g, cs.setIfInBounds j (.int .u8 (u.toNat : Int)), T, fz, e, block_setCellF hg j _, hfz, fun i hi => ?_⟩⟩
    · rcases hfz with e | e
      · subst e; simp [World.frozen?, hg]
      · simp [World.frozen?, hg]; omega
    · rw [Array.getElem?_setIfInBounds]
      by_cases e : j = i
      · subst e
        refine ⟨u, ?_⟩
        rw [if_pos rfl, if_pos (Array.getElem?_eq_some_iff.1 hy).1]
      · rw [if_neg e]; exact hc i hi
set_option maxRecDepth 100000 in
theorem Own.tw {w : World} {B n c : Nat} {a : Option Addr} {l : List UInt8} (h : Own w B (.slice a n c) l) (hn : n = l.length) : Tw w a n := by
  subst hn
  rcases h with ⟨e, e2⟩ | ⟨g, cap, cur, fz, e, hb, hg, hfz, hnc, hcm, hcs, ht⟩
  · left; rw [e2]; rfl
  · right
    injection e with e1 e2 e3
    refine ⟨g, cur, _, fz, e1, hg, ?_, fun j hj => ?_⟩
    · exact hfz.imp id (fun h => by omega)
    · have h1 : (cur.toList.take l.length)[j]? = (bv l)[j]? := by rw [ht]
      rw [List.getElem?_take_of_lt hj, bv_get' l j hj, Array.getElem?_toList] at h1
      exact ⟨l[j], h1⟩
set_option maxRecDepth 100000 in
theorem xor_byteg (x y : UInt8) : bits .xor .u8 (x.toNat : Int) (y.toNat : Int) = ((x ^^^ y).toNat : Int) := by
  have e1 : (BitVec.ofInt 8 (x.toNat : Int)).toNat = x.toNat := by have := x.toNat_lt; simp
  have e2 : (BitVec.ofInt 8 (y.toNat : Int)).toNat = y.toNat := by have := y.toNat_lt; simp
  show IntKind.u8.wrap ((BitVec.ofInt 8 (x.toNat : Int) ^^^ BitVec.ofInt 8 (y.toNat : Int)).toNat : Int) = _
  rw [BitVec.toNat_xor, e1, e2, UInt8.toNat_xor, IntKind.wrap_u8]
  have := Nat.xor_lt_two_pow (n := 8) x.toNat_lt y.toNat_lt
  omega
set_option maxRecDepth 100000 in
theorem lit53 (f : Nat → Value) : ((List.range 53).map f).toArray = (f 0 :: f 1 :: f 2 :: f 3 :: f 4 :: f 5 :: f 6 :: f 7 :: f 8 :: f 9 :: f 10 :: f 11 :: f 12 :: f 13 :: f 14 :: f 15 :: f 16 :: f 17 :: f 18 :: f 19 :: f 20 :: f 21 :: f 22 :: f 23 :: f 24 :: f 25 :: f 26 :: f 27 :: f 28 :: f 29 :: f 30 :: f 31 :: f 32 :: f 33 :: f 34 :: f 35 :: f 36 :: f 37 :: f 38 :: f 39 :: f 40 :: f 41 :: f 42 :: f 43 :: f 44 :: f 45 :: f 46 :: f 47 :: f 48 :: f 49 :: f 50 :: f 51 :: f 52 :: []).toArray := by kernel_rfl
set_option maxRecDepth 100000 in
theorem sInfo : ∃ ti z, Tryd.prog.info? 9 = some ti ∧ ti.zero = some z ∧ ti.size = 1 ∧ ti.bytes = 16 ∧ z.cells.size = 1 := ⟨_, .string ⟨#[]⟩, rfl, by kernel_rfl, by kernel_rfl, by kernel_rfl, by kernel_rfl⟩
/-- Strings of one's own. -/
def Os (w : World) (base : Nat) (v : Value) (W : List (List UInt8)) : Prop := w.ownsRow base 9 1 v W.length (W.map str)
set_option maxRecDepth 100000 in
theorem Os.nil (w : World) (base : Nat) : Os w base (.slice none 0 0) [] := World.ownsRow_nil _ _ _ _
set_option maxRecDepth 100000 in
theorem Os.snoc {w : World} {base : Nat} {v : Value} {W : List (List UInt8)} {x : List UInt8} (h : w.ownsRow base 9 1 v (W.length + 1) (W.map str ++ [str x])) : Os w base v (W ++ [x]) := by
  unfold Os; rw [List.length_append, List.map_append]; exact h
set_option maxRecDepth 100000 in
theorem Os.view {w : World} {base : Nat} {v : Value} {W : List (List UInt8)} (h : Os w base v W) : ∃ a c, v = .slice a W.length c ∧ W.length ≤ c ∧ c ≤ maxLen ∧ Sv w a W ∧ (∀ k, inBlk a k → v.ownBlock = some k) := by
  rcases h.2 with ⟨e, h0⟩ | ⟨g, cap, cur, e, hb, hg, hc, hm, hs, ht⟩
  · refine ⟨none, 0, by rw [e, h0], by omega, by unfold maxLen; omega, ?_, fun k hk => by obtain ⟨ad, h1, _⟩ := hk; cases h1⟩
    rw [List.eq_nil_of_length_eq_zero h0]; exact Sv.nil _ _
  · refine ⟨some ⟨g, 0, none⟩, cap, e, hc, hm, Or.inr ⟨g, 0, rfl, fun j x hx => ?_⟩, fun k hk => by obtain ⟨ad, h1, h2⟩ := hk; cases h1; rw [e, ← h2]; rfl⟩
    have hj := (List.getElem?_eq_some_iff.1 hx).1
    rw [Nat.zero_add, cell_of_block hg, ← Array.getElem?_toList]
    have h1 : (cur.toList.take (W.length * 1))[j]? = (W.map str)[j]? := by rw [ht]
    rw [List.getElem?_take_of_lt (by omega), List.getElem?_map, hx] at h1
    exact h1
set_option maxRecDepth 100000 in
theorem src_str {w : World} {b : Nat} {x : List UInt8} {t : TypeId} {fr : Nat × Nat} (h : w.heap[b]? = some (.cells #[str x] t fr)) : Src Tryd.prog 1 44 (.slice (some ⟨b, 0, none⟩) 1 1) 1 [str x] w :=
  Src.ofSlice _ Tryd.underlying44 ⟨b, 0, none⟩ 1 1 _ rfl (fun j u hj => by
    rw [Addr.add_mid, Nat.zero_add, cell_of_block h, ← Array.getElem?_toList]; exact hj) (fun u hu => by rw [List.mem_singleton.1 hu]; rfl)
set_option maxRecDepth 100000 in
theorem take_snoc' {LL : List (List UInt8)} {i K : Nat} (hl : LL.length = K) (hi : i < K) : LL.take (i + 1) = LL.take i ++ [LL.getD i []] := by
  rw [List.take_succ_eq_append_getElem (by omega), List.getD_eq_getElem?_getD, List.getElem?_eq_getElem (by omega)]; rfl
end Go.Proofs.YtndakfanlgilmaaDoor
namespace Go.Proofs.YtndakfanlgilmaaDoor
open Go.RowKit
set_option linter.unusedVariables false
set_option linter.unusedSimpArgs false
set_option maxRecDepth 100000 in
theorem mkS (x : List UInt8) (w : World) : (Instr.buildSlice 44 1 #[(0, str x)]).run Tryd.prog w = .ok (.slice (some ⟨w.heap.size, 0, none⟩) 1 1) (w.alloc (.cells #[str x] 9)) := by kernel_rfl
set_option maxRecDepth 100000 in
theorem mkS0 (w : World) : (Instr.buildSlice 44 0 #[]).run Tryd.prog w = .ok (.slice (some ⟨w.heap.size, 0, none⟩) 0 0) (w.alloc (.cells #[] 9)) := by kernel_rfl
set_option maxRecDepth 100000 in
theorem Os.empty {w : World} {b base : Nat} (h : w.heap[b]? = some (.cells #[] 9 (0, 0))) (hb : base ≤ b) : Os w base (.slice (some ⟨b, 0, none⟩) 0 0) [] := by
  refine ⟨rfl, .inr ⟨b, 0, #[], rfl, hb, h, Nat.le_refl _, by unfold maxLen; omega, rfl, rfl⟩⟩
set_option maxRecDepth 100000 in
theorem wD (i h : Nat) (hi : h ≤ i) (h9 : i ≤ 1000) : wrap64 ((i : Int) - (h : Int)) = ((i - h : Nat) : Int) := by rw [IntWalk.wrap64_in _ (by omega)]; omega
structure Nonempty2 (p : Prop) : Prop where
  h : p
end Go.Proofs.YtndakfanlgilmaaDoor
namespace Go.Proofs.YtndakfanlgilmaaDoor
open Go.RowKit
set_option linter.unusedVariables false
set_option linter.unusedSimpArgs false
set_option maxRecDepth 100000 in
theorem rbit_all {l : List UInt8} (h : l.length = 32) (d : Nat) : Ans Tryd.prog 25 #[.agg (krow l), .int .i64 (d : Int)] (.int .i64 (bn (kb l d) : Int)) := by
  by_cases hd : d < 256
  · exact rbit_ans h d hd
  · rw [kb_off h (by omega)]
    exact rbit_off h (d : Int) (.inr (by omega))
set_option maxRecDepth 100000 in
theorem kv_came {w : World} {g off j : Nat} {L : List (List UInt8)} {r : List UInt8} (h : Kv w (some ⟨g, off, none⟩) L) (hr : L[j]? = some r) : Came w (some ⟨g, off + j * 32, none⟩) 32 32 r := by
  have h32 := h.all r (List.mem_of_getElem? hr)
  exact ⟨h32, Nat.le_refl _, by unfold maxLen; omega, .inr ⟨g, off + j * 32, rfl, fun i hi => h.cells hr i _ (by rw [krow, List.getElem?_toArray, bv_get, List.getElem?_eq_getElem hi]; rfl)⟩, fun e => by cases e⟩
set_option maxRecDepth 100000 in
theorem lit67 (f : Nat → Value) : ((List.range 67).map f).toArray = (f 0 :: f 1 :: f 2 :: f 3 :: f 4 :: f 5 :: f 6 :: f 7 :: f 8 :: f 9 :: f 10 :: f 11 :: f 12 :: f 13 :: f 14 :: f 15 :: f 16 :: f 17 :: f 18 :: f 19 :: f 20 :: f 21 :: f 22 :: f 23 :: f 24 :: f 25 :: f 26 :: f 27 :: f 28 :: f 29 :: f 30 :: f 31 :: f 32 :: f 33 :: f 34 :: f 35 :: f 36 :: f 37 :: f 38 :: f 39 :: f 40 :: f 41 :: f 42 :: f 43 :: f 44 :: f 45 :: f 46 :: f 47 :: f 48 :: f 49 :: f 50 :: f 51 :: f 52 :: f 53 :: f 54 :: f 55 :: f 56 :: f 57 :: f 58 :: f 59 :: f 60 :: f 61 :: f 62 :: f 63 :: f 64 :: f 65 :: f 66 :: []).toArray := by kernel_rfl
set_option maxRecDepth 100000 in
set_option maxHeartbeats 6400000 in
theorem dtx_false {KK : Act → World → Prop} {Q : Exit → Act → World → Prop} {w : World} {g2 g3 n c j Z : Nat} {a : Option Addr} {key k v tt : List UInt8} {th : Bool} {S TT : List (List UInt8)} {u : Value} (hj : j < n) (hpb : Pb w g3 (.slice a n c) th k v) (hkb : w.heap[g2]? = some (.cells (krow key) 22 (0, 0))) (hK : Kv w a S) (hSn : S.length = n) (hn9 : n ≤ 1000) (hkey : key.length = 32) (hE : REnv w) (hb : kb key j = false) (ht : tt.length ≤ 67) (hO : Os w Z u TT) (hT9 : TT.length ≤ 2000) (hZ : Z ≤ w.heap.size) (hg2 : g2 < Z) (hg3 : g3 < Z) (fr : Array Value) (hn : fr.size = 67) (p2 : fr[2]? = some (.pointer (some ⟨g2, 0, none⟩))) (p3 : fr[3]? = some (.pointer (some ⟨g3, 0, none⟩))) (p5 : fr[5]? = some (.string ⟨(tt).toArray⟩)) (p6 : fr[6]? = some (u)) (p7 : fr[7]? = some (.int .i64 (j : Int)))
    (hQ : ∀ t' w' v', t'.size = 67 → t'[2]? = some (.pointer (some ⟨g2, 0, none⟩)) → t'[3]? = some (.pointer (some ⟨g3, 0, none⟩)) → t'[5]? = some (.string ⟨(Pf.nd (kb key j) j (S2.sum tt) (S.getD j [])).toArray⟩) → t'[6]? = some (v') → t'[7]? = some (.int .i64 ((j : Int) - 1)) → Os w' Z v' (TT ++ [Pf.nd (kb key j) j (S2.sum tt) (S.getD j [])]) → Fr (fun i => Z ≤ i) w w' → KK ⟨t', []⟩ w') :
    Code.wp Tryd.prog (loopAt Tryd.f12 0) (Exit.then KK Q) ⟨fr, []⟩ w := by
  obtain ⟨r, hr⟩ : ∃ r, r = S.getD j [] := ⟨_, rfl⟩
  have hri : S[j]? = some r := by rw [hr, List.getD_eq_getElem?_getD, List.getElem?_eq_getElem (by omega)]; rfl
  have hr32 := hK.all r (List.mem_of_getElem? hri)
  obtain ⟨gr, or, rfl⟩ := hK.at (by omega)
  have HCM := Lib.hid (kv_came hK hri)
  have HS := Lib.hid (show ∀ (V : World) (F : Fr (fun _ => False) w V), Calls Tryd.prog 9 #[.string ⟨tt.toArray⟩] V fun e w' => e = .returned (.string ⟨(S2.sum tt).toArray⟩) ∧ Fr (fun _ => False) V w' from fun V F => rsum_str tt (by omega) V (hE.ext F))
  have HBI := Lib.hid (rbit_all hkey j)
  rw [hb] at HBI
  rw [hb, ← hr] at hQ
  have hsl : (S2.sum tt).length = 32 := sum_length tt
  generalize S2.sum tt = sm at *
  have hb1 := by1 j
  have hb2 := by2 j
  have hnd := Pf.nd_eq false j sm r
  rw [hnd] at hQ
  generalize UInt8.ofNat (j / 256) = b1 at *
  generalize UInt8.ofNat j = b2 at *
  simp only [if_true, if_false, Bool.false_eq_true] at hQ
  obtain ⟨sti, szz, hSI⟩ := sInfo
  have HSI := Lib.hid hSI
  have c1 := fun W => str_add [1] [b1, b2] (by simp) (by simp) W
  have c2 := fun W => str_add [1, b1, b2] sm (by simp) (by omega) W
  have c3 := fun W => str_add (1 :: b1 :: b2 :: sm) r (by simp; omega) (by omega) W
  have e1 : str ([1] ++ [b1, b2]) = .string ⟨[1, b1, b2].toArray⟩ := rfl
  have e2 : str ([1, b1, b2] ++ sm) = .string ⟨(1 :: b1 :: b2 :: sm).toArray⟩ := rfl
  have e3 : str (1 :: b1 :: b2 :: sm ++ r) = .string ⟨(1 :: b1 :: b2 :: (sm ++ r)).toArray⟩ := rfl
  rw [e1] at c1
  rw [e2] at c2
  rw [e3] at c3
  generalize htn : (1 :: b1 :: b2 :: (sm ++ r)) = tn at *
  have q1 : (j : Int) < (n : Int) := by omega
  have q4 : (0 : Int) ≤ (j : Int) := Int.natCast_nonneg j
  have HW := Lib.hid (show wrap64 ((j : Int) - 1) = (j : Int) - 1 from IntWalk.wrap64_in _ (by omega))
  have HQ := Lib.hid hQ
  have HPB := Lib.hid hpb
  have HKB := Lib.hid hkb
  have HO := Lib.hid hO
  have HZ := Lib.hid (And.intro hZ (And.intro hg2 hg3))
  have HT9 := Lib.hid hT9
  have HKY := Lib.hid hkey
  clear hQ hpb hkb hO hZ hg2 hg3 hT9 hkey hK hSn hn9 hE hb ht e1 e2 e3 hr hri hr32 hsl hnd hSI htn
  obtain ⟨f, hff, rfl⟩ := frame_open hn
  have e2 := hff 2 _ p2
  have e3 := hff 3 _ p3
  have e5 := hff 5 _ p5
  have e6 := hff 6 _ p6
  have e7 := hff 7 _ p7
  clear hff hn p2 p3 p5 p6 p7
  rw [lit67, e2, e3, e5, e6, e7]
  clear e2 e3 e5 e6 e7
  conv => arg 2; whnf
  go_wp2_with fail
  refine (HS.out _ (Fr.refl _ w)).mono ?_
  rintro e w1 ⟨rfl, F1⟩
  have c0 := (HPB.out.fr F1 (fun h => h)).c0
  have ck : (convert 39 9 (.slice (some ⟨gr, or + j * 32, none⟩) 32 32)).run Tryd.prog w1 = .ok (.string ⟨r.toArray⟩) w1 := (HCM.out.ext F1).str2
  have A2 := F1.alloc (.cells #[.int .u8 (b1.toNat : Int), .int .u8 (b2.toNat : Int)] 5)
  have cv : (convert 39 9 (.slice (some ⟨w1.heap.size, 0, none⟩) 2 2)).run Tryd.prog (w1.alloc (.cells #[.int .u8 (b1.toNat : Int), .int .u8 (b2.toNat : Int)] 5)) = .ok (.string ⟨[b1, b2].toArray⟩) (w1.alloc (.cells #[.int .u8 (b1.toNat : Int), .int .u8 (b2.toNat : Int)] 5)) := (came_cells (l := [b1, b2]) (heap_alloc_new _ _) rfl (by simp)).str2
  have HK2 := Lib.hid ((A2.block _ (lt_of_block HKB.out) (fun h => h)).trans HKB.out)
  have HA2 := Lib.hid A2
  clear A2 F1 HS
  go_wp2_with (first | (focus ((refine wpList_load_row rfl 22 (.tmp 2) rfl g2 rfl 22 (krow key) (0, 0) _ HK2.out Tryd.underlying22 rfl (sz32' HKY.out) ?_); simp only [Act.put, List.setIfInBounds_toArray, List.set_cons_zero, List.set_cons_succ])))
  refine (HBI.out _).mono ?_
  rintro e w2 ⟨rfl, F2⟩
  have F02 := HA2.out.trans F2 (fun _ h => h.elim)
  have HF2 := Lib.hid F02
  have HO2 := Lib.hid (show w2.ownsRow Z 9 1 u TT.length (TT.map str) from own_ext HO.out F02)
  have HZ2 := Lib.hid (Nat.le_trans HZ.out.1 F02.size)
  clear F2 F02 c0 ck cv
  dsimp only [bn, if_true, if_false]
  go_wp2_with (first | (focus (refine wpList_buildSlice rfl 44 1 _ rfl #[(0, str tn)] (by first | kernel_rfl | rfl | simp [Act.eval]) (mkS tn _) ?_; simp only [Act.put, List.setIfInBounds_toArray, List.set_cons_zero, List.set_cons_succ])) | (focus (refine wpList_app _ rfl (.tmp 62) (.tmp 64) 44 44 rfl Z 9 sti szz 1 16 Tryd.underlying44 HSI.out.1 HSI.out.2.1 HSI.out.2.2.1 HSI.out.2.2.2.1 HSI.out.2.2.2.2 (by decide) u _ _ rfl (own_ext HO2.out ((Fr.refl (fun _ => False) w2).alloc (.cells #[str tn] 9))) _ rfl 1 [str tn] (src_str (heap_alloc_new w2 _)) (by have := HT9.out; unfold maxLen; omega) (by have := HT9.out; omega) (Nat.le_trans HZ2.out ((Fr.refl (fun _ => False) w2).alloc (.cells #[str tn] 9)).size) ?_; intro v3 w3 O3 G3 G3x; simp only [Act.put, List.setIfInBounds_toArray, List.set_cons_zero, List.set_cons_succ]; refine Hid.out ?_)))
  have F23 : Fr (fun k => u.ownBlock = some k) w2 w3 := (((Fr.refl (fun _ => False) w2).alloc (.cells #[str tn] 9)).mono (fun _ _ h => h.elim)).trans (Fr.ofGrown G3) (fun k hk => .inl hk)
  have G03 : Fr (fun i => Z ≤ i) w w3 := (HF2.out.mono (T := fun i => Z ≤ i) (fun _ _ h => h.elim)).trans F23 (fun i hi => .inl (ownsRow_lt HO2.out i hi).1)
  have H3 := Lib.hid (And.intro (Os.snoc O3) G03)
  clear F23 G03 O3 G3 G3x
  refine Lib.hid ?_
  go_wp2_with fail
  exact HQ.out _ _ v3 (by first | rfl | simp) rfl rfl rfl rfl (congrArg (fun z => some (Value.int .i64 z)) HW.out) H3.out.1 H3.out.2
set_option maxRecDepth 100000 in
set_option maxHeartbeats 6400000 in
theorem dtx_true {KK : Act → World → Prop} {Q : Exit → Act → World → Prop} {w : World} {g2 g3 n c j Z : Nat} {a : Option Addr} {key k v tt : List UInt8} {th : Bool} {S TT : List (List UInt8)} {u : Value} (hj : j < n) (hpb : Pb w g3 (.slice a n c) th k v) (hkb : w.heap[g2]? = some (.cells (krow key) 22 (0, 0))) (hK : Kv w a S) (hSn : S.length = n) (hn9 : n ≤ 1000) (hkey : key.length = 32) (hE : REnv w) (hb : kb key j = true) (ht : tt.length ≤ 67) (hO : Os w Z u TT) (hT9 : TT.length ≤ 2000) (hZ : Z ≤ w.heap.size) (hg2 : g2 < Z) (hg3 : g3 < Z) (fr : Array Value) (hn : fr.size = 67) (p2 : fr[2]? = some (.pointer (some ⟨g2, 0, none⟩))) (p3 : fr[3]? = some (.pointer (some ⟨g3, 0, none⟩))) (p5 : fr[5]? = some (.string ⟨(tt).toArray⟩)) (p6 : fr[6]? = some (u)) (p7 : fr[7]? = some (.int .i64 (j : Int)))
    (hQ : ∀ t' w' v', t'.size = 67 → t'[2]? = some (.pointer (some ⟨g2, 0, none⟩)) → t'[3]? = some (.pointer (some ⟨g3, 0, none⟩)) → t'[5]? = some (.string ⟨(Pf.nd (kb key j) j (S2.sum tt) (S.getD j [])).toArray⟩) → t'[6]? = some (v') → t'[7]? = some (.int .i64 ((j : Int) - 1)) → Os w' Z v' (TT ++ [Pf.nd (kb key j) j (S2.sum tt) (S.getD j [])]) → Fr (fun i => Z ≤ i) w w' → KK ⟨t', []⟩ w') :
    Code.wp Tryd.prog (loopAt Tryd.f12 0) (Exit.then KK Q) ⟨fr, []⟩ w := by
  obtain ⟨r, hr⟩ : ∃ r, r = S.getD j [] := ⟨_, rfl⟩
  have hri : S[j]? = some r := by rw [hr, List.getD_eq_getElem?_getD, List.getElem?_eq_getElem (by omega)]; rfl
  have hr32 := hK.all r (List.mem_of_getElem? hri)
  obtain ⟨gr, or, rfl⟩ := hK.at (by omega)
  have HCM := Lib.hid (kv_came hK hri)
  have HS := Lib.hid (show ∀ (V : World) (F : Fr (fun _ => False) w V), Calls Tryd.prog 9 #[.string ⟨tt.toArray⟩] V fun e w' => e = .returned (.string ⟨(S2.sum tt).toArray⟩) ∧ Fr (fun _ => False) V w' from fun V F => rsum_str tt (by omega) V (hE.ext F))
  have HBI := Lib.hid (rbit_all hkey j)
  rw [hb] at HBI
  rw [hb, ← hr] at hQ
  have hsl : (S2.sum tt).length = 32 := sum_length tt
  generalize S2.sum tt = sm at *
  have hb1 := by1 j
  have hb2 := by2 j
  have hnd := Pf.nd_eq true j sm r
  rw [hnd] at hQ
  generalize UInt8.ofNat (j / 256) = b1 at *
  generalize UInt8.ofNat j = b2 at *
  simp only [if_true, if_false, Bool.false_eq_true] at hQ
  obtain ⟨sti, szz, hSI⟩ := sInfo
  have HSI := Lib.hid hSI
  have c1 := fun W => str_add [1] [b1, b2] (by simp) (by simp) W
  have c2 := fun W => str_add [1, b1, b2] r (by simp) (by omega) W
  have c3 := fun W => str_add (1 :: b1 :: b2 :: r) sm (by simp; omega) (by omega) W
  have e1 : str ([1] ++ [b1, b2]) = .string ⟨[1, b1, b2].toArray⟩ := rfl
  have e2 : str ([1, b1, b2] ++ r) = .string ⟨(1 :: b1 :: b2 :: r).toArray⟩ := rfl
  have e3 : str (1 :: b1 :: b2 :: r ++ sm) = .string ⟨(1 :: b1 :: b2 :: (r ++ sm)).toArray⟩ := rfl
  rw [e1] at c1
  rw [e2] at c2
  rw [e3] at c3
  generalize htn : (1 :: b1 :: b2 :: (r ++ sm)) = tn at *
  have q1 : (j : Int) < (n : Int) := by omega
  have q4 : (0 : Int) ≤ (j : Int) := Int.natCast_nonneg j
  have HW := Lib.hid (show wrap64 ((j : Int) - 1) = (j : Int) - 1 from IntWalk.wrap64_in _ (by omega))
  have HQ := Lib.hid hQ
  have HPB := Lib.hid hpb
  have HKB := Lib.hid hkb
  have HO := Lib.hid hO
  have HZ := Lib.hid (And.intro hZ (And.intro hg2 hg3))
  have HT9 := Lib.hid hT9
  have HKY := Lib.hid hkey
  clear hQ hpb hkb hO hZ hg2 hg3 hT9 hkey hK hSn hn9 hE hb ht e1 e2 e3 hr hri hr32 hsl hnd hSI htn
  obtain ⟨f, hff, rfl⟩ := frame_open hn
  have e2 := hff 2 _ p2
  have e3 := hff 3 _ p3
  have e5 := hff 5 _ p5
  have e6 := hff 6 _ p6
  have e7 := hff 7 _ p7
  clear hff hn p2 p3 p5 p6 p7
  rw [lit67, e2, e3, e5, e6, e7]
  clear e2 e3 e5 e6 e7
  conv => arg 2; whnf
  go_wp2_with fail
  refine (HS.out _ (Fr.refl _ w)).mono ?_
  rintro e w1 ⟨rfl, F1⟩
  have c0 := (HPB.out.fr F1 (fun h => h)).c0
  have ck : (convert 39 9 (.slice (some ⟨gr, or + j * 32, none⟩) 32 32)).run Tryd.prog w1 = .ok (.string ⟨r.toArray⟩) w1 := (HCM.out.ext F1).str2
  have A2 := F1.alloc (.cells #[.int .u8 (b1.toNat : Int), .int .u8 (b2.toNat : Int)] 5)
  have cv : (convert 39 9 (.slice (some ⟨w1.heap.size, 0, none⟩) 2 2)).run Tryd.prog (w1.alloc (.cells #[.int .u8 (b1.toNat : Int), .int .u8 (b2.toNat : Int)] 5)) = .ok (.string ⟨[b1, b2].toArray⟩) (w1.alloc (.cells #[.int .u8 (b1.toNat : Int), .int .u8 (b2.toNat : Int)] 5)) := (came_cells (l := [b1, b2]) (heap_alloc_new _ _) rfl (by simp)).str2
  have HK2 := Lib.hid ((A2.block _ (lt_of_block HKB.out) (fun h => h)).trans HKB.out)
  have HA2 := Lib.hid A2
  clear A2 F1 HS
  go_wp2_with (first | (focus ((refine wpList_load_row rfl 22 (.tmp 2) rfl g2 rfl 22 (krow key) (0, 0) _ HK2.out Tryd.underlying22 rfl (sz32' HKY.out) ?_); simp only [Act.put, List.setIfInBounds_toArray, List.set_cons_zero, List.set_cons_succ])))
  refine (HBI.out _).mono ?_
  rintro e w2 ⟨rfl, F2⟩
  have F02 := HA2.out.trans F2 (fun _ h => h.elim)
  have HF2 := Lib.hid F02
  have HO2 := Lib.hid (show w2.ownsRow Z 9 1 u TT.length (TT.map str) from own_ext HO.out F02)
  have HZ2 := Lib.hid (Nat.le_trans HZ.out.1 F02.size)
  clear F2 F02 c0 ck cv
  dsimp only [bn, if_true, if_false]
  go_wp2_with (first | (focus (refine wpList_buildSlice rfl 44 1 _ rfl #[(0, str tn)] (by first | kernel_rfl | rfl | simp [Act.eval]) (mkS tn _) ?_; simp only [Act.put, List.setIfInBounds_toArray, List.set_cons_zero, List.set_cons_succ])) | (focus (refine wpList_app _ rfl (.tmp 62) (.tmp 64) 44 44 rfl Z 9 sti szz 1 16 Tryd.underlying44 HSI.out.1 HSI.out.2.1 HSI.out.2.2.1 HSI.out.2.2.2.1 HSI.out.2.2.2.2 (by decide) u _ _ rfl (own_ext HO2.out ((Fr.refl (fun _ => False) w2).alloc (.cells #[str tn] 9))) _ rfl 1 [str tn] (src_str (heap_alloc_new w2 _)) (by have := HT9.out; unfold maxLen; omega) (by have := HT9.out; omega) (Nat.le_trans HZ2.out ((Fr.refl (fun _ => False) w2).alloc (.cells #[str tn] 9)).size) ?_; intro v3 w3 O3 G3 G3x; simp only [Act.put, List.setIfInBounds_toArray, List.set_cons_zero, List.set_cons_succ]; refine Hid.out ?_)))
  have F23 : Fr (fun k => u.ownBlock = some k) w2 w3 := (((Fr.refl (fun _ => False) w2).alloc (.cells #[str tn] 9)).mono (fun _ _ h => h.elim)).trans (Fr.ofGrown G3) (fun k hk => .inl hk)
  have G03 : Fr (fun i => Z ≤ i) w w3 := (HF2.out.mono (T := fun i => Z ≤ i) (fun _ _ h => h.elim)).trans F23 (fun i hi => .inl (ownsRow_lt HO2.out i hi).1)
  have H3 := Lib.hid (And.intro (Os.snoc O3) G03)
  clear F23 G03 O3 G3 G3x
  refine Lib.hid ?_
  go_wp2_with fail
  exact HQ.out _ _ v3 (by first | rfl | simp) rfl rfl rfl rfl (congrArg (fun z => some (Value.int .i64 z)) HW.out) H3.out.1 H3.out.2
end Go.Proofs.YtndakfanlgilmaaDoor
namespace Go.Proofs.YtndakfanlgilmaaDoor
open Go.RowKit
set_option linter.unusedVariables false
set_option linter.unusedSimpArgs false
set_option maxRecDepth 100000 in
theorem cell_blk_lt {w : World} {p : Addr} {v : Value} (h : w.cell? p = some v) : p.block < w.heap.size := by
  obtain ⟨o, ho, _⟩ := cells_of_cell h
  exact (Array.getElem?_eq_some_iff.1 ho).1
set_option maxRecDepth 100000 in
theorem renv_up {w0 w W : World} {Z : Nat} (h0 : REnv w0) (F0 : Fr (fun _ => False) w0 w) (hZ : w0.heap.size ≤ Z) (F : Fr (fun i => Z ≤ i) w W) : REnv W :=
  (h0.ext F0).fr F (by obtain ⟨t, fr, hb⟩ := h0.tabH; have := lt_of_block hb; show ¬ Z ≤ _; omega) (by have := cell_blk_lt (h0.tabK 0 (by omega)); show ¬ Z ≤ _; dsimp only at this; omega)
set_option maxRecDepth 100000 in
set_option maxHeartbeats 6400000 in
theorem dtx_end {KK : Act → World → Prop} {Q : Exit → Act → World → Prop} {w : World} {g2 g3 : Nat} {tt : List UInt8} {u : Value} (fr : Array Value) (hn : fr.size = 67) (p2 : fr[2]? = some (.pointer (some ⟨g2, 0, none⟩))) (p3 : fr[3]? = some (.pointer (some ⟨g3, 0, none⟩))) (p5 : fr[5]? = some (.string ⟨(tt).toArray⟩)) (p6 : fr[6]? = some (u)) (p7 : fr[7]? = some (.int .i64 (-1)))
    (hQ : ∀ t', t'.size = 67 → t'[6]? = some u → Q (.exit 0) ⟨t', []⟩ w) :
    Code.wp Tryd.prog (loopAt Tryd.f12 0) (Exit.then KK Q) ⟨fr, []⟩ w := by
  have HQ := Lib.hid hQ
  clear hQ
  obtain ⟨f, hff, rfl⟩ := frame_open hn
  have e2 := hff 2 _ p2
  have e3 := hff 3 _ p3
  have e5 := hff 5 _ p5
  have e6 := hff 6 _ p6
  have e7 := hff 7 _ p7
  clear hff hn p2 p3 p5 p6 p7
  rw [lit67, e2, e3, e5, e6, e7]
  clear e2 e3 e5 e6 e7
  conv => arg 2; whnf
  go_wp2_with fail
  exact HQ.out _ (by first | rfl | simp) rfl
set_option maxRecDepth 100000 in
set_option maxHeartbeats 6400000 in
theorem dtx_loop {Q : Exit → Act → World → Prop} {w : World} {g2 g3 n c Z : Nat} {a : Option Addr} {key k v e : List UInt8} {th : Bool} {S : List (List UInt8)} {u : Value} (hpb : Pb w g3 (.slice a n c) th k v) (hkb : w.heap[g2]? = some (.cells (krow key) 22 (0, 0))) (hK : Kv w a S) (hSn : S.length = n) (hn9 : n ≤ 1000) (hkey : key.length = 32) (ha : ∀ k, inBlk a k → k < Z) (hE : REnv w) (he : e.length ≤ 67) (hO : Os w Z u [e]) (hZ : Z ≤ w.heap.size) (hg2 : g2 < Z) (hg3 : g3 < Z) (hEZ : ∀ W, Fr (fun i => Z ≤ i) w W → REnv W) (fr : Array Value) (hn : fr.size = 67) (p2 : fr[2]? = some (.pointer (some ⟨g2, 0, none⟩))) (p3 : fr[3]? = some (.pointer (some ⟨g3, 0, none⟩))) (p5 : fr[5]? = some (.string ⟨(e).toArray⟩)) (p6 : fr[6]? = some (u)) (p7 : fr[7]? = some (.int .i64 ((n : Int) - 1)))
    (hQ : ∀ t' w' v', t'.size = 67 → t'[6]? = some v' → Os w' Z v' (Pf.txs key S e n) → Fr (fun i => Z ≤ i) w w' → Q (.exit 0) ⟨t', []⟩ w') :
    Code.wp Tryd.prog (.loop (loopAt Tryd.f12 0)) Q ⟨fr, []⟩ w := by
  refine wp_loop_up n (fun i t w' => ∃ v', t.size = 67 ∧ t[2]? = some (.pointer (some ⟨g2, 0, none⟩)) ∧ t[3]? = some (.pointer (some ⟨g3, 0, none⟩)) ∧ t[5]? = some (.string ⟨(Pf.tx key S e i).toArray⟩) ∧ t[6]? = some (v') ∧ t[7]? = some (.int .i64 ((n : Int) - 1 - (i : Int))) ∧ Os w' Z v' (Pf.txs key S e i) ∧ Fr (fun i => Z ≤ i) w w') fr w ⟨_, hn, p2, p3, p5, p6, by rw [p7]; simp, hO, Fr.refl _ _⟩ ?_
  rintro i t w1 hi ⟨v1, hn1, p2, p3, p5, p6, p7, hO1, F1⟩ KK hKK
  by_cases hlt : i < n
  · obtain ⟨j, hj⟩ : ∃ j : Nat, j = n - 1 - i := ⟨_, rfl⟩
    have hji : (n : Int) - 1 - (i : Int) = (j : Int) := by omega
    have htx : Pf.tx key S e (i + 1) = Pf.nd (kb key j) j (S2.sum (Pf.tx key S e i)) (S.getD j []) := by rw [Pf.tx, hSn, ← hj]
    have hts : Pf.txs key S e (i + 1) = Pf.txs key S e i ++ [Pf.nd (kb key j) j (S2.sum (Pf.tx key S e i)) (S.getD j [])] := by rw [Pf.txs_succ, htx]
    rw [hji] at p7
    have hjn : j < n := by omega
    have hpb1 := hpb.fr F1 (by show ¬ Z ≤ g3; omega)
    have hkb1 := (F1.block g2 (lt_of_block hkb) (by show ¬ Z ≤ g2; omega)).trans hkb
    have hK1 := hK.fr F1 (fun k hk hs => by have := ha k hk; omega)
    have hT9 : (Pf.txs key S e i).length ≤ 2000 := by rw [Pf.txs_len]; omega
    have ht : (Pf.tx key S e i).length ≤ 67 := Pf.tx_le key hK.all he i (by omega)
    have fin : ∀ (t' : Array Value) (w' : World) (v' : Value), t'.size = 67 → t'[2]? = some (.pointer (some ⟨g2, 0, none⟩)) → t'[3]? = some (.pointer (some ⟨g3, 0, none⟩)) → t'[5]? = some (.string ⟨(Pf.nd (kb key j) j (S2.sum (Pf.tx key S e i)) (S.getD j [])).toArray⟩) → t'[6]? = some (v') → t'[7]? = some (.int .i64 ((j : Int) - 1)) → Os w' Z v' (Pf.txs key S e i ++ [Pf.nd (kb key j) j (S2.sum (Pf.tx key S e i)) (S.getD j [])]) → Fr (fun i => Z ≤ i) w1 w' → KK ⟨t', []⟩ w' := fun t' w' v' b0 b2 b3 b5 b6 b7 b8 b9 =>
      hKK t' w' hlt ⟨v', b0, b2, b3, by rw [htx]; exact b5, b6, by rw [b7]; congr 2; omega, by rw [hts]; exact b8, F1.trans b9 (fun _ h => .inl h)⟩
    cases hb : kb key j with
    | false => rw [hb] at fin; exact dtx_false hjn hpb1 hkb1 hK1 hSn hn9 hkey (hEZ w1 F1) hb ht hO1 hT9 (Nat.le_trans hZ F1.size) hg2 hg3 t hn1 p2 p3 p5 p6 p7 (by rw [hb]; exact fin)
    | true => rw [hb] at fin; exact dtx_true hjn hpb1 hkb1 hK1 hSn hn9 hkey (hEZ w1 F1) hb ht hO1 hT9 (Nat.le_trans hZ F1.size) hg2 hg3 t hn1 p2 p3 p5 p6 p7 (by rw [hb]; exact fin)
  · obtain rfl : i = n := by omega
    have hm : (i : Int) - 1 - (i : Int) = -1 := by omega
    rw [hm] at p7
    exact dtx_end t hn1 p2 p3 p5 p6 p7 (fun t' b0 b1 => hQ t' w1 v1 b0 b1 hO1 F1)
set_option maxRecDepth 100000 in
set_option maxHeartbeats 6400000 in
theorem dtexts_false (key k v : List UInt8) (S : List (List UInt8)) (a : Option Addr) (n c : Nat) (hSn : S.length = n) (hn9 : n ≤ 1000) (hkey : key.length = 32) (hk : k.length = 32) (hv : v.length = 32) (w : World) (hK : Kv w a S) (ha : ∀ k, inBlk a k → k < w.heap.size) (hE : REnv w) :
    Calls Tryd.prog 12 #[.agg (krow key), .agg (pfRow (.slice a n c) false k v)] w fun e w' => (∃ u, e = .returned u ∧ Os w' w.heap.size u (Pf.txs key S (Pf.en false k v) n)) ∧ Fr (fun _ => False) w w' := by
  have s1 : (Tryd.prog.info? 28).map (·.size) = some (pfRow (.slice a n c) false k v).size := by rw [pf_size hk hv]; kernel_rfl
  have s2 := sz32' hkey
  have B0 := heap_alloc2_old w (.cells (krow key) 22) (.cells (pfRow (.slice a n c) false k v) 28)
  have B1 := heap_alloc2_new w (.cells (krow key) 22) (.cells (pfRow (.slice a n c) false k v) 28)
  have F0 := ((Fr.refl (fun _ => False) w).alloc (.cells (krow key) 22)).alloc (.cells (pfRow (.slice a n c) false k v) 28)
  have HSZ := Lib.hid (show ((w.alloc (.cells (krow key) 22)).alloc (.cells (pfRow (.slice a n c) false k v) 28)).heap.size = w.heap.size + 2 by simp)
  have P1 := Pb.of B1 hk
  have HB := Lib.hid B0
  have HP := Lib.hid P1
  have HF := Lib.hid F0
  have HKV := Lib.hid hK
  have HN := Lib.hid (And.intro hSn (And.intro hn9 (And.intro hkey (And.intro hk hv))))
  have HA := Lib.hid ha
  have HE := Lib.hid hE
  have q9 : wrap64 ((n : Int) - 1) = (n : Int) - 1 := IntWalk.wrap64_in _ (by omega)
  have c1 := P1.c1
  clear hSn hn9 hkey hk hv hK ha hE B0 B1 F0 P1
  go_enter Tryd.func12, Tryd.ntmps12
  have HFx := Lib.hid (Fr.refl (fun _ => False) ((w.alloc (.cells (krow key) 22)).alloc (.cells (pfRow (.slice a n c) false k v) 28)))
  have HPx := Lib.hid HP.out
  have HBx := Lib.hid HB.out
  have G2 := (Fr.refl (fun _ => False) ((w.alloc (.cells (krow key) 22)).alloc (.cells (pfRow (.slice a n c) false k v) 28))).alloc (.cells #[str [2]] 9)
  have c0 := (HPx.out.fr G2 (fun h => h)).c0
  have HG2 := Lib.hid G2
  have HLT := Lib.hid (show w.heap.size + 2 ≤ ((w.alloc (.cells (krow key) 22)).alloc (.cells (pfRow (.slice a n c) false k v) 28)).heap.size from Nat.le_of_eq HSZ.out.symm)
  clear G2
  go_wp2_with (first | (focus (refine wpList_buildSlice rfl 44 1 _ rfl #[(0, str [2])] (by first | kernel_rfl | rfl | simp [Act.eval]) (mkS [2] _) ?_; simp only [Act.put, List.setIfInBounds_toArray, List.set_cons_zero, List.set_cons_succ])))
  generalize ((w.alloc (.cells (krow key) 22)).alloc (.cells (pfRow (.slice a n c) false k v) 28)) = w1 at *
  have hO2 : Os (w1.alloc (.cells #[str [2]] 9)) w1.heap.size (.slice (some ⟨w1.heap.size, 0, none⟩) 1 1) [[2]] := ⟨rfl, .inr ⟨w1.heap.size, 1, #[str [2]], rfl, Nat.le_refl _, heap_alloc_new w1 _, Nat.le_refl _, by unfold maxLen; omega, rfl, rfl⟩⟩
  have GA := HF.out.trans HFx.out (fun _ h => h.elim)
  have G2 := HG2.out
  refine dtx_loop (g2 := w.heap.size) (g3 := w.heap.size + 1) (Z := w1.heap.size) (a := a) (c := c) (n := n) (key := key) (S := S) (HPx.out.fr G2 (fun h => h)) ((G2.block _ (lt_of_block HBx.out) (fun h => h)).trans HBx.out) ((HKV.out.ext GA).ext G2) HN.out.1 HN.out.2.1 HN.out.2.2.1 (fun k hk => by have := HA.out k hk; have := HLT.out; omega) ((HE.out.ext GA).ext G2) (by have := HN.out.2.2.2.1; have := HN.out.2.2.2.2; simp <;> try omega) hO2 G2.size (by have := HLT.out; omega) (by have := HLT.out; omega) (fun W F => renv_up HE.out (GA.trans G2 (fun _ h => h.elim)) (by have := HLT.out; omega) F) _ (by first | rfl | simp) rfl rfl rfl rfl (congrArg (fun z => some (Value.int .i64 z)) q9) ?_
  intro t' w' v' hn' p6 hO' F'
  have HX := Lib.hid (GA.trans (G2.trans F' (fun k h => .inr h)) (fun _ h => h.elim))
  have HO := Lib.hid (own_up hO' (show w.heap.size ≤ w1.heap.size by have := HLT.out; omega))
  clear hO2 GA G2 hO' F'
  obtain ⟨f, hff, rfl⟩ := frame_open hn'
  have e6 := hff 6 _ p6
  clear hff hn' p6
  rw [lit67, e6]
  clear e6
  go_wp2_with fail
  go_ret
  exact ⟨⟨_, rfl, HO.out⟩, HX.out⟩
set_option maxRecDepth 100000 in
set_option maxHeartbeats 6400000 in
theorem dtexts_true (key k v : List UInt8) (S : List (List UInt8)) (a : Option Addr) (n c : Nat) (hSn : S.length = n) (hn9 : n ≤ 1000) (hkey : key.length = 32) (hk : k.length = 32) (hv : v.length = 32) (w : World) (hK : Kv w a S) (ha : ∀ k, inBlk a k → k < w.heap.size) (hE : REnv w) :
    Calls Tryd.prog 12 #[.agg (krow key), .agg (pfRow (.slice a n c) true k v)] w fun e w' => (∃ u, e = .returned u ∧ Os w' w.heap.size u (Pf.txs key S (Pf.en true k v) n)) ∧ Fr (fun _ => False) w w' := by
  have s1 : (Tryd.prog.info? 28).map (·.size) = some (pfRow (.slice a n c) true k v).size := by rw [pf_size hk hv]; kernel_rfl
  have s2 := sz32' hkey
  have B0 := heap_alloc2_old w (.cells (krow key) 22) (.cells (pfRow (.slice a n c) true k v) 28)
  have B1 := heap_alloc2_new w (.cells (krow key) 22) (.cells (pfRow (.slice a n c) true k v) 28)
  have F0 := ((Fr.refl (fun _ => False) w).alloc (.cells (krow key) 22)).alloc (.cells (pfRow (.slice a n c) true k v) 28)
  have HSZ := Lib.hid (show ((w.alloc (.cells (krow key) 22)).alloc (.cells (pfRow (.slice a n c) true k v) 28)).heap.size = w.heap.size + 2 by simp)
  have P1 := Pb.of B1 hk
  have HB := Lib.hid B0
  have HP := Lib.hid P1
  have HF := Lib.hid F0
  have HKV := Lib.hid hK
  have HN := Lib.hid (And.intro hSn (And.intro hn9 (And.intro hkey (And.intro hk hv))))
  have HA := Lib.hid ha
  have HE := Lib.hid hE
  have q9 : wrap64 ((n : Int) - 1) = (n : Int) - 1 := IntWalk.wrap64_in _ (by omega)
  have c1 := P1.c1
  have d1 := fun W => str_add [0] k (by simp) (by omega) W
  have d2 := fun W => str_add (0 :: k) v (by simp; omega) (by omega) W
  have e1 : str ([0] ++ k) = .string ⟨(0 :: k).toArray⟩ := rfl
  have e2 : str (0 :: k ++ v) = .string ⟨(0 :: (k ++ v)).toArray⟩ := rfl
  rw [e1] at d1
  rw [e2] at d2
  clear e1 e2
  clear hSn hn9 hkey hk hv hK ha hE B0 B1 F0 P1
  go_enter Tryd.func12, Tryd.ntmps12
  go_wp2_with fail
  clear c1
  generalize ((w.alloc (.cells (krow key) 22)).alloc (.cells (pfRow (.slice a n c) true k v) 28)) = w1 at *
  have ck : ∀ u : Wd w1, (convert 39 9 (.slice (some ⟨w.heap.size + 1, 2, none⟩) 32 32)).run Tryd.prog u.w = .ok (.string ⟨k.toArray⟩) u.w := fun u => ((HP.out.came HN.out.2.2.2.1 HN.out.2.2.2.2).1.ext u.h).str2
  have cv : ∀ u : Wd w1, (convert 39 9 (.slice (some ⟨w.heap.size + 1, 34, none⟩) 32 32)).run Tryd.prog u.w = .ok (.string ⟨v.toArray⟩) u.w := fun u => ((HP.out.came HN.out.2.2.2.1 HN.out.2.2.2.2).2.ext u.h).str2
  refine wp_region_keep (by kernel_rfl) (by kernel_rfl) ?_
  repeat (any_goals (first | go_big_quiet_step (fail) | quiet_step (fail)))
  refine wpQuiet_nil ?_
  intro _ hwz
  obtain ⟨u, rfl⟩ := hwz
  have hF := u.h
  generalize u.w = wx at *
  clear ck cv d1 d2
  have HFx := Lib.hid hF
  have HPx := Lib.hid (HP.out.fr hF (fun h => h))
  have HBx := Lib.hid ((hF.block _ (lt_of_block HB.out) (fun h => h)).trans HB.out)
  have G2 := (Fr.refl (fun _ => False) wx).alloc (.cells #[str (0 :: (k ++ v))] 9)
  have c0 := (HPx.out.fr G2 (fun h => h)).c0
  have HG2 := Lib.hid G2
  have HLT := Lib.hid (show w.heap.size + 2 ≤ wx.heap.size by have := HSZ.out; have := hF.size; omega)
  clear G2 hF
  go_wp2_with (first | (focus (refine wpList_buildSlice rfl 44 1 _ rfl #[(0, str (0 :: (k ++ v)))] (by first | kernel_rfl | rfl | simp [Act.eval]) (mkS (0 :: (k ++ v)) _) ?_; simp only [Act.put, List.setIfInBounds_toArray, List.set_cons_zero, List.set_cons_succ])))
  have hO2 : Os (wx.alloc (.cells #[str (0 :: (k ++ v))] 9)) wx.heap.size (.slice (some ⟨wx.heap.size, 0, none⟩) 1 1) [(0 :: (k ++ v))] := ⟨rfl, .inr ⟨wx.heap.size, 1, #[str (0 :: (k ++ v))], rfl, Nat.le_refl _, heap_alloc_new wx _, Nat.le_refl _, by unfold maxLen; omega, rfl, rfl⟩⟩
  have GA := HF.out.trans HFx.out (fun _ h => h.elim)
  have G2 := HG2.out
  refine dtx_loop (g2 := w.heap.size) (g3 := w.heap.size + 1) (Z := wx.heap.size) (a := a) (c := c) (n := n) (key := key) (S := S) (HPx.out.fr G2 (fun h => h)) ((G2.block _ (lt_of_block HBx.out) (fun h => h)).trans HBx.out) ((HKV.out.ext GA).ext G2) HN.out.1 HN.out.2.1 HN.out.2.2.1 (fun k hk => by have := HA.out k hk; have := HLT.out; omega) ((HE.out.ext GA).ext G2) (by have := HN.out.2.2.2.1; have := HN.out.2.2.2.2; simp <;> try omega) hO2 G2.size (by have := HLT.out; omega) (by have := HLT.out; omega) (fun W F => renv_up HE.out (GA.trans G2 (fun _ h => h.elim)) (by have := HLT.out; omega) F) _ (by first | rfl | simp) rfl rfl rfl rfl (congrArg (fun z => some (Value.int .i64 z)) q9) ?_
  intro t' w' v' hn' p6 hO' F'
  have HX := Lib.hid (GA.trans (G2.trans F' (fun k h => .inr h)) (fun _ h => h.elim))
  have HO := Lib.hid (own_up hO' (show w.heap.size ≤ wx.heap.size by have := HLT.out; omega))
  clear hO2 GA G2 hO' F'
  obtain ⟨f, hff, rfl⟩ := frame_open hn'
  have e6 := hff 6 _ p6
  clear hff hn' p6
  rw [lit67, e6]
  clear e6
  go_wp2_with fail
  go_ret
  exact ⟨⟨_, rfl, HO.out⟩, HX.out⟩
set_option maxRecDepth 100000 in
theorem dtexts_any (th : Bool) (key k v : List UInt8) (S : List (List UInt8)) (a : Option Addr) (n c : Nat) (hSn : S.length = n) (hn9 : n ≤ 1000) (hkey : key.length = 32) (hk : k.length = 32) (hv : v.length = 32) (w : World) (hK : Kv w a S) (ha : ∀ k, inBlk a k → k < w.heap.size) (hE : REnv w) :
    Calls Tryd.prog 12 #[.agg (krow key), .agg (pfRow (.slice a n c) th k v)] w fun e w' => (∃ u, e = .returned u ∧ Os w' w.heap.size u (Pf.txs key S (Pf.en th k v) n)) ∧ Fr (fun _ => False) w w' := by
  cases th
  · exact dtexts_false key k v S a n c hSn hn9 hkey hk hv w hK ha hE
  · exact dtexts_true key k v S a n c hSn hn9 hkey hk hv w hK ha hE
end Go.Proofs.YtndakfanlgilmaaDoor
namespace Go.Proofs.YtndakfanlgilmaaDoor
open Go.RowKit
set_option linter.unusedVariables false
set_option linter.unusedSimpArgs false
namespace Ks
set_option maxRecDepth 100000 in
theorem Wk.seqs {S : Nat → Prop} {P : Program} {md : Region.Mode} {ops : Array Oper} {Q : Act → World → Prop} {fuel : Nat} (hs : Region.noSelect ops = true) : ∀ (l : List (Nat × Bool)) (listed : Array Bool) (a : Act) (w : World), okC md ops l listed = true →
    Wk S P md ops (fun a w => wpM S P md ops Q fuel (marks l listed) a w) l a w → wpM S P md ops Q (fuel + l.length) listed a w
  | [], _, _, w, _, h => h w (Fr.refl _ w)
  | (k, false) :: r, listed, a, w, hB, h => by
    obtain ⟨o, v, h0, hy, hk⟩ := h
    simp only [okC, Bool.and_eq_true] at hB
    obtain ⟨⟨hr, hf⟩, hB'⟩ := hB
    exact wpM_first h0 (Region.noSelect_spec hs) (fuel + r.length) listed a w (Region.free_spec h0 hf) (by simpa using hr) hy (Wk.seqs hs r _ _ w hB' hk)
  | (k, true) :: r, listed, a, w, hB, h => by
    simp only [okC, Bool.and_eq_true, beq_iff_eq] at hB
    refine ⟨fun h0 => (by rw [hB.1] at h0; cases h0), fun i hi w' hx => ?_⟩
    rw [hB.1] at hi
    obtain rfl : i = k := by simpa using hi
    exact wpOp_mono (fun a'' w'' ⟨h1, h2⟩ => ⟨h1, Wk.seqs hs r _ a'' w'' hB.2 h2⟩) (h w' hx)
set_option maxRecDepth 100000 in
theorem wp_region_part (S : Nat → Prop) {P : Program} {id : Nat} {Q : Exit → Act → World → Prop} {a : Act} {W0 : World} {l : List Oper} (π : List (Nat × Bool)) (n : Nat) (L2 : Array Bool) (hm : P.follows .mixedOrders = true)
    (hB : (Region.noSelect l.toArray && okC .any l.toArray π (Array.replicate l.length false) && (l.length == n + π.length) && (marks π (Array.replicate l.length false) == L2)) = true)
    (h : Wk S P .any l.toArray (fun a w => wpM S P .any l.toArray (fun a w => Q .normal a w) n L2 a w) π a W0) : (Code.region id l.toArray true).wp P Q a W0 := by
  simp only [Bool.and_eq_true, beq_iff_eq] at hB
  obtain ⟨⟨⟨h1, h2⟩, h3⟩, rfl⟩ := hB
  refine wp_region_any hm ?_
  have := wpM.up _ _ _ _ _ ((Fr.refl (fun _ => False) W0).drew) (Wk.seqs h1 π _ a W0 h2 h)
  rw [← h3] at this
  have h4 := wpAny_of_M (Q' := Q) (fun _ _ h => h) _ _ _ _ this
  simpa using h4
set_option maxRecDepth 100000 in
/-- One alone may come up now. -/
theorem wpM.only {S : Nat → Prop} {P : Program} {md : Region.Mode} {ops : Array Oper} {Q : Act → World → Prop} {L : Array Bool} {a : Act} {w : World} (k : Nat) (n : Nat) (L2 : Array Bool) {o : Oper} (hi : ops[k]? = some o) (hB : (Region.ready md ops L == [k] && L.setIfInBounds k true == L2) = true)
    (h : ∀ w', Ex w w' → wpList P ops (fun e a'' w'' => e = .normal ∧ Es S w' w'' ∧ wpM S P md ops Q n L2 a'' w'') [o] a w') : wpM S P md ops Q (n + 1) L a w := by
  simp only [Bool.and_eq_true, beq_iff_eq] at hB
  obtain ⟨h1, rfl⟩ := hB
  refine ⟨fun h0 => (by rw [h0] at h1; simp at h1), fun i hI w' hx => ?_⟩
  rw [h1] at hI
  obtain rfl : i = k := by simpa using hI
  exact wpOp_of_list hi (h w' hx)
set_option maxRecDepth 100000 in
/-- Two may come up now. -/
theorem wpM.two {S : Nat → Prop} {P : Program} {md : Region.Mode} {ops : Array Oper} {Q : Act → World → Prop} {L : Array Bool} {a : Act} {w : World} (k j : Nat) (n : Nat) (L2 L3 : Array Bool) {o o2 : Oper} (hi : ops[k]? = some o) (hj : ops[j]? = some o2) (hB : (Region.ready md ops L == [k, j] && L.setIfInBounds k true == L2 && L.setIfInBounds j true == L3) = true)
    (h : ∀ w', Ex w w' → wpList P ops (fun e a'' w'' => e = .normal ∧ Es S w' w'' ∧ wpM S P md ops Q n L2 a'' w'') [o] a w')
    (h2 : ∀ w', Ex w w' → wpList P ops (fun e a'' w'' => e = .normal ∧ Es S w' w'' ∧ wpM S P md ops Q n L3 a'' w'') [o2] a w') : wpM S P md ops Q (n + 1) L a w := by
  simp only [Bool.and_eq_true, beq_iff_eq] at hB
  obtain ⟨⟨h1, rfl⟩, rfl⟩ := hB
  refine ⟨fun h0 => (by rw [h0] at h1; simp at h1), fun i hI w' hx => ?_⟩
  rw [h1] at hI
  rcases (show i = k ∨ i = j by simpa using hI) with rfl | rfl
  · exact wpOp_of_list hi (h w' hx)
  · exact wpOp_of_list hj (h2 w' hx)
set_option maxRecDepth 100000 in
theorem wpM.last {S : Nat → Prop} {P : Program} {md : Region.Mode} {ops : Array Oper} {Q : Act → World → Prop} {L : Array Bool} {a : Act} {w : World} (l : List (Nat × Bool)) (m : Nat) (hB : (Region.noSelect ops && okB md ops l L && (m == l.length)) = true)
    (h : Wk S P md ops Q l a w) : wpM S P md ops Q m L a w := by
  simp only [Bool.and_eq_true, beq_iff_eq] at hB
  obtain ⟨⟨h1, h2⟩, rfl⟩ := hB
  exact Wk.M h1 l L a w h2 h
end Ks
/-- A byte of one of the rows, changed. -/
def setb (P : List (List UInt8)) (k j : Nat) (b : UInt8) : List (List UInt8) := P.set k ((P.getD k []).set j b)
set_option maxRecDepth 100000 in
theorem setb_len (P : List (List UInt8)) (k j : Nat) (b : UInt8) : (setb P k j b).length = P.length := by simp [setb]
set_option maxRecDepth 100000 in
theorem setb_all {P : List (List UInt8)} (h : Lg.All32 P) (k j : Nat) (b : UInt8) : Lg.All32 (setb P k j b) := fun x hx => by
  rcases List.mem_or_eq_of_mem_set hx with h1 | h1
  · exact h x h1
  · by_cases hk : k < P.length
    · rw [h1, List.length_set, List.getD_eq_getElem?_getD, List.getElem?_eq_getElem hk]; exact h _ (List.getElem_mem _)
    · unfold setb at hx
      rw [List.set_eq_of_length_le (by omega)] at hx
      exact h x hx
set_option maxRecDepth 100000 in
theorem setb_flat (b : UInt8) (j : Nat) (hj : j < 32) : ∀ (P : List (List UInt8)) (k : Nat), Lg.All32 P → k < P.length → (setb P k j b).flatten = P.flatten.set (k * 32 + j) b
  | [], k, _, hk => by simp at hk
  | x :: P, 0, h, _ => by
    have hx : x.length = 32 := h x (by simp)
    show (x.set j b) ++ P.flatten = (x ++ P.flatten).set (0 * 32 + j) b
    rw [List.set_append_left _ _ (by omega), show 0 * 32 + j = j by omega]
  | x :: P, k + 1, h, hk => by
    have hx : x.length = 32 := h x (by simp)
    have ih := setb_flat b j hj P k (fun y hy => h y (by simp [hy])) (by simpa using hk)
    show x ++ (setb P k j b).flatten = (x ++ P.flatten).set ((k + 1) * 32 + j) b
    rw [List.set_append_right _ _ (by omega), ih, hx, show (k + 1) * 32 + j - 32 = k * 32 + j by omega]
set_option maxRecDepth 100000 in
theorem bv_sets (l : List UInt8) (i : Nat) (y : UInt8) : (bv l).set i (.int .u8 (y.toNat : Int)) = bv (l.set i y) := by simp [bv, List.map_set]
set_option maxRecDepth 100000 in
theorem wpList_store_own32 {ops : Array Oper} {rest : List Oper} {o : Oper} {a : Act} {w : World} {Q : Exit → Act → World → Prop} (hgd : o.guard = none) (x y : Operand) (ho : o.op = .store 5 x y)
    (g n c Z k j : Nat) (P : List (List UInt8)) (b : UInt8) (h32 : Lg.All32 P) (hP : P.length = n) (hk : k < n) (hj : j < 32) (hO : Or32 w Z (.slice (some ⟨g, 0, none⟩) n c) P) (hx : a.eval x = .pointer (some ⟨g, k * 32 + j, none⟩)) (hy : a.eval y = .int .u8 (b.toNat : Int))
    (h : ∀ w2 : World, Or32 w2 Z (.slice (some ⟨g, 0, none⟩) n c) (setb P k j b) → Fr (fun i => i = g) w w2 → wpList Tryd.prog ops Q rest (a.put o.dst undef) w2) : wpList Tryd.prog ops Q (o :: rest) a w := by
  rcases hO.2 with ⟨e, h0⟩ | ⟨g2, cap, cur, e, hb, hg, hc, hm, hs, ht⟩
  · cases e
  · cases e
    have hfl := h32.flat
    have hoff : k * 32 + j < cur.size := by rw [hs]; have := Nat.mul_le_mul_right 32 (show k + 1 ≤ c by omega); omega
    refine wpList_store_int hgd 5 x y ho g (k * 32 + j) hx .u8 _ hy (by kernel_rfl) 22 cur hg hoff fun w2 h2 F2 => h w2 ?_ F2
    refine ⟨by rw [bv_length, setb_flat b j hj P k h32 (by omega), List.length_set, hfl, setb_len], .inr ⟨g, c, _, by rw [setb_len, hP], hb, h2, by rw [setb_len]; exact hc, hm, by rw [Array.size_setIfInBounds]; exact hs, ?_⟩⟩
    rw [Array.toList_setIfInBounds, setb_len, List.take_set, ht, bv_sets, setb_flat b j hj P k h32 (by omega)]
/-- Two rows of one's own, apart from each other. -/
structure Two (w : World) (Z : Nat) (vp vq : Value) (P Q : List (List UInt8)) : Prop where
  p : Or32 w Z vp P
  q : Or32 w Z vq Q
  ap : ∀ k, vp.ownBlock = some k → vq.ownBlock ≠ some k
set_option maxRecDepth 100000 in
theorem Two.ext {w w' : World} {Z : Nat} {vp vq : Value} {P Q : List (List UInt8)} (h : Two w Z vp vq P Q) (F : Fr (fun _ => False) w w') : Two w' Z vp vq P Q := ⟨own_ext h.p F, own_ext h.q F, h.ap⟩
set_option maxRecDepth 100000 in
theorem Two.swap {w : World} {Z : Nat} {vp vq : Value} {P Q : List (List UInt8)} (h : Two w Z vp vq P Q) : Two w Z vq vp Q P := ⟨h.q, h.p, fun k h1 h2 => h.ap k h2 h1⟩
set_option maxRecDepth 100000 in
theorem Two.app {w w' : World} {Z : Nat} {vp vq v : Value} {P Q : List (List UInt8)} {r : List UInt8} (h : Two w Z vp vq P Q) (O : w'.ownsRow Z 22 32 v (P.length + 1) (bv P.flatten ++ bv r)) (G : w.grownBy w' vp.ownBlock) (hb : v.ownBlock = vp.ownBlock ∨ v.ownBlock = some w.heap.size) : Two w' Z v vq (P ++ [r]) Q :=
  ⟨Or32.snoc O, own_fr h.q (Fr.ofGrown G) (fun k hk hs => h.ap k hs hk), fun k hk hq => by
    rcases hb with hb | hb
    · exact h.ap k (by rw [← hb]; exact hk) hq
    · have h1 := (ownsRow_lt h.q k hq).2
      rw [hb] at hk
      have := Option.some.inj hk
      omega⟩
set_option maxRecDepth 100000 in
theorem Two.set {w w' : World} {Z g n c : Nat} {vq : Value} {P Q : List (List UInt8)} {P' : List (List UInt8)} (h : Two w Z (.slice (some ⟨g, 0, none⟩) n c) vq P Q) (O : Or32 w' Z (.slice (some ⟨g, 0, none⟩) n c) P') (F : Fr (fun i => i = g) w w') : Two w' Z (.slice (some ⟨g, 0, none⟩) n c) vq P' Q :=
  ⟨O, own_fr h.q F (fun k hk hs => h.ap k (by rw [hs]; rfl) hk), h.ap⟩
end Go.Proofs.YtndakfanlgilmaaDoor

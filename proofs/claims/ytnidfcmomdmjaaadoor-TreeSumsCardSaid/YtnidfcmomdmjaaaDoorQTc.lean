/-
  A tree of one leaf, whole; what the law asks of it.
  The law TreeSums.
  The law TreeSums.
  A leaf, and two sums, that came in as arguments.
-/
import Derived.Test.YtnidfcmomdmjaaaDoorQTb
import Derived.Deep.Slices
import Derived.Deep.Strs
namespace Go.Proofs.YtnidfcmomdmjaaaDoor
open Go.RowKit
set_option linter.unusedVariables false
set_option linter.unusedSimpArgs false
set_option maxRecDepth 100000 in
set_option maxHeartbeats 6400000 in
theorem build_one (g c : Nat) (k v : List UInt8) (hk : k.length = 32) (hv : v.length = 32) (w : World) (hc : ∀ (i : Nat) (u : Value), (leafRow k v)[i]? = some u → w.cell? ⟨g, 0 + i, none⟩ = some u) (hc1 : 1 ≤ c) (hE : Env w) : Calls Tryd.prog 22 #[.int .i64 0, .slice (some ⟨g, 0, none⟩) 1 c] w fun e w' => (∃ t, e = .returned (.pointer (some ⟨t, 0, none⟩)) ∧ To w' t (Tn.leaf k v)) ∧ Fr (fun _ => False) w w' := by
  have F0 := ((Fr.refl (fun _ => False) w).alloc (.cells #[.int .i64 0] 3)).alloc (.cells #[.slice (some ⟨g, 0, none⟩) 1 c] 42)
  have HO := Lib.hid (one_any k v hk hv _ (hE.ext F0))
  have HF := Lib.hid F0
  have hcl : ∀ (i : Nat) (u : Value), (leafRow k v)[i]? = some u → ((w.alloc (.cells #[.int .i64 0] 3)).alloc (.cells #[.slice (some ⟨g, 0, none⟩) 1 c] 42)).cell? ⟨g, 0 + i, none⟩ = some u := fun i u hu => F0.cellSome (p := ⟨g, 0 + i, none⟩) (fun h => h) (hc i u hu)
  have HK := Lib.hid (And.intro hk hv)
  clear F0 hk hv hc hE
  go_enter Tryd.func22, Tryd.ntmps22
  go_wp2_with (focus ((refine wpList_load_leaf rfl (.tmp 13) rfl g 0 rfl k v HK.out.1 HK.out.2 hcl ?_); simp only [Act.put, List.setIfInBounds_toArray, List.set_cons_zero, List.set_cons_succ]))
  refine HO.out.mono ?_
  rintro e w2 ⟨⟨t, rfl, hT⟩, F2⟩
  have HX := Lib.hid (And.intro hT (HF.out.trans F2 (fun _ h => h.elim)))
  clear hT F2
  go_wp2_with fail
  go_ret
  exact ⟨⟨_, rfl, HX.out.1⟩, HX.out.2⟩
set_option maxRecDepth 100000 in
set_option maxHeartbeats 6400000 in
theorem of_one (g : Nat) (k v : List UInt8) (hk : k.length = 32) (hv : v.length = 32) (w : World) (hg : w.heap[g]? = some (.cells (leafRow k v) 30 (0, 0))) (hE : Env w) : Calls Tryd.prog 12 #[.slice (some ⟨g, 0, none⟩) 1 1] w fun e w' => (∃ t, e = .returned (.pointer (some ⟨t, 0, none⟩)) ∧ To w' t (Tn.leaf k v)) ∧ Fr (fun _ => False) w w' := by
  have HC := Lib.hid (clone_one g k v hk hv w hg)
  have HK := Lib.hid (And.intro hk hv)
  have HE := Lib.hid hE
  clear hk hv hg hE
  go_enter Tryd.func12, Tryd.ntmps12
  go_wp2_with fail
  refine HC.out.mono ?_
  rintro e w2 ⟨⟨u, rfl, hO⟩, F2⟩
  obtain ⟨g2, c2, rfl, hc2, hcells⟩ : ∃ g2 c2, u = .slice (some ⟨g2, 0, none⟩) 1 c2 ∧ 1 ≤ c2 ∧ ∀ (i : Nat) (x : Value), (leafRow k v)[i]? = some x → w2.cell? ⟨g2, 0 + i, none⟩ = some x := by
    have hO' := hO
    rcases hO.2 with ⟨_, h0⟩ | ⟨g2, c2, cur, e, _, _, h1, _⟩
    · omega
    · subst e
      exact ⟨g2, c2, rfl, h1, fun i x hx => by
        have := hO'.cells (g := g2) rfl i x (by rw [← hx, leafRow, List.getElem?_toArray])
        rw [Addr.add_mid] at this; exact this⟩
  have HB := Lib.hid (build_one g2 c2 k v HK.out.1 HK.out.2 w2 hcells hc2 (HE.out.ext F2))
  have HF := Lib.hid F2
  clear hO hc2 hcells F2 HC
  go_wp2_with fail
  refine (rev_one (some ⟨g2, 0, none⟩) c2 w2).mono ?_
  rintro e w3 ⟨rfl, rfl⟩
  go_wp2_with fail
  refine (sort_one (some ⟨g2, 0, none⟩) c2 _ w2).mono ?_
  rintro e w3 ⟨rfl, rfl⟩
  go_wp2_with fail
  refine (comp_one (some ⟨g2, 0, none⟩) c2 _ w2).mono ?_
  rintro e w3 ⟨rfl, rfl⟩
  go_wp2_with fail
  refine HB.out.mono ?_
  rintro e w4 ⟨⟨t, rfl, hT⟩, F4⟩
  have HX := Lib.hid (And.intro hT (HF.out.trans F4 (fun _ h => h.elim)))
  clear hT F4
  go_wp2_with fail
  go_ret
  exact ⟨⟨_, rfl, HX.out.1⟩, HX.out.2⟩
end Go.Proofs.YtnidfcmomdmjaaaDoor
namespace Go.Proofs.YtnidfcmomdmjaaaDoor
open Go.RowKit
set_option linter.unusedVariables false
set_option linter.unusedSimpArgs false
def tk1 : List UInt8 := 1 :: List.replicate 31 0
def tk2 : List UInt8 := 2 :: List.replicate 31 0
set_option maxRecDepth 100000 in
theorem bk1 : Tryd.prog.built 28 [(0, .int .u8 1)] = some (krow tk1) := by kernel_rfl
set_option maxRecDepth 100000 in
theorem bk2 : Tryd.prog.built 22 [(0, .int .u8 2)] = some (krow tk2) := by kernel_rfl
set_option maxRecDepth 100000 in
theorem bkl : Tryd.prog.built 30 [(0, .agg (krow tk1)), (1, .agg (krow tk2))] = some (leafRow tk1 tk2) := by kernel_rfl
set_option maxRecDepth 100000 in
theorem mkL (w : World) : (Instr.buildSlice 42 1 #[(0, .agg (leafRow tk1 tk2))]).run Tryd.prog w = .ok (.slice (some ⟨w.heap.size, 0, none⟩) 1 1) (w.alloc (.cells (leafRow tk1 tk2) 30)) := by kernel_rfl
set_option maxRecDepth 100000 in
theorem bkl2 (f h : Nat → UInt8) : Tryd.prog.built 30 [(0, .agg (ub 32 f)), (1, .agg (ub 32 h))] = some (ub 32 f ++ ub 32 h) := by kernel_rfl
set_option maxRecDepth 100000 in
theorem leaf_cat (k v : List UInt8) : leafRow k v = krow k ++ krow v := by simp [leafRow, krow, bv_append]
set_option maxRecDepth 100000 in
theorem bkl3 {k v : List UInt8} (hk : k.length = 32) (hv : v.length = 32) : Tryd.prog.built 30 [(0, .agg (krow k)), (1, .agg (krow v))] = some (leafRow k v) := by
  obtain ⟨f, hf⟩ := bv_range k hk
  obtain ⟨h, hh⟩ := bv_range v hv
  rw [leaf_cat, hf, hh]; exact bkl2 f h
set_option maxRecDepth 100000 in
theorem leaf_one (k v : List UInt8) : (leafRow k v).all (·.oneCell') = true := krow_one (k ++ v)
set_option maxRecDepth 100000 in
theorem eql_row {x y : List UInt8} (hx : x.length = 32) (hy : y.length = 32) (w : World) : (binOp .eql 22 (.agg (krow x)) (.agg (krow y))).run Tryd.prog w = .ok (.bool (x == y)) w := by
  refine run_eql_bytes w 22 5 32 Tryd.underlying22 Tryd.underlying5 ?_ _ _ hx hy
  intro w2
  obtain ⟨i0, hi, hz⟩ := Option.map_eq_some_iff.1 Tryd.sizeB
  simp [sizeOf, typeInfo, hi, hz]
set_option maxRecDepth 100000 in
theorem neq_row {x y : List UInt8} (hx : x.length = 32) (hy : y.length = 32) (w : World) : (binOp .neq 22 (.agg (krow x)) (.agg (krow y))).run Tryd.prog w = .ok (.bool (!(x == y))) w := by
  have h := eql_row hx hy w
  simp only [binOp, Sem.run_bind] at h ⊢
  cases hr : (Op.equal 22 (.agg (krow x)) (.agg (krow y))).run Tryd.prog w with
  | ok b w2 =>
    rw [hr] at h
    simp only [Result.andThen_ok, Sem.run_pure, Result.ok.injEq, Value.bool.injEq] at h ⊢
    exact ⟨by rw [h.1], h.2⟩
  | halt b w2 => rw [hr] at h; simp [Result.andThen] at h
set_option maxRecDepth 100000 in
set_option maxHeartbeats 6400000 in
theorem trees_any (w : World) (hE : Env w) (hR : REnv w) : Calls Tryd.prog 7 #[] w fun e w' => e = .returned (.bool true) ∧ Fr (fun _ => False) w w' := by
  have HNN := Lib.hid (fun (V : World) (F : Fr (fun _ => False) w V) => tnone_any V (hE.ext F))
  have HD := Lib.hid (show ∀ (V : World) (F : Fr (fun _ => False) w V), Calls Tryd.prog 13 #[.string ⟨#[2]⟩] V fun e w' => e = .returned (.string ⟨Tn.none.toArray⟩) ∧ Fr (fun _ => False) V w' from fun V F => rsum_str [2] (by decide) V (hR.ext F))
  have HOF := Lib.hid (fun (g : Nat) (V : World) (F : Fr (fun _ => False) w V) (hg : V.heap[g]? = some (.cells (leafRow tk1 tk2) 30 (0, 0))) => of_one g tk1 tk2 rfl rfl V hg (hE.ext F))
  have HLF := Lib.hid (fun (V : World) (F : Fr (fun _ => False) w V) => tleaf_any tk1 tk2 rfl rfl V (hE.ext F))
  have HTL := Lib.hid (show Tn.none.length = 32 ∧ (Tn.leaf tk1 tk2).length = 32 from ⟨Tn.none_len, Tn.leaf_len _ _⟩)
  have sL : (Tryd.prog.info? 30).map (·.size) = some (leafRow tk1 tk2).size := by rw [leaf_size rfl rfl]; kernel_rfl
  generalize Tn.none = tn at *
  generalize Tn.leaf tk1 tk2 = sl at *
  clear hE hR
  go_enter Tryd.func7, Tryd.ntmps7
  go_wp2_with (first | (focus (refine wpList_build_to rfl 28 #[(0, .const (.int .u8 1))] rfl (krow tk1) bk1 ?_; simp only [Act.put, List.setIfInBounds_toArray, List.set_cons_zero, List.set_cons_succ])) | (focus (refine wpList_build_to rfl 22 #[(0, .const (.int .u8 2))] rfl (krow tk2) bk2 ?_; simp only [Act.put, List.setIfInBounds_toArray, List.set_cons_zero, List.set_cons_succ])) | (focus (refine wpList_build2 rfl 30 0 1 (.tmp 4) (.tmp 5) (.agg (krow tk1)) (.agg (krow tk2)) rfl (leafRow tk1 tk2) bkl rfl rfl ?_; simp only [Act.put, List.setIfInBounds_toArray, List.set_cons_zero, List.set_cons_succ])) | (focus (refine wpList_store_rowA rfl 30 (.tmp 1) (.tmp 6) rfl w.heap.size (leafRow tk1 tk2) rfl rfl 30 _ (heap_alloc_new w _) sL (by kernel_rfl) (leaf_one _ _) ?_; intro w1 B1 F1; simp only [Act.put, List.setIfInBounds_toArray, List.set_cons_zero, List.set_cons_succ]; refine Hid.out ?_)))
  have HB1 := Lib.hid B1
  have HG1 := Lib.hid (show Fr (fun _ => False) w w1 from ((Fr.refl (fun _ => False) w).alloc _).trans F1 (fun i hi => .inr (by rw [hi]; exact Nat.le_refl _)))
  clear B1 F1
  generalize w.heap.size = g at *
  refine Lib.hid ?_
  go_wp2_with fail
  refine (HNN.out w1 HG1.out).mono ?_
  rintro e w2 ⟨rfl, F2⟩
  have HF2 := Lib.hid F2
  clear F2
  go_wp2_with (focus (rw [zero32]; refine wpList_store_rowA rfl 22 (.tmp 2) (.tmp 7) rfl w2.heap.size (krow tn) rfl rfl 22 _ (heap_alloc_new _ _) (sz32' HTL.out.1) (by rw [ub_size, krow_size, HTL.out.1]) (krow_one _) ?_; intro w3 B F; simp only [Act.put, List.setIfInBounds_toArray, List.set_cons_zero, List.set_cons_succ]; refine Hid.out ?_))
  have G13 : Fr (fun _ => False) w1 w3 := (HF2.out.alloc (.cells (ub 32 (fun _ => 0)) 22)).trans F (fun k hk => .inr (by rw [hk]; exact HF2.out.size))
  have HCN := Lib.hid (show Came w3 (some ⟨w2.heap.size, 0, none⟩) 32 32 tn by have := came_row B (by rw [HTL.out.1]; decide); rwa [HTL.out.1] at this)
  have hb3 := (G13.block _ (lt_of_block HB1.out) (fun h => h)).trans HB1.out
  have HB3 := Lib.hid hb3
  have HG3 := Lib.hid (HG1.out.trans G13 (fun _ h => h.elim))
  generalize w2.heap.size = g2 at *
  clear B F G13 HF2 HB1 HG1 HNN
  refine Lib.hid ?_
  go_wp2_with (first | (focus ((refine wpList_load_row rfl 30 (.tmp 1) rfl g rfl 30 (leafRow tk1 tk2) (0, 0) _ hb3 Tryd.underlying30 rfl sL ?_); simp only [Act.put, List.setIfInBounds_toArray, List.set_cons_zero, List.set_cons_succ])) | (focus (refine wpList_buildSlice rfl 42 1 _ rfl #[(0, .agg (leafRow tk1 tk2))] (by first | kernel_rfl | rfl | simp [Act.eval]) (mkL w3) ?_; simp only [Act.put, List.setIfInBounds_toArray, List.set_cons_zero, List.set_cons_succ])))
  have F3 := (Fr.refl (fun _ => False) w3).alloc (.cells (leafRow tk1 tk2) 30)
  refine (HOF.out _ _ (HG3.out.trans F3 (fun _ h => h.elim)) (heap_alloc_new w3 _)).mono ?_
  rintro e w4 ⟨⟨t, rfl, hT⟩, F4⟩
  have G34 := F3.trans F4 (fun _ h => h.elim)
  have HT := Lib.hid hT
  have HG4 := Lib.hid (HG3.out.trans G34 (fun _ h => h.elim))
  have HCN4 := Lib.hid (HCN.out.ext G34)
  have HB4 := Lib.hid ((G34.block _ (lt_of_block HB3.out) (fun h => h)).trans HB3.out)
  have y0 : (tn == tn) = true := beq_self_eq_true _
  have y1 : ∀ W : World, (binOp .eql 22 (.agg (krow sl)) (.agg (krow sl))).run Tryd.prog W = .ok (.bool true) W := fun W => by rw [eql_row HTL.out.2 HTL.out.2, beq_self_eq_true]
  generalize leafRow tk1 tk2 = lr at *
  clear hT F3 F4 G34 hb3 HCN HB3 HG3 HOF
  go_wp2_with fail
  refine Ks.wp_region_mono (fun _ => False) (sg 0 2 ++ ((2, true) :: (sg 3 3 ++ (sg 7 1 ++ ((6, true) :: ((8, true) :: (sg 9 4 ++ ((13, true) :: (sg 14 2 ++ ((16, true) :: ([]))))))))))) (by kernel_rfl) (by kernel_rfl) ?_
  refine Ks.Wk.seg 0 2 (by kernel_rfl) (by kernel_rfl) ?_
  apply Exists.intro
  refine ⟨?wk0, ?fin0⟩
  case wk0 =>
    intro γ
    have cx : ∀ u : Ks.Ws γ, (convert 33 9 (.slice (some ⟨g2, 0, none⟩) 32 32)).run Tryd.prog u.w = .ok (.string ⟨tn.toArray⟩) u.w := fun u => (HCN4.out.ext u.h).str2
    simp only [List.drop_succ_cons, List.drop_zero, List.take_succ_cons, List.take_zero]
    repeat (any_goals (first | go_big_quiet_step (fail) | quiet_step (fail)))
    exact wpQuiet_nil rfl
  case fin0 =>
  (try simp only [Act.put, List.setIfInBounds_toArray, List.set_cons_zero, List.set_cons_succ])
  refine Ks.Wk.call rfl (by kernel_rfl) 13 #[.string ⟨#[2]⟩] (fun W => by first | kernel_rfl | rfl) (fun vv V => vv = .string ⟨tn.toArray⟩) (fun V hx => (HD.out V (HG4.out.trans hx (fun _ h => h.elim))).mono (fun e w' he => ⟨_, he.1, he.2, rfl⟩)) ?_
  rintro vv w5 X5 rfl
  (try simp only [List.getElem_toArray, List.getElem_cons_succ, List.getElem_cons_zero, Act.put, List.setIfInBounds_toArray, List.set_cons_zero, List.set_cons_succ])
  have HX5 := Lib.hid X5
  have hb5 := (X5.block _ (lt_of_block HB4.out) (fun h => h)).trans HB4.out
  clear X5
  refine Ks.Wk.seg 3 3 (by kernel_rfl) (by kernel_rfl) ?_
  apply Exists.intro
  refine ⟨?wk2, ?fin2⟩
  case wk2 =>
    intro γ
    simp only [List.drop_succ_cons, List.drop_zero, List.take_succ_cons, List.take_zero]
    repeat (any_goals (first | go_big_quiet_step (fail) | quiet_step (fail)))
    exact wpQuiet_nil rfl
  case fin2 =>
  (try simp only [Act.put, List.setIfInBounds_toArray, List.set_cons_zero, List.set_cons_succ])
  refine Ks.Wk.seg 7 1 (by kernel_rfl) (by kernel_rfl) ?_
  apply Exists.intro
  refine ⟨?wk3, ?fin3⟩
  case wk3 =>
    intro γ
    simp only [List.drop_succ_cons, List.drop_zero, List.take_succ_cons, List.take_zero]
    repeat (any_goals (first | (focus (go_big_quiet_want; (refine Ks.quiet_load_rows 30 (.tmp 1) rfl g rfl 30 lr (0, 0) _ hb5 (fun h => h) Tryd.underlying30 rfl sL ?_); simp only [Act.put, List.setIfInBounds_toArray, List.set_cons_zero, List.set_cons_succ]; go_big_quiet_on)) | go_big_quiet_step (fail) | quiet_step (fail)))
    exact wpQuiet_nil rfl
  case fin3 =>
  (try simp only [Act.put, List.setIfInBounds_toArray, List.set_cons_zero, List.set_cons_succ])
  refine Ks.Wk.call rfl (by kernel_rfl) 14 #[.pointer (some ⟨t, 0, none⟩)] (fun W => by first | kernel_rfl | rfl) (fun vv V => vv = .agg (krow sl)) (fun V hx => (troot_some t 1 (by decide) sl HTL.out.2 V (HT.out.ext (HX5.out.trans hx (fun _ h => h.elim))).c0 (HT.out.ext (HX5.out.trans hx (fun _ h => h.elim))).cs).mono (fun e w' he => ⟨_, he.1, he.2, rfl⟩)) ?_
  rintro vv w6 X6 rfl
  (try simp only [List.getElem_toArray, List.getElem_cons_succ, List.getElem_cons_zero, Act.put, List.setIfInBounds_toArray, List.set_cons_zero, List.set_cons_succ])
  have HX6 := Lib.hid (HX5.out.trans X6 (fun _ h => h.elim))
  clear X6
  refine Ks.Wk.call rfl (by kernel_rfl) 5 #[.agg lr] (fun W => by first | kernel_rfl | rfl) (fun vv V => vv = .agg (krow sl)) (fun V hx => (HLF.out V (HG4.out.trans (HX6.out.trans hx (fun _ h => h.elim)) (fun _ h => h.elim))).mono (fun e w' he => ⟨_, he.1, he.2, rfl⟩)) ?_
  rintro vv w7 X7 rfl
  (try simp only [List.getElem_toArray, List.getElem_cons_succ, List.getElem_cons_zero, Act.put, List.setIfInBounds_toArray, List.set_cons_zero, List.set_cons_succ])
  have HX7 := Lib.hid (HX6.out.trans X7 (fun _ h => h.elim))
  clear X7
  refine Ks.Wk.seg 9 4 (by kernel_rfl) (by kernel_rfl) ?_
  apply Exists.intro
  refine ⟨?wk6, ?fin6⟩
  case wk6 =>
    intro γ
    simp only [List.drop_succ_cons, List.drop_zero, List.take_succ_cons, List.take_zero]
    repeat (any_goals (first | go_big_quiet_step (fail) | quiet_step (fail)))
    exact wpQuiet_nil rfl
  case fin6 =>
  (try simp only [Act.put, List.setIfInBounds_toArray, List.set_cons_zero, List.set_cons_succ])
  refine Ks.Wk.call rfl (by kernel_rfl) 15 #[.pointer (some ⟨t, 0, none⟩)] (fun W => by first | kernel_rfl | rfl) (fun vv V => vv = .int .i64 1) (fun V hx => (tlen_some t 1 V (HT.out.ext (HX7.out.trans hx (fun _ h => h.elim))).c0).mono (fun e w' he => ⟨_, he.1, by rw [← he.2]; exact Fr.refl _ _, rfl⟩)) ?_
  rintro vv w8 X8 rfl
  (try simp only [List.getElem_toArray, List.getElem_cons_succ, List.getElem_cons_zero, Act.put, List.setIfInBounds_toArray, List.set_cons_zero, List.set_cons_succ])
  have HX8 := Lib.hid (HX7.out.trans X8 (fun _ h => h.elim))
  clear X8
  refine Ks.Wk.seg 14 2 (by kernel_rfl) (by kernel_rfl) ?_
  apply Exists.intro
  refine ⟨?wk8, ?fin8⟩
  case wk8 =>
    intro γ
    simp only [List.drop_succ_cons, List.drop_zero, List.take_succ_cons, List.take_zero]
    repeat (any_goals (first | go_big_quiet_step (fail) | quiet_step (fail)))
    exact wpQuiet_nil rfl
  case fin8 =>
  (try simp only [Act.put, List.setIfInBounds_toArray, List.set_cons_zero, List.set_cons_succ])
  refine Ks.Wk.one rfl (fun w9 Xw9 => ?_)
  go_wp2_with fail
  refine ⟨Ks.Es.of (Fr.refl _ _), ?_⟩
  (try simp only [List.getElem_toArray, List.getElem_cons_succ, List.getElem_cons_zero, Act.put, List.setIfInBounds_toArray, List.set_cons_zero, List.set_cons_succ])
  intro w10 X10
  have HX10 := Lib.hid (HG4.out.trans (HX8.out.trans (Xw9.trans X10 (fun _ h => h.elim)) (fun _ h => h.elim)) (fun _ h => h.elim))
  clear X10 Xw9
  go_wp2_with fail
  go_ret
  exact ⟨rfl, HX10.out⟩
end Go.Proofs.YtnidfcmomdmjaaaDoor
namespace Go.Proofs.YtnidfcmomdmjaaaDoor
open Go.RowKit
set_option linter.unusedVariables false
set_option linter.unusedSimpArgs false
set_option maxRecDepth 100000 in
theorem row_cells {w : World} {g : Nat} {k v : List UInt8} {t : TypeId} {fr : Nat × Nat} (h : w.heap[g]? = some (.cells (leafRow k v) t fr)) (hk : k.length = 32) : (∀ (i : Nat) (u : Value), (krow k)[i]? = some u → w.cell? ⟨g, 0 + i, none⟩ = some u) ∧ (∀ (i : Nat) (u : Value), (krow v)[i]? = some u → w.cell? ⟨g, 32 + i, none⟩ = some u) := by
  have e : leafRow k v = krow k ++ krow v := leaf_cat k v
  have hs : (krow k).size = 32 := by rw [krow_size, hk]
  refine ⟨fun i u hu => ?_, fun i u hu => ?_⟩
  · have hi := (Array.getElem?_eq_some_iff.1 hu).1
    rw [cell_of_block h, e, Nat.zero_add, Array.getElem?_append_left hi]; exact hu
  · rw [cell_of_block h, e, Array.getElem?_append_right (by omega), hs, Nat.add_sub_cancel_left]; exact hu
set_option maxRecDepth 100000 in
set_option maxHeartbeats 6400000 in
theorem tsums_any (k v a b : List UInt8) (y : Int) (hk : k.length = 32) (hv : v.length = 32) (ha : a.length = 32) (hb : b.length = 32) (w : World) (hE : Env w) (hR : REnv w) : Calls Tryd.prog 3 #[.agg (leafRow k v), .int .i64 y, .agg (leafRow a b)] w fun e w' => e = .returned (.bool true) ∧ Fr (fun _ => False) w w' := by
  obtain ⟨b1, hb1⟩ : ∃ b1 : UInt8, y / 256 % 256 = (b1.toNat : Int) := ⟨UInt8.ofNat (y / 256 % 256).toNat, by rw [UInt8.toNat_ofNat']; omega⟩
  obtain ⟨b2, hb2⟩ : ∃ b2 : UInt8, y % 256 = (b2.toNat : Int) := ⟨UInt8.ofNat (y % 256).toNat, by rw [UInt8.toNat_ofNat']; omega⟩
  have HNN := Lib.hid (fun (V : World) (F : Fr (fun _ => False) w V) => tnone_any V (hE.ext F))
  have HLF := Lib.hid (fun (V : World) (F : Fr (fun _ => False) w V) => tleaf_any k v hk hv V (hE.ext F))
  have HND := Lib.hid (fun (V : World) (F : Fr (fun _ => False) w V) => tnode_any y b1 b2 hb1 hb2 a b ha hb V (hE.ext F))
  have HDE := Lib.hid (fun (V : World) (F : Fr (fun _ => False) w V) => dnone_any V (hR.ext F))
  have HDL := Lib.hid (fun (V : World) (F : Fr (fun _ => False) w V) => dleaf_any k v hk hv V (hR.ext F))
  have HDN := Lib.hid (fun (V : World) (F : Fr (fun _ => False) w V) => dnode_any y b1 b2 hb1 hb2 a b ha hb V (hR.ext F))
  have HTR := Lib.hid (fun (V : World) (F : Fr (fun _ => False) w V) => trees_any V (hE.ext F) (hR.ext F))
  have HTL := Lib.hid (show Tn.none.length = 32 ∧ (Tn.leaf k v).length = 32 ∧ (Tn.node b1 b2 a b).length = 32 from ⟨Tn.none_len, Tn.leaf_len _ _, Tn.node_len _ _ _ _⟩)
  have HL := Lib.hid (show k.length = 32 ∧ v.length = 32 ∧ a.length = 32 ∧ b.length = 32 from ⟨hk, hv, ha, hb⟩)
  have bK := bkl3 hk hv
  have sR : (Tryd.prog.info? 24).map (·.size) = some (leafRow k v).size := by rw [leaf_size hk hv]; kernel_rfl
  have B0 := heap_alloc2_old w (.cells (leafRow k v) 24) (.cells (leafRow a b) 25)
  have B1 := heap_alloc2_new w (.cells (leafRow k v) 24) (.cells (leafRow a b) 25)
  have G1 := ((Fr.refl (fun _ => False) w).alloc (.cells (leafRow k v) 24)).alloc (.cells (leafRow a b) 25)
  have HB := Lib.hid (And.intro B0 B1)
  have HG1 := Lib.hid G1
  have C0 := row_cells B0 hk
  have C1 := row_cells B1 ha
  have HA := Lib.hid (leaf_came B1 ha hb)
  have HC0 := Lib.hid C0
  have HC1 := Lib.hid C1
  generalize Tn.none = tn at *
  generalize Tn.leaf k v = sl at *
  generalize Tn.node b1 b2 a b = sn at *
  generalize leafRow k v = lr at *
  generalize leafRow a b = lp at *
  clear hE hR hk hv ha hb hb1 hb2 B0 B1 G1 C0 C1
  go_enter Tryd.func3, Tryd.ntmps3
  go_wp2_with fail
  generalize (w.alloc (.cells lr 24)).alloc (.cells lp 25) = w1 at *
  obtain ⟨g, hg⟩ : ∃ g, g = w.heap.size := ⟨_, rfl⟩
  obtain ⟨g1, hg1⟩ : ∃ g1, g1 = w.heap.size + 1 := ⟨_, rfl⟩
  rw [← hg1, ← hg]
  rw [← hg1, ← hg] at HB
  rw [← hg] at HC0
  rw [← hg1] at HC1 HA
  clear hg hg1
  refine (HNN.out w1 HG1.out).mono ?_
  rintro e w2 ⟨rfl, F2⟩
  have HF2 := Lib.hid F2
  clear F2 HNN
  go_wp2_with (focus (rw [zero32]; refine wpList_store_rowA rfl 22 (.tmp 7) (.tmp 10) rfl w2.heap.size (krow tn) rfl rfl 22 _ (heap_alloc_new _ _) (sz32' HTL.out.1) (by rw [ub_size, krow_size, HTL.out.1]) (krow_one _) ?_; intro w3 B F; simp only [Act.put, List.setIfInBounds_toArray, List.set_cons_zero, List.set_cons_succ]; refine Hid.out ?_))
  have G13 : Fr (fun _ => False) w1 w3 := (HF2.out.alloc (.cells (ub 32 (fun _ => 0)) 22)).trans F (fun k hk => .inr (by rw [hk]; exact HF2.out.size))
  have HG13 := Lib.hid G13
  have HCN := Lib.hid (show Came w3 (some ⟨w2.heap.size, 0, none⟩) 32 32 tn by have := came_row B (by rw [HTL.out.1]; decide); rwa [HTL.out.1] at this)
  have hc0 : ∀ (i : Nat) (u : Value), (krow k)[i]? = some u → w3.cell? ⟨g, 0 + i, none⟩ = some u := fun i u hu => G13.cellSome (p := ⟨g, 0 + i, none⟩) (fun h => h) (HC0.out.1 i u hu)
  have hc1 : ∀ (i : Nat) (u : Value), (krow v)[i]? = some u → w3.cell? ⟨g, 32 + i, none⟩ = some u := fun i u hu => G13.cellSome (p := ⟨g, 32 + i, none⟩) (fun h => h) (HC0.out.2 i u hu)
  generalize w2.heap.size = g2 at *
  clear B F G13 HF2
  refine Lib.hid ?_
  go_wp2_with (first | (focus ((refine wpList_load_kv rfl (.tmp 11) rfl g 0 rfl k HL.out.1 (hc0) ?_); simp only [Act.put, List.setIfInBounds_toArray, List.set_cons_zero, List.set_cons_succ])) | (focus ((refine wpList_load_kv rfl (.tmp 13) rfl g 32 rfl v HL.out.2.1 (hc1) ?_); simp only [Act.put, List.setIfInBounds_toArray, List.set_cons_zero, List.set_cons_succ])) | (focus (refine wpList_build2 rfl 30 0 1 (.tmp 12) (.tmp 14) (.agg (krow k)) (.agg (krow v)) rfl lr bK rfl rfl ?_; simp only [Act.put, List.setIfInBounds_toArray, List.set_cons_zero, List.set_cons_succ])))
  refine (HLF.out w3 (HG1.out.trans HG13.out (fun _ h => h.elim))).mono ?_
  rintro e w4 ⟨rfl, F4⟩
  have HF4 := Lib.hid F4
  clear F4 HLF hc0 hc1
  go_wp2_with (focus (rw [zero32]; refine wpList_store_rowA rfl 22 (.tmp 8) (.tmp 16) rfl w4.heap.size (krow sl) rfl rfl 22 _ (heap_alloc_new _ _) (sz32' HTL.out.2.1) (by rw [ub_size, krow_size, HTL.out.2.1]) (krow_one _) ?_; intro w5 B F; simp only [Act.put, List.setIfInBounds_toArray, List.set_cons_zero, List.set_cons_succ]; refine Hid.out ?_))
  have G35 : Fr (fun _ => False) w3 w5 := (HF4.out.alloc (.cells (ub 32 (fun _ => 0)) 22)).trans F (fun k hk => .inr (by rw [hk]; exact HF4.out.size))
  have G15 := HG13.out.trans G35 (fun _ h => h.elim)
  have HG15 := Lib.hid G15
  have HCN5 := Lib.hid (HCN.out.ext G35)
  have HCL := Lib.hid (show Came w5 (some ⟨w4.heap.size, 0, none⟩) 32 32 sl by have := came_row B (by rw [HTL.out.2.1]; decide); rwa [HTL.out.2.1] at this)
  have hc0 : ∀ (i : Nat) (u : Value), (krow a)[i]? = some u → w5.cell? ⟨g1, 0 + i, none⟩ = some u := fun i u hu => G15.cellSome (p := ⟨g1, 0 + i, none⟩) (fun h => h) (HC1.out.1 i u hu)
  have hc1 : ∀ (i : Nat) (u : Value), (krow b)[i]? = some u → w5.cell? ⟨g1, 32 + i, none⟩ = some u := fun i u hu => G15.cellSome (p := ⟨g1, 32 + i, none⟩) (fun h => h) (HC1.out.2 i u hu)
  generalize w4.heap.size = g3 at *
  clear B F G35 G15 HF4 HCN HG13
  refine Lib.hid ?_
  go_wp2_with (first | (focus ((refine wpList_load_kv rfl (.tmp 18) rfl g1 0 rfl a HL.out.2.2.1 (hc0) ?_); simp only [Act.put, List.setIfInBounds_toArray, List.set_cons_zero, List.set_cons_succ])) | (focus ((refine wpList_load_kv rfl (.tmp 20) rfl g1 32 rfl b HL.out.2.2.2 (hc1) ?_); simp only [Act.put, List.setIfInBounds_toArray, List.set_cons_zero, List.set_cons_succ])))
  refine (HND.out w5 (HG1.out.trans HG15.out (fun _ h => h.elim))).mono ?_
  rintro e w6 ⟨rfl, F6⟩
  have HF6 := Lib.hid F6
  clear F6 HND hc0 hc1
  go_wp2_with (focus (rw [zero32]; refine wpList_store_rowA rfl 22 (.tmp 9) (.tmp 22) rfl w6.heap.size (krow sn) rfl rfl 22 _ (heap_alloc_new _ _) (sz32' HTL.out.2.2) (by rw [ub_size, krow_size, HTL.out.2.2]) (krow_one _) ?_; intro w7 B F; simp only [Act.put, List.setIfInBounds_toArray, List.set_cons_zero, List.set_cons_succ]; refine Hid.out ?_))
  have G57 : Fr (fun _ => False) w5 w7 := (HF6.out.alloc (.cells (ub 32 (fun _ => 0)) 22)).trans F (fun k hk => .inr (by rw [hk]; exact HF6.out.size))
  have G17 := HG15.out.trans G57 (fun _ h => h.elim)
  have HG7 := Lib.hid (HG1.out.trans G17 (fun _ h => h.elim))
  have HCN7 := Lib.hid (HCN5.out.ext G57)
  have HCL7 := Lib.hid (HCL.out.ext G57)
  have HCM7 := Lib.hid (show Came w7 (some ⟨w6.heap.size, 0, none⟩) 32 32 sn by have := came_row B (by rw [HTL.out.2.2]; decide); rwa [HTL.out.2.2] at this)
  have HA7 := Lib.hid (And.intro (HA.out.1.ext G17) (HA.out.2.ext G17))
  have HB7 := Lib.hid ((G17.block _ (lt_of_block HB.out.1) (fun h => h)).trans HB.out.1)
  generalize w6.heap.size = g4 at *
  have y0 : (tn == tn) = true := beq_self_eq_true _
  have y1 : (sl == sl) = true := beq_self_eq_true _
  have y2 : (sn == sn) = true := beq_self_eq_true _
  clear B F G57 G17 HF6 HCN5 HCL HA HB HC0 HC1 HG15 HG1 bK
  refine Lib.hid ?_
  go_wp2_with fail
  refine Ks.wp_region_mono (fun _ => False) ((0, true) :: (sg 1 3 ++ ((4, true) :: (sg 5 6 ++ ((11, true) :: (sg 12 12 ++ ((24, true) :: (sg 25 2 ++ ((27, true) :: ([])))))))))) (by kernel_rfl) (by kernel_rfl) ?_
  refine Ks.Wk.call rfl (by kernel_rfl) 7 #[] (fun W => by first | kernel_rfl | rfl) (fun vv V => vv = .bool true) (fun V hx => (HTR.out V (HG7.out.trans hx (fun _ h => h.elim))).mono (fun e w' he => ⟨_, he.1, he.2, rfl⟩)) ?_
  rintro vv w8 X8 rfl
  (try simp only [List.getElem_toArray, List.getElem_cons_succ, List.getElem_cons_zero, Act.put, List.setIfInBounds_toArray, List.set_cons_zero, List.set_cons_succ])
  have HX8 := Lib.hid X8
  have HCN8 := Lib.hid (HCN7.out.ext X8)
  clear X8
  refine Ks.Wk.seg 1 3 (by kernel_rfl) (by kernel_rfl) ?_
  apply Exists.intro
  refine ⟨?wk1, ?fin1⟩
  case wk1 =>
    intro γ
    have cx : ∀ u : Ks.Ws γ, (convert 33 9 (.slice (some ⟨g2, 0, none⟩) 32 32)).run Tryd.prog u.w = .ok (.string ⟨tn.toArray⟩) u.w := fun u => (HCN8.out.ext u.h).str2
    simp only [List.drop_succ_cons, List.drop_zero, List.take_succ_cons, List.take_zero]
    repeat (any_goals (first | go_big_quiet_step (fail) | quiet_step (fail)))
    exact wpQuiet_nil rfl
  case fin1 =>
  (try simp only [Act.put, List.setIfInBounds_toArray, List.set_cons_zero, List.set_cons_succ])
  refine Ks.Wk.call rfl (by kernel_rfl) 8 #[] (fun W => by first | kernel_rfl | rfl) (fun vv V => vv = .string ⟨tn.toArray⟩) (fun V hx => (HDE.out V (HG7.out.trans (HX8.out.trans hx (fun _ h => h.elim)) (fun _ h => h.elim))).mono (fun e w' he => ⟨_, he.1, he.2, rfl⟩)) ?_
  rintro vv w9 X9 rfl
  (try simp only [List.getElem_toArray, List.getElem_cons_succ, List.getElem_cons_zero, Act.put, List.setIfInBounds_toArray, List.set_cons_zero, List.set_cons_succ])
  have HX9 := Lib.hid (HX8.out.trans X9 (fun _ h => h.elim))
  have hb9 := (HX9.out.block _ (lt_of_block HB7.out) (fun h => h)).trans HB7.out
  have HCL9 := Lib.hid (HCL7.out.ext HX9.out)
  clear X9
  refine Ks.Wk.seg 5 6 (by kernel_rfl) (by kernel_rfl) ?_
  apply Exists.intro
  refine ⟨?wk3, ?fin3⟩
  case wk3 =>
    intro γ
    have cx : ∀ u : Ks.Ws γ, (convert 33 9 (.slice (some ⟨g3, 0, none⟩) 32 32)).run Tryd.prog u.w = .ok (.string ⟨sl.toArray⟩) u.w := fun u => (HCL9.out.ext u.h).str2
    simp only [List.drop_succ_cons, List.drop_zero, List.take_succ_cons, List.take_zero]
    repeat (any_goals (first | (focus (go_big_quiet_want; (refine Ks.quiet_load_rows 24 (.tmp 3) rfl g rfl 24 lr (0, 0) _ hb9 (fun h => h) Tryd.underlying24 rfl sR ?_); simp only [Act.put, List.setIfInBounds_toArray, List.set_cons_zero, List.set_cons_succ]; go_big_quiet_on)) | go_big_quiet_step (fail) | quiet_step (fail)))
    exact wpQuiet_nil rfl
  case fin3 =>
  (try simp only [Act.put, List.setIfInBounds_toArray, List.set_cons_zero, List.set_cons_succ])
  refine Ks.Wk.call rfl (by kernel_rfl) 9 #[.agg lr] (fun W => by first | kernel_rfl | rfl) (fun vv V => vv = .string ⟨sl.toArray⟩) (fun V hx => (HDL.out V (HG7.out.trans (HX9.out.trans hx (fun _ h => h.elim)) (fun _ h => h.elim))).mono (fun e w' he => ⟨_, he.1, he.2, rfl⟩)) ?_
  rintro vv w10 X10 rfl
  (try simp only [List.getElem_toArray, List.getElem_cons_succ, List.getElem_cons_zero, Act.put, List.setIfInBounds_toArray, List.set_cons_zero, List.set_cons_succ])
  have HX10 := Lib.hid (HX9.out.trans X10 (fun _ h => h.elim))
  have HCM10 := Lib.hid (HCM7.out.ext HX10.out)
  have HA10 := Lib.hid (And.intro (HA7.out.1.ext HX10.out) (HA7.out.2.ext HX10.out))
  clear X10
  refine Ks.Wk.seg 12 12 (by kernel_rfl) (by kernel_rfl) ?_
  apply Exists.intro
  refine ⟨?wk5, ?fin5⟩
  case wk5 =>
    intro γ
    have cx : ∀ u : Ks.Ws γ, (convert 33 9 (.slice (some ⟨g4, 0, none⟩) 32 32)).run Tryd.prog u.w = .ok (.string ⟨sn.toArray⟩) u.w := fun u => (HCM10.out.ext u.h).str2
    have ca : ∀ u : Ks.Ws γ, (convert 33 9 (.slice (some ⟨g1, 0, none⟩) 32 32)).run Tryd.prog u.w = .ok (.string ⟨a.toArray⟩) u.w := fun u => (HA10.out.1.ext u.h).str2
    have cb : ∀ u : Ks.Ws γ, (convert 33 9 (.slice (some ⟨g1, 32, none⟩) 32 32)).run Tryd.prog u.w = .ok (.string ⟨b.toArray⟩) u.w := fun u => (HA10.out.2.ext u.h).str2
    simp only [List.drop_succ_cons, List.drop_zero, List.take_succ_cons, List.take_zero]
    repeat (any_goals (first | go_big_quiet_step (fail) | quiet_step (fail)))
    exact wpQuiet_nil rfl
  case fin5 =>
  (try simp only [Act.put, List.setIfInBounds_toArray, List.set_cons_zero, List.set_cons_succ])
  refine Ks.Wk.call rfl (by kernel_rfl) 10 #[.int .i64 y, .string ⟨a.toArray⟩, .string ⟨b.toArray⟩] (fun W => by first | kernel_rfl | rfl) (fun vv V => vv = .string ⟨sn.toArray⟩) (fun V hx => (HDN.out V (HG7.out.trans (HX10.out.trans hx (fun _ h => h.elim)) (fun _ h => h.elim))).mono (fun e w' he => ⟨_, he.1, he.2, rfl⟩)) ?_
  rintro vv w11 X11 rfl
  (try simp only [List.getElem_toArray, List.getElem_cons_succ, List.getElem_cons_zero, Act.put, List.setIfInBounds_toArray, List.set_cons_zero, List.set_cons_succ])
  have HX11 := Lib.hid (HX10.out.trans X11 (fun _ h => h.elim))
  clear X11
  refine Ks.Wk.seg 25 2 (by kernel_rfl) (by kernel_rfl) ?_
  apply Exists.intro
  refine ⟨?wk7, ?fin7⟩
  case wk7 =>
    intro γ
    simp only [List.drop_succ_cons, List.drop_zero, List.take_succ_cons, List.take_zero]
    repeat (any_goals (first | go_big_quiet_step (fail) | quiet_step (fail)))
    exact wpQuiet_nil rfl
  case fin7 =>
  (try simp only [Act.put, List.setIfInBounds_toArray, List.set_cons_zero, List.set_cons_succ])
  refine Ks.Wk.one rfl (fun w12 Xw12 => ?_)
  go_wp2_with fail
  refine ⟨Ks.Es.of (Fr.refl _ _), ?_⟩
  (try simp only [List.getElem_toArray, List.getElem_cons_succ, List.getElem_cons_zero, Act.put, List.setIfInBounds_toArray, List.set_cons_zero, List.set_cons_succ])
  intro w13 X13
  have HX := Lib.hid (HG7.out.trans (HX11.out.trans (Xw12.trans X13 (fun _ h => h.elim)) (fun _ h => h.elim)) (fun _ h => h.elim))
  clear X13 Xw12
  go_wp2_with fail
  go_ret
  exact ⟨rfl, HX.out⟩
end Go.Proofs.YtnidfcmomdmjaaaDoor
namespace Go.Proofs.YtnidfcmomdmjaaaDoor
open Go.ChangeShapes Go.WideShapes Go.ChangeAt Go.RowKit
set_option linter.unusedVariables false
section
variable {H : Type} {enc : TypeId × Value → H} {W : World} {base : Nat} {v : Value} {d : DataW H} {p : List MemPlace}
set_option maxRecDepth 100000 in
theorem cells_row32 {n : Nat} {cs : List Value} {y : DataW H × List MemPlace} (hf : DataW.trod enc Tryd.prog W 0 (fun _ => true) true n 22 cs = some y) : ∃ l : List UInt8, cs = bv l ∧ l.length = 32 := by
  have A : WideMaps.ArrKey Tryd.prog 22 5 32 := ⟨Tryd.underlying22, by kernel_rfl, by kernel_rfl, by kernel_rfl⟩
  have hce : Tryd.prog.cellsOf 5 = 1 := A.one
  have hct : Tryd.prog.cellsOf 22 = 32 := A.size
  cases n with
  | zero => simp [DataW.trod] at hf
  | succ fuel =>
    simp only [DataW.trod, A.hu, hce, hct, Nat.mul_one] at hf
    split at hf
    · rename_i hlen
      obtain ⟨xs, hm, hx⟩ := Option.map_eq_some_iff.1 hf
      have key : ∀ i, i < 32 → ∃ y : UInt8, cs[i]? = some (.int .u8 (y.toNat : Int)) := by
        intro i hi
        obtain ⟨b, hb, hf2⟩ := Lib.mapM_at hm i i (by simp [hi])
        obtain ⟨z, hc, _, hwf⟩ := DataW.trod_int Tryd.underlying5 hf2
        have hb8 := bounds_u8 hwf
        refine ⟨UInt8.ofNat z.toNat, ?_⟩
        have h2 : cs[i]? = some (.int .u8 z) := by
          have := congrArg (·[0]?) hc
          simpa [List.getElem?_take, List.getElem?_drop] using this
        rw [h2]
        congr 2
        have : (UInt8.ofNat z.toNat).toNat = z.toNat % 256 := rfl
        omega
      obtain ⟨f, hf⟩ : ∃ f : Nat → UInt8, ∀ j, j < 32 → cs[j]? = some (.int .u8 ((f j).toNat : Int)) := ⟨fun i => if h : i < 32 then Classical.choose (key i h) else 0, fun j hj => by
        simp only [dif_pos hj]; exact Classical.choose_spec (key j hj)⟩
      refine ⟨(List.range 32).map f, ?_, by simp⟩
      apply List.ext_getElem?
      intro j
      by_cases hj : j < 32
      · rw [hf j hj, bv_get]; simp [hj]
      · rw [List.getElem?_eq_none (by omega), List.getElem?_eq_none (by simp; omega)]
    · cases hf
set_option maxRecDepth 100000 in
theorem trod_struct2q {P : Program} {w : World} {b : Nat} {spare : Nat → Bool} {held : Bool} {t : TypeId} {f0 f1 : Field} {fuel : Nat} {cs : List Value} {x : DataW H × List MemPlace} (ht : P.underlying t = some (.struct #[f0, f1])) (h : DataW.trod enc P w b spare held fuel t cs = some x) :
    ∃ y0 y1 n, cs.length = P.cellsOf t ∧ DataW.trod enc P w b spare held n f0.type ((cs.drop f0.offset).take (P.cellsOf f0.type)) = some y0 ∧ DataW.trod enc P w b spare held n f1.type ((cs.drop f1.offset).take (P.cellsOf f1.type)) = some y1 := by
  obtain ⟨xs, n, _, rfl, hl, hlen, hf⟩ := DataW.trod_struct ht h
  match xs, hlen with
  | [y0, y1], _ => exact ⟨y0, y1, n, hl, by simpa using hf 0 f0 rfl, by simpa using hf 1 f1 rfl⟩
set_option maxRecDepth 100000 in
theorem cat_rows {L : List Value} {a b : List UInt8} (hl : L.length = 64) (ea : (L.drop 0).take 32 = bv a) (eb : (L.drop 32).take 32 = bv b) : L = bv (a ++ b) := by
  have h32 : (L.drop 32).take 32 = L.drop 32 := List.take_of_length_le (by rw [List.length_drop]; omega)
  rw [bv_append, ← ea, ← eb, h32, List.drop_zero, List.take_append_drop]
set_option maxRecDepth 100000 in
theorem open_leaf {t : TypeId} {f0 f1 : Field} (hu : Tryd.prog.underlying t = some (.struct #[f0, f1])) (h0 : f0.type = 22) (h1' : f1.type = 22) (o0 : f0.offset = 0) (o1 : f1.offset = 32) (hc : Tryd.prog.cellsOf t = 64) (hval : Value.okWide Tryd.prog W .any base t v) (h1 : DataW.Trod enc Tryd.prog W 0 (fun _ => true) true t v d p) :
    ∃ k w : List UInt8, v = .agg (leafRow k w) ∧ k.length = 32 ∧ w.length = 32 := by
  obtain ⟨cs, rfl, hsz⟩ := okWide_struct hu hval
  obtain ⟨fuel, hf⟩ := h1
  rw [hc] at hsz
  obtain ⟨y0, y1, n, hlen, t0, t1⟩ := trod_struct2q hu hf
  have c32 : Tryd.prog.cellsOf 22 = 32 := by kernel_rfl
  rw [h0, o0] at t0
  rw [h1', o1] at t1
  obtain ⟨a, ea, la⟩ := cells_row32 t0
  obtain ⟨b, eb, lb⟩ := cells_row32 t1
  rw [c32] at ea eb
  have hl : cs.toList.length = 64 := by simpa using hsz
  refine ⟨a, b, ?_, la, lb⟩
  congr 1
  apply Array.toList_inj.1
  exact cat_rows hl ea eb
set_option maxRecDepth 100000 in
theorem open_pair (hval : Value.okWide Tryd.prog W .any base 25 v) (h1 : DataW.Trod enc Tryd.prog W 0 (fun _ => true) true 25 v d p) :
    ∃ k w : List UInt8, v = .agg (leafRow k w) ∧ k.length = 32 ∧ w.length = 32 := by
  have hu : Tryd.prog.underlying 25 = some (.array 2 22) := by kernel_rfl
  have c32 : Tryd.prog.cellsOf 22 = 32 := by kernel_rfl
  have c64 : Tryd.prog.cellsOf 25 = 64 := by kernel_rfl
  obtain ⟨cs, rfl⟩ : ∃ cs, v = .agg cs := by
    simp only [Value.okWide, hu] at hval
    obtain ⟨cs, e, _⟩ := hval
    exact ⟨cs, e⟩
  obtain ⟨fuel, hf⟩ := h1
  cases fuel with
  | zero => simp [DataW.trod] at hf
  | succ fuel =>
    simp only [DataW.trod, hu, c32, c64, Value.cells] at hf
    split at hf
    · rename_i hlen
      obtain ⟨xs, hm, hx⟩ := Option.map_eq_some_iff.1 hf
      obtain ⟨b0, _, t0⟩ := Lib.mapM_at hm 0 0 (by simp)
      obtain ⟨b1, _, t1⟩ := Lib.mapM_at hm 1 1 (by simp)
      obtain ⟨a, ea, la⟩ := cells_row32 t0
      obtain ⟨b, eb, lb⟩ := cells_row32 t1
      rw [Nat.zero_mul] at ea
      rw [Nat.one_mul] at eb
      refine ⟨a, b, ?_, la, lb⟩
      congr 1
      apply Array.toList_inj.1
      exact cat_rows (by simpa using hlen) ea eb
    · cases hf
end
end Go.Proofs.YtnidfcmomdmjaaaDoor

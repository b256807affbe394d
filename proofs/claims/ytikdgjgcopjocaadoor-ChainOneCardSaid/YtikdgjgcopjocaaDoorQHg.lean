/-
  ChainChecks: a link too many.
  ChainChecks: a bit of a link turned; of a root.
  The law ChainChecks.
  A past that came in as an argument: an epoch, a link, roots.
-/
import Derived.Test.YtikdgjgcopjocaaDoorQHf
namespace Go.Proofs.YtikdgjgcopjocaaDoor
open Go.RowKit
set_option linter.unusedVariables false
set_option linter.unusedSimpArgs false
def allRegs : Code → List (Nat × Code)
  | .loop c => allRegs c
  | .seq a b => allRegs a ++ allRegs b
  | .block _ c => allRegs c
  | .scope c => allRegs c
  | .cond _ a b => allRegs a ++ allRegs b
  | .region i ops m => [(i, .region i ops m)]
  | _ => []
noncomputable def regionAt (F : Func) (k : Nat) : Code := ((((F.body.map allRegs).getD []).find? (fun p => p.1 == k)).map (·.2)).getD .skip
namespace Ks
set_option maxRecDepth 100000 in
theorem wpM.onlyV {S : Nat → Prop} {P : Program} {md : Region.Mode} {ops : Array Oper} {Q : Act → World → Prop} {L : Array Bool} {a : Act} {w : World} (k : Nat) (n : Nat) (L2 : Array Bool) (hB : (Region.ready md ops L == [k] && L.setIfInBounds k true == L2) = true)
    (h : ∀ w', Ex w w' → wpOp P ops NQ k (fun a'' w'' => Es S w' w'' ∧ wpM S P md ops Q n L2 a'' w'') a w') : wpM S P md ops Q (n + 1) L a w := by
  simp only [Bool.and_eq_true, beq_iff_eq] at hB
  obtain ⟨h1, rfl⟩ := hB
  refine ⟨fun h0 => (by rw [h0] at h1; simp at h1), fun i hI w' hx => ?_⟩
  rw [h1] at hI
  obtain rfl : i = k := by simpa using hI
  exact h w' hx
set_option maxRecDepth 100000 in
theorem wpM.twoV {S : Nat → Prop} {P : Program} {md : Region.Mode} {ops : Array Oper} {Q : Act → World → Prop} {L : Array Bool} {a : Act} {w : World} (k j : Nat) (n : Nat) (L2 L3 : Array Bool) (hB : (Region.ready md ops L == [k, j] && L.setIfInBounds k true == L2 && L.setIfInBounds j true == L3) = true)
    (h : ∀ w', Ex w w' → wpOp P ops NQ k (fun a'' w'' => Es S w' w'' ∧ wpM S P md ops Q n L2 a'' w'') a w')
    (h2 : ∀ w', Ex w w' → wpOp P ops NQ j (fun a'' w'' => Es S w' w'' ∧ wpM S P md ops Q n L3 a'' w'') a w') : wpM S P md ops Q (n + 1) L a w := by
  simp only [Bool.and_eq_true, beq_iff_eq] at hB
  obtain ⟨⟨h1, rfl⟩, rfl⟩ := hB
  refine ⟨fun h0 => (by rw [h0] at h1; simp at h1), fun i hI w' hx => ?_⟩
  rw [h1] at hI
  rcases (show i = k ∨ i = j by simpa using hI) with rfl | rfl
  · exact h w' hx
  · exact h2 w' hx
end Ks
set_option maxRecDepth 100000 in
theorem exec_app {P : Program} {o : Oper} {a : Act} {w w2 : World} {v xv v2 : Value} {t tx : TypeId} (s x : Operand) (ho : o.op = .call { callee := .builtin .append, args := #[s, x], argTypes := #[t, tx] }) (hs : a.eval s = v) (hx : a.eval x = xv) (hr : (Builtin.append_ #[t, tx] o.type #[v, xv]).run P w = .ok v2 w2) : (execOp a.eval o).run P w = .ok (.value v2) w2 := by
  unfold execOp
  simp only [ho, resolve, invoke, builtin, Sem.run_bind, Sem.run_pure, Result.andThen_ok, List.map_toArray, List.map_cons, List.map_nil, hs, hx, hr]
set_option maxRecDepth 100000 in
theorem exec_build {P : Program} {o : Oper} {a : Act} {w w2 : World} {v : Value} (t : TypeId) (m : Nat) (parts : Array (Nat × Operand)) (ho : o.op = .buildSlice t m parts) (vs : Array (Nat × Value)) (hvs : (parts.map fun (p : Nat × Operand) => (p.1, a.eval p.2)) = vs) (hr : (Instr.buildSlice t m vs).run P w = .ok v w2) : (execOp a.eval o).run P w = .ok (.value v) w2 := by
  unfold execOp
  simp only [ho, hvs, Sem.run_bind, Result.andThen_ok, Sem.run_pure, hr]
set_option maxRecDepth 100000 in
theorem mkR00 (w : World) : (Instr.buildSlice 32 0 #[]).run Tryd.prog w = .ok (.slice (some ⟨w.heap.size, 0, none⟩) 0 0) (w.alloc (.cells #[] 23)) := by kernel_rfl
set_option maxRecDepth 100000 in
theorem built32 : Tryd.prog.built 23 [] = some (krow z32) := by kernel_rfl
set_option maxRecDepth 100000 in
theorem lit111 (f : Nat → Value) : ((List.range 111).map f).toArray = (f 0 :: f 1 :: f 2 :: f 3 :: f 4 :: f 5 :: f 6 :: f 7 :: f 8 :: f 9 :: f 10 :: f 11 :: f 12 :: f 13 :: f 14 :: f 15 :: f 16 :: f 17 :: f 18 :: f 19 :: f 20 :: f 21 :: f 22 :: f 23 :: f 24 :: f 25 :: f 26 :: f 27 :: f 28 :: f 29 :: f 30 :: f 31 :: f 32 :: f 33 :: f 34 :: f 35 :: f 36 :: f 37 :: f 38 :: f 39 :: f 40 :: f 41 :: f 42 :: f 43 :: f 44 :: f 45 :: f 46 :: f 47 :: f 48 :: f 49 :: f 50 :: f 51 :: f 52 :: f 53 :: f 54 :: f 55 :: f 56 :: f 57 :: f 58 :: f 59 :: f 60 :: f 61 :: f 62 :: f 63 :: f 64 :: f 65 :: f 66 :: f 67 :: f 68 :: f 69 :: f 70 :: f 71 :: f 72 :: f 73 :: f 74 :: f 75 :: f 76 :: f 77 :: f 78 :: f 79 :: f 80 :: f 81 :: f 82 :: f 83 :: f 84 :: f 85 :: f 86 :: f 87 :: f 88 :: f 89 :: f 90 :: f 91 :: f 92 :: f 93 :: f 94 :: f 95 :: f 96 :: f 97 :: f 98 :: f 99 :: f 100 :: f 101 :: f 102 :: f 103 :: f 104 :: f 105 :: f 106 :: f 107 :: f 108 :: f 109 :: f 110 :: []).toArray := by kernel_rfl
set_option maxRecDepth 100000 in
set_option maxHeartbeats 6400000 in
theorem cc_app {Q : Exit → Act → World → Prop} {w : World} {g n c m rc lc : Nat} {ida ra la : Option Addr} {v2 : Value} {id ah : List UInt8} {z : Int} {C : Array Value} {R L : List (List UInt8)} (hid : Came w ida n c id) (hn6 : n ≤ 60000) (hah : ah.length = 32) (hg : w.heap[g]? = some (.cells C 34 (0, 0))) (hC0 : C[0]? = some (.int .i64 z)) (hC1 : Part C 1 (krow ah)) (hK : Kv w ra R) (hKL : Kv w la L) (hRm : R.length = m) (hLm : L.length = m) (hm : m ≤ 12) (hE : Env w) (hR : REnv w) (fr : Array Value) (hn : fr.size = 111) (p0 : fr[0]? = some (.slice ida n c)) (p2 : fr[2]? = some (v2)) (p4 : fr[4]? = some (.pointer (some ⟨g, 0, none⟩))) (p7 : fr[7]? = some (.slice ra m rc)) (p8 : fr[8]? = some (.slice la m lc)) (p9 : fr[9]? = some (.int .i64 0))
    (hQ : ∀ t' w', t'.size = 111 → t'[0]? = some (.slice ida n c) → t'[2]? = some (v2) → t'[4]? = some (.pointer (some ⟨g, 0, none⟩)) → t'[7]? = some (.slice ra m rc) → t'[8]? = some (.slice la m lc) → t'[9]? = some (.int .i64 0) → t'[52]? = some (.bool false) → Fr (fun _ => False) w w' → Q .normal ⟨t', []⟩ w') :
    Code.wp Tryd.prog (regionAt Tryd.f4 5) Q ⟨fr, []⟩ w := by
  obtain ⟨ti, zz, HI⟩ := rI
  have HCH := Lib.hid (fun (V : World) (F : Fr (fun _ => False) w V) => chains_any V (hE.ext F) (hR.ext F))
  have hL33 : (L ++ [z32]).length = m + 1 := by rw [List.length_append, hLm]; rfl
  have hone : Ck.chk id z R (L ++ [z32]) ah = 1 := Ck.chk_one (by rw [hL33, hRm]; omega)
  have HCK := Lib.hid (fun (la2 : Option Addr) (lc2 : Nat) (V : World) (F : Fr (fun _ => False) w V) (hk : Kv V la2 (L ++ [z32])) => chkl_any ida n c id z ah ra la2 m rc (m + 1) lc2 R (L ++ [z32]) V (hid.ext F) hn6 hah hRm hL33 (by omega) (by omega) (hK.ext F) hk (hE.ext F))
  rw [hone] at HCK
  have HQ := Lib.hid hQ
  have HG := Lib.hid hg
  have HGL := Lib.hid (lt_of_block hg)
  have hgc : ∀ (i : Nat) (u : Value), (krow ah)[i]? = some u → w.cell? ⟨g, 1 + i, none⟩ = some u := fun i u hu => (cell_of_block hg _).trans (hC1 i u hu)
  have HGC := Lib.hid hgc
  have HG0 := Lib.hid (show w.cell? ⟨g, 0, none⟩ = some (.int .i64 z) from (cell_of_block hg _).trans hC0)
  have HAH := Lib.hid hah
  have HSR := Lib.hid (fun (V : World) (F : Fr (fun _ => False) w V) => (show Src Tryd.prog 32 32 (.slice la m lc) m (bv L.flatten) V by have := src_kv (hKL.ext F) lc; rwa [hLm] at this))
  have HLA := Lib.hid (And.intro hKL.all (And.intro hLm hm))
  clear hQ hid hn6 hah hg hC0 hC1 hK hKL hRm hLm hm hE hR hL33 hone hgc
  obtain ⟨f, hff, rfl⟩ := frame_open hn
  have e0 := hff 0 _ p0
  have e2 := hff 2 _ p2
  have e4 := hff 4 _ p4
  have e7 := hff 7 _ p7
  have e8 := hff 8 _ p8
  have e9 := hff 9 _ p9
  clear hff hn p0 p2 p4 p7 p8 p9
  rw [lit111, e0, e2, e4, e7, e8, e9]
  clear e0 e2 e4 e7 e8 e9
  conv => arg 2; whnf
  refine Ks.wp_region_part (fun k => w.heap.size ≤ k) ((0, true) :: (sg 1 12 ++ (sg 14 1 ++ (sg 16 1 ++ [])))) 7 #[true, true, true, true, true, true, true, true, true, true, true, true, true, false, true, false, true, false, false, false, false, false] (by kernel_rfl) (by kernel_rfl) ?_
  refine Ks.Wk.call rfl (by kernel_rfl) 9 #[] (fun W => by first | kernel_rfl | rfl) (fun v V => v = .bool true) (fun V hx => (HCH.out V hx).mono (fun e w' he => ⟨_, he.1, he.2, rfl⟩)) ?_
  rintro v1 w1 X1 rfl
  (try simp only [List.getElem_toArray, List.getElem_cons_succ, List.getElem_cons_zero, Act.put, List.setIfInBounds_toArray, List.set_cons_zero, List.set_cons_succ])
  refine Ks.Wk.seg 1 12 (by kernel_rfl) (by kernel_rfl) ?_
  apply Exists.intro
  refine ⟨?wka, ?fina⟩
  case wka =>
    intro γ
    have kx : ∀ u : Ks.Ws γ, u.w.cell? ⟨g, 0, none⟩ = some (.int .i64 z) := fun u => ((X1.mono (fun _ _ h => h.elim)).trans u.h (fun _ h => .inl h) : Fr (fun k => w.heap.size ≤ k) w u.w).cellSome (p := ⟨g, 0, none⟩) (fun h => absurd HGL.out (Nat.not_lt.2 h)) HG0.out
    have hc3 : ∀ u : Ks.Ws γ, ∀ (i : Nat) (y : Value), (krow ah)[i]? = some y → u.w.cell? ⟨g, 1 + i, none⟩ = some y := fun u i y hy => ((X1.mono (fun _ _ h => h.elim)).trans u.h (fun _ h => .inl h) : Fr (fun k => w.heap.size ≤ k) w u.w).cellSome (p := ⟨g, 1 + i, none⟩) (fun h => absurd HGL.out (Nat.not_lt.2 h)) (HGC.out i y hy)
    simp only [List.drop_succ_cons, List.drop_zero, List.take_succ_cons, List.take_zero]
    repeat (any_goals (first | (focus (go_big_quiet_want; (refine quiet_load_cellsS 23 (.tmp 41) rfl g 1 rfl (krow ah) 32 _ Tryd.underlying23 rfl sz32 hc3 (by rw [krow_size]; exact HAH.out) ?_); simp only [Act.put, List.setIfInBounds_toArray, List.set_cons_zero, List.set_cons_succ]; go_big_quiet_on)) | go_big_quiet_step (fail) | quiet_step (fail)))
    exact wpQuiet_nil rfl
  case fina =>
  (try simp only [Act.put, List.setIfInBounds_toArray, List.set_cons_zero, List.set_cons_succ])
  refine Ks.Wk.seg 14 1 (by kernel_rfl) (by kernel_rfl) ?_
  apply Exists.intro
  refine ⟨?wkb, ?finb⟩
  case wkb =>
    intro γ
    simp only [List.drop_succ_cons, List.drop_zero, List.take_succ_cons, List.take_zero]
    repeat (any_goals (first | go_big_quiet_step (fail) | quiet_step (fail)))
    exact wpQuiet_nil rfl
  case finb =>
  (try simp only [Act.put, List.setIfInBounds_toArray, List.set_cons_zero, List.set_cons_succ])
  refine Ks.Wk.seg 16 1 (by kernel_rfl) (by kernel_rfl) ?_
  apply Exists.intro
  refine ⟨?wkc, ?finc⟩
  case wkc =>
    intro γ
    simp only [List.drop_succ_cons, List.drop_zero, List.take_succ_cons, List.take_zero]
    repeat (any_goals (first | (focus (go_big_quiet_want; (refine quiet_build 23 #[] rfl (krow z32) built32 ?_); simp only [Act.put, List.setIfInBounds_toArray, List.set_cons_zero, List.set_cons_succ]; go_big_quiet_on)) | go_big_quiet_step (fail) | quiet_step (fail)))
    exact wpQuiet_nil rfl
  case finc =>
  (try simp only [Act.put, List.setIfInBounds_toArray, List.set_cons_zero, List.set_cons_succ])
  intro w2 X2
  have F0 : Fr (fun _ => False) w w2 := X1.trans X2 (fun _ h => h.elim)
  refine Ks.wpM.twoV 13 17 6 #[true, true, true, true, true, true, true, true, true, true, true, true, true, true, true, false, true, false, false, false, false, false] #[true, true, true, true, true, true, true, true, true, true, true, true, true, false, true, false, true, true, false, false, false, false] (by kernel_rfl) ?_ ?_
  · skip
    intro u1 X3
    have F1 := F0.trans X3 (fun _ h => h.elim)
    refine wpOp_value rfl (by kernel_rfl) (exec_build 32 0 _ rfl #[] (by first | kernel_rfl | rfl | simp [Act.eval]) (mkR00 u1)) ⟨Ks.Es.of ((Fr.refl _ u1).alloc _), ?_⟩
    (try simp only [List.getElem_toArray, List.getElem_cons_succ, List.getElem_cons_zero, Act.put, List.setIfInBounds_toArray, List.set_cons_zero, List.set_cons_succ])
    have A1 := (Fr.refl (fun _ => False) u1).alloc (.cells #[] 23)
    have G1 := F1.trans A1 (fun _ h => h.elim)
    have O1k := own_up (own0_rows u1) F1.size
    refine Ks.wpM.twoV 15 17 5 #[true, true, true, true, true, true, true, true, true, true, true, true, true, true, true, true, true, false, false, false, false, false] #[true, true, true, true, true, true, true, true, true, true, true, true, true, true, true, false, true, true, false, false, false, false] (by kernel_rfl) ?_ ?_
    · skip
      intro u2 X4
      have F2 := G1.trans X4 (fun _ h => h.elim)
      have O2 := own_ext O1k X4
      obtain ⟨v2, y2, hr2, P2, G2, g2⟩ := run_app u2 w.heap.size 32 32 32 23 ti zz 32 32 Tryd.underlying32 HI.h1 HI.h2 HI.h3 HI.h4 HI.h5 (by decide) (.slice (some ⟨u1.heap.size, 0, none⟩) 0 0) _ _ O2 (.slice la m lc) m (bv L.flatten) (HSR.out u2 F2) (by have := HLA.out; unfold maxLen; omega) (by have := HLA.out; omega) F2.size
      refine wpOp_value rfl (by kernel_rfl) (exec_app (.tmp 44) (.tmp 45) rfl rfl rfl hr2) ⟨(Fr.ofGrown G2).mono (fun k _ hk => (ownsRow_lt O2 k hk).1), ?_⟩
      (try simp only [List.getElem_toArray, List.getElem_cons_succ, List.getElem_cons_zero, Act.put, List.setIfInBounds_toArray, List.set_cons_zero, List.set_cons_succ])
      have H2 := F2.trans (Fr.ofGrown G2) (fun k hk => .inr (ownsRow_lt O2 k hk).1)
      rw [List.nil_append, Nat.zero_add] at P2
      refine Ks.wpM.onlyV 17 4 #[true, true, true, true, true, true, true, true, true, true, true, true, true, true, true, true, true, true, false, false, false, false] (by kernel_rfl) ?_
      intro u3 X5
      have F3 := H2.trans X5 (fun _ h => h.elim)
      have O3 := own_ext P2 X5
      refine wpOp_value rfl (by kernel_rfl) (exec_build 32 1 _ rfl #[(0, .agg (krow z32))] (by first | kernel_rfl | rfl | simp [Act.eval]) (mkR z32_len u3)) ⟨Ks.Es.of ((Fr.refl _ u3).alloc _), ?_⟩
      (try simp only [List.getElem_toArray, List.getElem_cons_succ, List.getElem_cons_zero, Act.put, List.setIfInBounds_toArray, List.set_cons_zero, List.set_cons_succ])
      have A3 := (Fr.refl (fun _ => False) u3).alloc (.cells (krow z32) 23)
      have G3 := F3.trans A3 (fun _ h => h.elim)
      have O3n := own_ext O3 A3
      have B3k := heap_alloc_new u3 (.cells (krow z32) 23)
      have M3 : ∀ k, Value.ownBlock v2 = some k → k ≠ u3.heap.size := fun k hk e => absurd (ownsRow_lt O3 k hk).2 (by rw [e]; exact Nat.lt_irrefl _)
      refine Ks.wpM.onlyV 18 3 #[true, true, true, true, true, true, true, true, true, true, true, true, true, true, true, true, true, true, true, false, false, false] (by kernel_rfl) ?_
      intro u4 X6
      have F4 := G3.trans X6 (fun _ h => h.elim)
      have B4 := (X6.block _ (lt_of_block B3k) (fun h => h)).trans B3k
      have O4 := own_ext O3n X6
      obtain ⟨v4, y4, hr4, P4, G4, g4⟩ := run_app u4 w.heap.size 32 32 32 23 ti zz 32 32 Tryd.underlying32 HI.h1 HI.h2 HI.h3 HI.h4 HI.h5 (by decide) v2 _ _ O4 _ 1 (bv z32) (src_row B4 z32_len) (by have := HLA.out; unfold maxLen; omega) (by have := HLA.out; omega) F4.size
      refine wpOp_value rfl (by kernel_rfl) (exec_app (.tmp 46) (.tmp 48) rfl rfl rfl hr4) ⟨(Fr.ofGrown G4).mono (fun k _ hk => (ownsRow_lt O4 k hk).1), ?_⟩
      (try simp only [List.getElem_toArray, List.getElem_cons_succ, List.getElem_cons_zero, Act.put, List.setIfInBounds_toArray, List.set_cons_zero, List.set_cons_succ])
      have H4 := F4.trans (Fr.ofGrown G4) (fun k hk => .inr (ownsRow_lt O4 k hk).1)
      have Q4 : Or32 y4 w.heap.size v4 (L ++ [z32]) := Or32.snoc (by rw [HLA.out.2.1]; exact P4)
      refine Ks.wpM.last ((19, true) :: (sg 20 2 ++ [])) 3 (by kernel_rfl) ?_
      have hv := Or32.view (w := y4) (base := w.heap.size) (L := L ++ [z32]) Q4 (HLA.out.1.snoc z32_len)
      obtain ⟨a9, c9, rfl, h9a, h9b, hK9, _⟩ := hv
      rw [show (L ++ [z32]).length = m + 1 by rw [List.length_append, HLA.out.2.1]; rfl]
      refine Ks.Wk.call rfl (by kernel_rfl) 15 #[.slice ida n c, .int .i64 z, .agg (krow ah), .slice ra m rc, .slice a9 (m + 1) c9] (fun W => by first | kernel_rfl | rfl) (fun v V => v = .int .i64 1) (fun V hx => (HCK.out a9 c9 V (H4.trans hx (fun _ h => h.elim)) (hK9.ext hx)).mono (fun e w' he => ⟨_, he.1, he.2, rfl⟩)) ?_
      rintro v9 w9 X9 rfl
      (try simp only [List.getElem_toArray, List.getElem_cons_succ, List.getElem_cons_zero, Act.put, List.setIfInBounds_toArray, List.set_cons_zero, List.set_cons_succ])
      have Xf := H4.trans X9 (fun _ h => h.elim)
      refine Ks.Wk.seg 20 2 (by kernel_rfl) (by kernel_rfl) ?_
      apply Exists.intro
      refine ⟨?wkz4, ?finz4⟩
      case wkz4 =>
        intro γ
        simp only [List.drop_succ_cons, List.drop_zero, List.take_succ_cons, List.take_zero]
        repeat (any_goals (first | go_big_quiet_step (fail) | quiet_step (fail)))
        exact wpQuiet_nil rfl
      case finz4 =>
      (try simp only [Act.put, List.setIfInBounds_toArray, List.set_cons_zero, List.set_cons_succ])
      intro wz Xz
      exact HQ.out _ _ (by first | rfl | simp) rfl rfl rfl rfl rfl rfl rfl (Xf.trans Xz (fun _ h => h.elim))
    · skip
      intro u6 X8
      have F6 := G1.trans X8 (fun _ h => h.elim)
      have O6 := own_ext O1k X8
      refine wpOp_value rfl (by kernel_rfl) (exec_build 32 1 _ rfl #[(0, .agg (krow z32))] (by first | kernel_rfl | rfl | simp [Act.eval]) (mkR z32_len u6)) ⟨Ks.Es.of ((Fr.refl _ u6).alloc _), ?_⟩
      (try simp only [List.getElem_toArray, List.getElem_cons_succ, List.getElem_cons_zero, Act.put, List.setIfInBounds_toArray, List.set_cons_zero, List.set_cons_succ])
      have A6 := (Fr.refl (fun _ => False) u6).alloc (.cells (krow z32) 23)
      have G6 := F6.trans A6 (fun _ h => h.elim)
      have O6n := own_ext O6 A6
      have B6k := heap_alloc_new u6 (.cells (krow z32) 23)
      have M6 : ∀ k, Value.ownBlock (.slice (some ⟨u1.heap.size, 0, none⟩) 0 0) = some k → k ≠ u6.heap.size := fun k hk e => absurd (ownsRow_lt O6 k hk).2 (by rw [e]; exact Nat.lt_irrefl _)
      refine Ks.wpM.onlyV 15 4 #[true, true, true, true, true, true, true, true, true, true, true, true, true, true, true, true, true, true, false, false, false, false] (by kernel_rfl) ?_
      intro u7 X9
      have F7 := G6.trans X9 (fun _ h => h.elim)
      have B7 := (X9.block _ (lt_of_block B6k) (fun h => h)).trans B6k
      have O7 := own_ext O6n X9
      obtain ⟨v7, y7, hr7, P7, G7, g7⟩ := run_app u7 w.heap.size 32 32 32 23 ti zz 32 32 Tryd.underlying32 HI.h1 HI.h2 HI.h3 HI.h4 HI.h5 (by decide) (.slice (some ⟨u1.heap.size, 0, none⟩) 0 0) _ _ O7 (.slice la m lc) m (bv L.flatten) (HSR.out u7 F7) (by have := HLA.out; unfold maxLen; omega) (by have := HLA.out; omega) F7.size
      refine wpOp_value rfl (by kernel_rfl) (exec_app (.tmp 44) (.tmp 45) rfl rfl rfl hr7) ⟨(Fr.ofGrown G7).mono (fun k _ hk => (ownsRow_lt O7 k hk).1), ?_⟩
      (try simp only [List.getElem_toArray, List.getElem_cons_succ, List.getElem_cons_zero, Act.put, List.setIfInBounds_toArray, List.set_cons_zero, List.set_cons_succ])
      have H7 := F7.trans (Fr.ofGrown G7) (fun k hk => .inr (ownsRow_lt O7 k hk).1)
      rw [List.nil_append, Nat.zero_add] at P7
      have B7a := ((Fr.ofGrown G7).block _ (lt_of_block B7) (fun e => by have := M6 _ e; exact this rfl)).trans B7
      refine Ks.wpM.onlyV 18 3 #[true, true, true, true, true, true, true, true, true, true, true, true, true, true, true, true, true, true, true, false, false, false] (by kernel_rfl) ?_
      intro u8 X10
      have F8 := H7.trans X10 (fun _ h => h.elim)
      have B8 := (X10.block _ (lt_of_block B7a) (fun h => h)).trans B7a
      have O8 := own_ext P7 X10
      obtain ⟨v8, y8, hr8, P8, G8, g8⟩ := run_app u8 w.heap.size 32 32 32 23 ti zz 32 32 Tryd.underlying32 HI.h1 HI.h2 HI.h3 HI.h4 HI.h5 (by decide) v7 _ _ O8 _ 1 (bv z32) (src_row B8 z32_len) (by have := HLA.out; unfold maxLen; omega) (by have := HLA.out; omega) F8.size
      refine wpOp_value rfl (by kernel_rfl) (exec_app (.tmp 46) (.tmp 48) rfl rfl rfl hr8) ⟨(Fr.ofGrown G8).mono (fun k _ hk => (ownsRow_lt O8 k hk).1), ?_⟩
      (try simp only [List.getElem_toArray, List.getElem_cons_succ, List.getElem_cons_zero, Act.put, List.setIfInBounds_toArray, List.set_cons_zero, List.set_cons_succ])
      have H8 := F8.trans (Fr.ofGrown G8) (fun k hk => .inr (ownsRow_lt O8 k hk).1)
      have Q8 : Or32 y8 w.heap.size v8 (L ++ [z32]) := Or32.snoc (by rw [HLA.out.2.1]; exact P8)
      refine Ks.wpM.last ((19, true) :: (sg 20 2 ++ [])) 3 (by kernel_rfl) ?_
      have hv := Or32.view (w := y8) (base := w.heap.size) (L := L ++ [z32]) Q8 (HLA.out.1.snoc z32_len)
      obtain ⟨a9, c9, rfl, h9a, h9b, hK9, _⟩ := hv
      rw [show (L ++ [z32]).length = m + 1 by rw [List.length_append, HLA.out.2.1]; rfl]
      refine Ks.Wk.call rfl (by kernel_rfl) 15 #[.slice ida n c, .int .i64 z, .agg (krow ah), .slice ra m rc, .slice a9 (m + 1) c9] (fun W => by first | kernel_rfl | rfl) (fun v V => v = .int .i64 1) (fun V hx => (HCK.out a9 c9 V (H8.trans hx (fun _ h => h.elim)) (hK9.ext hx)).mono (fun e w' he => ⟨_, he.1, he.2, rfl⟩)) ?_
      rintro v9 w9 X9 rfl
      (try simp only [List.getElem_toArray, List.getElem_cons_succ, List.getElem_cons_zero, Act.put, List.setIfInBounds_toArray, List.set_cons_zero, List.set_cons_succ])
      have Xf := H8.trans X9 (fun _ h => h.elim)
      refine Ks.Wk.seg 20 2 (by kernel_rfl) (by kernel_rfl) ?_
      apply Exists.intro
      refine ⟨?wkz8, ?finz8⟩
      case wkz8 =>
        intro γ
        simp only [List.drop_succ_cons, List.drop_zero, List.take_succ_cons, List.take_zero]
        repeat (any_goals (first | go_big_quiet_step (fail) | quiet_step (fail)))
        exact wpQuiet_nil rfl
      case finz8 =>
      (try simp only [Act.put, List.setIfInBounds_toArray, List.set_cons_zero, List.set_cons_succ])
      intro wz Xz
      exact HQ.out _ _ (by first | rfl | simp) rfl rfl rfl rfl rfl rfl rfl (Xf.trans Xz (fun _ h => h.elim))
  · skip
    intro u10 X12
    have F10 := F0.trans X12 (fun _ h => h.elim)
    refine wpOp_value rfl (by kernel_rfl) (exec_build 32 1 _ rfl #[(0, .agg (krow z32))] (by first | kernel_rfl | rfl | simp [Act.eval]) (mkR z32_len u10)) ⟨Ks.Es.of ((Fr.refl _ u10).alloc _), ?_⟩
    (try simp only [List.getElem_toArray, List.getElem_cons_succ, List.getElem_cons_zero, Act.put, List.setIfInBounds_toArray, List.set_cons_zero, List.set_cons_succ])
    have A10 := (Fr.refl (fun _ => False) u10).alloc (.cells (krow z32) 23)
    have G10 := F10.trans A10 (fun _ h => h.elim)
    have B10k := heap_alloc_new u10 (.cells (krow z32) 23)
    refine Ks.wpM.onlyV 13 5 #[true, true, true, true, true, true, true, true, true, true, true, true, true, true, true, false, true, true, false, false, false, false] (by kernel_rfl) ?_
    intro u11 X13
    have F11 := G10.trans X13 (fun _ h => h.elim)
    have B11 := (X13.block _ (lt_of_block B10k) (fun h => h)).trans B10k
    refine wpOp_value rfl (by kernel_rfl) (exec_build 32 0 _ rfl #[] (by first | kernel_rfl | rfl | simp [Act.eval]) (mkR00 u11)) ⟨Ks.Es.of ((Fr.refl _ u11).alloc _), ?_⟩
    (try simp only [List.getElem_toArray, List.getElem_cons_succ, List.getElem_cons_zero, Act.put, List.setIfInBounds_toArray, List.set_cons_zero, List.set_cons_succ])
    have A11 := (Fr.refl (fun _ => False) u11).alloc (.cells #[] 23)
    have G11 := F11.trans A11 (fun _ h => h.elim)
    have B11n := (A11.block _ (lt_of_block B11) (fun h => h)).trans B11
    have O11k := own_up (own0_rows u11) F11.size
    have M11 : ∀ b, b < u11.heap.size → Value.ownBlock (.slice (some ⟨u11.heap.size, 0, none⟩) 0 0) ≠ some b := fun b hb e => by simp [Value.ownBlock] at e; omega
    have LT11 := lt_of_block B11
    refine Ks.wpM.onlyV 15 4 #[true, true, true, true, true, true, true, true, true, true, true, true, true, true, true, true, true, true, false, false, false, false] (by kernel_rfl) ?_
    intro u12 X14
    have F12 := G11.trans X14 (fun _ h => h.elim)
    have B12 := (X14.block _ (lt_of_block B11n) (fun h => h)).trans B11n
    have O12 := own_ext O11k X14
    obtain ⟨v12, y12, hr12, P12, G12, g12⟩ := run_app u12 w.heap.size 32 32 32 23 ti zz 32 32 Tryd.underlying32 HI.h1 HI.h2 HI.h3 HI.h4 HI.h5 (by decide) (.slice (some ⟨u11.heap.size, 0, none⟩) 0 0) _ _ O12 (.slice la m lc) m (bv L.flatten) (HSR.out u12 F12) (by have := HLA.out; unfold maxLen; omega) (by have := HLA.out; omega) F12.size
    refine wpOp_value rfl (by kernel_rfl) (exec_app (.tmp 44) (.tmp 45) rfl rfl rfl hr12) ⟨(Fr.ofGrown G12).mono (fun k _ hk => (ownsRow_lt O12 k hk).1), ?_⟩
    (try simp only [List.getElem_toArray, List.getElem_cons_succ, List.getElem_cons_zero, Act.put, List.setIfInBounds_toArray, List.set_cons_zero, List.set_cons_succ])
    have H12 := F12.trans (Fr.ofGrown G12) (fun k hk => .inr (ownsRow_lt O12 k hk).1)
    rw [List.nil_append, Nat.zero_add] at P12
    have B12a := ((Fr.ofGrown G12).block _ (lt_of_block B12) (fun e => M11 _ LT11 e)).trans B12
    refine Ks.wpM.onlyV 18 3 #[true, true, true, true, true, true, true, true, true, true, true, true, true, true, true, true, true, true, true, false, false, false] (by kernel_rfl) ?_
    intro u13 X15
    have F13 := H12.trans X15 (fun _ h => h.elim)
    have B13 := (X15.block _ (lt_of_block B12a) (fun h => h)).trans B12a
    have O13 := own_ext P12 X15
    obtain ⟨v13, y13, hr13, P13, G13, g13⟩ := run_app u13 w.heap.size 32 32 32 23 ti zz 32 32 Tryd.underlying32 HI.h1 HI.h2 HI.h3 HI.h4 HI.h5 (by decide) v12 _ _ O13 _ 1 (bv z32) (src_row B13 z32_len) (by have := HLA.out; unfold maxLen; omega) (by have := HLA.out; omega) F13.size
    refine wpOp_value rfl (by kernel_rfl) (exec_app (.tmp 46) (.tmp 48) rfl rfl rfl hr13) ⟨(Fr.ofGrown G13).mono (fun k _ hk => (ownsRow_lt O13 k hk).1), ?_⟩
    (try simp only [List.getElem_toArray, List.getElem_cons_succ, List.getElem_cons_zero, Act.put, List.setIfInBounds_toArray, List.set_cons_zero, List.set_cons_succ])
    have H13 := F13.trans (Fr.ofGrown G13) (fun k hk => .inr (ownsRow_lt O13 k hk).1)
    have Q13 : Or32 y13 w.heap.size v13 (L ++ [z32]) := Or32.snoc (by rw [HLA.out.2.1]; exact P13)
    refine Ks.wpM.last ((19, true) :: (sg 20 2 ++ [])) 3 (by kernel_rfl) ?_
    have hv := Or32.view (w := y13) (base := w.heap.size) (L := L ++ [z32]) Q13 (HLA.out.1.snoc z32_len)
    obtain ⟨a9, c9, rfl, h9a, h9b, hK9, _⟩ := hv
    rw [show (L ++ [z32]).length = m + 1 by rw [List.length_append, HLA.out.2.1]; rfl]
    refine Ks.Wk.call rfl (by kernel_rfl) 15 #[.slice ida n c, .int .i64 z, .agg (krow ah), .slice ra m rc, .slice a9 (m + 1) c9] (fun W => by first | kernel_rfl | rfl) (fun v V => v = .int .i64 1) (fun V hx => (HCK.out a9 c9 V (H13.trans hx (fun _ h => h.elim)) (hK9.ext hx)).mono (fun e w' he => ⟨_, he.1, he.2, rfl⟩)) ?_
    rintro v9 w9 X9 rfl
    (try simp only [List.getElem_toArray, List.getElem_cons_succ, List.getElem_cons_zero, Act.put, List.setIfInBounds_toArray, List.set_cons_zero, List.set_cons_succ])
    have Xf := H13.trans X9 (fun _ h => h.elim)
    refine Ks.Wk.seg 20 2 (by kernel_rfl) (by kernel_rfl) ?_
    apply Exists.intro
    refine ⟨?wkz13, ?finz13⟩
    case wkz13 =>
      intro γ
      simp only [List.drop_succ_cons, List.drop_zero, List.take_succ_cons, List.take_zero]
      repeat (any_goals (first | go_big_quiet_step (fail) | quiet_step (fail)))
      exact wpQuiet_nil rfl
    case finz13 =>
    (try simp only [Act.put, List.setIfInBounds_toArray, List.set_cons_zero, List.set_cons_succ])
    intro wz Xz
    exact HQ.out _ _ (by first | rfl | simp) rfl rfl rfl rfl rfl rfl rfl (Xf.trans Xz (fun _ h => h.elim))
end Go.Proofs.YtikdgjgcopjocaaDoor
namespace Go.Proofs.YtikdgjgcopjocaaDoor
open Go.RowKit
set_option linter.unusedVariables false
set_option linter.unusedSimpArgs false
set_option maxRecDepth 100000 in
theorem and_small (y : Int) (c : Nat) (hc : c < 256) : ∃ j : Nat, j ≤ c ∧ bits .and .i64 y (c : Int) = (j : Int) := by
  refine ⟨(BitVec.ofInt 64 y &&& BitVec.ofInt 64 (c : Int)).toNat, ?_, ?_⟩
  · rw [BitVec.toNat_and]
    refine Nat.le_trans Nat.and_le_right ?_
    rw [BitVec.toNat_ofInt]
    omega
  · show IntKind.i64.wrap ((BitVec.ofInt 64 y &&& BitVec.ofInt 64 (c : Int)).toNat : Int) = _
    have h : (BitVec.ofInt 64 y &&& BitVec.ofInt 64 (c : Int)).toNat ≤ c := by
      rw [BitVec.toNat_and]
      refine Nat.le_trans Nat.and_le_right ?_
      rw [BitVec.toNat_ofInt]
      omega
    rw [IntWalk.i64_in _ (by omega)]
set_option maxRecDepth 100000 in
set_option maxHeartbeats 6400000 in
theorem cc_l {Q : Exit → Act → World → Prop} {w : World} {Z g m c k : Nat} {y : Int} {vo v0 v4 : Value} {P QQ : List (List UInt8)} (h2 : Two w Z (.slice (some ⟨g, 0, none⟩) m c) vo P QQ) (hA : Lg.All32 P) (hPn : P.length = m) (hk : k < m) (hm : m ≤ 12) (fr : Array Value) (hn : fr.size = 111) (p0 : fr[0]? = some (v0)) (p2 : fr[2]? = some (.int .i64 y)) (p4 : fr[4]? = some (v4)) (p7 : fr[7]? = some (vo)) (p8 : fr[8]? = some (.slice (some ⟨g, 0, none⟩) m c)) (p10 : fr[10]? = some (.int .i64 (k : Int)))
    (hQ : ∀ t' w' P', t'.size = 111 → t'[0]? = some (v0) → t'[2]? = some (.int .i64 y) → t'[4]? = some (v4) → t'[7]? = some (vo) → t'[8]? = some (.slice (some ⟨g, 0, none⟩) m c) → t'[10]? = some (.int .i64 (k : Int)) → Two w' Z (.slice (some ⟨g, 0, none⟩) m c) vo P' QQ → Lg.All32 P' → P'.length = m → Fr (fun i => i = g) w w' → Q .normal ⟨t', []⟩ w') :
    Code.wp Tryd.prog (regionAt Tryd.f4 10) Q ⟨fr, []⟩ w := by
  obtain ⟨j, hj31, hand⟩ := and_small y 31 (by decide)
  have hand : bits .and .i64 y 31 = (j : Int) := hand
  have hj : j < 32 := by omega
  have hhn : k < m := by omega
  obtain ⟨x, hx⟩ : ∃ x, P[k]? = some x := ⟨P[k]'(by omega), List.getElem?_eq_getElem _⟩
  have hx32 : x.length = 32 := hA x (List.mem_of_getElem? hx)
  obtain ⟨b0, hy⟩ : ∃ b0, x[j]? = some b0 := ⟨x[j]'(by omega), List.getElem?_eq_getElem _⟩
  obtain ⟨a0, c0, e0, _, _, hK, _⟩ := h2.p.view hA
  have ea : a0 = some ⟨g, 0, none⟩ := by injection e0 with e1 e2 e3; exact e1.symm
  subst ea
  clear e0
  have hcell := hK.cells hx j (.int .u8 (b0.toNat : Int)) (by rw [krow, List.getElem?_toArray, bv_get, hy]; rfl)
  rw [Nat.zero_add] at hcell
  have hxor : bits .xor .u8 (b0.toNat : Int) (1) = ((b0 ^^^ 1).toNat : Int) := xor_byteg b0 1
  have HC := Lib.hid hcell
  have H2 := Lib.hid h2
  have HQ := Lib.hid hQ
  have HA := Lib.hid (And.intro hA (And.intro hPn (And.intro hhn hj)))
  have HN := Lib.hid (And.intro (setb_all hA (k) j (b0 ^^^ 1)) ((setb_len P (k) j (b0 ^^^ 1)).trans hPn))
  have q2 : (0 : Int) ≤ ((k : Nat) : Int) := Int.natCast_nonneg _
  have q3 : ((k : Nat) : Int) < (m : Int) := by omega
  have q4 : (0 : Int) ≤ (j : Int) := Int.natCast_nonneg j
  have q5 : (j : Int) < 32 := by omega
  clear h2 hQ hA hx hx32 hy hK hcell hm hPn
  obtain ⟨f, hff, rfl⟩ := frame_open hn
  have e0 := hff 0 _ p0
  have e2 := hff 2 _ p2
  have e4 := hff 4 _ p4
  have e7 := hff 7 _ p7
  have e8 := hff 8 _ p8
  have e10 := hff 10 _ p10
  clear hff hn p0 p2 p4 p7 p8 p10
  rw [lit111, e0, e2, e4, e7, e8, e10]
  clear e0 e2 e4 e7 e8 e10
  conv => arg 2; whnf
  refine wp_region_tail 10 [] (by kernel_rfl) (by kernel_rfl) mk_nil ?_
  apply Exists.intro
  refine ⟨?wk, ?fin⟩
  case wk =>
    intro γ
    have kx : ∀ u : Wg γ, u.w.cell? ⟨g, k * 32 + j, none⟩ = some (.int .u8 (b0.toNat : Int)) := fun u => u.h.cellSome (p := ⟨g, k * 32 + j, none⟩) (fun h => h) HC.out
    simp only [List.take_succ_cons, List.take_zero]
    repeat (any_goals (first | go_big_quiet_step (fail) | quiet_step (fail)))
    exact wpQuiet_nil rfl
  case fin =>
    intro gs wx hF hg hne
    simp only [putAll, List.drop_succ_cons, List.drop_zero, List.length_nil, Nat.add_zero]
    clear hg hne
    refine wpList_store_own32 rfl (.tmp 72) (.tmp 70) rfl g m c Z (k) j P (b0 ^^^ 1) HA.out.1 HA.out.2.1 HA.out.2.2.1 HA.out.2.2.2 (own_ext H2.out.p hF) rfl rfl (fun w3 O3 F3 => ?_)
    have T3 := (H2.out.ext hF).set O3 F3
    go_wp2_with fail
    exact HQ.out _ _ _ (by first | rfl | simp) rfl rfl rfl rfl rfl rfl T3 HN.out.1 HN.out.2 ((hF.mono (fun _ _ h => h.elim)).trans F3 (fun i hi => .inl hi))
set_option maxRecDepth 100000 in
set_option maxHeartbeats 6400000 in
theorem cc_r {Q : Exit → Act → World → Prop} {w : World} {Z g m c k : Nat} {y : Int} {vo v0 v4 : Value} {P QQ : List (List UInt8)} (h2 : Two w Z (.slice (some ⟨g, 0, none⟩) m c) vo P QQ) (hA : Lg.All32 P) (hPn : P.length = m) (hk : k < m) (hm : m ≤ 12) (fr : Array Value) (hn : fr.size = 111) (p0 : fr[0]? = some (v0)) (p2 : fr[2]? = some (.int .i64 y)) (p4 : fr[4]? = some (v4)) (p7 : fr[7]? = some (.slice (some ⟨g, 0, none⟩) m c)) (p8 : fr[8]? = some (vo)) (p10 : fr[10]? = some (.int .i64 (k : Int)))
    (hQ : ∀ t' w' P', t'.size = 111 → t'[0]? = some (v0) → t'[2]? = some (.int .i64 y) → t'[4]? = some (v4) → t'[7]? = some (.slice (some ⟨g, 0, none⟩) m c) → t'[8]? = some (vo) → t'[10]? = some (.int .i64 (k : Int)) → Two w' Z (.slice (some ⟨g, 0, none⟩) m c) vo P' QQ → Lg.All32 P' → P'.length = m → Fr (fun i => i = g) w w' → Q .normal ⟨t', []⟩ w') :
    Code.wp Tryd.prog (regionAt Tryd.f4 11) Q ⟨fr, []⟩ w := by
  have hj : 0 < 32 := by decide
  obtain ⟨j2, hj2, hand0⟩ := and_small (y / 32) 1 (by decide)
  have hand2 : bits .and .i64 (y / 32) 1 = (j2 : Int) := hand0
  obtain ⟨b, hb⟩ : ∃ b : UInt8, b = UInt8.ofNat j2 := ⟨_, rfl⟩
  have hbn : b.toNat = j2 := by rw [hb, UInt8.toNat_ofNat']; omega
  have hand : bits .and .i64 (y / 32) 1 = (b.toNat : Int) := by rw [hand2, hbn]
  have h256 : (b.toNat : Int) % 256 = (b.toNat : Int) := by have := b.toNat_lt; omega
  clear hand0 hand2 hb hbn hj2
  have e2 : wrap64 (((m - 1 : Nat) : Int) - (k : Int)) = ((m - 1 - k : Nat) : Int) := by rw [IntWalk.wrap64_in _ (by omega)]; omega
  have e1 : wrap64 ((m : Int) - 1) = ((m - 1 : Nat) : Int) := by rw [IntWalk.wrap64_in _ (by clear e2; omega)]; clear e2; omega
  have hhn : m - 1 - k < m := by clear e1 e2; omega
  obtain ⟨x, hx⟩ : ∃ x, P[m - 1 - k]? = some x := ⟨P[m - 1 - k]'(by clear e1 e2; omega), List.getElem?_eq_getElem _⟩
  have hx32 : x.length = 32 := hA x (List.mem_of_getElem? hx)
  obtain ⟨b0, hy⟩ : ∃ b0, x[0]? = some b0 := ⟨x[0]'(by clear e1 e2; omega), List.getElem?_eq_getElem _⟩
  obtain ⟨a0, c0, e0, _, _, hK, _⟩ := h2.p.view hA
  have ea : a0 = some ⟨g, 0, none⟩ := by injection e0 with e1 e2 e3; exact e1.symm
  subst ea
  clear e0
  have hcell := hK.cells hx 0 (.int .u8 (b0.toNat : Int)) (by rw [krow, List.getElem?_toArray, bv_get, hy]; rfl)
  rw [Nat.zero_add] at hcell
  have hxor : bits .xor .u8 (b0.toNat : Int) (b.toNat) = ((b0 ^^^ b).toNat : Int) := xor_byteg b0 b
  have HC := Lib.hid hcell
  have H2 := Lib.hid h2
  have HQ := Lib.hid hQ
  have HA := Lib.hid (And.intro hA (And.intro hPn (And.intro hhn hj)))
  have HN := Lib.hid (And.intro (setb_all hA (m - 1 - k) 0 (b0 ^^^ b)) ((setb_len P (m - 1 - k) 0 (b0 ^^^ b)).trans hPn))
  have q2 : (0 : Int) ≤ ((m - 1 - k : Nat) : Int) := Int.natCast_nonneg _
  have q3 : ((m - 1 - k : Nat) : Int) < (m : Int) := by clear e1 e2; omega
  clear h2 hQ hA hx hx32 hy hK hcell hm hPn
  obtain ⟨f, hff, rfl⟩ := frame_open hn
  have e0 := hff 0 _ p0
  have e2 := hff 2 _ p2
  have e4 := hff 4 _ p4
  have e7 := hff 7 _ p7
  have e8 := hff 8 _ p8
  have e10 := hff 10 _ p10
  clear hff hn p0 p2 p4 p7 p8 p10
  rw [lit111, e0, e2, e4, e7, e8, e10]
  clear e0 e2 e4 e7 e8 e10
  conv => arg 2; whnf
  refine wp_region_tail 16 [] (by kernel_rfl) (by kernel_rfl) mk_nil ?_
  apply Exists.intro
  refine ⟨?wk, ?fin⟩
  case wk =>
    intro γ
    have kx : ∀ u : Wg γ, u.w.cell? ⟨g, (m - 1 - k) * 32, none⟩ = some (.int .u8 (b0.toNat : Int)) := fun u => u.h.cellSome (p := ⟨g, (m - 1 - k) * 32, none⟩) (fun h => h) HC.out
    simp only [List.take_succ_cons, List.take_zero]
    repeat (any_goals (first | go_big_quiet_step (fail) | quiet_step (fail)))
    exact wpQuiet_nil rfl
  case fin =>
    intro gs wx hF hg hne
    simp only [putAll, List.drop_succ_cons, List.drop_zero, List.length_nil, Nat.add_zero]
    clear hg hne
    refine wpList_store_own32 rfl (.tmp 88) (.tmp 86) rfl g m c Z (m - 1 - k) 0 P (b0 ^^^ b) HA.out.1 HA.out.2.1 HA.out.2.2.1 HA.out.2.2.2 (own_ext H2.out.p hF) rfl rfl (fun w3 O3 F3 => ?_)
    have T3 := (H2.out.ext hF).set O3 F3
    go_wp2_with fail
    exact HQ.out _ _ _ (by first | rfl | simp) rfl rfl rfl rfl rfl rfl T3 HN.out.1 HN.out.2 ((hF.mono (fun _ _ h => h.elim)).trans F3 (fun i hi => .inl hi))
end Go.Proofs.YtikdgjgcopjocaaDoor
namespace Go.Proofs.YtikdgjgcopjocaaDoor
open Go.RowKit
set_option linter.unusedVariables false
set_option linter.unusedSimpArgs false
set_option maxRecDepth 100000 in
set_option maxHeartbeats 6400000 in
theorem cc_last {Q : Exit → Act → World → Prop} {w : World} {g n c m rc lc : Nat} {ida ra la : Option Addr} {id ah : List UInt8} {z D : Int} {C : Array Value} {R L : List (List UInt8)} (hid : Came w ida n c id) (hn6 : n ≤ 60000) (hah : ah.length = 32) (hg : w.heap[g]? = some (.cells C 34 (0, 0))) (hC0 : C[0]? = some (.int .i64 z)) (hC1 : Part C 1 (krow ah)) (hK : Kv w ra R) (hKL : Kv w la L) (hRm : R.length = m) (hLm : L.length = m) (hm : m ≤ 12) (hD : D = Ck.chk id z R L ah) (hR : REnv w) (fr : Array Value) (hn : fr.size = 111) (p0 : fr[0]? = some (.slice ida n c)) (p4 : fr[4]? = some (.pointer (some ⟨g, 0, none⟩))) (p7 : fr[7]? = some (.slice ra m rc)) (p8 : fr[8]? = some (.slice la m lc)) (p11 : fr[11]? = some (.int .i64 D))
    (hQ : ∀ t' w', t'.size = 111 → t'[6]? = some (.bool true) → Fr (fun _ => False) w w' → Q .normal ⟨t', []⟩ w') :
    Code.wp Tryd.prog (regionAt Tryd.f4 13) Q ⟨fr, []⟩ w := by
  have hil := hid.len
  have HT1 := Lib.hid (fun (V : World) (F : Fr (fun _ => False) w V) => texts_any ra rc m R hRm (by omega) V (hK.ext F))
  have HT2 := Lib.hid (fun (V : World) (F : Fr (fun _ => False) w V) => texts_any la lc m L hLm (by omega) V (hKL.ext F))
  have HDC := Lib.hid (fun (a5 a8 : Option Addr) (c5 c8 : Nat) (V : World) (F : Fr (fun _ => False) w V) (h5 : Sv V a5 R) (h8 : Sv V a8 L) => rchk_any id z ah a5 a8 m c5 m c8 R L V (by omega) hah hRm hLm (by omega) hK.all hKL.all h5 h8 (hR.ext F))
  rw [← hD] at HDC
  have HI := Lib.hid hid
  have HCA := Lib.hid (came_part hg hC1 hah)
  have HC0 := Lib.hid (show w.cell? ⟨g, 0, none⟩ = some (.int .i64 z) from (cell_of_block hg _).trans hC0)
  have HRM := Lib.hid (And.intro hRm hLm)
  have HQ := Lib.hid hQ
  clear hQ hid hn6 hah hg hC0 hC1 hK hKL hRm hLm hm hD hR hil
  obtain ⟨f, hff, rfl⟩ := frame_open hn
  have e0 := hff 0 _ p0
  have e4 := hff 4 _ p4
  have e7 := hff 7 _ p7
  have e8 := hff 8 _ p8
  have e11 := hff 11 _ p11
  clear hff hn p0 p4 p7 p8 p11
  rw [lit111, e0, e4, e7, e8, e11]
  clear e0 e4 e7 e8 e11
  conv => arg 2; whnf
  refine Ks.wp_region_mono (fun _ => False) (sg 0 9 ++ (sg 10 1 ++ ((9, true) :: ((11, true) :: ((12, true) :: (sg 13 1 ++ ((14, true) :: ([])))))))) (by kernel_rfl) (by kernel_rfl) ?_
  refine Ks.Wk.seg 0 9 (by kernel_rfl) (by kernel_rfl) ?_
  apply Exists.intro
  refine ⟨?wk0, ?fin0⟩
  case wk0 =>
    intro γ
    have cx : ∀ u : Ks.Ws γ, (convert 22 9 (.slice ida n c)).run Tryd.prog u.w = .ok (.string ⟨id.toArray⟩) u.w := fun u => (HI.out.ext u.h).str2
    have ca : ∀ u : Ks.Ws γ, (convert 22 9 (.slice (some ⟨g, 1, none⟩) 32 32)).run Tryd.prog u.w = .ok (.string ⟨ah.toArray⟩) u.w := fun u => (HCA.out.ext u.h).str2
    have k0 : ∀ u : Ks.Ws γ, u.w.cell? ⟨g, 0, none⟩ = some (.int .i64 z) := fun u => u.h.cellSome (p := ⟨g, 0, none⟩) (fun h => h) HC0.out
    simp only [List.drop_succ_cons, List.drop_zero, List.take_succ_cons, List.take_zero]
    repeat (any_goals (first | go_big_quiet_step (fail) | quiet_step (fail)))
    exact wpQuiet_nil rfl
  case fin0 =>
  (try simp only [Act.put, List.setIfInBounds_toArray, List.set_cons_zero, List.set_cons_succ])
  refine Ks.Wk.seg 10 1 (by kernel_rfl) (by kernel_rfl) ?_
  apply Exists.intro
  refine ⟨?wk1, ?fin1⟩
  case wk1 =>
    intro γ
    simp only [List.drop_succ_cons, List.drop_zero, List.take_succ_cons, List.take_zero]
    repeat (any_goals (first | go_big_quiet_step (fail) | quiet_step (fail)))
    exact wpQuiet_nil rfl
  case fin1 =>
  (try simp only [Act.put, List.setIfInBounds_toArray, List.set_cons_zero, List.set_cons_succ])
  refine Ks.Wk.call rfl (by kernel_rfl) 17 #[.slice ra m rc] (fun W => by first | kernel_rfl | rfl) (fun v V => Nonempty2 (Os V w.heap.size v R)) (fun V hx => (HT1.out V hx).mono (fun e w' he => by obtain ⟨⟨v, e1, e2⟩, e3⟩ := he; exact ⟨v, e1, e3, ⟨own_up e2 hx.size⟩⟩)) ?_
  rintro v5 w5 X5 ⟨HT5⟩
  (try simp only [List.getElem_toArray, List.getElem_cons_succ, List.getElem_cons_zero, Act.put, List.setIfInBounds_toArray, List.set_cons_zero, List.set_cons_succ])
  obtain ⟨a5, c5, rfl, _, _, HV5, _⟩ := HT5.view
  have HS5 := Lib.hid HV5
  have HX5 := Lib.hid X5
  rw [HRM.out.1]
  clear HT5 HV5 X5
  refine Ks.Wk.call rfl (by kernel_rfl) 17 #[.slice la m lc] (fun W => by first | kernel_rfl | rfl) (fun v V => Nonempty2 (Os V w.heap.size v L)) (fun V hx => (HT2.out V (HX5.out.trans hx (fun _ h => h.elim))).mono (fun e w' he => by obtain ⟨⟨v, e1, e2⟩, e3⟩ := he; exact ⟨v, e1, e3, ⟨own_up e2 (Nat.le_trans HX5.out.size hx.size)⟩⟩)) ?_
  rintro v8 w8 X8 ⟨HT8⟩
  (try simp only [List.getElem_toArray, List.getElem_cons_succ, List.getElem_cons_zero, Act.put, List.setIfInBounds_toArray, List.set_cons_zero, List.set_cons_succ])
  obtain ⟨a8, c8, rfl, _, _, HV8, _⟩ := HT8.view
  have HS8 := Lib.hid HV8
  have HS5b := Lib.hid (HS5.out.ext X8)
  have HX8 := Lib.hid (HX5.out.trans X8 (fun _ h => h.elim))
  rw [HRM.out.2]
  clear HT8 HV8 X8 HS5
  refine Ks.Wk.call rfl (by kernel_rfl) 16 #[.string ⟨id.toArray⟩, .int .i64 z, .string ⟨ah.toArray⟩, .slice a5 m c5, .slice a8 m c8] (fun W => by first | kernel_rfl | rfl) (fun v V => v = .int .i64 D) (fun V hx => (HDC.out a5 a8 c5 c8 V (HX8.out.trans hx (fun _ h => h.elim)) (HS5b.out.ext hx) (HS8.out.ext hx)).mono (fun e w' he => ⟨_, he.1, he.2, rfl⟩)) ?_
  rintro v9 w9 X9 rfl
  (try simp only [List.getElem_toArray, List.getElem_cons_succ, List.getElem_cons_zero, Act.put, List.setIfInBounds_toArray, List.set_cons_zero, List.set_cons_succ])
  have HX9 := Lib.hid (HX8.out.trans X9 (fun _ h => h.elim))
  clear X9 HS8 HS5b
  refine Ks.Wk.seg 13 1 (by kernel_rfl) (by kernel_rfl) ?_
  apply Exists.intro
  refine ⟨?wk5, ?fin5⟩
  case wk5 =>
    intro γ
    simp only [List.drop_succ_cons, List.drop_zero, List.take_succ_cons, List.take_zero]
    repeat (any_goals (first | go_big_quiet_step (fail) | quiet_step (fail)))
    exact wpQuiet_nil rfl
  case fin5 =>
  (try simp only [Act.put, List.setIfInBounds_toArray, List.set_cons_zero, List.set_cons_succ])
  refine Ks.Wk.one rfl (fun w10 Xw10 => ?_)
  go_wp2_with fail
  refine ⟨Ks.Es.of (Fr.refl _ _), ?_⟩
  (try simp only [List.getElem_toArray, List.getElem_cons_succ, List.getElem_cons_zero, Act.put, List.setIfInBounds_toArray, List.set_cons_zero, List.set_cons_succ])
  intro w11 X11
  exact HQ.out _ _ (by first | rfl | simp) rfl (HX9.out.trans (Xw10.trans X11 (fun _ h => h.elim)) (fun _ h => h.elim))
set_option maxRecDepth 100000 in
set_option maxHeartbeats 6400000 in
theorem cchecks_any (a0 : Option Addr) (n0 c0 : Nat) (l0 : List UInt8) (y z : Int) (ah : List UInt8) (a : Option Addr) (n2 c2 : Nat) (P : List (List UInt8)) (w : World) (h0 : Came w a0 n0 c0 l0) (hah : ah.length = 32) (hPn : P.length = n2) (hnc : n2 ≤ c2) (hcm : c2 ≤ maxLen) (hK : Kv w a P) (hE : Env w) (hR : REnv w) :
    Calls Tryd.prog 4 #[.slice a0 n0 c0, .agg (pastRow z ah (.slice a n2 c2)), .int .i64 y] w fun e w' => e = .returned (.bool true) ∧ Fr (fun _ => False) w w' := by
  obtain ⟨C, hC, hC34, hC0, hC33, hC1⟩ := past_facts z (.slice a n2 c2) ah hah
  rw [← hC]
  obtain ⟨q, hq⟩ : ∃ q, q = min n0 50 := ⟨_, rfl⟩
  have q1 : min (n0 : Int) 50 = (q : Int) := by omega
  have q3 : q ≤ c0 := by have := h0.le; omega
  have q4 : (q : Int) ≤ (c0 : Int) := by omega
  have q7 : (0 : Int) ≤ (q : Int) := by omega
  have HQ5 := Lib.hid (show q ≤ 60000 by omega)
  have hx0 := h0.cut q (by omega) (Fr.refl _ w)
  generalize l0.take q = x at *
  obtain ⟨R, hRe⟩ : ∃ R, R = P.take 12 := ⟨_, rfl⟩
  obtain ⟨m, hm⟩ : ∃ m, m = R.length := ⟨_, rfl⟩
  have HM := Lib.hid (And.intro hm.symm (show m ≤ 12 by rw [hm, hRe, List.length_take]; omega))
  have HRA := Lib.hid (show Lg.All32 R by rw [hRe]; exact hK.all.take 12)
  have HLK := Lib.hid (fun (V : World) (F : Fr (fun _ => False) w V) => links_any a0 q c0 x z ah a n2 c2 P V (hx0.ext F) (by omega) hah hPn hnc hcm (hK.ext F) (hE.ext F))
  rw [← hC, ← hRe, ← hm] at HLK
  have HFW := Lib.hid (fun (V : World) (F : Fr (fun _ => False) w V) => few32_any a n2 c2 P hPn hnc hcm V (hK.ext F))
  rw [← hRe] at HFW
  have HX := Lib.hid hx0
  have HE := Lib.hid hE
  have HR := Lib.hid hR
  have HAH := Lib.hid hah
  have HC := Lib.hid (And.intro hC34 (And.intro hC0 (And.intro hC33 hC1)))
  have B1 := heap_alloc_new w (.cells C 34)
  have G1 := (Fr.refl (fun _ => False) w).alloc (.cells C 34)
  have c33 : (w.alloc (.cells C 34)).cell? ⟨w.heap.size, 33, none⟩ = some (.slice a n2 c2) := (cell_of_block B1 _).trans hC33
  clear hC hC34 hC0 hC33 hC1 hq hx0 hRe hm h0 hah hPn hnc hcm hK hE hR
  go_enter Tryd.func4, Tryd.ntmps4
  go_wp2_with fail
  have HB1 := Lib.hid B1
  have HG1 := Lib.hid G1
  generalize w.alloc (.cells C 34) = w1 at *
  generalize w.heap.size = g at *
  clear B1 G1 c33 q1 q3 q4
  refine (HFW.out w1 HG1.out).mono ?_
  rintro e w2 ⟨⟨v7, rfl, hO7⟩, F2⟩
  have HO7 := Lib.hid hO7
  have HF2 := Lib.hid F2
  have HG2 := Lib.hid (HG1.out.trans F2 (fun _ h => h.elim))
  have hb2 := (F2.block _ (lt_of_block HB1.out) (fun h => h)).trans HB1.out
  clear hO7 F2 HFW
  have sP : (Tryd.prog.info? 34).map (·.size) = some C.size := by rw [HC.out.1]; kernel_rfl
  go_wp2_with (focus ((refine wpList_load_row rfl 34 (.tmp 4) rfl g rfl 34 C (0, 0) _ hb2 Tryd.underlying34 rfl sP ?_); simp only [Act.put, List.setIfInBounds_toArray, List.set_cons_zero, List.set_cons_succ]))
  refine (HLK.out w2 HG2.out).mono ?_
  rintro e w3 ⟨⟨v8, rfl, hO8⟩, F3⟩
  obtain ⟨L, hL⟩ : ∃ L, L = Ck.links x z R ah m := ⟨_, rfl⟩
  have hLA : Lg.All32 L := by rw [hL]; exact Ck.links_all m
  have hLm : L.length = m := by rw [hL]; exact Ck.links_len _ _ _ _ _
  have HLG := Lib.hid (show Ck.chk x z R L ah = 0 by rw [hL]; exact Ck.chk_links HM.out.1)
  rw [← hL] at hO8
  have T3 : Two w3 w1.heap.size v7 v8 R L := ⟨own_ext HO7.out F3, own_up hO8 HF2.out.size, fun k h1 h2 => absurd (ownsRow_lt HO7.out k h1).2 (Nat.not_lt.2 (ownsRow_lt hO8 k h2).1)⟩
  obtain ⟨a7, c7, e7, _, _, hK7, _⟩ := T3.p.view HRA.out
  obtain ⟨a8, c8, e8, _, _, hK8, _⟩ := T3.q.view hLA
  rw [HM.out.1] at e7
  rw [hLm] at e8
  subst e7 e8
  have HT3 := Lib.hid T3
  have HK7 := Lib.hid hK7
  have HK8 := Lib.hid hK8
  have HLM := Lib.hid (And.intro hLm hLA)
  have HF13 := Lib.hid (HF2.out.trans F3 (fun _ h => h.elim))
  have HG3 := Lib.hid (HG2.out.trans F3 (fun _ h => h.elim))
  have hb3 := (F3.block _ (lt_of_block hb2) (fun h => h)).trans hb2
  have HB3 := Lib.hid hb3
  have hc3 : ∀ (i : Nat) (u : Value), (krow ah)[i]? = some u → w3.cell? ⟨g, 1 + i, none⟩ = some u := fun i u hu => (cell_of_block hb3 _).trans (HC.out.2.2.2 i u hu)
  have k3 : w3.cell? ⟨g, 0, none⟩ = some (.int .i64 z) := (cell_of_block hb3 _).trans HC.out.2.1
  have HCK := Lib.hid (chkl_any a0 q c0 x z ah a7 a8 m c7 m c8 R L w3 (HX.out.ext HG3.out) HQ5.out HAH.out HM.out.1 hLm (by have := HM.out.2; omega) (by have := HM.out.2; omega) hK7 hK8 (HE.out.ext HG3.out))
  rw [HLG.out] at HCK
  clear hO8 F3 hL hLA hLm T3 hK7 hK8 hb3 hb2 sP HO7 HF2 HG2 HLK HLG
  go_wp2_with (focus ((refine wpList_load_kv rfl (.tmp 26) rfl g 1 rfl ah HAH.out hc3 ?_); simp only [Act.put, List.setIfInBounds_toArray, List.set_cons_zero, List.set_cons_succ]))
  refine HCK.out.mono ?_
  rintro e w4 ⟨rfl, F4⟩
  have HF4 := Lib.hid (HF13.out.trans F4 (fun _ h => h.elim))
  have HG4 := Lib.hid (HG3.out.trans F4 (fun _ h => h.elim))
  have HT4 := Lib.hid (HT3.out.ext F4)
  have HB4 := Lib.hid ((F4.block _ (lt_of_block HB3.out) (fun h => h)).trans HB3.out)
  have HK7b := Lib.hid (HK7.out.ext F4)
  have HK8b := Lib.hid (HK8.out.ext F4)
  clear F4 HCK hc3 k3 HT3 HB3 HK7 HK8 HF13 HG3
  go_wp2_with fail
  refine cc_app (HX.out.ext HG4.out) HQ5.out HAH.out HB4.out HC.out.2.1 HC.out.2.2.2 HK7b.out HK8b.out HM.out.1 HLM.out.1 HM.out.2 (HE.out.ext HG4.out) (HR.out.ext HG4.out) _ (by first | rfl | simp) rfl rfl rfl rfl rfl rfl ?_
  intro t' w5 hn p0 p2 p4 p7 p8 p9 p52 F5
  have HG5 := Lib.hid (HG4.out.trans F5 (fun _ h => h.elim))
  have HF5 := Lib.hid (HF4.out.trans F5 (fun _ h => h.elim))
  have HT5 := Lib.hid (HT4.out.ext F5)
  have HB5 := Lib.hid ((F5.block _ (lt_of_block HB4.out) (fun h => h)).trans HB4.out)
  clear F5 HK7b HK8b HT4 HB4 HF4 HG4
  obtain ⟨f, hff, rfl⟩ := frame_open hn
  have e0 := hff 0 _ p0
  have e2 := hff 2 _ p2
  have e4 := hff 4 _ p4
  have e7 := hff 7 _ p7
  have e8 := hff 8 _ p8
  have e9 := hff 9 _ p9
  have e52 := hff 52 _ p52
  clear hff hn p0 p2 p4 p7 p8 p9 p52
  rw [lit111, e0, e2, e4, e7, e8, e9, e52]
  clear e0 e2 e4 e7 e8 e9 e52
  by_cases hm0 : m = 0
  · have b0 : ((m : Int) == 0) = true := by rw [hm0]; rfl
    clear hm0
    go_wp2_with fail
    go_ret
    exact ⟨rfl, HG5.out⟩
  have hmp : 0 < m := by omega
  obtain ⟨g7, d7, e7⟩ := or32_form HT5.out.p (by rw [HM.out.1]; exact hmp)
  obtain ⟨g8, d8, e8⟩ := or32_form HT5.out.q (by rw [HLM.out.1]; exact hmp)
  have ea7 : a7 = some ⟨g7, 0, none⟩ := by injection e7
  have ea8 : a8 = some ⟨g8, 0, none⟩ := by injection e8
  subst ea7 ea8
  clear e7 e8
  obtain ⟨s, hs⟩ : ∃ s : Nat, IntKind.u64.wrap y = (s : Int) := ⟨(IntKind.u64.wrap y).toNat, (Int.toNat_of_nonneg (Int.emod_nonneg y (show (18446744073709551616 : Int) ≠ 0 by decide))).symm⟩
  obtain ⟨k, hk⟩ : ∃ k, k = s % m := ⟨_, rfl⟩
  have hkm : k < m := by rw [hk]; exact Nat.mod_lt _ hmp
  have HKM := Lib.hid hkm
  have b0 : ((m : Int) == 0) = false := beq_eq_false_iff_ne.2 (by omega)
  have b1 : ¬ ((m : Int) = 0) := by omega
  have E4 : IntKind.i64.wrap (k : Int) = (k : Int) := by rw [IntWalk.i64_in _ (by have := HM.out.2; omega)]
  have E1 : Value.int .u64 (IntKind.u64.wrap y) = Value.int .u64 (s : Int) := by rw [hs]
  have E2 : IntKind.u64.wrap (m : Int) = (m : Int) := by clear E4 E1 hs; show (m : Int) % 18446744073709551616 = _; have := HM.out.2; omega
  have E3 : Value.int .u64 ((s : Int).tmod (m : Int)) = Value.int .u64 (k : Int) := by rw [Int.tmod_eq_emod_of_nonneg (Int.natCast_nonneg s), hk]; rfl
  clear hs hk hkm hm0 hmp
  go_wp2_with fail
  refine cc_l HT5.out.swap HLM.out.2 HLM.out.1 HKM.out HM.out.2 _ (by first | rfl | simp) rfl rfl rfl rfl rfl rfl ?_
  intro t6 w6 L' hn p0 p2 p4 p7 p8 p10 T6 hA6 hl6 F6
  have HT6 := Lib.hid T6
  have HL6 := Lib.hid (And.intro hA6 hl6)
  have HF6 := Lib.hid F6
  clear T6 hA6 hl6 F6 E1 E2 E3 E4 b0 b1
  obtain ⟨f, hff, rfl⟩ := frame_open hn
  have e0 := hff 0 _ p0
  have e2 := hff 2 _ p2
  have e4 := hff 4 _ p4
  have e7 := hff 7 _ p7
  have e8 := hff 8 _ p8
  have e10 := hff 10 _ p10
  clear hff hn p0 p2 p4 p7 p8 p10
  rw [lit111, e0, e2, e4, e7, e8, e10]
  clear e0 e2 e4 e7 e8 e10
  go_wp2_with fail
  refine cc_r HT6.out.swap HRA.out HM.out.1 HKM.out HM.out.2 _ (by first | rfl | simp) rfl rfl rfl rfl rfl rfl ?_
  intro t7 w7 R' hn p0 p2 p4 p7 p8 p10 T7 hA7 hl7 F7
  have hng : g < w1.heap.size := lt_of_block HB1.out
  have n8 : g ≠ g8 := fun e => absurd (ownsRow_lt HT5.out.q g8 rfl).1 (by rw [← e]; exact Nat.not_le.2 hng)
  have n7 : g ≠ g7 := fun e => absurd (ownsRow_lt HT5.out.p g7 rfl).1 (by rw [← e]; exact Nat.not_le.2 hng)
  have hz8 := (ownsRow_lt HT5.out.q g8 rfl).1
  have hz7 := (ownsRow_lt HT5.out.p g7 rfl).1
  have hb7 := (F7.block _ (Nat.lt_of_lt_of_le (lt_of_block HB5.out) HF6.out.size) n7).trans ((HF6.out.block _ (lt_of_block HB5.out) n8).trans HB5.out)
  have hwz : w.heap.size ≤ w1.heap.size := HG1.out.size
  have HG7 := Lib.hid (show Fr (fun _ => False) w w7 from (HG5.out.trans HF6.out (fun i hi => .inr (by rw [hi]; exact Nat.le_trans hwz hz8))).trans F7 (fun i hi => .inr (by rw [hi]; exact Nat.le_trans hwz hz7)))
  have kR := or32_kv T7.p hA7
  have kL := or32_kv T7.q HL6.out.1
  have HKR := Lib.hid kR.2.2.2
  have HKL := Lib.hid kL.2.2.2
  have HL7 := Lib.hid hl7
  have HB7 := Lib.hid hb7
  obtain ⟨D, hD⟩ : ∃ D, D = Ck.chk x z R' L' ah := ⟨_, rfl⟩
  have HD := Lib.hid hD
  have hc7 : ∀ (i : Nat) (u : Value), (krow ah)[i]? = some u → w7.cell? ⟨g, 1 + i, none⟩ = some u := fun i u hu => (cell_of_block hb7 _).trans (HC.out.2.2.2 i u hu)
  have k7 : w7.cell? ⟨g, 0, none⟩ = some (.int .i64 z) := (cell_of_block hb7 _).trans HC.out.2.1
  have HCK := Lib.hid (chkl_any a0 q c0 x z ah (some ⟨g7, 0, none⟩) (some ⟨g8, 0, none⟩) m c7 m c8 R' L' w7 (HX.out.ext HG7.out) HQ5.out HAH.out hl7 HL6.out.2 (by have := HM.out.2; omega) (by have := HM.out.2; omega) kR.2.2.2 kL.2.2.2 (HE.out.ext HG7.out))
  rw [← hD] at HCK
  clear T7 hA7 hl7 F7 hng n8 n7 hz8 hz7 hb7 hwz kR kL hD HT6 HF6
  obtain ⟨f, hff, rfl⟩ := frame_open hn
  have e0 := hff 0 _ p0
  have e2 := hff 2 _ p2
  have e4 := hff 4 _ p4
  have e7 := hff 7 _ p7
  have e8 := hff 8 _ p8
  have e10 := hff 10 _ p10
  clear hff hn p0 p2 p4 p7 p8 p10
  rw [lit111, e0, e2, e4, e7, e8, e10]
  clear e0 e2 e4 e7 e8 e10
  go_wp2_with (focus ((refine wpList_load_kv rfl (.tmp 92) rfl g 1 rfl ah HAH.out hc7 ?_); simp only [Act.put, List.setIfInBounds_toArray, List.set_cons_zero, List.set_cons_succ]))
  refine HCK.out.mono ?_
  rintro e w8 ⟨rfl, F8⟩
  have HG8 := Lib.hid (HG7.out.trans F8 (fun _ h => h.elim))
  have HB8 := Lib.hid ((F8.block _ (lt_of_block HB7.out) (fun h => h)).trans HB7.out)
  have HKR8 := Lib.hid (HKR.out.ext F8)
  have HKL8 := Lib.hid (HKL.out.ext F8)
  clear F8 HCK hc7 k7
  go_wp2_with fail
  refine cc_last (HX.out.ext HG8.out) HQ5.out HAH.out HB8.out HC.out.2.1 HC.out.2.2.2 HKR8.out HKL8.out HL7.out HL6.out.2 HM.out.2 HD.out (HR.out.ext HG8.out) _ (by first | rfl | simp) rfl rfl rfl rfl rfl ?_
  intro t9 w9 hn p6 F9
  have HFz := Lib.hid (HG8.out.trans F9 (fun _ h => h.elim))
  clear F9
  obtain ⟨f, hff, rfl⟩ := frame_open hn
  have e6 := hff 6 _ p6
  clear hff hn p6
  rw [lit111, e6]
  clear e6
  go_wp2_with fail
  go_ret
  exact ⟨rfl, HFz.out⟩
end Go.Proofs.YtikdgjgcopjocaaDoor
namespace Go.Proofs.YtikdgjgcopjocaaDoor
open Go.ChangeShapes Go.WideShapes Go.ChangeAt Go.RowKit
set_option linter.unusedVariables false

set_option maxRecDepth 100000 in
theorem open_past {H : Type} {enc : TypeId × Value → H} {W : World} {base : Nat} {v : Value} {d : DataW H} {p : List MemPlace} (hval : Value.okWide Tryd.prog W .any base 34 v) (h1 : DataW.Trod enc Tryd.prog W 0 (fun _ => true) true 34 v d p) :
    ∃ (z : Int) (ah : List UInt8) (a : Option Addr) (m c : Nat) (P : List (List UInt8)), v = .agg (pastRow z ah (.slice a m c)) ∧ ah.length = 32 ∧ P.length = m ∧ m ≤ c ∧ c ≤ maxLen ∧ Kv W a P := by
  obtain ⟨cs, rfl, hsz⟩ := okWide_struct Tryd.underlying34 hval
  obtain ⟨fuel, hf⟩ := h1
  have hc : Tryd.prog.cellsOf 34 = 34 := by kernel_rfl
  rw [hc] at hsz
  obtain ⟨y0, y1, y2, n, hx, hlen, t0, t1, t2⟩ := Deep.trod_struct3 Tryd.underlying34 hf
  obtain ⟨z0, e0, _, w0⟩ := DataW.trod_int Tryd.underlying3 t0
  obtain ⟨ah, e1, l1⟩ := cells_row32 t1
  obtain ⟨a, m, c, P, e2, k0, k1, k2, k3⟩ := cells_rows32 t2
  have c32 : Tryd.prog.cellsOf 23 = 32 := by kernel_rfl
  have c1 : Tryd.prog.cellsOf 3 = 1 := by kernel_rfl
  have c2 : Tryd.prog.cellsOf 32 = 1 := by kernel_rfl
  simp only [c32, c1, c2, Value.cells] at e0 e1 e2
  have hl : cs.toList.length = 34 := by simpa using hsz
  refine ⟨z0, ah, a, m, c, P, ?_, l1, k0, k1, k2, k3⟩
  congr 1
  apply Array.toList_inj.1
  unfold pastRow
  generalize cs.toList = L at *
  show L = [Value.int .i64 z0] ++ (bv ah ++ [Value.slice a m c])
  rw [← e0, ← e1, ← e2]
  show L = (L.drop 0).take 1 ++ ((L.drop 1).take 32 ++ (L.drop 33).take 1)
  have f2 : (L.drop 33).take 1 = L.drop 33 := List.take_of_length_le (by rw [List.length_drop]; omega)
  have f1 : (L.drop 1).take 32 ++ L.drop 33 = L.drop 1 := by
    have := List.take_append_drop 32 (L.drop 1); rwa [List.drop_drop] at this
  rw [f2, f1, List.drop_zero, List.take_append_drop]
end Go.Proofs.YtikdgjgcopjocaaDoor

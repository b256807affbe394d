/-
  The law ProofOne: a check, in whatever order the new block comes.
  Clash of two lists of any length: where two texts clash it is told.
  Clash of two lists of any length, whole.
  The law ProofOne.
  A claim that came in as an argument: two places, rows of 32, two sums.
  A key, and a proof, that came in as arguments.
-/
import Derived.Test.YtndakfanlgilmaaDoorQPd
import Derived.Lib.BufferWrite
import Derived.Test.YtndakfanlgilmaaDoorQPa
import Derived.Deep.Slices
import Derived.Deep.Strs
namespace Go.Proofs.YtndakfanlgilmaaDoor
open Go.RowKit
set_option linter.unusedVariables false
set_option linter.unusedSimpArgs false
namespace Kj
section
variable {P : Program} {md : Region.Mode} {ops : Array Oper} {Q : Act → World → Prop} {S : Nat → Nat → Prop}
set_option maxRecDepth 100000 in
theorem Wk.seqs {fuel : Nat} (hs : Region.noSelect ops = true) : ∀ (l : List (Nat × Bool)) (listed : Array Bool) (a : Act) (w : World), okC md ops l listed = true →
    Wk S P md ops (fun a w => wpM S P md ops Q fuel (marks l listed) a w) l a w → wpM S P md ops Q (fuel + l.length) listed a w
  | [], _, _, w, _, h => h w (Fr.refl _ w)
  | (k, false) :: r, listed, a, w, hB, h => by
    obtain ⟨o, v, T, h0, hwt, hy, hk⟩ := h
    simp only [okC, Bool.and_eq_true] at hB
    obtain ⟨⟨hr, hf⟩, hB'⟩ := hB
    exact wpM_first h0 hwt (Region.noSelect_spec hs) (fuel + r.length) listed a w (Region.free_spec h0 hf) (by simpa using hr) hy (Wk.seqs hs r _ _ w hB' hk)
  | (k, true) :: r, listed, a, w, hB, h => by
    simp only [okC, Bool.and_eq_true, beq_iff_eq] at hB
    refine ⟨fun h0 => (by rw [hB.1] at h0; cases h0), fun i hi w' hx => ?_⟩
    rw [hB.1] at hi
    obtain rfl : i = k := by simpa using hi
    exact wpOp_mono (fun a'' w'' ⟨h1, h2⟩ => ⟨h1, Wk.seqs hs r _ a'' w'' hB.2 h2⟩) (h w' hx)
end
set_option maxRecDepth 100000 in
theorem wp_region_part (S : Nat → Nat → Prop) {P : Program} {id : Nat} {Q : Exit → Act → World → Prop} {a : Act} {W0 : World} {l : List Oper} (π : List (Nat × Bool)) (n : Nat) (L2 : Array Bool) (hm : P.follows .mixedOrders = true)
    (hB : (Region.noSelect l.toArray && okC .any l.toArray π (Array.replicate l.length false) && (l.length == n + π.length) && (marks π (Array.replicate l.length false) == L2)) = true)
    (h : Wk S P .any l.toArray (fun a w => wpM S P .any l.toArray (fun a w => Q .normal a w) n L2 a w) π a W0) : (Code.region id l.toArray true).wp P Q a W0 := by
  simp only [Bool.and_eq_true, beq_iff_eq] at hB
  obtain ⟨⟨⟨h1, h2⟩, h3⟩, rfl⟩ := hB
  refine wp_region_any hm ?_
  have := wpM.up _ _ _ _ _ ((Fr.refl (fun _ => False) W0).drew) (Wk.seqs h1 π _ a W0 h2 h)
  rw [← h3] at this
  have h4 := wpAny_of_M (Q' := Q) (fun _ _ h => h) _ _ _ _ this
  simpa using h4
section
variable {P : Program} {md : Region.Mode} {ops : Array Oper} {Q : Act → World → Prop} {S : Nat → Nat → Prop}
set_option maxRecDepth 100000 in
theorem wpM.last {L : Array Bool} {a : Act} {w : World} (l : List (Nat × Bool)) (m : Nat) (hB : (Region.noSelect ops && okZ md ops l L && (m == l.length)) = true)
    (h : Wk S P md ops Q l a w) : wpM S P md ops Q m L a w := by
  simp only [Bool.and_eq_true, beq_iff_eq] at hB
  obtain ⟨⟨h1, h2⟩, rfl⟩ := hB
  exact Wk.M h1 l L a w h2 h
set_option maxRecDepth 100000 in
/-- A call, or an operation by a law of the plain walk, may come up now. -/
theorem wpM.pair {L : Array Bool} {a : Act} {w : World} (k j : Nat) (n : Nat) (L2 L3 : Array Bool) {o o2 : Oper} (hi : ops[k]? = some o) (hj : ops[j]? = some o2) (hB : (Region.ready md ops L == [k, j] && L.setIfInBounds k true == L2 && L.setIfInBounds j true == L3) = true)
    (hw : Region.wanted o (yielded ops a.tmps) = true) (f : FuncId) (args : Array Value) (hrun : ∀ w, (execOp a.eval o).run P w = .ok (.enter f args) w) (R : Value → World → Prop) (hc : ∀ w', Ex w w' → Calls P f args w' fun e w'' => ∃ v, e = .returned v ∧ Ex w' w'' ∧ R v w'')
    (h : ∀ v w', Ex w w' → R v w' → wpM S P md ops Q n L2 (a.put o.dst v) w')
    (h2 : ∀ w', Ex w w' → wpList P ops (fun e a'' w'' => e = .normal ∧ Ks.Es (S j) w' w'' ∧ wpM S P md ops Q n L3 a'' w'') [o2] a w') : wpM S P md ops Q (n + 1) L a w := by
  simp only [Bool.and_eq_true, beq_iff_eq] at hB
  obtain ⟨⟨h1, rfl⟩, rfl⟩ := hB
  refine ⟨fun h0 => (by rw [h0] at h1; simp at h1), fun i hI w' hx => ?_⟩
  rw [h1] at hI
  rcases (show i = k ∨ i = j by simpa using hI) with rfl | rfl
  · unfold wpOp
    simp only [hi, hw, if_true]
    refine .inl ?_
    unfold Oper.wp
    rw [hrun, Oper.upon_enter]
    refine (hc w' hx).mono fun e w'' hh => ?_
    obtain ⟨v, rfl, h3, h4⟩ := hh
    exact ⟨Ks.Es.of h3, h v w'' (hx.tr h3) h4⟩
  · exact Ks.wpOp_of_list hj (h2 w' hx)
end
end Kj
def allRegs : Code → List (Nat × Code)
  | .loop c => allRegs c
  | .seq a b => allRegs a ++ allRegs b
  | .block _ c => allRegs c
  | .scope c => allRegs c
  | .cond _ a b => allRegs a ++ allRegs b
  | .region i ops m => [(i, .region i ops m)]
  | _ => []
noncomputable def regionAt (F : Func) (k : Nat) : Code := ((((F.body.map allRegs).getD []).find? (fun p => p.1 == k)).map (·.2)).getD .skip
set_option maxRecDepth 100000 in
theorem wpList_copy_strP {ops : Array Oper} {rest : List Oper} {o : Oper} {a : Act} {w : World} {Q : Exit → Act → World → Prop} (hgd : o.guard = none) (d s : Operand)
    (ho : o.op = .call { callee := .builtin .copy, args := #[d, s], argTypes := #[39, 9] }) (g : Nat) (cur : Array Value) (T : TypeId) (X : List UInt8) (hX : X.length = 32) (hd : a.eval d = .slice (some ⟨g, 0, none⟩) 32 32) (hs : a.eval s = .string ⟨X.toArray⟩)
    (hg : w.heap[g]? = some (.cells cur T (0, 0))) (hn : cur.size = 32)
    (h : ∀ w', w'.heap[g]? = some (.cells (krow X) T (0, 0)) → Fr (fun k => k = g) w w' → wpList Tryd.prog ops Q rest (a.put o.dst (goInt (⟨X.toArray⟩ : ByteArray).size)) w') : wpList Tryd.prog ops Q (o :: rest) a w := by
  have hsz : (⟨X.toArray⟩ : ByteArray).size = 32 := by show X.toArray.size = 32; simpa using hX
  refine wpList_plain hgd fun Kk hK => ?_
  have hrun := Lib.run_copy_row_string (P := Tryd.prog) w 39 9 o.type 5 g 0 32 32 ⟨X.toArray⟩ cur T Tryd.underlying39 Tryd.sizeB hg (by omega) (by omega)
  unfold Oper.wp
  simp [execOp, ho, resolve, invoke, builtin, hd, hs, hrun, Result.andThen]
  have e2 : (Lib.byteCells X ++ List.drop (⟨X.toArray⟩ : ByteArray).size cur.toList).toArray = krow X := by
    rw [hsz, List.drop_eq_nil_of_le (by simp; omega), List.append_nil]
    rfl
  rw [e2]
  exact hK _ _ (h _ (setRow_heap _ _ _ _ _ _ hg) (Fr.setRow' (S := fun k => k = g) (Fr.refl _ _) rfl _))
set_option maxRecDepth 100000 in
theorem lit78 (f : Nat → Value) : ((List.range 78).map f).toArray = (f 0 :: f 1 :: f 2 :: f 3 :: f 4 :: f 5 :: f 6 :: f 7 :: f 8 :: f 9 :: f 10 :: f 11 :: f 12 :: f 13 :: f 14 :: f 15 :: f 16 :: f 17 :: f 18 :: f 19 :: f 20 :: f 21 :: f 22 :: f 23 :: f 24 :: f 25 :: f 26 :: f 27 :: f 28 :: f 29 :: f 30 :: f 31 :: f 32 :: f 33 :: f 34 :: f 35 :: f 36 :: f 37 :: f 38 :: f 39 :: f 40 :: f 41 :: f 42 :: f 43 :: f 44 :: f 45 :: f 46 :: f 47 :: f 48 :: f 49 :: f 50 :: f 51 :: f 52 :: f 53 :: f 54 :: f 55 :: f 56 :: f 57 :: f 58 :: f 59 :: f 60 :: f 61 :: f 62 :: f 63 :: f 64 :: f 65 :: f 66 :: f 67 :: f 68 :: f 69 :: f 70 :: f 71 :: f 72 :: f 73 :: f 74 :: f 75 :: f 76 :: f 77 :: []).toArray := by kernel_rfl
set_option maxRecDepth 100000 in
set_option maxHeartbeats 6400000 in
theorem one_chk8 {Q : Exit → Act → World → Prop} {w : World} {g3 g9 gp n c cc Z : Nat} {a : Option Addr} {key rt k v : List UInt8} {th : Bool} {P : List (List UInt8)} {v5 : Value} (hkb : w.heap[g3]? = some (.cells (krow key) 23 (0, 0))) (hrb : w.heap[g9]? = some (.cells (krow rt) 22 (0, 0))) (hpb : w.heap[gp]? = some (.cells (pfRow (.slice a n c) th k v) 28 (0, 0))) (hO : Or32 w Z (.slice a n c) P) (hA : Lg.All32 P) (hn9 : n ≤ 1000) (hkey : key.length = 32) (hrt : rt.length = 32) (hk : k.length = 32) (hv : v.length = 32) (hC : IsC k key cc) (hE : Env w) (fr : Array Value) (hn : fr.size = 78) (p3 : fr[3]? = some (.pointer (some ⟨g3, 0, none⟩))) (p9 : fr[9]? = some (.pointer (some ⟨g9, 0, none⟩))) (p4 : fr[4]? = some (.pointer (some ⟨gp, 0, none⟩))) (p5 : fr[5]? = some (v5))
    (hQ : ∀ t' w' gz, t'.size = 78 → t'[3]? = some (.pointer (some ⟨g3, 0, none⟩)) → t'[9]? = some (.pointer (some ⟨g9, 0, none⟩)) → t'[4]? = some (.pointer (some ⟨gp, 0, none⟩)) → t'[5]? = some (v5) → t'[10]? = some (.pointer (some ⟨gz, 0, none⟩)) → t'[11]? = some (.bool (Pf.pass key rt P th k v cc && Pf.says key th k v)) → t'[12]? = some (.int .i64 (if Pf.pass key rt P th k v cc then 0 else 17)) → w'.heap[gz]? = some (.cells (krow (if Pf.pass key rt P th k v cc then Pf.val key th k v else Pf.z)) 22 (0, 0)) → Fr (fun _ => False) w w' → Q .normal ⟨t', []⟩ w') :
    Code.wp Tryd.prog (regionAt Tryd.f3 8) Q ⟨fr, []⟩ w := by
  obtain ⟨e1, e2, e3, hK, hbk⟩ := or32_kv2 hO hA
  have hvl : (if Pf.pass key rt P th k v cc then Pf.val key th k v else Pf.z).length = 32 := by split; exact Pf.val_len hv; exact Pf.z_len
  have s1 : (Tryd.prog.info? 23).map (·.size) = some (krow key).size := by rw [krow_size, hkey]; kernel_rfl
  have s2 := sz32' hrt
  have s3 : (Tryd.prog.info? 28).map (·.size) = some (pfRow (.slice a n c) th k v).size := by rw [pf_size hk hv]; kernel_rfl
  have HTO := Lib.hid (fun (V : World) (F : Fr (fun _ => False) w V) => to_any a n c th k v P e1 e2 e3 hk hv hn9 V (hK.ext F))
  have HCK := Lib.hid (fun (a' : Option Addr) (n' c' : Nat) (V : World) (h : Or32 V w.heap.size (.slice a' n' c') P) (hV : Env V) => by
    obtain ⟨f1, f2, f3, f4, f5⟩ := or32_kv2 h hA
    exact pchk_any rt key k v th P a' n' c' cc f1 (by omega) f2 f3 hrt hkey hk hv hC V f4 (fun i hi => (f5 i hi).2) hV)
  have HQ := Lib.hid hQ
  have HB := Lib.hid (And.intro hkb (And.intro hrb hpb))
  have HE := Lib.hid hE
  generalize (if Pf.pass key rt P th k v cc then Pf.val key th k v else Pf.z) = vr at *
  generalize (Pf.pass key rt P th k v cc && Pf.says key th k v) = br at *
  generalize (if Pf.pass key rt P th k v cc then (0 : Int) else 17) = er at *
  have HVL := Lib.hid hvl
  clear hQ hkb hrb hpb hE hO hA hn9 hK hbk hvl e1 e2 e3 hkey hrt hk hv hC
  obtain ⟨f, hff, rfl⟩ := frame_open hn
  have e3 := hff 3 _ p3
  have e9 := hff 9 _ p9
  have e4 := hff 4 _ p4
  have e5 := hff 5 _ p5
  clear hff hn p3 p9 p4 p5
  rw [lit78, e3, e9, e4, e5]
  clear e3 e9 e4 e5
  conv => arg 2; whnf
  refine Kj.wp_region_part (fun j b => j = 10 ∧ w.heap.size ≤ b) (sg 0 3 ++ []) 10 #[true, true, true, false, false, false, false, false, false, false, false, false, false] (by kernel_rfl) (by kernel_rfl) ?_
  refine Kj.Wk.seg (fun _ => False) 0 3 (by kernel_rfl) (by kernel_rfl) (fun j b h => .inl (by rw [h.1]; kernel_rfl)) ?_
  apply Exists.intro
  refine ⟨?wka, ?fina⟩
  case wka =>
    intro γ
    simp only [List.drop_succ_cons, List.drop_zero, List.take_succ_cons, List.take_zero]
    repeat (any_goals (first | (focus (go_big_quiet_want; (refine Ks.quiet_load_rows 22 (.tmp 9) rfl g9 rfl 22 (krow rt) (0, 0) _ HB.out.2.1 (fun h => h) Tryd.underlying22 rfl s2 ?_); simp only [Act.put, List.setIfInBounds_toArray, List.set_cons_zero, List.set_cons_succ]; go_big_quiet_on)) | (focus (go_big_quiet_want; (refine Ks.quiet_load_rows 23 (.tmp 3) rfl g3 rfl 23 (krow key) (0, 0) _ HB.out.1 (fun h => h) Tryd.underlying23 rfl s1 ?_); simp only [Act.put, List.setIfInBounds_toArray, List.set_cons_zero, List.set_cons_succ]; go_big_quiet_on)) | (focus (go_big_quiet_want; (refine Ks.quiet_load_rows 28 (.tmp 4) rfl gp rfl 28 (pfRow (.slice a n c) th k v) (0, 0) _ HB.out.2.2 (fun h => h) Tryd.underlying28 rfl s3 ?_); simp only [Act.put, List.setIfInBounds_toArray, List.set_cons_zero, List.set_cons_succ]; go_big_quiet_on)) | go_big_quiet_step (fail) | quiet_step (fail)))
    exact wpQuiet_nil rfl
  case fina =>
  (try simp only [Act.put, List.setIfInBounds_toArray, List.set_cons_zero, List.set_cons_succ])
  intro w1 X1
  refine Kj.wpM.pair 3 9 9 #[true, true, true, true, false, false, false, false, false, false, false, false, false] #[true, true, true, false, false, false, false, false, false, true, false, false, false] rfl rfl (by kernel_rfl) (by kernel_rfl) 7 #[.agg (pfRow (.slice a n c) th k v)] (fun W => by first | kernel_rfl | rfl) (fun vv W => ∃ a' n' c', vv = .agg (pfRow (.slice a' n' c') th k v) ∧ Or32 W w.heap.size (.slice a' n' c') P) (fun V hx => (HTO.out V (X1.trans hx (fun _ h => h.elim))).mono (fun e W' he => by obtain ⟨⟨a', n', c', e1, ho⟩, hf⟩ := he; exact ⟨_, e1, hf, a', n', c', rfl, own_up ho (X1.trans hx (fun _ h => h.elim)).size⟩)) ?_ ?_
  · rintro vv w2 X2 ⟨a', n', c', rfl, hO2⟩
    (try simp only [List.getElem_toArray, List.getElem_cons_succ, List.getElem_cons_zero, Act.put, List.setIfInBounds_toArray, List.set_cons_zero, List.set_cons_succ])
    have X02 : Fr (fun _ => False) w w2 := X1.trans X2 (fun _ h => h.elim)
    have E2 := HE.out.ext X02
    refine Kj.wpM.last (sg 4 3 ++ (sg 7 2 ++ ((9, true) :: (10, true) :: (sg 11 2 ++ [])))) 9 (by kernel_rfl) ?_
    refine Kj.Wk.seg (fun _ => False) 4 3 (by kernel_rfl) (by kernel_rfl) (fun j b h => .inl (by rw [h.1]; kernel_rfl)) ?_
    apply Exists.intro
    refine ⟨?wkb, ?finb⟩
    case wkb =>
      intro γ
      have hoz : ∀ u : Ks.Ws γ, Or32 u.w w.heap.size (.slice a' n' c') P := fun u => own_ext hO2 u.h
      have hez : ∀ u : Ks.Ws γ, Env u.w := fun u => E2.ext u.h
      simp only [List.drop_succ_cons, List.drop_zero, List.take_succ_cons, List.take_zero]
      repeat (any_goals (first | go_big_quiet_step ((go_at_call 10; exact Ks.Calls.keeps (HCK.out _ _ _ _ (hoz _) (hez _)))) | quiet_step ((go_at_call 10; exact Ks.Calls.keeps (HCK.out _ _ _ _ (hoz _) (hez _))))))
      exact wpQuiet_nil rfl
    case finb =>
    (try simp only [Act.put, List.setIfInBounds_toArray, List.set_cons_zero, List.set_cons_succ])
    refine Kj.Wk.seg (fun _ => True) 7 2 (by kernel_rfl) (by kernel_rfl) (fun j b h => .inr trivial) ?_
    apply Exists.intro
    refine ⟨?wkd, ?find⟩
    case wkd =>
      intro γ
      simp only [List.drop_succ_cons, List.drop_zero, List.take_succ_cons, List.take_zero]
      repeat (any_goals (first | go_big_quiet_step (fail) | quiet_step (fail)))
      exact wpQuiet_nil rfl
    case find =>
    (try simp only [Act.put, List.setIfInBounds_toArray, List.set_cons_zero, List.set_cons_succ])
    refine Kj.Wk.one rfl (fun w3 X3 => ?_)
    go_wp2_with fail
    rw [zero32]
    refine ⟨Ks.Es.of ((Fr.refl _ w3).alloc _), ?_⟩
    (try simp only [List.getElem_toArray, List.getElem_cons_succ, List.getElem_cons_zero, Act.put, List.setIfInBounds_toArray, List.set_cons_zero, List.set_cons_succ])
    have B4 := heap_alloc_new w3 (.cells (ub 32 (fun _ => 0)) 22)
    have X4 := (X02.trans X3 (fun _ h => h.elim)).alloc (.cells (ub 32 (fun _ => 0)) 22)
    have hz3 : w.heap.size ≤ w3.heap.size := (X02.trans X3 (fun _ h => h.elim)).size
    generalize w3.heap.size = g10 at *
    refine Kj.Wk.one rfl (fun w5 X5 => ?_)
    refine wpList_store_rowA rfl 22 (.tmp 10) (.tmp 43) rfl g10 (krow vr) rfl rfl 22 _ ((X5.block _ (lt_of_block B4) (fun h => h)).trans B4) (sz32' HVL.out) (by rw [ub_size, krow_size, HVL.out]) (krow_one _) (fun w6 B6 F6 => ⟨rfl, F6.mono (fun b _ h => ⟨rfl, by rw [h]; exact hz3⟩), ?_⟩)
    (try simp only [List.getElem_toArray, List.getElem_cons_succ, List.getElem_cons_zero, Act.put, List.setIfInBounds_toArray, List.set_cons_zero, List.set_cons_succ])
    refine Kj.Wk.seg (fun _ => True) 11 2 (by kernel_rfl) (by kernel_rfl) (fun j b h => .inr trivial) ?_
    apply Exists.intro
    refine ⟨?wkc, ?finc⟩
    case wkc =>
      intro γ
      simp only [List.drop_succ_cons, List.drop_zero, List.take_succ_cons, List.take_zero]
      repeat (any_goals (first | go_big_quiet_step (fail) | quiet_step (fail)))
      exact wpQuiet_nil rfl
    case finc =>
    (try simp only [Act.put, List.setIfInBounds_toArray, List.set_cons_zero, List.set_cons_succ])
    intro w9 X9
    have F56 : Fr (fun _ => False) w w6 := ((X4.trans X5 (fun _ h => h.elim))).trans F6 (fun b h => .inr (by rw [h]; exact hz3))
    exact HQ.out _ _ g10 (by first | rfl | simp) rfl rfl rfl rfl rfl rfl rfl ((X9.block _ (lt_of_block B6) (fun h => h)).trans B6) (F56.trans X9 (fun _ h => h.elim))
  · intro w2 X2
    go_wp2_with fail
    rw [zero32]
    refine ⟨Ks.Es.of ((Fr.refl _ w2).alloc _), ?_⟩
    (try simp only [List.getElem_toArray, List.getElem_cons_succ, List.getElem_cons_zero, Act.put, List.setIfInBounds_toArray, List.set_cons_zero, List.set_cons_succ])
    have X12 := X1.trans X2 (fun _ h => h.elim)
    have B3 := heap_alloc_new w2 (.cells (ub 32 (fun _ => 0)) 22)
    have X3 := X12.alloc (.cells (ub 32 (fun _ => 0)) 22)
    have hz3 : w.heap.size ≤ w2.heap.size := X12.size
    generalize (w2.alloc (.cells (ub 32 (fun _ => 0)) 22)) = w3 at *
    generalize w2.heap.size = g10 at *
    refine Kj.wpM.last ((3, true) :: (sg 4 3 ++ (sg 7 2 ++ ((10, true) :: (sg 11 2 ++ []))))) 9 (by kernel_rfl) ?_
    refine Kj.Wk.call rfl (by kernel_rfl) 7 #[.agg (pfRow (.slice a n c) th k v)] (fun W => by first | kernel_rfl | rfl) (fun vv W => ∃ a' n' c', vv = .agg (pfRow (.slice a' n' c') th k v) ∧ Or32 W w.heap.size (.slice a' n' c') P) (fun V hx => (HTO.out V (X3.trans hx (fun _ h => h.elim))).mono (fun e W' he => by obtain ⟨⟨a', n', c', e1, ho⟩, hf⟩ := he; exact ⟨_, e1, hf, a', n', c', rfl, own_up ho (X3.trans hx (fun _ h => h.elim)).size⟩)) ?_
    rintro vv w4 X4 ⟨a', n', c', rfl, hO2⟩
    (try simp only [List.getElem_toArray, List.getElem_cons_succ, List.getElem_cons_zero, Act.put, List.setIfInBounds_toArray, List.set_cons_zero, List.set_cons_succ])
    have X04 := X3.trans X4 (fun _ h => h.elim)
    have E2 := HE.out.ext X04
    refine Kj.Wk.seg (fun _ => False) 4 3 (by kernel_rfl) (by kernel_rfl) (fun j b h => .inl (by rw [h.1]; kernel_rfl)) ?_
    apply Exists.intro
    refine ⟨?wkb, ?finb⟩
    case wkb =>
      intro γ
      have hoz : ∀ u : Ks.Ws γ, Or32 u.w w.heap.size (.slice a' n' c') P := fun u => own_ext hO2 u.h
      have hez : ∀ u : Ks.Ws γ, Env u.w := fun u => E2.ext u.h
      simp only [List.drop_succ_cons, List.drop_zero, List.take_succ_cons, List.take_zero]
      repeat (any_goals (first | go_big_quiet_step ((go_at_call 10; exact Ks.Calls.keeps (HCK.out _ _ _ _ (hoz _) (hez _)))) | quiet_step ((go_at_call 10; exact Ks.Calls.keeps (HCK.out _ _ _ _ (hoz _) (hez _))))))
      exact wpQuiet_nil rfl
    case finb =>
    (try simp only [Act.put, List.setIfInBounds_toArray, List.set_cons_zero, List.set_cons_succ])
    refine Kj.Wk.seg (fun _ => True) 7 2 (by kernel_rfl) (by kernel_rfl) (fun j b h => .inr trivial) ?_
    apply Exists.intro
    refine ⟨?wkd, ?find⟩
    case wkd =>
      intro γ
      simp only [List.drop_succ_cons, List.drop_zero, List.take_succ_cons, List.take_zero]
      repeat (any_goals (first | go_big_quiet_step (fail) | quiet_step (fail)))
      exact wpQuiet_nil rfl
    case find =>
    (try simp only [Act.put, List.setIfInBounds_toArray, List.set_cons_zero, List.set_cons_succ])
    refine Kj.Wk.one rfl (fun w5 X5 => ?_)
    refine wpList_store_rowA rfl 22 (.tmp 10) (.tmp 43) rfl g10 (krow vr) rfl rfl 22 _ ((X5.block _ (lt_of_block ((X4.block _ (lt_of_block B3) (fun h => h)).trans B3)) (fun h => h)).trans ((X4.block _ (lt_of_block B3) (fun h => h)).trans B3)) (sz32' HVL.out) (by rw [ub_size, krow_size, HVL.out]) (krow_one _) (fun w6 B6 F6 => ⟨rfl, F6.mono (fun b _ h => ⟨rfl, by rw [h]; exact hz3⟩), ?_⟩)
    (try simp only [List.getElem_toArray, List.getElem_cons_succ, List.getElem_cons_zero, Act.put, List.setIfInBounds_toArray, List.set_cons_zero, List.set_cons_succ])
    refine Kj.Wk.seg (fun _ => True) 11 2 (by kernel_rfl) (by kernel_rfl) (fun j b h => .inr trivial) ?_
    apply Exists.intro
    refine ⟨?wkc, ?finc⟩
    case wkc =>
      intro γ
      simp only [List.drop_succ_cons, List.drop_zero, List.take_succ_cons, List.take_zero]
      repeat (any_goals (first | go_big_quiet_step (fail) | quiet_step (fail)))
      exact wpQuiet_nil rfl
    case finc =>
    (try simp only [Act.put, List.setIfInBounds_toArray, List.set_cons_zero, List.set_cons_succ])
    intro w9 X9
    have F56 : Fr (fun _ => False) w w6 := ((X04.trans X5 (fun _ h => h.elim))).trans F6 (fun b h => .inr (by rw [h]; exact hz3))
    exact HQ.out _ _ g10 (by first | rfl | simp) rfl rfl rfl rfl rfl rfl rfl ((X9.block _ (lt_of_block B6) (fun h => h)).trans B6) (F56.trans X9 (fun _ h => h.elim))
set_option maxRecDepth 100000 in
set_option maxHeartbeats 6400000 in
theorem one_chk9 {Q : Exit → Act → World → Prop} {w : World} {g3 g9 gp n c cc Z : Nat} {a : Option Addr} {key rt k v : List UInt8} {th : Bool} {P : List (List UInt8)} {v4 : Value} {v10 : Value} {v11 : Value} {v12 : Value} (hkb : w.heap[g3]? = some (.cells (krow key) 23 (0, 0))) (hrb : w.heap[g9]? = some (.cells (krow rt) 22 (0, 0))) (hpb : w.heap[gp]? = some (.cells (pfRow (.slice a n c) th k v) 28 (0, 0))) (hO : Or32 w Z (.slice a n c) P) (hA : Lg.All32 P) (hn9 : n ≤ 1000) (hkey : key.length = 32) (hrt : rt.length = 32) (hk : k.length = 32) (hv : v.length = 32) (hC : IsC k key cc) (hE : Env w) (fr : Array Value) (hn : fr.size = 78) (p3 : fr[3]? = some (.pointer (some ⟨g3, 0, none⟩))) (p9 : fr[9]? = some (.pointer (some ⟨g9, 0, none⟩))) (p5 : fr[5]? = some (.pointer (some ⟨gp, 0, none⟩))) (p4 : fr[4]? = some (v4)) (p10 : fr[10]? = some (v10)) (p11 : fr[11]? = some (v11)) (p12 : fr[12]? = some (v12))
    (hQ : ∀ t' w' gz, t'.size = 78 → t'[3]? = some (.pointer (some ⟨g3, 0, none⟩)) → t'[9]? = some (.pointer (some ⟨g9, 0, none⟩)) → t'[5]? = some (.pointer (some ⟨gp, 0, none⟩)) → t'[4]? = some (v4) → t'[10]? = some (v10) → t'[11]? = some (v11) → t'[12]? = some (v12) → t'[13]? = some (.pointer (some ⟨gz, 0, none⟩)) → t'[14]? = some (.bool (Pf.pass key rt P th k v cc && Pf.says key th k v)) → t'[15]? = some (.int .i64 (if Pf.pass key rt P th k v cc then 0 else 17)) → w'.heap[gz]? = some (.cells (krow (if Pf.pass key rt P th k v cc then Pf.val key th k v else Pf.z)) 22 (0, 0)) → Fr (fun _ => False) w w' → Q .normal ⟨t', []⟩ w') :
    Code.wp Tryd.prog (regionAt Tryd.f3 9) Q ⟨fr, []⟩ w := by
  obtain ⟨e1, e2, e3, hK, hbk⟩ := or32_kv2 hO hA
  have hvl : (if Pf.pass key rt P th k v cc then Pf.val key th k v else Pf.z).length = 32 := by split; exact Pf.val_len hv; exact Pf.z_len
  have s1 : (Tryd.prog.info? 23).map (·.size) = some (krow key).size := by rw [krow_size, hkey]; kernel_rfl
  have s2 := sz32' hrt
  have s3 : (Tryd.prog.info? 28).map (·.size) = some (pfRow (.slice a n c) th k v).size := by rw [pf_size hk hv]; kernel_rfl
  have HTO := Lib.hid (fun (V : World) (F : Fr (fun _ => False) w V) => to_any a n c th k v P e1 e2 e3 hk hv hn9 V (hK.ext F))
  have HCK := Lib.hid (fun (a' : Option Addr) (n' c' : Nat) (V : World) (h : Or32 V w.heap.size (.slice a' n' c') P) (hV : Env V) => by
    obtain ⟨f1, f2, f3, f4, f5⟩ := or32_kv2 h hA
    exact pchk_any rt key k v th P a' n' c' cc f1 (by omega) f2 f3 hrt hkey hk hv hC V f4 (fun i hi => (f5 i hi).2) hV)
  have HQ := Lib.hid hQ
  have HB := Lib.hid (And.intro hkb (And.intro hrb hpb))
  have HE := Lib.hid hE
  generalize (if Pf.pass key rt P th k v cc then Pf.val key th k v else Pf.z) = vr at *
  generalize (Pf.pass key rt P th k v cc && Pf.says key th k v) = br at *
  generalize (if Pf.pass key rt P th k v cc then (0 : Int) else 17) = er at *
  have HVL := Lib.hid hvl
  clear hQ hkb hrb hpb hE hO hA hn9 hK hbk hvl e1 e2 e3 hkey hrt hk hv hC
  obtain ⟨f, hff, rfl⟩ := frame_open hn
  have e3 := hff 3 _ p3
  have e9 := hff 9 _ p9
  have e5 := hff 5 _ p5
  have e4 := hff 4 _ p4
  have e10 := hff 10 _ p10
  have e11 := hff 11 _ p11
  have e12 := hff 12 _ p12
  clear hff hn p3 p9 p5 p4 p10 p11 p12
  rw [lit78, e3, e9, e5, e4, e10, e11, e12]
  clear e3 e9 e5 e4 e10 e11 e12
  conv => arg 2; whnf
  refine Kj.wp_region_part (fun j b => j = 10 ∧ w.heap.size ≤ b) (sg 0 3 ++ []) 10 #[true, true, true, false, false, false, false, false, false, false, false, false, false] (by kernel_rfl) (by kernel_rfl) ?_
  refine Kj.Wk.seg (fun _ => False) 0 3 (by kernel_rfl) (by kernel_rfl) (fun j b h => .inl (by rw [h.1]; kernel_rfl)) ?_
  apply Exists.intro
  refine ⟨?wka, ?fina⟩
  case wka =>
    intro γ
    simp only [List.drop_succ_cons, List.drop_zero, List.take_succ_cons, List.take_zero]
    repeat (any_goals (first | (focus (go_big_quiet_want; (refine Ks.quiet_load_rows 22 (.tmp 9) rfl g9 rfl 22 (krow rt) (0, 0) _ HB.out.2.1 (fun h => h) Tryd.underlying22 rfl s2 ?_); simp only [Act.put, List.setIfInBounds_toArray, List.set_cons_zero, List.set_cons_succ]; go_big_quiet_on)) | (focus (go_big_quiet_want; (refine Ks.quiet_load_rows 23 (.tmp 3) rfl g3 rfl 23 (krow key) (0, 0) _ HB.out.1 (fun h => h) Tryd.underlying23 rfl s1 ?_); simp only [Act.put, List.setIfInBounds_toArray, List.set_cons_zero, List.set_cons_succ]; go_big_quiet_on)) | (focus (go_big_quiet_want; (refine Ks.quiet_load_rows 28 (.tmp 5) rfl gp rfl 28 (pfRow (.slice a n c) th k v) (0, 0) _ HB.out.2.2 (fun h => h) Tryd.underlying28 rfl s3 ?_); simp only [Act.put, List.setIfInBounds_toArray, List.set_cons_zero, List.set_cons_succ]; go_big_quiet_on)) | go_big_quiet_step (fail) | quiet_step (fail)))
    exact wpQuiet_nil rfl
  case fina =>
  (try simp only [Act.put, List.setIfInBounds_toArray, List.set_cons_zero, List.set_cons_succ])
  intro w1 X1
  refine Kj.wpM.pair 3 9 9 #[true, true, true, true, false, false, false, false, false, false, false, false, false] #[true, true, true, false, false, false, false, false, false, true, false, false, false] rfl rfl (by kernel_rfl) (by kernel_rfl) 7 #[.agg (pfRow (.slice a n c) th k v)] (fun W => by first | kernel_rfl | rfl) (fun vv W => ∃ a' n' c', vv = .agg (pfRow (.slice a' n' c') th k v) ∧ Or32 W w.heap.size (.slice a' n' c') P) (fun V hx => (HTO.out V (X1.trans hx (fun _ h => h.elim))).mono (fun e W' he => by obtain ⟨⟨a', n', c', e1, ho⟩, hf⟩ := he; exact ⟨_, e1, hf, a', n', c', rfl, own_up ho (X1.trans hx (fun _ h => h.elim)).size⟩)) ?_ ?_
  · rintro vv w2 X2 ⟨a', n', c', rfl, hO2⟩
    (try simp only [List.getElem_toArray, List.getElem_cons_succ, List.getElem_cons_zero, Act.put, List.setIfInBounds_toArray, List.set_cons_zero, List.set_cons_succ])
    have X02 : Fr (fun _ => False) w w2 := X1.trans X2 (fun _ h => h.elim)
    have E2 := HE.out.ext X02
    refine Kj.wpM.last (sg 4 3 ++ (sg 7 2 ++ ((9, true) :: (10, true) :: (sg 11 2 ++ [])))) 9 (by kernel_rfl) ?_
    refine Kj.Wk.seg (fun _ => False) 4 3 (by kernel_rfl) (by kernel_rfl) (fun j b h => .inl (by rw [h.1]; kernel_rfl)) ?_
    apply Exists.intro
    refine ⟨?wkb, ?finb⟩
    case wkb =>
      intro γ
      have hoz : ∀ u : Ks.Ws γ, Or32 u.w w.heap.size (.slice a' n' c') P := fun u => own_ext hO2 u.h
      have hez : ∀ u : Ks.Ws γ, Env u.w := fun u => E2.ext u.h
      simp only [List.drop_succ_cons, List.drop_zero, List.take_succ_cons, List.take_zero]
      repeat (any_goals (first | go_big_quiet_step ((go_at_call 10; exact Ks.Calls.keeps (HCK.out _ _ _ _ (hoz _) (hez _)))) | quiet_step ((go_at_call 10; exact Ks.Calls.keeps (HCK.out _ _ _ _ (hoz _) (hez _))))))
      exact wpQuiet_nil rfl
    case finb =>
    (try simp only [Act.put, List.setIfInBounds_toArray, List.set_cons_zero, List.set_cons_succ])
    refine Kj.Wk.seg (fun _ => True) 7 2 (by kernel_rfl) (by kernel_rfl) (fun j b h => .inr trivial) ?_
    apply Exists.intro
    refine ⟨?wkd, ?find⟩
    case wkd =>
      intro γ
      simp only [List.drop_succ_cons, List.drop_zero, List.take_succ_cons, List.take_zero]
      repeat (any_goals (first | go_big_quiet_step (fail) | quiet_step (fail)))
      exact wpQuiet_nil rfl
    case find =>
    (try simp only [Act.put, List.setIfInBounds_toArray, List.set_cons_zero, List.set_cons_succ])
    refine Kj.Wk.one rfl (fun w3 X3 => ?_)
    go_wp2_with fail
    rw [zero32]
    refine ⟨Ks.Es.of ((Fr.refl _ w3).alloc _), ?_⟩
    (try simp only [List.getElem_toArray, List.getElem_cons_succ, List.getElem_cons_zero, Act.put, List.setIfInBounds_toArray, List.set_cons_zero, List.set_cons_succ])
    have B4 := heap_alloc_new w3 (.cells (ub 32 (fun _ => 0)) 22)
    have X4 := (X02.trans X3 (fun _ h => h.elim)).alloc (.cells (ub 32 (fun _ => 0)) 22)
    have hz3 : w.heap.size ≤ w3.heap.size := (X02.trans X3 (fun _ h => h.elim)).size
    generalize w3.heap.size = g10 at *
    refine Kj.Wk.one rfl (fun w5 X5 => ?_)
    refine wpList_store_rowA rfl 22 (.tmp 13) (.tmp 52) rfl g10 (krow vr) rfl rfl 22 _ ((X5.block _ (lt_of_block B4) (fun h => h)).trans B4) (sz32' HVL.out) (by rw [ub_size, krow_size, HVL.out]) (krow_one _) (fun w6 B6 F6 => ⟨rfl, F6.mono (fun b _ h => ⟨rfl, by rw [h]; exact hz3⟩), ?_⟩)
    (try simp only [List.getElem_toArray, List.getElem_cons_succ, List.getElem_cons_zero, Act.put, List.setIfInBounds_toArray, List.set_cons_zero, List.set_cons_succ])
    refine Kj.Wk.seg (fun _ => True) 11 2 (by kernel_rfl) (by kernel_rfl) (fun j b h => .inr trivial) ?_
    apply Exists.intro
    refine ⟨?wkc, ?finc⟩
    case wkc =>
      intro γ
      simp only [List.drop_succ_cons, List.drop_zero, List.take_succ_cons, List.take_zero]
      repeat (any_goals (first | go_big_quiet_step (fail) | quiet_step (fail)))
      exact wpQuiet_nil rfl
    case finc =>
    (try simp only [Act.put, List.setIfInBounds_toArray, List.set_cons_zero, List.set_cons_succ])
    intro w9 X9
    have F56 : Fr (fun _ => False) w w6 := ((X4.trans X5 (fun _ h => h.elim))).trans F6 (fun b h => .inr (by rw [h]; exact hz3))
    exact HQ.out _ _ g10 (by first | rfl | simp) rfl rfl rfl rfl rfl rfl rfl rfl rfl rfl ((X9.block _ (lt_of_block B6) (fun h => h)).trans B6) (F56.trans X9 (fun _ h => h.elim))
  · intro w2 X2
    go_wp2_with fail
    rw [zero32]
    refine ⟨Ks.Es.of ((Fr.refl _ w2).alloc _), ?_⟩
    (try simp only [List.getElem_toArray, List.getElem_cons_succ, List.getElem_cons_zero, Act.put, List.setIfInBounds_toArray, List.set_cons_zero, List.set_cons_succ])
    have X12 := X1.trans X2 (fun _ h => h.elim)
    have B3 := heap_alloc_new w2 (.cells (ub 32 (fun _ => 0)) 22)
    have X3 := X12.alloc (.cells (ub 32 (fun _ => 0)) 22)
    have hz3 : w.heap.size ≤ w2.heap.size := X12.size
    generalize (w2.alloc (.cells (ub 32 (fun _ => 0)) 22)) = w3 at *
    generalize w2.heap.size = g10 at *
    refine Kj.wpM.last ((3, true) :: (sg 4 3 ++ (sg 7 2 ++ ((10, true) :: (sg 11 2 ++ []))))) 9 (by kernel_rfl) ?_
    refine Kj.Wk.call rfl (by kernel_rfl) 7 #[.agg (pfRow (.slice a n c) th k v)] (fun W => by first | kernel_rfl | rfl) (fun vv W => ∃ a' n' c', vv = .agg (pfRow (.slice a' n' c') th k v) ∧ Or32 W w.heap.size (.slice a' n' c') P) (fun V hx => (HTO.out V (X3.trans hx (fun _ h => h.elim))).mono (fun e W' he => by obtain ⟨⟨a', n', c', e1, ho⟩, hf⟩ := he; exact ⟨_, e1, hf, a', n', c', rfl, own_up ho (X3.trans hx (fun _ h => h.elim)).size⟩)) ?_
    rintro vv w4 X4 ⟨a', n', c', rfl, hO2⟩
    (try simp only [List.getElem_toArray, List.getElem_cons_succ, List.getElem_cons_zero, Act.put, List.setIfInBounds_toArray, List.set_cons_zero, List.set_cons_succ])
    have X04 := X3.trans X4 (fun _ h => h.elim)
    have E2 := HE.out.ext X04
    refine Kj.Wk.seg (fun _ => False) 4 3 (by kernel_rfl) (by kernel_rfl) (fun j b h => .inl (by rw [h.1]; kernel_rfl)) ?_
    apply Exists.intro
    refine ⟨?wkb, ?finb⟩
    case wkb =>
      intro γ
      have hoz : ∀ u : Ks.Ws γ, Or32 u.w w.heap.size (.slice a' n' c') P := fun u => own_ext hO2 u.h
      have hez : ∀ u : Ks.Ws γ, Env u.w := fun u => E2.ext u.h
      simp only [List.drop_succ_cons, List.drop_zero, List.take_succ_cons, List.take_zero]
      repeat (any_goals (first | go_big_quiet_step ((go_at_call 10; exact Ks.Calls.keeps (HCK.out _ _ _ _ (hoz _) (hez _)))) | quiet_step ((go_at_call 10; exact Ks.Calls.keeps (HCK.out _ _ _ _ (hoz _) (hez _))))))
      exact wpQuiet_nil rfl
    case finb =>
    (try simp only [Act.put, List.setIfInBounds_toArray, List.set_cons_zero, List.set_cons_succ])
    refine Kj.Wk.seg (fun _ => True) 7 2 (by kernel_rfl) (by kernel_rfl) (fun j b h => .inr trivial) ?_
    apply Exists.intro
    refine ⟨?wkd, ?find⟩
    case wkd =>
      intro γ
      simp only [List.drop_succ_cons, List.drop_zero, List.take_succ_cons, List.take_zero]
      repeat (any_goals (first | go_big_quiet_step (fail) | quiet_step (fail)))
      exact wpQuiet_nil rfl
    case find =>
    (try simp only [Act.put, List.setIfInBounds_toArray, List.set_cons_zero, List.set_cons_succ])
    refine Kj.Wk.one rfl (fun w5 X5 => ?_)
    refine wpList_store_rowA rfl 22 (.tmp 13) (.tmp 52) rfl g10 (krow vr) rfl rfl 22 _ ((X5.block _ (lt_of_block ((X4.block _ (lt_of_block B3) (fun h => h)).trans B3)) (fun h => h)).trans ((X4.block _ (lt_of_block B3) (fun h => h)).trans B3)) (sz32' HVL.out) (by rw [ub_size, krow_size, HVL.out]) (krow_one _) (fun w6 B6 F6 => ⟨rfl, F6.mono (fun b _ h => ⟨rfl, by rw [h]; exact hz3⟩), ?_⟩)
    (try simp only [List.getElem_toArray, List.getElem_cons_succ, List.getElem_cons_zero, Act.put, List.setIfInBounds_toArray, List.set_cons_zero, List.set_cons_succ])
    refine Kj.Wk.seg (fun _ => True) 11 2 (by kernel_rfl) (by kernel_rfl) (fun j b h => .inr trivial) ?_
    apply Exists.intro
    refine ⟨?wkc, ?finc⟩
    case wkc =>
      intro γ
      simp only [List.drop_succ_cons, List.drop_zero, List.take_succ_cons, List.take_zero]
      repeat (any_goals (first | go_big_quiet_step (fail) | quiet_step (fail)))
      exact wpQuiet_nil rfl
    case finc =>
    (try simp only [Act.put, List.setIfInBounds_toArray, List.set_cons_zero, List.set_cons_succ])
    intro w9 X9
    have F56 : Fr (fun _ => False) w w6 := ((X04.trans X5 (fun _ h => h.elim))).trans F6 (fun b h => .inr (by rw [h]; exact hz3))
    exact HQ.out _ _ g10 (by first | rfl | simp) rfl rfl rfl rfl rfl rfl rfl rfl rfl rfl ((X9.block _ (lt_of_block B6) (fun h => h)).trans B6) (F56.trans X9 (fun _ h => h.elim))
end Go.Proofs.YtndakfanlgilmaaDoor
namespace Go.Proofs.YtndakfanlgilmaaDoor
open Go.RowKit
set_option linter.unusedVariables false
set_option linter.unusedSimpArgs false
/-- Two unlike texts of one sum. -/
def Cl.at (A B : List (List UInt8)) (i j : Nat) : Bool := (!(A.getD i [] == B.getD j [])) && (S2.sum (A.getD i []) == S2.sum (B.getD j []))
set_option maxRecDepth 100000 in
theorem lit41 (f : Nat → Value) : ((List.range 41).map f).toArray = (f 0 :: f 1 :: f 2 :: f 3 :: f 4 :: f 5 :: f 6 :: f 7 :: f 8 :: f 9 :: f 10 :: f 11 :: f 12 :: f 13 :: f 14 :: f 15 :: f 16 :: f 17 :: f 18 :: f 19 :: f 20 :: f 21 :: f 22 :: f 23 :: f 24 :: f 25 :: f 26 :: f 27 :: f 28 :: f 29 :: f 30 :: f 31 :: f 32 :: f 33 :: f 34 :: f 35 :: f 36 :: f 37 :: f 38 :: f 39 :: f 40 :: []).toArray := by kernel_rfl
set_option maxRecDepth 100000 in
set_option maxHeartbeats 6400000 in
theorem clash_eq {KK : Act → World → Prop} {Q : Exit → Act → World → Prop} {w : World} {a b : Option Addr} {na nb ca cb i j : Nat} {A B : List (List UInt8)} (hi : i < na) (hj : j < nb) (hA9 : na ≤ 1000) (hB9 : nb ≤ 1000) (hAn : A.length = na) (hBn : B.length = nb) (hAs : ∀ x ∈ A, x.length ≤ 1000000) (hBs : ∀ x ∈ B, x.length ≤ 1000000) (hS : Sv w a A) (hS2 : Sv w b B) (hE : REnv w) (hb : (A.getD i [] == B.getD j []) = true) (fr : Array Value) (hn : fr.size = 41) (p0 : fr[0]? = some (.slice a na ca)) (p1 : fr[1]? = some (.slice b nb cb)) (p5 : fr[5]? = some (.int .i64 (i : Int))) (p6 : fr[6]? = some (.int .i64 (j : Int)))
    (hC : ∀ t' w', t'.size = 41 → t'[0]? = some (.slice a na ca) → t'[1]? = some (.slice b nb cb) → t'[5]? = some (.int .i64 (i : Int)) → t'[6]? = some (.int .i64 ((j + 1 : Nat) : Int)) → Fr (fun _ => False) w w' → KK ⟨t', []⟩ w') :
    Code.wp Tryd.prog (loopAt Tryd.f11 1) (Exit.then KK Q) ⟨fr, []⟩ w := by
  obtain ⟨g, off, rfl⟩ := hS.at (by omega)
  obtain ⟨g2, off2, rfl⟩ := hS2.at (by omega)
  have q1 : (i : Int) < (na : Int) := by omega
  have q4 : (0 : Int) ≤ (i : Int) := Int.natCast_nonneg i
  have q2 : (j : Int) < (nb : Int) := by omega
  have q5 : (0 : Int) ≤ (j : Int) := Int.natCast_nonneg j
  obtain ⟨x, hx⟩ : ∃ x, x = A.getD i [] := ⟨_, rfl⟩
  have hxi : A[i]? = some x := by rw [hx, List.getD_eq_getElem?_getD, List.getElem?_eq_getElem (by omega)]; rfl
  obtain ⟨y, hy⟩ : ∃ y, y = B.getD j [] := ⟨_, rfl⟩
  have hyi : B[j]? = some y := by rw [hy, List.getD_eq_getElem?_getD, List.getElem?_eq_getElem (by omega)]; rfl
  rw [← hx, ← hy] at hb
  obtain ⟨sx, hsx⟩ : ∃ sx, sx = S2.sum x := ⟨_, rfl⟩
  obtain ⟨sy, hsy⟩ : ∃ sy, sy = S2.sum y := ⟨_, rfl⟩
  have HSX := Lib.hid (show ∀ (V : World) (F : Fr (fun _ => False) w V), Calls Tryd.prog 9 #[.string ⟨x.toArray⟩] V fun e w' => e = .returned (.string ⟨sx.toArray⟩) ∧ Fr (fun _ => False) V w' from fun V F => by rw [hsx]; exact rsum_str x (hAs x (List.mem_of_getElem? hxi)) V (hE.ext F))
  have HSY := Lib.hid (show ∀ (V : World) (F : Fr (fun _ => False) w V), Calls Tryd.prog 9 #[.string ⟨y.toArray⟩] V fun e w' => e = .returned (.string ⟨sy.toArray⟩) ∧ Fr (fun _ => False) V w' from fun V F => by rw [hsy]; exact rsum_str y (hBs y (List.mem_of_getElem? hyi)) V (hE.ext F))
  have H1 := Lib.hid (And.intro (hS.cell hxi) (hS2.cell hyi))
  have k1 : ∀ u : Wd w, u.w.cell? ⟨g, off + i, none⟩ = some (.string ⟨x.toArray⟩) := fun u => u.h.cellSome (p := ⟨g, off + i, none⟩) (fun h => h) H1.out.1
  have k2 : ∀ u : Wd w, u.w.cell? ⟨g2, off2 + j, none⟩ = some (.string ⟨y.toArray⟩) := fun u => u.h.cellSome (p := ⟨g2, off2 + j, none⟩) (fun h => h) H1.out.2
  have HW := Lib.hid (show wrap64 ((j : Int) + 1) = ((j + 1 : Nat) : Int) by rw [IntWalk.wrap64_in _ (by omega)]; omega)
  have HC := Lib.hid hC
  clear hC hS hS2 hAn hBn hA9 hB9 hAs hBs hE hx hxi hy hyi hsx hsy
  obtain ⟨f, hff, rfl⟩ := frame_open hn
  have e0 := hff 0 _ p0
  have e1 := hff 1 _ p1
  have e5 := hff 5 _ p5
  have e6 := hff 6 _ p6
  clear hff hn p0 p1 p5 p6
  rw [lit41, e0, e1, e5, e6]
  clear e0 e1 e5 e6
  conv => arg 2; whnf
  go_wp2_with fail
  refine wp_region_keep (by kernel_rfl) (by kernel_rfl) ?_
  repeat (any_goals (first | go_big_quiet_step ((go_at_call 9; first | with_reducible exact Calls.keep (HSX.out _ (Wd.h _)) | with_reducible exact Calls.keep (HSY.out _ (Wd.h _)))) | quiet_step ((go_at_call 9; first | with_reducible exact Calls.keep (HSX.out _ (Wd.h _)) | with_reducible exact Calls.keep (HSY.out _ (Wd.h _))))))
  refine wpQuiet_nil ?_
  intro _ hwz
  obtain ⟨u, rfl⟩ := hwz
  go_wp2_with fail
  exact HC.out _ _ (by first | rfl | simp) rfl rfl rfl (congrArg (fun z => some (Value.int .i64 z)) HW.out) u.h
set_option maxRecDepth 100000 in
set_option maxHeartbeats 6400000 in
theorem clash_ne {KK : Act → World → Prop} {Q : Exit → Act → World → Prop} {w : World} {a b : Option Addr} {na nb ca cb i j : Nat} {A B : List (List UInt8)} (hi : i < na) (hj : j < nb) (hA9 : na ≤ 1000) (hB9 : nb ≤ 1000) (hAn : A.length = na) (hBn : B.length = nb) (hAs : ∀ x ∈ A, x.length ≤ 1000000) (hBs : ∀ x ∈ B, x.length ≤ 1000000) (hS : Sv w a A) (hS2 : Sv w b B) (hE : REnv w) (hb : (A.getD i [] == B.getD j []) = false) (hs : (S2.sum (A.getD i []) == S2.sum (B.getD j [])) = false) (fr : Array Value) (hn : fr.size = 41) (p0 : fr[0]? = some (.slice a na ca)) (p1 : fr[1]? = some (.slice b nb cb)) (p5 : fr[5]? = some (.int .i64 (i : Int))) (p6 : fr[6]? = some (.int .i64 (j : Int)))
    (hC : ∀ t' w', t'.size = 41 → t'[0]? = some (.slice a na ca) → t'[1]? = some (.slice b nb cb) → t'[5]? = some (.int .i64 (i : Int)) → t'[6]? = some (.int .i64 ((j + 1 : Nat) : Int)) → Fr (fun _ => False) w w' → KK ⟨t', []⟩ w') :
    Code.wp Tryd.prog (loopAt Tryd.f11 1) (Exit.then KK Q) ⟨fr, []⟩ w := by
  obtain ⟨g, off, rfl⟩ := hS.at (by omega)
  obtain ⟨g2, off2, rfl⟩ := hS2.at (by omega)
  have q1 : (i : Int) < (na : Int) := by omega
  have q4 : (0 : Int) ≤ (i : Int) := Int.natCast_nonneg i
  have q2 : (j : Int) < (nb : Int) := by omega
  have q5 : (0 : Int) ≤ (j : Int) := Int.natCast_nonneg j
  obtain ⟨x, hx⟩ : ∃ x, x = A.getD i [] := ⟨_, rfl⟩
  have hxi : A[i]? = some x := by rw [hx, List.getD_eq_getElem?_getD, List.getElem?_eq_getElem (by omega)]; rfl
  obtain ⟨y, hy⟩ : ∃ y, y = B.getD j [] := ⟨_, rfl⟩
  have hyi : B[j]? = some y := by rw [hy, List.getD_eq_getElem?_getD, List.getElem?_eq_getElem (by omega)]; rfl
  rw [← hx, ← hy] at hb
  obtain ⟨sx, hsx⟩ : ∃ sx, sx = S2.sum x := ⟨_, rfl⟩
  obtain ⟨sy, hsy⟩ : ∃ sy, sy = S2.sum y := ⟨_, rfl⟩
  rw [← hx, ← hy, ← hsx, ← hsy] at hs
  have HSX := Lib.hid (show ∀ (V : World) (F : Fr (fun _ => False) w V), Calls Tryd.prog 9 #[.string ⟨x.toArray⟩] V fun e w' => e = .returned (.string ⟨sx.toArray⟩) ∧ Fr (fun _ => False) V w' from fun V F => by rw [hsx]; exact rsum_str x (hAs x (List.mem_of_getElem? hxi)) V (hE.ext F))
  have HSY := Lib.hid (show ∀ (V : World) (F : Fr (fun _ => False) w V), Calls Tryd.prog 9 #[.string ⟨y.toArray⟩] V fun e w' => e = .returned (.string ⟨sy.toArray⟩) ∧ Fr (fun _ => False) V w' from fun V F => by rw [hsy]; exact rsum_str y (hBs y (List.mem_of_getElem? hyi)) V (hE.ext F))
  have H1 := Lib.hid (And.intro (hS.cell hxi) (hS2.cell hyi))
  have k1 : ∀ u : Wd w, u.w.cell? ⟨g, off + i, none⟩ = some (.string ⟨x.toArray⟩) := fun u => u.h.cellSome (p := ⟨g, off + i, none⟩) (fun h => h) H1.out.1
  have k2 : ∀ u : Wd w, u.w.cell? ⟨g2, off2 + j, none⟩ = some (.string ⟨y.toArray⟩) := fun u => u.h.cellSome (p := ⟨g2, off2 + j, none⟩) (fun h => h) H1.out.2
  have HW := Lib.hid (show wrap64 ((j : Int) + 1) = ((j + 1 : Nat) : Int) by rw [IntWalk.wrap64_in _ (by omega)]; omega)
  have HC := Lib.hid hC
  clear hC hS hS2 hAn hBn hA9 hB9 hAs hBs hE hx hxi hy hyi hsx hsy
  obtain ⟨f, hff, rfl⟩ := frame_open hn
  have e0 := hff 0 _ p0
  have e1 := hff 1 _ p1
  have e5 := hff 5 _ p5
  have e6 := hff 6 _ p6
  clear hff hn p0 p1 p5 p6
  rw [lit41, e0, e1, e5, e6]
  clear e0 e1 e5 e6
  conv => arg 2; whnf
  go_wp2_with fail
  refine wp_region_keep (by kernel_rfl) (by kernel_rfl) ?_
  repeat (any_goals (first | go_big_quiet_step ((go_at_call 9; first | with_reducible exact Calls.keep (HSX.out _ (Wd.h _)) | with_reducible exact Calls.keep (HSY.out _ (Wd.h _)))) | quiet_step ((go_at_call 9; first | with_reducible exact Calls.keep (HSX.out _ (Wd.h _)) | with_reducible exact Calls.keep (HSY.out _ (Wd.h _))))))
  refine wpQuiet_nil ?_
  intro _ hwz
  obtain ⟨u, rfl⟩ := hwz
  go_wp2_with fail
  exact HC.out _ _ (by first | rfl | simp) rfl rfl rfl (congrArg (fun z => some (Value.int .i64 z)) HW.out) u.h
set_option maxRecDepth 100000 in
set_option maxHeartbeats 6400000 in
theorem clash_hit {KK : Act → World → Prop} {Q : Exit → Act → World → Prop} {w : World} {a b : Option Addr} {na nb ca cb i j : Nat} {A B : List (List UInt8)} (hi : i < na) (hj : j < nb) (hA9 : na ≤ 1000) (hB9 : nb ≤ 1000) (hAn : A.length = na) (hBn : B.length = nb) (hAs : ∀ x ∈ A, x.length ≤ 1000000) (hBs : ∀ x ∈ B, x.length ≤ 1000000) (hS : Sv w a A) (hS2 : Sv w b B) (hE : REnv w) (hb : (A.getD i [] == B.getD j []) = false) (hs : (S2.sum (A.getD i []) == S2.sum (B.getD j [])) = true) (fr : Array Value) (hn : fr.size = 41) (p0 : fr[0]? = some (.slice a na ca)) (p1 : fr[1]? = some (.slice b nb cb)) (p5 : fr[5]? = some (.int .i64 (i : Int))) (p6 : fr[6]? = some (.int .i64 (j : Int)))
    (hC : ∀ t' w', t'.size = 41 → t'[4]? = some (.bool true) → Fr (fun _ => False) w w' → Q .ret ⟨t', []⟩ w') :
    Code.wp Tryd.prog (loopAt Tryd.f11 1) (Exit.then KK Q) ⟨fr, []⟩ w := by
  obtain ⟨g, off, rfl⟩ := hS.at (by omega)
  obtain ⟨g2, off2, rfl⟩ := hS2.at (by omega)
  have q1 : (i : Int) < (na : Int) := by omega
  have q4 : (0 : Int) ≤ (i : Int) := Int.natCast_nonneg i
  have q2 : (j : Int) < (nb : Int) := by omega
  have q5 : (0 : Int) ≤ (j : Int) := Int.natCast_nonneg j
  obtain ⟨x, hx⟩ : ∃ x, x = A.getD i [] := ⟨_, rfl⟩
  have hxi : A[i]? = some x := by rw [hx, List.getD_eq_getElem?_getD, List.getElem?_eq_getElem (by omega)]; rfl
  obtain ⟨y, hy⟩ : ∃ y, y = B.getD j [] := ⟨_, rfl⟩
  have hyi : B[j]? = some y := by rw [hy, List.getD_eq_getElem?_getD, List.getElem?_eq_getElem (by omega)]; rfl
  rw [← hx, ← hy] at hb
  obtain ⟨sx, hsx⟩ : ∃ sx, sx = S2.sum x := ⟨_, rfl⟩
  obtain ⟨sy, hsy⟩ : ∃ sy, sy = S2.sum y := ⟨_, rfl⟩
  rw [← hx, ← hy, ← hsx, ← hsy] at hs
  have HSX := Lib.hid (show ∀ (V : World) (F : Fr (fun _ => False) w V), Calls Tryd.prog 9 #[.string ⟨x.toArray⟩] V fun e w' => e = .returned (.string ⟨sx.toArray⟩) ∧ Fr (fun _ => False) V w' from fun V F => by rw [hsx]; exact rsum_str x (hAs x (List.mem_of_getElem? hxi)) V (hE.ext F))
  have HSY := Lib.hid (show ∀ (V : World) (F : Fr (fun _ => False) w V), Calls Tryd.prog 9 #[.string ⟨y.toArray⟩] V fun e w' => e = .returned (.string ⟨sy.toArray⟩) ∧ Fr (fun _ => False) V w' from fun V F => by rw [hsy]; exact rsum_str y (hBs y (List.mem_of_getElem? hyi)) V (hE.ext F))
  have H1 := Lib.hid (And.intro (hS.cell hxi) (hS2.cell hyi))
  have k1 : ∀ u : Wd w, u.w.cell? ⟨g, off + i, none⟩ = some (.string ⟨x.toArray⟩) := fun u => u.h.cellSome (p := ⟨g, off + i, none⟩) (fun h => h) H1.out.1
  have k2 : ∀ u : Wd w, u.w.cell? ⟨g2, off2 + j, none⟩ = some (.string ⟨y.toArray⟩) := fun u => u.h.cellSome (p := ⟨g2, off2 + j, none⟩) (fun h => h) H1.out.2
  have HW := Lib.hid (show wrap64 ((j : Int) + 1) = ((j + 1 : Nat) : Int) by rw [IntWalk.wrap64_in _ (by omega)]; omega)
  have HC := Lib.hid hC
  clear hC hS hS2 hAn hBn hA9 hB9 hAs hBs hE hx hxi hy hyi hsx hsy
  obtain ⟨f, hff, rfl⟩ := frame_open hn
  have e0 := hff 0 _ p0
  have e1 := hff 1 _ p1
  have e5 := hff 5 _ p5
  have e6 := hff 6 _ p6
  clear hff hn p0 p1 p5 p6
  rw [lit41, e0, e1, e5, e6]
  clear e0 e1 e5 e6
  conv => arg 2; whnf
  go_wp2_with fail
  refine wp_region_keep (by kernel_rfl) (by kernel_rfl) ?_
  repeat (any_goals (first | go_big_quiet_step ((go_at_call 9; first | with_reducible exact Calls.keep (HSX.out _ (Wd.h _)) | with_reducible exact Calls.keep (HSY.out _ (Wd.h _)))) | quiet_step ((go_at_call 9; first | with_reducible exact Calls.keep (HSX.out _ (Wd.h _)) | with_reducible exact Calls.keep (HSY.out _ (Wd.h _))))))
  refine wpQuiet_nil ?_
  intro _ hwz
  obtain ⟨u, rfl⟩ := hwz
  go_wp2_with fail
  exact HC.out _ _ (by first | rfl | simp) rfl u.h
set_option maxRecDepth 100000 in
set_option maxHeartbeats 6400000 in
theorem clash_jend {KK : Act → World → Prop} {Q : Exit → Act → World → Prop} {w : World} {a b : Option Addr} {na nb ca cb i : Nat} (fr : Array Value) (hn : fr.size = 41) (p0 : fr[0]? = some (.slice a na ca)) (p1 : fr[1]? = some (.slice b nb cb)) (p5 : fr[5]? = some (.int .i64 (i : Int))) (p6 : fr[6]? = some (.int .i64 (nb : Int)))
    (hQ : ∀ t', t'.size = 41 → t'[0]? = some (.slice a na ca) → t'[1]? = some (.slice b nb cb) → t'[5]? = some (.int .i64 (i : Int)) → Q (.exit 2) ⟨t', []⟩ w) :
    Code.wp Tryd.prog (loopAt Tryd.f11 1) (Exit.then KK Q) ⟨fr, []⟩ w := by
  have q2 : ¬ ((nb : Int) < (nb : Int)) := by omega
  have q2b : ¬ (nb < nb) := by omega
  have HK := Lib.hid hQ
  clear hQ
  obtain ⟨f, hff, rfl⟩ := frame_open hn
  have e0 := hff 0 _ p0
  have e1 := hff 1 _ p1
  have e5 := hff 5 _ p5
  have e6 := hff 6 _ p6
  clear hff hn p0 p1 p5 p6
  rw [lit41, e0, e1, e5, e6]
  clear e0 e1 e5 e6
  conv => arg 2; whnf
  go_wp2_with fail
  exact HK.out _ (by first | rfl | simp) rfl rfl rfl
set_option maxRecDepth 100000 in
set_option maxHeartbeats 6400000 in
theorem clash_iend {KK : Act → World → Prop} {Q : Exit → Act → World → Prop} {w : World} {a b : Option Addr} {na nb ca cb : Nat} (fr : Array Value) (hn : fr.size = 41) (p0 : fr[0]? = some (.slice a na ca)) (p1 : fr[1]? = some (.slice b nb cb)) (p5 : fr[5]? = some (.int .i64 (na : Int)))
    (hQ : ∀ t', t'.size = 41 → Q (.exit 0) ⟨t', []⟩ w) :
    Code.wp Tryd.prog (loopAt Tryd.f11 0) (Exit.then KK Q) ⟨fr, []⟩ w := by
  have q2 : ¬ ((na : Int) < (na : Int)) := by omega
  have q2b : ¬ (na < na) := by omega
  have HK := Lib.hid hQ
  clear hQ
  obtain ⟨f, hff, rfl⟩ := frame_open hn
  have e0 := hff 0 _ p0
  have e1 := hff 1 _ p1
  have e5 := hff 5 _ p5
  clear hff hn p0 p1 p5
  rw [lit41, e0, e1, e5]
  clear e0 e1 e5
  conv => arg 2; whnf
  go_wp2_with fail
  exact HK.out _ (by first | rfl | simp)
end Go.Proofs.YtndakfanlgilmaaDoor
namespace Go.Proofs.YtndakfanlgilmaaDoor
open Go.RowKit
set_option linter.unusedVariables false
set_option linter.unusedSimpArgs false
/-- What stands fast while two lists are looked through. -/
structure Cx (w0 : World) (a b : Option Addr) (na nb : Nat) (A B : List (List UInt8)) : Prop where
  a9 : na ≤ 1000
  b9 : nb ≤ 1000
  an : A.length = na
  bn : B.length = nb
  al : ∀ x ∈ A, x.length ≤ 1000000
  bl : ∀ x ∈ B, x.length ≤ 1000000
  sa : Sv w0 a A
  sb : Sv w0 b B
  re : REnv w0
set_option maxRecDepth 100000 in
set_option maxHeartbeats 6400000 in
theorem clash_jloop {Q : Exit → Act → World → Prop} {w0 w : World} {a b : Option Addr} {na nb ca cb i : Nat} {A B : List (List UInt8)} (X : Cx w0 a b na nb A B) (hi : i < na) (F0 : Fr (fun _ => False) w0 w) (fr : Array Value) (hn : fr.size = 41) (p0 : fr[0]? = some (.slice a na ca)) (p1 : fr[1]? = some (.slice b nb cb)) (p5 : fr[5]? = some (.int .i64 (i : Int))) (p6 : fr[6]? = some (.int .i64 (0 : Int)))
    (hQ : ∀ t' w', t'.size = 41 → t'[0]? = some (.slice a na ca) → t'[1]? = some (.slice b nb cb) → t'[5]? = some (.int .i64 (i : Int)) → (∀ j, j < nb → Cl.at A B i j = false) → Fr (fun _ => False) w0 w' → Q (.exit 2) ⟨t', []⟩ w')
    (hQ2 : ∀ t' w', t'.size = 41 → t'[4]? = some (.bool true) → Fr (fun _ => False) w0 w' → Q .ret ⟨t', []⟩ w') :
    Code.wp Tryd.prog (.loop (loopAt Tryd.f11 1)) Q ⟨fr, []⟩ w := by
  refine wp_loop_up nb (fun j t w' => t.size = 41 ∧ t[0]? = some (.slice a na ca) ∧ t[1]? = some (.slice b nb cb) ∧ t[5]? = some (.int .i64 (i : Int)) ∧ t[6]? = some (.int .i64 (j : Int)) ∧ (∀ k, k < j → Cl.at A B i k = false) ∧ Fr (fun _ => False) w0 w') fr w ⟨hn, p0, p1, p5, p6, fun k hk => absurd hk (Nat.not_lt_zero k), F0⟩ ?_
  rintro j t w1 hj ⟨hn1, p0, p1, p5, p6, hg1, F1⟩ KK hKK
  by_cases hlt : j < nb
  · have up : Cl.at A B i j = false → ∀ k, k < j + 1 → Cl.at A B i k = false := fun h k hk => by
      rcases Nat.lt_or_ge k j with h2 | h2
      · exact hg1 k h2
      · have : k = j := by omega
        rw [this]; exact h
    cases hb : A.getD i [] == B.getD j [] with
    | true => exact clash_eq hi hlt X.a9 X.b9 X.an X.bn X.al X.bl (X.sa.ext F1) (X.sb.ext F1) (X.re.ext F1) hb t hn1 p0 p1 p5 p6 (fun t' w' b0 b1 b2 b3 b4 b5 => hKK t' w' (by omega) ⟨b0, b1, b2, b3, b4, up (by unfold Cl.at; rw [hb]; rfl), F1.trans b5 (fun _ h => h.elim)⟩)
    | false =>
      cases hs : S2.sum (A.getD i []) == S2.sum (B.getD j []) with
      | false => exact clash_ne hi hlt X.a9 X.b9 X.an X.bn X.al X.bl (X.sa.ext F1) (X.sb.ext F1) (X.re.ext F1) hb hs t hn1 p0 p1 p5 p6 (fun t' w' b0 b1 b2 b3 b4 b5 => hKK t' w' (by omega) ⟨b0, b1, b2, b3, b4, up (by unfold Cl.at; rw [hb, hs]; rfl), F1.trans b5 (fun _ h => h.elim)⟩)
      | true => exact clash_hit hi hlt X.a9 X.b9 X.an X.bn X.al X.bl (X.sa.ext F1) (X.sb.ext F1) (X.re.ext F1) hb hs t hn1 p0 p1 p5 p6 (fun t' w' b0 b1 b2 => hQ2 t' w' b0 b1 (F1.trans b2 (fun _ h => h.elim)))
  · have : j = nb := by omega
    subst this
    exact clash_jend t hn1 p0 p1 p5 p6 (fun t' b0 b1 b2 b3 => hQ t' w1 b0 b1 b2 b3 hg1 F1)
set_option maxRecDepth 100000 in
set_option maxHeartbeats 6400000 in
theorem clash_iin {KK : Act → World → Prop} {Q : Exit → Act → World → Prop} {w0 w : World} {a b : Option Addr} {na nb ca cb i : Nat} {A B : List (List UInt8)} (X : Cx w0 a b na nb A B) (hi : i < na) (F0 : Fr (fun _ => False) w0 w) (fr : Array Value) (hn : fr.size = 41) (p0 : fr[0]? = some (.slice a na ca)) (p1 : fr[1]? = some (.slice b nb cb)) (p5 : fr[5]? = some (.int .i64 (i : Int)))
    (hC : ∀ t' w', t'.size = 41 → t'[0]? = some (.slice a na ca) → t'[1]? = some (.slice b nb cb) → t'[5]? = some (.int .i64 ((i + 1 : Nat) : Int)) → (∀ j, j < nb → Cl.at A B i j = false) → Fr (fun _ => False) w0 w' → KK ⟨t', []⟩ w')
    (hQ2 : ∀ t' w', t'.size = 41 → t'[4]? = some (.bool true) → Fr (fun _ => False) w0 w' → Q .ret ⟨t', []⟩ w') :
    Code.wp Tryd.prog (loopAt Tryd.f11 0) (Exit.then KK Q) ⟨fr, []⟩ w := by
  have q1 : (i : Int) < (na : Int) := by omega
  have q4 : (0 : Int) ≤ (i : Int) := Int.natCast_nonneg i
  have HW := Lib.hid (show wrap64 ((i : Int) + 1) = ((i + 1 : Nat) : Int) by have := X.a9; rw [IntWalk.wrap64_in _ (by omega)]; omega)
  have HC := Lib.hid hC
  have HC2 := Lib.hid hQ2
  have HX := Lib.hid X
  have HF := Lib.hid F0
  have HI := Lib.hid hi
  clear hC hQ2 X F0 hi
  obtain ⟨f, hff, rfl⟩ := frame_open hn
  have e0 := hff 0 _ p0
  have e1 := hff 1 _ p1
  have e5 := hff 5 _ p5
  clear hff hn p0 p1 p5
  rw [lit41, e0, e1, e5]
  clear e0 e1 e5
  conv => arg 2; whnf
  go_wp2_with fail
  refine clash_jloop (i := i) HX.out HI.out HF.out _ (by first | rfl | simp) rfl rfl rfl rfl ?_ ?_
  · intro t' w' hn p0 p1 p5 hno F
    have HN := Lib.hid (And.intro hno F)
    clear hno F q1
    obtain ⟨f, hff, rfl⟩ := frame_open hn
    have e0 := hff 0 _ p0
    have e1 := hff 1 _ p1
    have e5 := hff 5 _ p5
    clear hff hn p0 p1 p5
    rw [lit41, e0, e1, e5]
    clear e0 e1 e5
    go_wp2_with fail
    exact HC.out _ _ (by first | rfl | simp) rfl rfl (congrArg (fun z => some (Value.int .i64 z)) HW.out) HN.out.1 HN.out.2
  · intro t' w' hn p4 F
    exact HC2.out _ _ hn p4 F
set_option maxRecDepth 100000 in
set_option maxHeartbeats 6400000 in
theorem clash_any2 (a b : Option Addr) (na nb ca cb : Nat) (A B : List (List UInt8)) (i0 j0 : Nat) (hi0 : i0 < na) (hj0 : j0 < nb) (hcl : Cl.at A B i0 j0 = true) (w : World) (X : Cx w a b na nb A B) :
    Calls Tryd.prog 11 #[.slice a na ca, .slice b nb cb] w fun e w' => e = .returned (.bool true) ∧ Fr (fun _ => False) w w' := by
  have HX := Lib.hid X
  have HH := Lib.hid (And.intro hi0 (And.intro hj0 hcl))
  clear X hi0 hj0 hcl
  go_enter Tryd.func11, Tryd.ntmps11
  go_wp2_with fail
  refine wp_loop_up na (fun i t w' => t.size = 41 ∧ t[0]? = some (.slice a na ca) ∧ t[1]? = some (.slice b nb cb) ∧ t[5]? = some (.int .i64 (i : Int)) ∧ (∀ k, k < i → ∀ j, j < nb → Cl.at A B k j = false) ∧ Fr (fun _ => False) w w') _ w ⟨by first | rfl | simp, rfl, rfl, rfl, fun k hk => absurd hk (Nat.not_lt_zero k), Fr.refl _ _⟩ ?_
  rintro i t w1 hi ⟨hn1, p0, p1, p5, hg1, F1⟩ KK hKK
  by_cases hlt : i < na
  · refine clash_iin HX.out hlt F1 t hn1 p0 p1 p5 (fun t' w' b0 b1 b2 b3 b4 b5 => hKK t' w' (by omega) ⟨b0, b1, b2, b3, fun k hk => by
      rcases Nat.lt_or_ge k i with h2 | h2
      · exact hg1 k h2
      · have : k = i := by omega
        rw [this]; exact b4, b5⟩) ?_
    intro t' w' hn p4 F
    have HF := Lib.hid F
    clear F hKK F1 hg1
    obtain ⟨f, hff, rfl⟩ := frame_open hn
    have e4 := hff 4 _ p4
    clear hff hn p4
    rw [lit41, e4]
    clear e4
    go_wp2_with fail
    go_ret
    exact ⟨rfl, HF.out⟩
  · have : i = na := by omega
    subst this
    exact absurd (hg1 _ HH.out.1 _ HH.out.2.1) (by rw [HH.out.2.2]; decide)
end Go.Proofs.YtndakfanlgilmaaDoor
namespace Go.Proofs.YtndakfanlgilmaaDoor
open Go.RowKit
set_option linter.unusedVariables false
set_option linter.unusedSimpArgs false
set_option maxRecDepth 100000 in
theorem TX.upx {W : World} {Z Z2 : Nat} {v : Value} {Ts : List (List UInt8)} (h : TX W Z v Ts) (hz : Z2 ≤ Z) : TX W Z2 v Ts := by
  obtain ⟨vs, h1, h2⟩ := h
  exact ⟨vs, own_up h1 hz, fun i x hx => by obtain ⟨sv, h3, h4⟩ := h2 i x hx; exact ⟨sv, h3, h4.up hz⟩⟩
set_option maxRecDepth 100000 in
set_option maxHeartbeats 6400000 in
theorem one_clash {Q : Exit → Act → World → Prop} {w : World} {g3 g4 g5 m1 e1 m2 e2 Z : Nat} {d1 d2 : Option Addr} {key k1 v1 k2 v2 : List UInt8} {th1 th2 : Bool} {P1 P2 : List (List UInt8)} (hkb : w.heap[g3]? = some (.cells (krow key) 23 (0, 0))) (hb4 : w.heap[g4]? = some (.cells (pfRow (.slice d1 m1 e1) th1 k1 v1) 28 (0, 0))) (hb5 : w.heap[g5]? = some (.cells (pfRow (.slice d2 m2 e2) th2 k2 v2) 28 (0, 0))) (hO1 : Or32 w Z (.slice d1 m1 e1) P1) (hO2 : Or32 w Z (.slice d2 m2 e2) P2) (hA1 : Lg.All32 P1) (hA2 : Lg.All32 P2) (h19 : P1.length ≤ 260) (h29 : P2.length ≤ 260) (hkey : key.length = 32) (hk1 : k1.length = 32) (hv1 : v1.length = 32) (hk2 : k2.length = 32) (hv2 : v2.length = 32) (hR : REnv w) {i j : Nat} (hi : i < P1.length + 1) (hj : j < P2.length + 1) (hcl : Cl.at (Pf.txs key P1 (Pf.en th1 k1 v1) P1.length) (Pf.txs key P2 (Pf.en th2 k2 v2) P2.length) i j = true) (fr : Array Value) (hn : fr.size = 78) (p3 : fr[3]? = some (.pointer (some ⟨g3, 0, none⟩))) (p4 : fr[4]? = some (.pointer (some ⟨g4, 0, none⟩))) (p5 : fr[5]? = some (.pointer (some ⟨g5, 0, none⟩)))
    (hQ : ∀ t' w', t'.size = 78 → t'[6]? = some (.bool true) → Fr (fun _ => False) w w' → Q .normal ⟨t', []⟩ w') :
    Code.wp Tryd.prog (regionAt Tryd.f3 12) Q ⟨fr, []⟩ w := by
  obtain ⟨x1, y1, z1, K1, I1⟩ := or32_kv2 hO1 hA1
  obtain ⟨x2, y2, z2, K2, I2⟩ := or32_kv2 hO2 hA2
  subst x1
  subst x2
  have s3 : (Tryd.prog.info? 23).map (·.size) = some (krow key).size := by rw [krow_size, hkey]; kernel_rfl
  have s3' := sz32' hkey
  have t4 : (Tryd.prog.info? 28).map (·.size) = some (pfRow (.slice d1 P1.length e1) th1 k1 v1).size := by rw [pf_size hk1 hv1]; kernel_rfl
  have t5 : (Tryd.prog.info? 28).map (·.size) = some (pfRow (.slice d2 P2.length e2) th2 k2 v2).size := by rw [pf_size hk2 hv2]; kernel_rfl
  have HD1 := Lib.hid (fun (V : World) (F : Fr (fun _ => False) w V) => dtexts_any th1 key k1 v1 P1 d1 P1.length e1 rfl (by omega) hkey hk1 hv1 V (K1.ext F) (fun k hk => Nat.lt_of_lt_of_le (I1 k hk).2 F.size) (hR.ext F))
  have HD2 := Lib.hid (fun (V : World) (F : Fr (fun _ => False) w V) => dtexts_any th2 key k2 v2 P2 d2 P2.length e2 rfl (by omega) hkey hk2 hv2 V (K2.ext F) (fun k hk => Nat.lt_of_lt_of_le (I2 k hk).2 F.size) (hR.ext F))
  have hl1 : ∀ x ∈ (Pf.txs key P1 (Pf.en th1 k1 v1) P1.length), x.length ≤ 1000000 := fun x hx => Nat.le_trans (Pf.txs_le key hA1 (Pf.en_le th1 hk1 hv1) P1.length (Nat.le_refl _) x hx) (by omega)
  have hl2 : ∀ x ∈ (Pf.txs key P2 (Pf.en th2 k2 v2) P2.length), x.length ≤ 1000000 := fun x hx => Nat.le_trans (Pf.txs_le key hA2 (Pf.en_le th2 hk2 hv2) P2.length (Nat.le_refl _) x hx) (by omega)
  have hc1 : (Pf.txs key P1 (Pf.en th1 k1 v1) P1.length).length = P1.length + 1 := Pf.txs_len _ _ _ _
  have hc2 : (Pf.txs key P2 (Pf.en th2 k2 v2) P2.length).length = P2.length + 1 := Pf.txs_len _ _ _ _
  have HL := Lib.hid (And.intro hl1 (And.intro hl2 (And.intro hc1 hc2)))
  generalize (Pf.txs key P1 (Pf.en th1 k1 v1) P1.length) = T1 at *
  generalize (Pf.txs key P2 (Pf.en th2 k2 v2) P2.length) = T2 at *
  have HCL := Lib.hid (And.intro hi (And.intro hj (And.intro hcl (And.intro h19 h29))))
  have HB := Lib.hid (And.intro hkb (And.intro hb4 hb5))
  have HQ := Lib.hid hQ
  have HR := Lib.hid hR
  clear hQ hkb hb4 hb5 hO1 hO2 hA1 hA2 h19 h29 hkey hk1 hv1 hk2 hv2 hR hi hj hcl y1 z1 K1 I1 y2 z2 K2 I2 hl1 hl2 hc1 hc2
  obtain ⟨f, hff, rfl⟩ := frame_open hn
  have e3 := hff 3 _ p3
  have e4 := hff 4 _ p4
  have e5 := hff 5 _ p5
  clear hff hn p3 p4 p5
  rw [lit78, e3, e4, e5]
  clear e3 e4 e5
  conv => arg 2; whnf
  refine Ks.wp_region_mono (fun _ => False) (sg 0 2 ++ (sg 3 2 ++ ((2, true) :: ((5, true) :: ((6, true) :: (sg 7 1 ++ ([]))))))) (by kernel_rfl) (by kernel_rfl) ?_
  refine Ks.Wk.seg 0 2 (by kernel_rfl) (by kernel_rfl) ?_
  apply Exists.intro
  refine ⟨?wk0, ?fin0⟩
  case wk0 =>
    intro γ
    simp only [List.drop_succ_cons, List.drop_zero, List.take_succ_cons, List.take_zero]
    repeat (any_goals (first | (focus (go_big_quiet_want; (refine Ks.quiet_load_rows 23 (.tmp 3) rfl g3 rfl 23 (krow key) (0, 0) _ HB.out.1 (fun h => h) Tryd.underlying23 rfl s3 ?_); simp only [Act.put, List.setIfInBounds_toArray, List.set_cons_zero, List.set_cons_succ]; go_big_quiet_on)) | (focus (go_big_quiet_want; (refine Ks.quiet_load_rows 28 (.tmp 4) rfl g4 rfl 28 (pfRow (.slice d1 P1.length e1) th1 k1 v1) (0, 0) _ HB.out.2.1 (fun h => h) Tryd.underlying28 rfl t4 ?_); simp only [Act.put, List.setIfInBounds_toArray, List.set_cons_zero, List.set_cons_succ]; go_big_quiet_on)) | go_big_quiet_step (fail) | quiet_step (fail)))
    exact wpQuiet_nil rfl
  case fin0 =>
  (try simp only [Act.put, List.setIfInBounds_toArray, List.set_cons_zero, List.set_cons_succ])
  refine Ks.Wk.seg 3 2 (by kernel_rfl) (by kernel_rfl) ?_
  apply Exists.intro
  refine ⟨?wk1, ?fin1⟩
  case wk1 =>
    intro γ
    simp only [List.drop_succ_cons, List.drop_zero, List.take_succ_cons, List.take_zero]
    repeat (any_goals (first | (focus (go_big_quiet_want; (refine Ks.quiet_load_rows 23 (.tmp 3) rfl g3 rfl 23 (krow key) (0, 0) _ HB.out.1 (fun h => h) Tryd.underlying23 rfl s3 ?_); simp only [Act.put, List.setIfInBounds_toArray, List.set_cons_zero, List.set_cons_succ]; go_big_quiet_on)) | (focus (go_big_quiet_want; (refine Ks.quiet_load_rows 28 (.tmp 5) rfl g5 rfl 28 (pfRow (.slice d2 P2.length e2) th2 k2 v2) (0, 0) _ HB.out.2.2 (fun h => h) Tryd.underlying28 rfl t5 ?_); simp only [Act.put, List.setIfInBounds_toArray, List.set_cons_zero, List.set_cons_succ]; go_big_quiet_on)) | go_big_quiet_step (fail) | quiet_step (fail)))
    exact wpQuiet_nil rfl
  case fin1 =>
  (try simp only [Act.put, List.setIfInBounds_toArray, List.set_cons_zero, List.set_cons_succ])
  refine Ks.Wk.call rfl (by kernel_rfl) 12 #[.agg (krow key), .agg (pfRow (.slice d1 P1.length e1) th1 k1 v1)] (fun W => by first | kernel_rfl | rfl) (fun vv V => ∃ Z, Os V Z vv T1) (fun V hx => (HD1.out V hx).mono (fun e V' he => by obtain ⟨⟨u, e1, ho⟩, hf⟩ := he; exact ⟨u, e1, hf, _, ho⟩)) ?_
  rintro vv w2 X2 ⟨Z1, hO1⟩
  (try simp only [List.getElem_toArray, List.getElem_cons_succ, List.getElem_cons_zero, Act.put, List.setIfInBounds_toArray, List.set_cons_zero, List.set_cons_succ])
  obtain ⟨f1, h1, rfl, _, _, hS1, _⟩ := hO1.view
  refine Ks.Wk.call rfl (by kernel_rfl) 12 #[.agg (krow key), .agg (pfRow (.slice d2 P2.length e2) th2 k2 v2)] (fun W => by first | kernel_rfl | rfl) (fun vv V => ∃ Z, Os V Z vv T2) (fun V hx => (HD2.out V (X2.trans hx (fun _ h => h.elim))).mono (fun e V' he => by obtain ⟨⟨u, e1, ho⟩, hf⟩ := he; exact ⟨u, e1, hf, _, ho⟩)) ?_
  rintro vv w3 X3 ⟨Z2, hO2⟩
  (try simp only [List.getElem_toArray, List.getElem_cons_succ, List.getElem_cons_zero, Act.put, List.setIfInBounds_toArray, List.set_cons_zero, List.set_cons_succ])
  obtain ⟨f2, h2, rfl, _, _, hS2, _⟩ := hO2.view
  have X03 : Fr (fun _ => False) w w3 := X2.trans X3 (fun _ h => h.elim)
  refine Ks.Wk.call rfl (by kernel_rfl) 11 #[.slice f1 T1.length h1, .slice f2 T2.length h2] (fun W => by first | kernel_rfl | rfl) (fun vv V => vv = .bool true) (fun V hx => (clash_any2 f1 f2 T1.length T2.length h1 h2 T1 T2 i j (by rw [HL.out.2.2.1]; exact HCL.out.1) (by rw [HL.out.2.2.2]; exact HCL.out.2.1) HCL.out.2.2.1 V ⟨by rw [HL.out.2.2.1]; have := HCL.out.2.2.2.1; omega, by rw [HL.out.2.2.2]; have := HCL.out.2.2.2.2; omega, rfl, rfl, HL.out.1, HL.out.2.1, (hS1.ext X3).ext hx, hS2.ext hx, (HR.out.ext X03).ext hx⟩).mono (fun e V' he => ⟨_, he.1, he.2, rfl⟩)) ?_
  rintro vv w4 X4 rfl
  (try simp only [List.getElem_toArray, List.getElem_cons_succ, List.getElem_cons_zero, Act.put, List.setIfInBounds_toArray, List.set_cons_zero, List.set_cons_succ])
  refine Ks.Wk.seg 7 1 (by kernel_rfl) (by kernel_rfl) ?_
  apply Exists.intro
  refine ⟨?wk5, ?fin5⟩
  case wk5 =>
    intro γ
    simp only [List.drop_succ_cons, List.drop_zero, List.take_succ_cons, List.take_zero]
    repeat (any_goals (first | go_big_quiet_step (fail) | quiet_step (fail)))
    exact wpQuiet_nil rfl
  case fin5 =>
  (try simp only [Act.put, List.setIfInBounds_toArray, List.set_cons_zero, List.set_cons_succ])
  intro w9 X9
  exact HQ.out _ _ (by first | rfl | simp) rfl ((X03.trans X4 (fun _ h => h.elim)).trans X9 (fun _ h => h.elim))
set_option maxRecDepth 100000 in
set_option maxHeartbeats 6400000 in
theorem pone_any (key k1 v1 : List UInt8) (th1 : Bool) (R1 : List (List UInt8)) (a1 : Option Addr) (n1 c1 : Nat) (k2 v2 : List UInt8) (th2 : Bool) (R2 : List (List UInt8)) (a2 : Option Addr) (n2 c2 : Nat) (hkey : key.length = 32) (hk1 : k1.length = 32) (hv1 : v1.length = 32) (h1n : R1.length = n1) (h1c : n1 ≤ c1) (h1m : c1 ≤ maxLen) (hk2 : k2.length = 32) (hv2 : v2.length = 32) (h2n : R2.length = n2) (h2c : n2 ≤ c2) (h2m : c2 ≤ maxLen) (w : World) (hK1 : Kv w a1 R1) (hK2 : Kv w a2 R2) (hE : Env w) (hR : REnv w) :
    Calls Tryd.prog 3 #[.agg (krow key), .agg (pfRow (.slice a1 n1 c1) th1 k1 v1), .agg (pfRow (.slice a2 n2 c2) th2 k2 v2)] w fun e w' => e = .returned (.bool true) ∧ Fr (fun _ => False) w w' := by
  obtain ⟨q1, hC1⟩ := IsC.some k1 key
  obtain ⟨q2, hC2⟩ := IsC.some k2 key
  have s3 : (Tryd.prog.info? 23).map (·.size) = some (krow key).size := by rw [krow_size, hkey]; kernel_rfl
  have s4 : ∀ s : Value, (Tryd.prog.info? 28).map (·.size) = some (pfRow s th1 k1 v1).size := fun s => by rw [pf_size hk1 hv1]; kernel_rfl
  have s5 : ∀ s : Value, (Tryd.prog.info? 28).map (·.size) = some (pfRow s th2 k2 v2).size := fun s => by rw [pf_size hk2 hv2]; kernel_rfl
  have s4' := s4 (.slice a1 n1 c1)
  have s5' := s5 (.slice a2 n2 c2)
  have b3 := heap_three w (.cells (krow key) 23) (.cells (pfRow (.slice a1 n1 c1) th1 k1 v1) 28) (.cells (pfRow (.slice a2 n2 c2) th2 k2 v2) 28)
  have b4 := heap_three1 w (.cells (krow key) 23) (.cells (pfRow (.slice a1 n1 c1) th1 k1 v1) 28) (.cells (pfRow (.slice a2 n2 c2) th2 k2 v2) 28)
  have b5 := heap_three2 w (.cells (krow key) 23) (.cells (pfRow (.slice a1 n1 c1) th1 k1 v1) 28) (.cells (pfRow (.slice a2 n2 c2) th2 k2 v2) 28)
  have F0 := (((Fr.refl (fun _ => False) w).alloc (.cells (krow key) 23)).alloc (.cells (pfRow (.slice a1 n1 c1) th1 k1 v1) 28)).alloc (.cells (pfRow (.slice a2 n2 c2) th2 k2 v2) 28)
  have HSZ := Lib.hid (show (((w.alloc (.cells (krow key) 23)).alloc (.cells (pfRow (.slice a1 n1 c1) th1 k1 v1) 28)).alloc (.cells (pfRow (.slice a2 n2 c2) th2 k2 v2) 28)).heap.size = w.heap.size + 3 by simp)
  have HB := Lib.hid (And.intro b3 (And.intro b4 b5))
  have HF := Lib.hid F0
  have HT1 := Lib.hid (fun (V : World) (F : Fr (fun _ => False) w V) => tame_any a1 n1 c1 th1 k1 v1 R1 h1n h1c h1m hk1 hv1 V (hK1.ext F))
  have HT2 := Lib.hid (fun (V : World) (F : Fr (fun _ => False) w V) => tame_any a2 n2 c2 th2 k2 v2 R2 h2n h2c h2m hk2 hv2 V (hK2.ext F))
  have hA1 := (hK1.take 260).all
  have hA2 := (hK2.take 260).all
  have hl1 : (R1.take 260).length ≤ 260 := by rw [List.length_take]; omega
  have hl2 : (R2.take 260).length ≤ 260 := by rw [List.length_take]; omega
  generalize R1.take 260 = P1 at *
  generalize R2.take 260 = P2 at *
  have HA := Lib.hid (And.intro hA1 (And.intro hA2 (And.intro hl1 hl2)))
  have HN := Lib.hid (And.intro hkey (And.intro hk1 (And.intro hv1 (And.intro hk2 hv2))))
  have HC := Lib.hid (And.intro hC1 hC2)
  have HE := Lib.hid (And.intro hE hR)
  have HS4 := Lib.hid s4
  have HS5 := Lib.hid s5
  have HZ4 := Lib.hid (fun s s' : Value => show (pfRow s th1 k1 v1).size = (pfRow s' th1 k1 v1).size by rw [pf_size hk1 hv1, pf_size hk1 hv1])
  have HZ5 := Lib.hid (fun s s' : Value => show (pfRow s th2 k2 v2).size = (pfRow s' th2 k2 v2).size by rw [pf_size hk2 hv2, pf_size hk2 hv2])
  clear b3 b4 b5 F0 hK1 hK2 hA1 hA2 hl1 hl2 hkey hk1 hv1 hk2 hv2 hC1 hC2 hE hR h1n h1c h1m h2n h2c h2m s4 s5
  go_enter Tryd.func3, Tryd.ntmps3
  go_upto_region 1 with fail
  generalize (((w.alloc (.cells (krow key) 23)).alloc (.cells (pfRow (.slice a1 n1 c1) th1 k1 v1) 28)).alloc (.cells (pfRow (.slice a2 n2 c2) th2 k2 v2) 28)) = w1 at *
  obtain ⟨g3, hg3⟩ : ∃ x, x = w.heap.size := ⟨_, rfl⟩
  obtain ⟨g4, hg4⟩ : ∃ x, x = w.heap.size + 1 := ⟨_, rfl⟩
  obtain ⟨g5, hg5⟩ : ∃ x, x = w.heap.size + 1 + 1 := ⟨_, rfl⟩
  rw [← hg5, ← hg4, ← hg3]
  rw [← hg5, ← hg4, ← hg3] at HB
  have HG := Lib.hid (show w.heap.size = g3 ∧ g4 = g3 + 1 ∧ g5 = g3 + 2 ∧ w1.heap.size = g3 + 3 by have := HSZ.out; omega)
  clear hg3 hg4 hg5
  refine Kj.wp_region_mono (fun j b => (j = 4 ∧ b = g4) ∨ (j = 5 ∧ b = g5)) (sg 0 1 ++ (sg 2 1 ++ ((1, true) :: ((3, true) :: ((4, true) :: ((5, true) :: ([]))))))) (by kernel_rfl) (by kernel_rfl) ?_
  refine Kj.Wk.seg (fun _ => False) 0 1 (by kernel_rfl) (by kernel_rfl) (fun j b h => .inl (by rcases h with h | h <;> rw [h.1] <;> kernel_rfl)) ?_
  apply Exists.intro
  refine ⟨?wk0, ?fin0⟩
  case wk0 =>
    intro γ
    simp only [List.drop_succ_cons, List.drop_zero, List.take_succ_cons, List.take_zero]
    repeat (any_goals (first | (focus (go_big_quiet_want; (refine Ks.quiet_load_rows 28 (.tmp 4) rfl g4 rfl 28 (pfRow (.slice a1 n1 c1) th1 k1 v1) (0, 0) _ HB.out.2.1 (fun h => h) Tryd.underlying28 rfl s4' ?_); simp only [Act.put, List.setIfInBounds_toArray, List.set_cons_zero, List.set_cons_succ]; go_big_quiet_on)) | go_big_quiet_step (fail) | quiet_step (fail)))
    exact wpQuiet_nil rfl
  case fin0 =>
  (try simp only [Act.put, List.setIfInBounds_toArray, List.set_cons_zero, List.set_cons_succ])
  refine Kj.Wk.seg (fun b => b = g4) 2 1 (by kernel_rfl) (by kernel_rfl) (fun j b h => h.elim (fun h => .inr h.2) (fun h => .inl (by rw [h.1]; kernel_rfl))) ?_
  apply Exists.intro
  refine ⟨?wk1, ?fin1⟩
  case wk1 =>
    intro γ
    simp only [List.drop_succ_cons, List.drop_zero, List.take_succ_cons, List.take_zero]
    repeat (any_goals (first | (focus (go_big_quiet_want; (refine Ks.quiet_load_rows 28 (.tmp 5) rfl g5 rfl 28 (pfRow (.slice a2 n2 c2) th2 k2 v2) (0, 0) _ HB.out.2.2 (by have := HG.out; show ¬ g5 = g4; omega) Tryd.underlying28 rfl s5' ?_); simp only [Act.put, List.setIfInBounds_toArray, List.set_cons_zero, List.set_cons_succ]; go_big_quiet_on)) | go_big_quiet_step (fail) | quiet_step (fail)))
    exact wpQuiet_nil rfl
  case fin1 =>
  (try simp only [Act.put, List.setIfInBounds_toArray, List.set_cons_zero, List.set_cons_succ])
  refine Kj.Wk.call rfl (by kernel_rfl) 5 #[.agg (pfRow (.slice a1 n1 c1) th1 k1 v1)] (fun W => by first | kernel_rfl | rfl) (fun vv V => ∃ a' n' c', vv = .agg (pfRow (.slice a' n' c') th1 k1 v1) ∧ Or32 V w1.heap.size (.slice a' n' c') P1) (fun V hx => (HT1.out V (HF.out.trans (hx) (fun _ h => h.elim))).mono (fun e V' he => by obtain ⟨⟨a', n', c', e1, ho⟩, hf⟩ := he; exact ⟨_, e1, hf, a', n', c', rfl, own_up ho (hx).size⟩)) ?_
  rintro vv w2 X2 ⟨d1, m1, e1, rfl, hO1⟩
  (try simp only [List.getElem_toArray, List.getElem_cons_succ, List.getElem_cons_zero, Act.put, List.setIfInBounds_toArray, List.set_cons_zero, List.set_cons_succ])
  refine Kj.Wk.call rfl (by kernel_rfl) 5 #[.agg (pfRow (.slice a2 n2 c2) th2 k2 v2)] (fun W => by first | kernel_rfl | rfl) (fun vv V => ∃ a' n' c', vv = .agg (pfRow (.slice a' n' c') th2 k2 v2) ∧ Or32 V w1.heap.size (.slice a' n' c') P2) (fun V hx => (HT2.out V (HF.out.trans (X2.trans hx (fun _ h => h.elim)) (fun _ h => h.elim))).mono (fun e V' he => by obtain ⟨⟨a', n', c', e1, ho⟩, hf⟩ := he; exact ⟨_, e1, hf, a', n', c', rfl, own_up ho (X2.trans hx (fun _ h => h.elim)).size⟩)) ?_
  rintro vv w3 X3 ⟨d2, m2, e2, rfl, hO2⟩
  (try simp only [List.getElem_toArray, List.getElem_cons_succ, List.getElem_cons_zero, Act.put, List.setIfInBounds_toArray, List.set_cons_zero, List.set_cons_succ])
  refine Kj.Wk.one rfl (fun w4 Xw4 => ?_)
  have X14 := (X2.trans X3 (fun _ h => h.elim)).trans Xw4 (fun _ h => h.elim)
  have D4 := (X14.block _ (lt_of_block HB.out.2.1) (fun h => h)).trans HB.out.2.1
  refine wpList_store_rowA rfl 28 (.tmp 4) (.tmp 17) rfl g4 (pfRow (.slice d1 m1 e1) th1 k1 v1) rfl rfl 28 _ D4 (HS4.out _) (HZ4.out _ _) (pf_one _ rfl _ _ _) (fun w5 D5 F5 => ⟨rfl, F5.mono (fun b _ h => .inl ⟨rfl, h⟩), ?_⟩)
  (try simp only [List.getElem_toArray, List.getElem_cons_succ, List.getElem_cons_zero, Act.put, List.setIfInBounds_toArray, List.set_cons_zero, List.set_cons_succ])
  refine Kj.Wk.one rfl (fun w6 Xw6 => ?_)
  have E4 := (X14.block _ (lt_of_block HB.out.2.2) (fun h => h)).trans HB.out.2.2
  have E5 := (F5.block _ (lt_of_block E4) (by have := HG.out; show ¬ g5 = g4; omega)).trans E4
  have E6 := (Xw6.block _ (lt_of_block E5) (fun h => h)).trans E5
  refine wpList_store_rowA rfl 28 (.tmp 5) (.tmp 19) rfl g5 (pfRow (.slice d2 m2 e2) th2 k2 v2) rfl rfl 28 _ E6 (HS5.out _) (HZ5.out _ _) (pf_one _ rfl _ _ _) (fun w7 E7 F7 => ⟨rfl, F7.mono (fun b _ h => .inr ⟨rfl, h⟩), ?_⟩)
  (try simp only [List.getElem_toArray, List.getElem_cons_succ, List.getElem_cons_zero, Act.put, List.setIfInBounds_toArray, List.set_cons_zero, List.set_cons_succ])
  intro w8 X8
  have Y58 : Fr (fun b => b = g4 ∨ b = g5) w4 w8 := (((F5.mono (T := fun b => b = g4 ∨ b = g5) (fun _ _ h => .inl h)).trans Xw6 (fun _ h => h.elim)).trans F7 (fun b h => .inl (.inr h))).trans X8 (fun _ h => h.elim)
  have Y18 : Fr (fun b => b = g4 ∨ b = g5) w1 w8 := (X14.mono (T := fun b => b = g4 ∨ b = g5) (fun _ _ h => h.elim)).trans Y58 (fun b h => .inl h)
  have HF8 := Lib.hid (HF.out.trans Y18 (fun b h => .inr (by have := HG.out; rcases h with h | h <;> omega)))
  have HB8 := Lib.hid (show w8.heap[g3]? = _ ∧ w8.heap[g4]? = _ ∧ w8.heap[g5]? = _ from ⟨(Y18.block _ (lt_of_block HB.out.1) (by have := HG.out; rintro (h | h) <;> omega)).trans HB.out.1, (X8.block _ (lt_of_block ((F7.block _ (lt_of_block ((Xw6.block _ (lt_of_block D5) (fun h => h)).trans D5)) (by have := HG.out; show ¬ g4 = g5; omega)).trans ((Xw6.block _ (lt_of_block D5) (fun h => h)).trans D5))) (fun h => h)).trans ((F7.block _ (lt_of_block ((Xw6.block _ (lt_of_block D5) (fun h => h)).trans D5)) (by have := HG.out; show ¬ g4 = g5; omega)).trans ((Xw6.block _ (lt_of_block D5) (fun h => h)).trans D5)), (X8.block _ (lt_of_block E7) (fun h => h)).trans E7⟩)
  have HO1 := Lib.hid (own_fr (own_ext (own_ext hO1 X3) Xw4) Y58 (fun k hk e => by have := (ownsRow_lt hO1 k hk).1; have := HG.out; rcases e with e | e <;> omega))
  have HO2 := Lib.hid (own_fr (own_ext hO2 Xw4) Y58 (fun k hk e => by have := (ownsRow_lt hO2 k hk).1; have := HG.out; rcases e with e | e <;> omega))
  have HE8 := Lib.hid (And.intro (HE.out.1.ext HF8.out) (HE.out.2.ext HF8.out))
  obtain ⟨x1, y1, z1, K1, I1⟩ := or32_kv2 HO1.out HA.out.1
  obtain ⟨x2, y2, z2, K2, I2⟩ := or32_kv2 HO2.out HA.out.2.1
  have HK1 := Lib.hid (And.intro x1 (And.intro y1 (And.intro z1 (And.intro K1 I1))))
  have HK2 := Lib.hid (And.intro x2 (And.intro y2 (And.intro z2 (And.intro K2 I2))))
  have HM := Lib.hid (show m1 ≤ 1000 ∧ m2 ≤ 1000 by have := HA.out.2.2; omega)
  clear Y58 Y18 X8 F7 E7 E6 E5 E4 Xw6 F5 D5 D4 X14 Xw4 X2 X3 hO1 hO2 x1 y1 z1 K1 I1 x2 y2 z2 K2 I2
  have t4 := HS4.out (.slice d1 m1 e1)
  have t5 := HS5.out (.slice d2 m2 e2)
  clear s4' s5'
  go_wp2_with fail
  refine Ks.wp_region_mono (fun _ => False) (sg 0 2 ++ ((2, true) :: ((3, true) :: (sg 4 1 ++ ([]))))) (by kernel_rfl) (by kernel_rfl) ?_
  refine Ks.Wk.seg 0 2 (by kernel_rfl) (by kernel_rfl) ?_
  apply Exists.intro
  refine ⟨?wk0, ?fin0⟩
  case wk0 =>
    intro γ
    simp only [List.drop_succ_cons, List.drop_zero, List.take_succ_cons, List.take_zero]
    repeat (any_goals (first | (focus (go_big_quiet_want; (refine Ks.quiet_load_rows 23 (.tmp 3) rfl g3 rfl 23 (krow key) (0, 0) _ HB8.out.1 (fun h => h) Tryd.underlying23 rfl s3 ?_); simp only [Act.put, List.setIfInBounds_toArray, List.set_cons_zero, List.set_cons_succ]; go_big_quiet_on)) | (focus (go_big_quiet_want; (refine Ks.quiet_load_rows 28 (.tmp 4) rfl g4 rfl 28 (pfRow (.slice d1 m1 e1) th1 k1 v1) (0, 0) _ HB8.out.2.1 (fun h => h) Tryd.underlying28 rfl t4 ?_); simp only [Act.put, List.setIfInBounds_toArray, List.set_cons_zero, List.set_cons_succ]; go_big_quiet_on)) | go_big_quiet_step (fail) | quiet_step (fail)))
    exact wpQuiet_nil rfl
  case fin0 =>
  (try simp only [Act.put, List.setIfInBounds_toArray, List.set_cons_zero, List.set_cons_succ])
  refine Ks.Wk.call rfl (by kernel_rfl) 7 #[.agg (pfRow (.slice d1 m1 e1) th1 k1 v1)] (fun W => by first | kernel_rfl | rfl) (fun vv V => ∃ a' n' c', vv = .agg (pfRow (.slice a' n' c') th1 k1 v1) ∧ Or32 V w8.heap.size (.slice a' n' c') P1) (fun V hx => (to_any d1 m1 e1 th1 k1 v1 P1 HK1.out.1 HK1.out.2.1 HK1.out.2.2.1 HN.out.2.1 HN.out.2.2.1 HM.out.1 V (HK1.out.2.2.2.1.ext hx)).mono (fun e V' he => by obtain ⟨⟨a', n', c', e1, ho⟩, hf⟩ := he; exact ⟨_, e1, hf, a', n', c', rfl, own_up ho hx.size⟩)) ?_
  rintro vv w9 X9 ⟨a', n', c', rfl, hO9⟩
  (try simp only [List.getElem_toArray, List.getElem_cons_succ, List.getElem_cons_zero, Act.put, List.setIfInBounds_toArray, List.set_cons_zero, List.set_cons_succ])
  obtain ⟨x9, y9, z9, K9, I9⟩ := or32_kv2 hO9 HA.out.1
  refine Ks.Wk.call rfl (by kernel_rfl) 6 #[.agg (krow key), .agg (pfRow (.slice a' n' c') th1 k1 v1)] (fun W => by first | kernel_rfl | rfl) (fun vv V => TX V w8.heap.size vv (Pf.txs key P1 (Pf.en th1 k1 v1) P1.length)) (fun V hx => (ptexts_any key k1 v1 th1 P1 a' n' c' x9 (by have := HA.out.2.2.1; omega) y9 z9 HN.out.1 HN.out.2.1 HN.out.2.2.1 V (K9.ext hx) (fun k hk => Nat.lt_of_lt_of_le (I9 k hk).2 hx.size) ((HE8.out.1.ext X9).ext hx)).mono (fun e V' he => by obtain ⟨⟨u, e1, ho⟩, hf⟩ := he; rw [← x9] at ho; exact ⟨u, e1, hf, ho.upx (X9.trans hx (fun _ h => h.elim)).size⟩)) ?_
  rintro vv w10 X10 hT
  (try simp only [List.getElem_toArray, List.getElem_cons_succ, List.getElem_cons_zero, Act.put, List.setIfInBounds_toArray, List.set_cons_zero, List.set_cons_succ])
  obtain ⟨gv, cap, sa, sn, sc, rfl, hcell, hown, cv, fzv, hbl⟩ := hT.last (Pf.txs_len _ _ _ _)
  rw [Pf.txs_last] at hown
  refine Ks.Wk.seg 4 1 (by kernel_rfl) (by kernel_rfl) ?_
  apply Exists.intro
  refine ⟨?wk3, ?fin3⟩
  case wk3 =>
    intro γ
    simp only [List.drop_succ_cons, List.drop_zero, List.take_succ_cons, List.take_zero]
    repeat (any_goals (first | go_big_quiet_step (fail) | quiet_step (fail)))
    exact wpQuiet_nil rfl
  case fin3 =>
  (try simp only [Act.put, List.setIfInBounds_toArray, List.set_cons_zero, List.set_cons_succ])
  intro w11 X11
  have X811 : Fr (fun _ => False) w8 w11 := (X9.trans X10 (fun _ h => h.elim)).trans X11 (fun _ h => h.elim)
  have HF11 := Lib.hid (HF8.out.trans X811 (fun _ h => h.elim))
  have HX11 := Lib.hid X811
  have HL := Lib.hid (And.intro (X11.cellSome (p := ⟨gv, P1.length, none⟩) (fun h => h) hcell) (hown.ext X11))
  clear X811 X11 X10 X9 hT hO9 x9 y9 z9 K9 I9 hcell hown hbl
  go_wp2_with fail
  refine (proofs_any w11 (HE.out.1.ext HF11.out)).mono ?_
  rintro e w12 ⟨rfl, F12⟩
  have HF12 := Lib.hid (HF11.out.trans F12 (fun _ h => h.elim))
  have HX12 := Lib.hid (HX11.out.trans F12 (fun _ h => h.elim))
  have c5 := F12.cellSome (p := ⟨gv, P1.length, none⟩) (fun h => h) HL.out.1
  have HW := Lib.hid (HL.out.2.ext F12)
  have htl : (Pf.tx key P1 (Pf.en th1 k1 v1) P1.length).length ≤ 67 := Pf.tx_le key HA.out.1 (Pf.en_le th1 HN.out.2.1 HN.out.2.2.1) P1.length (Nat.le_refl _)
  obtain ⟨tt, htt⟩ : ∃ tt, tt = Pf.tx key P1 (Pf.en th1 k1 v1) P1.length := ⟨_, rfl⟩
  rw [← htt] at HW htl
  have HTT := Lib.hid htt
  have ck : (convert 39 9 (.slice sa sn sc)).run Tryd.prog w12 = .ok (.string ⟨tt.toArray⟩) w12 := HW.out.camex.str2
  have HRS := Lib.hid (show Calls Tryd.prog 9 #[.string ⟨tt.toArray⟩] w12 fun e w' => e = .returned (.string ⟨(S2.sum tt).toArray⟩) ∧ Fr (fun _ => False) w12 w' from rsum_str tt (by omega) w12 (HE.out.2.ext HF12.out))
  obtain ⟨p, hp⟩ : ∃ p, p = P1.length := ⟨_, rfl⟩
  rw [← hp] at c5
  rw [← hp]
  have q0 : (0 : Int) ≤ (p : Int) := Int.natCast_nonneg p
  have q6 : (p : Int) < (p : Int) + 1 := by omega
  have q5 : wrap64 (p : Int) = (p : Int) := IntWalk.wrap64_in _ (by have := HA.out.2.2.1; omega)
  have q1 : (p : Int) < ((p + 1 : Nat) : Int) := by omega
  have q7 : wrap64 (((p + 1 : Nat) : Int) - 1) = (p : Int) := by rw [IntWalk.wrap64_in _ (by have := HA.out.2.2.1; omega)]; omega
  clear F12 htl htt hp
  go_wp2_with fail
  refine HRS.out.mono ?_
  rintro e w13 ⟨rfl, F13⟩
  have HF13 := Lib.hid (HF12.out.trans F13 (fun _ h => h.elim))
  have HX13 := Lib.hid (HX12.out.trans F13 (fun _ h => h.elim))
  have hrl : (S2.sum tt).length = 32 := sum_length tt
  obtain ⟨rt, hrt⟩ : ∃ rt, rt = S2.sum tt := ⟨_, rfl⟩
  rw [← hrt] at hrl
  rw [← hrt]
  have HRT := Lib.hid hrt
  have HRL := Lib.hid hrl
  clear F13 hrt hrl c5 ck q0 q6 q5 q1 q7
  go_upto_region 8 with (focus (rw [zero32]; refine wpList_copy_strP rfl (.tmp 34) (.tmp 35) rfl w13.heap.size (ub 32 (fun _ => 0)) 22 rt HRL.out rfl rfl (heap_alloc_new _ _) (ub_size _ _) ?_; intro w14 B14 F14; simp only [Act.put, List.setIfInBounds_toArray, List.set_cons_zero, List.set_cons_succ]; refine Hid.out ?_))
  have F34 : Fr (fun _ => False) w13 w14 := ((Fr.refl (fun _ => False) w13).alloc _).trans F14 (fun k hk => .inr (by rw [hk]; exact Nat.le_refl _))
  have HF14 := Lib.hid (HF13.out.trans F34 (fun _ h => h.elim))
  have HX14 := Lib.hid (HX13.out.trans F34 (fun _ h => h.elim))
  have HB14 := Lib.hid B14
  generalize w13.heap.size = g9 at *
  clear F34 F14 B14
  refine Lib.hid ?_
  go_upto_region 8 with fail
  refine one_chk8 (g3 := g3) (g9 := g9) (gp := g4) (n := m1) (c := e1) (cc := q1) (Z := w1.heap.size) (a := d1) (key := key) (rt := rt) (k := k1) (v := v1) (th := th1) (P := P1) (v5 := .pointer (some ⟨g5, 0, none⟩)) ((HX14.out.block _ (lt_of_block HB8.out.1) (fun h => h)).trans HB8.out.1) HB14.out ((HX14.out.block _ (lt_of_block HB8.out.2.1) (fun h => h)).trans HB8.out.2.1) (own_ext HO1.out HX14.out) HA.out.1 HM.out.1 HN.out.1 HRL.out HN.out.2.1 HN.out.2.2.1 HC.out.1 (HE.out.1.ext HF14.out) _ (by first | rfl | simp) rfl rfl rfl rfl ?_
  intro t' w15 g10 hn' p3 p9 p4 p5 p10 p11 p12 B15 F15
  have HF15 := Lib.hid (HF14.out.trans F15 (fun _ h => h.elim))
  have HX15 := Lib.hid (HX14.out.trans F15 (fun _ h => h.elim))
  have HB15 := Lib.hid (And.intro ((F15.block _ (lt_of_block HB14.out) (fun h => h)).trans HB14.out) B15)
  clear B15 F15 HB14
  obtain ⟨f, hff, rfl⟩ := frame_open hn'
  have e3 := hff 3 _ p3
  have e4 := hff 4 _ p4
  have e5 := hff 5 _ p5
  have e9 := hff 9 _ p9
  have e10 := hff 10 _ p10
  have e11 := hff 11 _ p11
  have e12 := hff 12 _ p12
  clear hff hn' p3 p4 p5 p9 p10 p11 p12
  rw [lit78, e3, e4, e5, e9, e10, e11, e12]
  clear e3 e4 e5 e9 e10 e11 e12
  go_upto_region 9 with fail
  refine one_chk9 (g3 := g3) (g9 := g9) (gp := g5) (n := m2) (c := e2) (cc := q2) (Z := w1.heap.size) (a := d2) (key := key) (rt := rt) (k := k2) (v := v2) (th := th2) (P := P2) (v4 := .pointer (some ⟨g4, 0, none⟩)) (v10 := .pointer (some ⟨g10, 0, none⟩)) ((HX15.out.block _ (lt_of_block HB8.out.1) (fun h => h)).trans HB8.out.1) HB15.out.1 ((HX15.out.block _ (lt_of_block HB8.out.2.2) (fun h => h)).trans HB8.out.2.2) (own_ext HO2.out HX15.out) HA.out.2.1 HM.out.2 HN.out.1 HRL.out HN.out.2.2.2.1 HN.out.2.2.2.2 HC.out.2 (HE.out.1.ext HF15.out) _ (by first | rfl | simp) rfl rfl rfl rfl rfl rfl rfl ?_
  intro t' w16 g13 hn' p3 p9 p5 p4 p10 p11 p12 p13 p14 p15 B16 F16
  have HF16 := Lib.hid (HF15.out.trans F16 (fun _ h => h.elim))
  have HX16 := Lib.hid (HX15.out.trans F16 (fun _ h => h.elim))
  have HB16 := Lib.hid (And.intro ((F16.block _ (lt_of_block HB15.out.2) (fun h => h)).trans HB15.out.2) B16)
  clear B16 F16 HB15
  obtain ⟨f, hff, rfl⟩ := frame_open hn'
  have e3 := hff 3 _ p3
  have e4 := hff 4 _ p4
  have e5 := hff 5 _ p5
  have e10 := hff 10 _ p10
  have e11 := hff 11 _ p11
  have e12 := hff 12 _ p12
  have e13 := hff 13 _ p13
  have e14 := hff 14 _ p14
  have e15 := hff 15 _ p15
  clear hff hn' p3 p4 p5 p9 p10 p11 p12 p13 p14 p15
  rw [lit78, e3, e4, e5, e10, e11, e12, e13, e14, e15]
  clear e3 e4 e5 e10 e11 e12 e13 e14 e15
  have HCLASH := Lib.hid (show Pf.pass key rt P1 th1 k1 v1 q1 = true → Pf.pass key rt P2 th2 k2 v2 q2 = true → ¬ (Pf.val key th1 k1 v1 = Pf.val key th2 k2 v2 ∧ Pf.says key th1 k1 v1 = Pf.says key th2 k2 v2) → ∃ i j, i < P1.length + 1 ∧ j < P2.length + 1 ∧ Cl.at (Pf.txs key P1 (Pf.en th1 k1 v1) P1.length) (Pf.txs key P2 (Pf.en th2 k2 v2) P2.length) i j = true from fun h1 h2 h3 => by
    unfold Pf.pass at h1 h2
    simp only [Bool.and_eq_true, beq_iff_eq] at h1 h2
    obtain ⟨i, j, hi, hj, hne, heq⟩ := Pf.must (key := key) HA.out.1 HA.out.2.1 HN.out.2.1 HN.out.2.2.2.1 (h1.2.trans h2.2.symm) h3
    refine ⟨i, j, by omega, by omega, ?_⟩
    unfold Cl.at
    rw [Pf.txs_get _ _ _ hi, Pf.txs_get _ _ _ hj]
    simp [hne, heq])
  have hvl1 : (Pf.val key th1 k1 v1).length = 32 := Pf.val_len HN.out.2.2.1
  have hvl2 : (Pf.val key th2 k2 v2).length = 32 := Pf.val_len HN.out.2.2.2.2
  cases hp1 : Pf.pass key rt P1 th1 k1 v1 q1 with
  | false =>
    cases hp2 : Pf.pass key rt P2 th2 k2 v2 q2 <;> (go_wp2_with fail; go_ret; exact ⟨rfl, HF16.out⟩)
  | true =>
    cases hp2 : Pf.pass key rt P2 th2 k2 v2 q2 with
    | false =>
      go_wp2_with fail
      go_ret
      exact ⟨rfl, HF16.out⟩
    | true =>
      have hb := HB16.out
      rw [hp1, hp2] at hb
      have HB10 := Lib.hid (show w16.heap[g10]? = some (.cells (krow (Pf.val key th1 k1 v1)) 22 (0, 0)) from hb.1)
      have HB13 := Lib.hid (show w16.heap[g13]? = some (.cells (krow (Pf.val key th2 k2 v2)) 22 (0, 0)) from hb.2)
      clear hb
      have HCX := HCLASH.out hp1 hp2
      obtain ⟨va, hva⟩ : ∃ x, x = Pf.val key th1 k1 v1 := ⟨_, rfl⟩
      obtain ⟨vb, hvb⟩ : ∃ x, x = Pf.val key th2 k2 v2 := ⟨_, rfl⟩
      rw [← hva] at HB10 HCX hvl1
      rw [← hvb] at HB13 HCX hvl2
      have HVL := Lib.hid (And.intro hvl1 hvl2)
      have HCX2 := Lib.hid HCX
      clear HCX hva hvb
      by_cases heq : va = vb
      · have y0 : ∀ W : World, (binOp .eql 22 (.agg (krow va)) (.agg (krow vb))).run Tryd.prog W = .ok (.bool true) W := fun W => by rw [eql_row HVL.out.1 HVL.out.2, heq, beq_self_eq_true]
        clear heq
        cases hs1 : Pf.says key th1 k1 v1 <;> cases hs2 : Pf.says key th2 k2 v2
        · go_wp2_with (first | (focus ((refine wpList_guarded rfl ?_; refine wpList_load_row rfl 22 (.tmp 10) rfl g10 rfl 22 (krow va) (0, 0) _ HB10.out Tryd.underlying22 rfl (sz32' HVL.out.1) ?_); (try simp only [Act.put, List.setIfInBounds_toArray, List.set_cons_zero, List.set_cons_succ]))) | (focus ((refine wpList_guarded rfl ?_; refine wpList_load_row rfl 22 (.tmp 13) rfl g13 rfl 22 (krow vb) (0, 0) _ HB13.out Tryd.underlying22 rfl (sz32' HVL.out.2) ?_); (try simp only [Act.put, List.setIfInBounds_toArray, List.set_cons_zero, List.set_cons_succ]))))
          go_ret
          exact ⟨rfl, HF16.out⟩
        · have HC3 := Lib.hid (HCX2.out (fun h => by rw [hs1, hs2] at h; cases h.2))
          go_upto_region 12 with (first | (focus ((refine wpList_guarded rfl ?_; refine wpList_load_row rfl 22 (.tmp 10) rfl g10 rfl 22 (krow va) (0, 0) _ HB10.out Tryd.underlying22 rfl (sz32' HVL.out.1) ?_); (try simp only [Act.put, List.setIfInBounds_toArray, List.set_cons_zero, List.set_cons_succ]))) | (focus ((refine wpList_guarded rfl ?_; refine wpList_load_row rfl 22 (.tmp 13) rfl g13 rfl 22 (krow vb) (0, 0) _ HB13.out Tryd.underlying22 rfl (sz32' HVL.out.2) ?_); (try simp only [Act.put, List.setIfInBounds_toArray, List.set_cons_zero, List.set_cons_succ]))))
          obtain ⟨i, j, hi, hj, hcl⟩ := HC3.out
          refine one_clash (g3 := g3) (g4 := g4) (g5 := g5) (m1 := m1) (e1 := e1) (m2 := m2) (e2 := e2) (Z := w1.heap.size) (d1 := d1) (d2 := d2) ((HX16.out.block _ (lt_of_block HB8.out.1) (fun h => h)).trans HB8.out.1) ((HX16.out.block _ (lt_of_block HB8.out.2.1) (fun h => h)).trans HB8.out.2.1) ((HX16.out.block _ (lt_of_block HB8.out.2.2) (fun h => h)).trans HB8.out.2.2) (own_ext HO1.out HX16.out) (own_ext HO2.out HX16.out) HA.out.1 HA.out.2.1 HA.out.2.2.1 HA.out.2.2.2 HN.out.1 HN.out.2.1 HN.out.2.2.1 HN.out.2.2.2.1 HN.out.2.2.2.2 (HE.out.2.ext HF16.out) hi hj hcl _ (by first | rfl | simp) rfl rfl rfl ?_
          intro t' w17 hn' p6 F17
          have HX := Lib.hid (HF16.out.trans F17 (fun _ h => h.elim))
          obtain ⟨f, hff, rfl⟩ := frame_open hn'
          have e6 := hff 6 _ p6
          clear hff hn' p6 F17
          rw [lit78, e6]
          clear e6
          go_wp2_with fail
          go_ret
          exact ⟨rfl, HX.out⟩
        · have HC3 := Lib.hid (HCX2.out (fun h => by rw [hs1, hs2] at h; cases h.2))
          go_upto_region 12 with (first | (focus ((refine wpList_guarded rfl ?_; refine wpList_load_row rfl 22 (.tmp 10) rfl g10 rfl 22 (krow va) (0, 0) _ HB10.out Tryd.underlying22 rfl (sz32' HVL.out.1) ?_); (try simp only [Act.put, List.setIfInBounds_toArray, List.set_cons_zero, List.set_cons_succ]))) | (focus ((refine wpList_guarded rfl ?_; refine wpList_load_row rfl 22 (.tmp 13) rfl g13 rfl 22 (krow vb) (0, 0) _ HB13.out Tryd.underlying22 rfl (sz32' HVL.out.2) ?_); (try simp only [Act.put, List.setIfInBounds_toArray, List.set_cons_zero, List.set_cons_succ]))))
          obtain ⟨i, j, hi, hj, hcl⟩ := HC3.out
          refine one_clash (g3 := g3) (g4 := g4) (g5 := g5) (m1 := m1) (e1 := e1) (m2 := m2) (e2 := e2) (Z := w1.heap.size) (d1 := d1) (d2 := d2) ((HX16.out.block _ (lt_of_block HB8.out.1) (fun h => h)).trans HB8.out.1) ((HX16.out.block _ (lt_of_block HB8.out.2.1) (fun h => h)).trans HB8.out.2.1) ((HX16.out.block _ (lt_of_block HB8.out.2.2) (fun h => h)).trans HB8.out.2.2) (own_ext HO1.out HX16.out) (own_ext HO2.out HX16.out) HA.out.1 HA.out.2.1 HA.out.2.2.1 HA.out.2.2.2 HN.out.1 HN.out.2.1 HN.out.2.2.1 HN.out.2.2.2.1 HN.out.2.2.2.2 (HE.out.2.ext HF16.out) hi hj hcl _ (by first | rfl | simp) rfl rfl rfl ?_
          intro t' w17 hn' p6 F17
          have HX := Lib.hid (HF16.out.trans F17 (fun _ h => h.elim))
          obtain ⟨f, hff, rfl⟩ := frame_open hn'
          have e6 := hff 6 _ p6
          clear hff hn' p6 F17
          rw [lit78, e6]
          clear e6
          go_wp2_with fail
          go_ret
          exact ⟨rfl, HX.out⟩
        · go_wp2_with (first | (focus ((refine wpList_guarded rfl ?_; refine wpList_load_row rfl 22 (.tmp 10) rfl g10 rfl 22 (krow va) (0, 0) _ HB10.out Tryd.underlying22 rfl (sz32' HVL.out.1) ?_); (try simp only [Act.put, List.setIfInBounds_toArray, List.set_cons_zero, List.set_cons_succ]))) | (focus ((refine wpList_guarded rfl ?_; refine wpList_load_row rfl 22 (.tmp 13) rfl g13 rfl 22 (krow vb) (0, 0) _ HB13.out Tryd.underlying22 rfl (sz32' HVL.out.2) ?_); (try simp only [Act.put, List.setIfInBounds_toArray, List.set_cons_zero, List.set_cons_succ]))))
          go_ret
          exact ⟨rfl, HF16.out⟩
      · have y0 : ∀ W : World, (binOp .eql 22 (.agg (krow va)) (.agg (krow vb))).run Tryd.prog W = .ok (.bool false) W := fun W => by rw [eql_row HVL.out.1 HVL.out.2, beq_eq_false_iff_ne.2 heq]
        have HC3 := Lib.hid (HCX2.out (fun h => heq h.1))
        go_upto_region 12 with (first | (focus ((refine wpList_guarded rfl ?_; refine wpList_load_row rfl 22 (.tmp 10) rfl g10 rfl 22 (krow va) (0, 0) _ HB10.out Tryd.underlying22 rfl (sz32' HVL.out.1) ?_); (try simp only [Act.put, List.setIfInBounds_toArray, List.set_cons_zero, List.set_cons_succ]))) | (focus ((refine wpList_guarded rfl ?_; refine wpList_load_row rfl 22 (.tmp 13) rfl g13 rfl 22 (krow vb) (0, 0) _ HB13.out Tryd.underlying22 rfl (sz32' HVL.out.2) ?_); (try simp only [Act.put, List.setIfInBounds_toArray, List.set_cons_zero, List.set_cons_succ]))))
        obtain ⟨i, j, hi, hj, hcl⟩ := HC3.out
        refine one_clash (g3 := g3) (g4 := g4) (g5 := g5) (m1 := m1) (e1 := e1) (m2 := m2) (e2 := e2) (Z := w1.heap.size) (d1 := d1) (d2 := d2) ((HX16.out.block _ (lt_of_block HB8.out.1) (fun h => h)).trans HB8.out.1) ((HX16.out.block _ (lt_of_block HB8.out.2.1) (fun h => h)).trans HB8.out.2.1) ((HX16.out.block _ (lt_of_block HB8.out.2.2) (fun h => h)).trans HB8.out.2.2) (own_ext HO1.out HX16.out) (own_ext HO2.out HX16.out) HA.out.1 HA.out.2.1 HA.out.2.2.1 HA.out.2.2.2 HN.out.1 HN.out.2.1 HN.out.2.2.1 HN.out.2.2.2.1 HN.out.2.2.2.2 (HE.out.2.ext HF16.out) hi hj hcl _ (by first | rfl | simp) rfl rfl rfl ?_
        intro t' w17 hn' p6 F17
        have HX := Lib.hid (HF16.out.trans F17 (fun _ h => h.elim))
        obtain ⟨f, hff, rfl⟩ := frame_open hn'
        have e6 := hff 6 _ p6
        clear hff hn' p6 F17
        rw [lit78, e6]
        clear e6
        go_wp2_with fail
        go_ret
        exact ⟨rfl, HX.out⟩
end Go.Proofs.YtndakfanlgilmaaDoor
namespace Go.Proofs.YtndakfanlgilmaaDoor
open Go.ChangeShapes Go.WideShapes Go.ChangeAt Go.RowKit
set_option linter.unusedVariables false

section
variable {H : Type} {enc : TypeId × Value → H} {W : World} {base : Nat} {v : Value} {d : DataW H} {p : List MemPlace}
set_option maxRecDepth 100000 in
theorem cells_row32 {n : Nat} {cs : List Value} {y : DataW H × List MemPlace} (hf : DataW.trod enc Tryd.prog W 0 (fun _ => true) true n 22 cs = some y) : ∃ l : List UInt8, cs = bv l ∧ l.length = 32 := by
  have A : WideMaps.ArrKey Tryd.prog 22 5 32 := ⟨Tryd.underlying22, by kernel_rfl, by kernel_rfl, by kernel_rfl⟩
  have hce : Tryd.prog.cellsOf 5 = 1 := A.one
  have hct : Tryd.prog.cellsOf 22 = 32 := A.size
  cases n with
  | zero => simp [DataW.trod] at hf
  | succ fuel =>
    simp only [DataW.trod, A.hu, hce, hct, Nat.mul_one] at hf
    split at hf
    · rename_i hlen
      obtain ⟨xs, hm, hx⟩ := Option.map_eq_some_iff.1 hf
      have key : ∀ i, i < 32 → ∃ y : UInt8, cs[i]? = some (.int .u8 (y.toNat : Int)) := by
        intro i hi
        obtain ⟨b, hb, hf2⟩ := Lib.mapM_at hm i i (by simp [hi])
        obtain ⟨z, hc, _, hwf⟩ := DataW.trod_int Tryd.underlying5 hf2
        have hb8 := bounds_u8 hwf
        refine ⟨UInt8.ofNat z.toNat, ?_⟩
        have h2 : cs[i]? = some (.int .u8 z) := by
          have := congrArg (·[0]?) hc
          simpa [List.getElem?_take, List.getElem?_drop] using this
        rw [h2]
        congr 2
        have : (UInt8.ofNat z.toNat).toNat = z.toNat % 256 := rfl
        omega
      obtain ⟨f, hf⟩ : ∃ f : Nat → UInt8, ∀ j, j < 32 → cs[j]? = some (.int .u8 ((f j).toNat : Int)) := ⟨fun i => if h : i < 32 then Classical.choose (key i h) else 0, fun j hj => by
        simp only [dif_pos hj]; exact Classical.choose_spec (key j hj)⟩
      refine ⟨(List.range 32).map f, ?_, by simp⟩
      apply List.ext_getElem?
      intro j
      by_cases hj : j < 32
      · rw [hf j hj, bv_get]; simp [hj]
      · rw [List.getElem?_eq_none (by omega), List.getElem?_eq_none (by simp; omega)]
    · cases hf
set_option maxRecDepth 100000 in
theorem trod_struct6 {P : Program} {w : World} {b : Nat} {spare : Nat → Bool} {held : Bool} {t : TypeId} {f0 f1 f2 f3 f4 f5 : Field} {fuel : Nat} {cs : List Value} {x : DataW H × List MemPlace} (ht : P.underlying t = some (.struct #[f0, f1, f2, f3, f4, f5])) (h : DataW.trod enc P w b spare held fuel t cs = some x) :
    ∃ y0 y1 y2 y3 y4 y5 n, cs.length = P.cellsOf t ∧ DataW.trod enc P w b spare held n f0.type ((cs.drop f0.offset).take (P.cellsOf f0.type)) = some y0 ∧ DataW.trod enc P w b spare held n f1.type ((cs.drop f1.offset).take (P.cellsOf f1.type)) = some y1 ∧
      DataW.trod enc P w b spare held n f2.type ((cs.drop f2.offset).take (P.cellsOf f2.type)) = some y2 ∧ DataW.trod enc P w b spare held n f3.type ((cs.drop f3.offset).take (P.cellsOf f3.type)) = some y3 ∧
      DataW.trod enc P w b spare held n f4.type ((cs.drop f4.offset).take (P.cellsOf f4.type)) = some y4 ∧ DataW.trod enc P w b spare held n f5.type ((cs.drop f5.offset).take (P.cellsOf f5.type)) = some y5 := by
  obtain ⟨xs, n, _, rfl, hl, hlen, hf⟩ := DataW.trod_struct ht h
  match xs, hlen with
  | [y0, y1, y2, y3, y4, y5], _ => exact ⟨y0, y1, y2, y3, y4, y5, n, hl, by simpa using hf 0 f0 rfl, by simpa using hf 1 f1 rfl, by simpa using hf 2 f2 rfl, by simpa using hf 3 f3 rfl, by simpa using hf 4 f4 rfl, by simpa using hf 5 f5 rfl⟩
set_option maxRecDepth 100000 in
theorem cells_rows32 {n : Nat} {cs : List Value} {y : DataW H × List MemPlace} (hf : DataW.trod enc Tryd.prog W 0 (fun _ => true) true n 24 cs = some y) :
    ∃ a m c P, cs = [.slice a m c] ∧ P.length = m ∧ m ≤ c ∧ c ≤ maxLen ∧ Kv W a P := by
  have c32 : Tryd.prog.cellsOf 22 = 32 := by kernel_rfl
  rcases Deep.open_slice Tryd.underlying24 hf with ⟨hcs, hx⟩ | ⟨a, len, cap, m, n, D, Pl, hcs, hb, hl, hm, hmm, hx, hc⟩
  · exact ⟨none, 0, 0, [], hcs, rfl, Nat.le_refl _, Nat.zero_le _, Kv.nil _ _⟩
  · simp only [if_true] at hmm
    rw [c32] at hc
    have each : ∀ i, ∃ x : List UInt8, i < len → W.cells? 0 (a.add (i * 32)) 32 = some (bv x) ∧ x.length = 32 := fun i => by
      by_cases hi : i < len
      · obtain ⟨cs', h1, h2⟩ := hc i (by omega)
        obtain ⟨x, e, hk⟩ := cells_row32 h2
        exact ⟨x, fun _ => ⟨by rw [h1, e], hk⟩⟩
      · exact ⟨[], fun h => absurd h hi⟩
    obtain ⟨B, hB⟩ := Classical.axiomOfChoice each
    have hall : Lg.All32 ((List.range len).map B) := fun x hx => by
      obtain ⟨j, hj, rfl⟩ := List.mem_map.1 hx
      exact (hB j (by simpa using hj)).2
    refine ⟨some a, len, cap, (List.range len).map B, hcs, by simp, hl, hm, ?_, hall⟩
    by_cases h0 : len = 0
    · subst h0; exact Or.inl rfl
    · refine Or.inr ?_
      have hs0 := ((World.cells?_some (hB 0 (by omega)).1).2.2 0 (by decide)).trans (bv_get' _ 0 (by rw [(hB 0 (by omega)).2]; decide))
      obtain ⟨ab, ao, spot⟩ := a
      have hspot : spot = none := by simpa [Addr.add] using World.cell?_spot hs0
      subst hspot
      refine ⟨ab, ao, rfl, fun j hj => ?_⟩
      have hfl := hall.flat
      rw [hfl] at hj
      simp only [List.length_map, List.length_range] at hj
      have hq : j / 32 < len := by omega
      have hr : j % 32 < 32 := Nat.mod_lt _ (by decide)
      obtain ⟨h4, hx32⟩ := hB (j / 32) hq
      have hs := (World.cells?_some h4).2.2 (j % 32) hr
      have hat := hall.at (k := j / 32) (x := B (j / 32)) (by simp [hq]) (j % 32) hr
      rw [show j / 32 * 32 + j % 32 = j by omega] at hat
      rw [show (bv (B (j / 32)))[j % 32]? = some (.int .u8 ((B (j / 32))[j % 32]'(by omega)).toNat) from bv_get' _ _ (by omega)] at hs
      rw [List.getElem?_eq_getElem (by omega), List.getElem?_eq_getElem (by rw [hx32]; omega)] at hat
      rw [Option.some.inj hat]
      rw [Addr.add_mid, Addr.add_mid, Nat.add_assoc, show j / 32 * 32 + j % 32 = j by omega] at hs
      exact hs
/-- A claim's 68 cells. -/
def claimRow (i n : Int) (s : Value) (old root : List UInt8) (b : Value) : Array Value := (.int .i64 i :: .int .i64 n :: s :: (bv old ++ (bv root ++ [b]))).toArray
end
end Go.Proofs.YtndakfanlgilmaaDoor
namespace Go.Proofs.YtndakfanlgilmaaDoor
open Go.ChangeShapes Go.WideShapes Go.ChangeAt Go.RowKit
set_option linter.unusedVariables false
section
variable {H : Type} {enc : TypeId × Value → H} {W : World} {base : Nat} {v : Value} {d : DataW H} {p : List MemPlace}
set_option maxRecDepth 100000 in
theorem cells_rowK {n : Nat} {cs : List Value} {y : DataW H × List MemPlace} (hf : DataW.trod enc Tryd.prog W 0 (fun _ => true) true n 23 cs = some y) : ∃ l : List UInt8, cs = bv l ∧ l.length = 32 := by
  have A : WideMaps.ArrKey Tryd.prog 23 5 32 := ⟨Tryd.underlying23, by kernel_rfl, by kernel_rfl, by kernel_rfl⟩
  have hce : Tryd.prog.cellsOf 5 = 1 := A.one
  have hct : Tryd.prog.cellsOf 23 = 32 := A.size
  cases n with
  | zero => simp [DataW.trod] at hf
  | succ fuel =>
    simp only [DataW.trod, A.hu, hce, hct, Nat.mul_one] at hf
    split at hf
    · rename_i hlen
      obtain ⟨xs, hm, hx⟩ := Option.map_eq_some_iff.1 hf
      have key : ∀ i, i < 32 → ∃ y : UInt8, cs[i]? = some (.int .u8 (y.toNat : Int)) := by
        intro i hi
        obtain ⟨b, hb, hf2⟩ := Lib.mapM_at hm i i (by simp [hi])
        obtain ⟨z, hc, _, hwf⟩ := DataW.trod_int Tryd.underlying5 hf2
        have hb8 := bounds_u8 hwf
        refine ⟨UInt8.ofNat z.toNat, ?_⟩
        have h2 : cs[i]? = some (.int .u8 z) := by
          have := congrArg (·[0]?) hc
          simpa [List.getElem?_take, List.getElem?_drop] using this
        rw [h2]
        congr 2
        have : (UInt8.ofNat z.toNat).toNat = z.toNat % 256 := rfl
        omega
      obtain ⟨f, hf⟩ : ∃ f : Nat → UInt8, ∀ j, j < 32 → cs[j]? = some (.int .u8 ((f j).toNat : Int)) := ⟨fun i => if h : i < 32 then Classical.choose (key i h) else 0, fun j hj => by
        simp only [dif_pos hj]; exact Classical.choose_spec (key j hj)⟩
      refine ⟨(List.range 32).map f, ?_, by simp⟩
      apply List.ext_getElem?
      intro j
      by_cases hj : j < 32
      · rw [hf j hj, bv_get]; simp [hj]
      · rw [List.getElem?_eq_none (by omega), List.getElem?_eq_none (by simp; omega)]
    · cases hf
set_option maxRecDepth 100000 in
theorem trod_struct2q {P : Program} {w : World} {b : Nat} {spare : Nat → Bool} {held : Bool} {t : TypeId} {f0 f1 : Field} {fuel : Nat} {cs : List Value} {x : DataW H × List MemPlace} (ht : P.underlying t = some (.struct #[f0, f1])) (h : DataW.trod enc P w b spare held fuel t cs = some x) :
    ∃ y0 y1 n, cs.length = P.cellsOf t ∧ DataW.trod enc P w b spare held n f0.type ((cs.drop f0.offset).take (P.cellsOf f0.type)) = some y0 ∧ DataW.trod enc P w b spare held n f1.type ((cs.drop f1.offset).take (P.cellsOf f1.type)) = some y1 := by
  obtain ⟨xs, n, _, rfl, hl, hlen, hf⟩ := DataW.trod_struct ht h
  match xs, hlen with
  | [y0, y1], _ => exact ⟨y0, y1, n, hl, by simpa using hf 0 f0 rfl, by simpa using hf 1 f1 rfl⟩
set_option maxRecDepth 100000 in
theorem cat_rows {L : List Value} {a b : List UInt8} (hl : L.length = 64) (ea : (L.drop 0).take 32 = bv a) (eb : (L.drop 32).take 32 = bv b) : L = bv (a ++ b) := by
  have h32 : (L.drop 32).take 32 = L.drop 32 := List.take_of_length_le (by rw [List.length_drop]; omega)
  rw [bv_append, ← ea, ← eb, h32, List.drop_zero, List.take_append_drop]
set_option maxRecDepth 100000 in
theorem open_pkey (hval : Value.okWide Tryd.prog W .any base 23 v) (h1 : DataW.Trod enc Tryd.prog W 0 (fun _ => true) true 23 v d p) :
    ∃ l : List UInt8, v = .agg (krow l) ∧ l.length = 32 := by
  have hu : Tryd.prog.underlying 23 = some (.array 32 5) := by kernel_rfl
  obtain ⟨cs, rfl⟩ : ∃ cs, v = .agg cs := by
    simp only [Value.okWide, hu] at hval
    obtain ⟨cs, e, _⟩ := hval
    exact ⟨cs, e⟩
  obtain ⟨fuel, hf⟩ := h1
  obtain ⟨l, e, hl⟩ := cells_rowK hf
  refine ⟨l, ?_, hl⟩
  congr 1
  apply Array.toList_inj.1
  exact e
set_option maxRecDepth 100000 in
theorem cat_pf {L : List Value} {s : Value} {th : Bool} {a b : List UInt8} (hl : L.length = 66) (e0 : (L.drop 0).take 1 = [s]) (e1 : (L.drop 1).take 1 = [.bool th]) (e2 : (L.drop 2).take 64 = bv (a ++ b)) : L = s :: .bool th :: bv (a ++ b) := by
  have h64 : (L.drop 2).take 64 = L.drop 2 := List.take_of_length_le (by rw [List.length_drop]; omega)
  have f1 : (L.drop 1).take 1 ++ L.drop 2 = L.drop 1 := by
    have := List.take_append_drop 1 (L.drop 1); rwa [List.drop_drop] at this
  show L = [s] ++ ([.bool th] ++ bv (a ++ b))
  rw [← e0, ← e1, ← e2, h64, f1, List.drop_zero, List.take_append_drop]
set_option maxRecDepth 100000 in
theorem open_proof (hval : Value.okWide Tryd.prog W .any base 28 v) (h1 : DataW.Trod enc Tryd.prog W 0 (fun _ => true) true 28 v d p) :
    ∃ (k u : List UInt8) (th : Bool) (P : List (List UInt8)) (a : Option Addr) (m c : Nat), v = .agg (pfRow (.slice a m c) th k u) ∧ k.length = 32 ∧ u.length = 32 ∧ P.length = m ∧ m ≤ c ∧ c ≤ maxLen ∧ Kv W a P := by
  obtain ⟨cs, rfl, hsz⟩ := okWide_struct Tryd.underlying28 hval
  obtain ⟨fuel, hf⟩ := h1
  have hc : Tryd.prog.cellsOf 28 = 66 := by kernel_rfl
  rw [hc] at hsz
  obtain ⟨y0, y1, y2, n, hx, hlen, t0, t1, t2⟩ := Deep.trod_struct3 Tryd.underlying28 hf
  obtain ⟨a, m, c, P, e0, k0, k1, k2, k3⟩ := cells_rows32 t0
  obtain ⟨th, e1, _⟩ := DataW.trod_bool Tryd.underlying4 t1
  have c1 : Tryd.prog.cellsOf 24 = 1 := by kernel_rfl
  have cb : Tryd.prog.cellsOf 4 = 1 := by kernel_rfl
  have c32 : Tryd.prog.cellsOf 22 = 32 := by kernel_rfl
  have c64 : Tryd.prog.cellsOf 26 = 64 := by kernel_rfl
  have hl : cs.toList.length = 66 := by simpa using hsz
  simp only [c1, cb, c64] at e0 e1 t2
  have hl2 : ((cs.toList.drop 2).take 64).length = 64 := by rw [List.length_take, List.length_drop]; omega
  obtain ⟨z0, z1, n2, hlen2, u0, u1⟩ := trod_struct2q Tryd.underlying26 t2
  obtain ⟨k, ek, lk⟩ := cells_row32 u0
  obtain ⟨u, eu, lu⟩ := cells_row32 u1
  simp only [c32] at ek eu
  refine ⟨k, u, th, P, a, m, c, ?_, lk, lu, k0, k1, k2, k3⟩
  have e2 := cat_rows hl2 ek eu
  congr 1
  apply Array.toList_inj.1
  rw [cat_pf hl e0 e1 e2]
  simp [pfRow, leafRow]
end
end Go.Proofs.YtndakfanlgilmaaDoor

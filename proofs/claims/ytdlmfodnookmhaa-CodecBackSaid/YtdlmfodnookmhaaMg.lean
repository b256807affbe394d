/-
  Parts compared, and written in part; the reader's Flag and Sum.
-/
import Derived.Test.YtdlmfodnookmhaaMf
import Derived.Stop.BytesEq
import Derived.Laws.Cover3
namespace Go.Proofs.Ytdlmfodnookmhaa
open Go.RowKit
set_option linter.unusedVariables false
set_option linter.unusedSimpArgs false
theorem wpList_store_part {P : Program} {ops : Array Oper} {rest : List Oper} {o : Oper} {a : Act} {w : World} {Q : Exit → Act → World → Prop} (hgd : o.guard = none) (ty : TypeId) (x y : Operand) (ho : o.op = .store ty x y)
    (g off : Nat) (R : Array Value) (hx : a.eval x = .pointer (some ⟨g, off, none⟩)) (hy : a.eval y = .agg R) (hi : (P.info? ty).map (·.size) = some R.size) (h1 : R.all (·.oneCell') = true)
    (t : TypeId) (cs : Array Value) (hg : w.heap[g]? = some (.cells cs t (0, 0))) (hoff : off + R.size ≤ cs.size)
    (h : ∀ w2 : World, w2.heap[g]? = some (.cells (cs.toList.take off ++ R.toList ++ cs.toList.drop (off + R.size)).toArray t (0, 0)) → Fr (fun i => i = g) w w2 → wpList P ops Q rest (a.put o.dst undef) w2) : wpList P ops Q (o :: rest) a w := by
  refine wpList_plain hgd fun _ hK => ?_
  have hst := run_storeCells_at P g off t R.toList 0 cs w hg (by simpa using hoff) (fun v hv => (Array.all_eq_true_iff_forall_mem.1 h1) v (by simpa using hv))
  have key := h _ (setRow_heap w g cs (cs.toList.take off ++ R.toList ++ cs.toList.drop (off + R.size)).toArray t (0, 0) hg) (Fr.setRow' (S := fun i => i = g) (Fr.refl _ w) rfl _)
  simp only [Nat.add_zero, Array.length_toList] at hst
  cases hq : P.info? ty with
  | none => simp [hq] at hi
  | some i =>
    have hs : R.size = i.size := by simp [hq] at hi; omega
    unfold Oper.wp execOp
    simp only [ho, hx, hy, Instr.storeAt, Instr.sureAddr, Sem.run_bind, Sem.run_pure, Result.andThen_ok]
    have hrun : (storeVar ty ⟨g, off, none⟩ (.agg R)).run P w = .ok () (w.setRow g (cs.toList.take off ++ R.toList ++ cs.toList.drop (off + R.size)).toArray) := by
      simp [storeVar, sizeOf, typeInfo, hq, Value.cells, hs]
      simpa [hs] using hst
    rw [hrun]
    exact hK _ _ key

theorem part_one {P : Program} (w : World) (t : TypeId) (cs : Array Value) (off : Nat) (v : Value) (ha : ∀ w, (isAgg t).run P w = .ok false w) (h : cs[off]? = some v) : (part t cs off).run P w = .ok v w := by
  simp [part, ha, h]
theorem part_agg {P : Program} (w : World) (t : TypeId) (cs : Array Value) (off n : Nat) (R : Array Value) (ha : ∀ w, (isAgg t).run P w = .ok true w) (hs : ∀ w, (sizeOf t).run P w = .ok n w) (h : cs.extract off (off + n) = R) : (part t cs off).run P w = .ok (.agg R) w := by
  simp [part, ha, hs, h]
theorem pt_ext (k z : Int) (f : Nat → UInt8) (t : List UInt8) : (pt k z f t).extract 2 34 = ub 32 f := by
  have hu : (ub 32 f).toList.length = 32 := by rw [Array.length_toList, ub_size]
  apply Array.toList_inj.1
  rw [Array.toList_extract]
  unfold pt
  rw [Array.toList_append, Array.toList_append]
  generalize (ub 32 f).toList = L at *
  show ((Value.int .i64 k :: Value.int .i64 z :: (L ++ [Value.string ⟨t.toArray⟩])).drop 2).take (34 - 2) = L
  rw [List.drop_succ_cons, List.drop_succ_cons, List.drop_zero, show 34 - 2 = 32 from rfl, ← hu, List.take_left]
theorem ub_cells (f : Nat → UInt8) : ub 32 f = (((List.range 32).map f).map Extern.Stop.cell).toArray := by
  unfold ub
  rw [List.map_map]
  rfl
theorem sz1 : ∀ w : World, (sizeOf 5).run Try.prog w = .ok 1 w := by
  intro w2
  have : (Try.prog.info? 5).map (·.size) = some 1 := by kernel_rfl
  obtain ⟨i0, hi, hz⟩ := Option.map_eq_some_iff.1 this
  simp [sizeOf, typeInfo, hi, hz]
theorem sz32 : ∀ w : World, (sizeOf 32).run Try.prog w = .ok 32 w := by
  intro w2
  have : (Try.prog.info? 32).map (·.size) = some 32 := by kernel_rfl
  obtain ⟨i0, hi, hz⟩ := Option.map_eq_some_iff.1 this
  simp [sizeOf, typeInfo, hi, hz]
set_option maxRecDepth 100000 in
theorem neq_pt (k z : Int) (f : Nat → UInt8) (t : List UInt8) (w : World) : (binOp .neq 34 (.agg (pt k z f t)) (.agg (pt k z f t))).run Try.prog w = .ok (.bool false) w := by
  have hS : Try.prog.underlying 34 = some (.struct (Try.prog.fieldsOf 34)) := by kernel_rfl
  have hp : Try.prog.stoodInHeld 34 = false := by kernel_rfl
  have aI : ∀ w, (isAgg 3).run Try.prog w = .ok false w := fun w => by simp [isAgg, run_underlying Try.underlying3]
  have aS : ∀ w, (isAgg 9).run Try.prog w = .ok false w := fun w => by simp [isAgg, run_underlying Try.underlying9]
  have aR : ∀ w, (isAgg 32).run Try.prog w = .ok true w := fun w => by simp [isAgg, run_underlying Try.underlying32]
  have p0 := fun w => part_one w 3 _ 0 _ aI (pt_0 k z f t)
  have p1 := fun w => part_one w 3 _ 1 _ aI (pt_1 k z f t)
  have p2 := fun w => part_agg w 32 _ 2 32 _ aR sz32 (pt_ext k z f t)
  have p3 := fun w => part_one w 9 _ 34 _ aS (pt_34 k z f t)
  have q2 := fun w => run_equalIn_bytes (P := Try.prog) w 9997 32 5 32 Try.underlying32 Try.underlying5 sz1 ((List.range 32).map f) ((List.range 32).map f) (by simp) (by simp)
  rw [← ub_cells] at q2
  have q0 := fun (w : World) (a : Int) => run_equalIn_int (P := Try.prog) w 9998 3 .i64 _ a a Try.underlying3
  have q3 := fun (w : World) (a : ByteArray) => run_equalIn_string (P := Try.prog) w 9998 9 a a Try.underlying9
  rw [run_neq_struct, show (10000 : Nat) = 9999 + 1 from rfl, run_equalIn_agg w 9999 34 _ _ hS hp]
  generalize pt k z f t = S at *
  generalize ub 32 f = R at *
  simp only [Program.fieldsOf, Try.underlying34]
  simp only [show (9997 + 2 : Nat) = 9999 from rfl, show (9998 + 1 : Nat) = 9999 from rfl, beq_self_eq_true] at q0 q2 q3
  simp [Op.eqFields, p0, p1, p2, p3, q0, q2, q3]
set_option maxRecDepth 100000 in
set_option maxHeartbeats 800000 in
theorem flag_yes (br c g off : Nat) (b : UInt8) (hb : b.toNat ≤ 1) (l : List UInt8) (w : World) (h : Rd w br (some ⟨g, off, none⟩) c (b :: l) 0) :
    Calls Try.prog 26 #[.pointer (some ⟨br, 0, none⟩)] w fun e w' => e = .returned (.bool ((b.toNat : Int) == 1)) ∧ RdPost w w' br g (c - 1) l 0 := by
  have n1 : ¬ ((1 : Int) < (b.toNat : Int)) := by omega
  obtain ⟨y, hy⟩ : ∃ y, y = (b.toNat : Int) := ⟨_, rfl⟩
  rw [← hy] at n1 ⊢
  have HY := Lib.hid hy
  clear hy
  go_enter Try.func26, Try.ntmps26
  go_wp2_with fail
  refine (byte_yes br c g off b l w h).mono ?_
  rw [← HY.out]
  rintro e w1 ⟨rfl, hp⟩
  have HP := Lib.hid hp
  clear hp
  go_wp2_with fail
  go_ret
  exact ⟨rfl, HP.out⟩
theorem whole_put (cs R : Array Value) (h : cs.size ≤ R.size) : (cs.toList.take 0 ++ R.toList ++ cs.toList.drop (0 + R.size)).toArray = R := by
  apply Array.toList_inj.1
  simp
  omega
theorem zB : (#[.int .u8 0, .int .u8 0, .int .u8 0, .int .u8 0, .int .u8 0, .int .u8 0, .int .u8 0, .int .u8 0, .int .u8 0, .int .u8 0, .int .u8 0, .int .u8 0, .int .u8 0, .int .u8 0, .int .u8 0, .int .u8 0, .int .u8 0, .int .u8 0, .int .u8 0, .int .u8 0, .int .u8 0, .int .u8 0, .int .u8 0, .int .u8 0, .int .u8 0, .int .u8 0, .int .u8 0, .int .u8 0, .int .u8 0, .int .u8 0, .int .u8 0, .int .u8 0] : Array Value) = ub 32 (fun _ => 0) := rfl
set_option maxRecDepth 100000 in
set_option maxHeartbeats 800000 in
theorem rsum_ok (br c g off : Nat) (f : Nat → UInt8) (l : List UInt8) (w : World) (h : Rd w br (some ⟨g, off, none⟩) c ((List.range 32).map f ++ l) 0) :
    Calls Try.prog 28 #[.pointer (some ⟨br, 0, none⟩)] w fun e w' => e = .returned (.agg (ub 32 f)) ∧ RdPost w w' br g (c - 32) l 0 := by
  have hd : ((List.range 32).map f ++ l).drop 32 = l := List.drop_left' (by simp)
  have hc32 : 32 ≤ c := by have := h.le; simp at this; omega
  have HC := Lib.hid hc32
  have HD := Lib.hid hd
  have HH := Lib.hid h
  clear h hd hc32
  go_enter Try.func28, Try.ntmps28
  go_upto_region 1 with fail
  rw [zB]
  have K0 := (Kn.start w).new w.heap.size 32 (ub 32 (fun _ => 0)) 32 rfl (ub_size _ _)
  have H1 := Lib.hid (HH.out.fr K0.fr (fun h => h) (fun _ _ h => h))
  generalize w.alloc (.cells (ub 32 (fun _ => 0)) 32) = w1 at K0 H1 ⊢
  go_wp2_with fail
  refine (has_yes br c _ _ 32 w1 H1.out (by simp; omega)).mono ?_
  rintro e w2 ⟨rfl, rfl⟩
  go_wp2_with fail
  refine (take_any br c g off _ 0 32 32 rfl w1 H1.out (by simp)).mono ?_
  rw [HD.out]
  rintro e w2 ⟨rfl, o2, h2, F2⟩
  have hcell : ∀ i u, (ub 32 f)[i]? = some u → w2.cell? ⟨g, off + i, none⟩ = some u := fun i u hu => by
    have hi : i < 32 := by have := (Array.getElem?_eq_some_iff.1 hu).1; rwa [ub_size] at this
    rw [ub_get 32 f i hi] at hu
    cases hu
    rcases H1.out.lies with e | ⟨g', o', e, hc⟩
    · simp at e
    · cases e
      have := hc i (by simp; omega)
      rw [F2.cell (World.block_lt_of_cell? _ _ this) (fun e => H1.out.ne ⟨_, rfl, e⟩), this, List.getElem_append_left (by simpa using hi)]
      simp
  have hgg : g < w.heap.size := by
    rcases HH.out.lies with e | ⟨g', o', e, hc⟩
    · simp at e
    · cases e
      exact World.block_lt_of_cell? _ _ (hc 0 (by simp; omega))
  have HGG := Lib.hid hgg
  have HBR := Lib.hid (show br < w.heap.size from lt_of_block HH.out.blk)
  have HGS := Lib.hid (Nat.le_refl w.heap.size)
  clear hgg
  have HCELL := Lib.hid hcell
  have hk := K0.heap 0 rfl
  have hbr : br < w.heap.size := lt_of_block HH.out.blk
  have hk2 := (F2.block w.heap.size (lt_of_block hk) (by omega)).trans hk
  have HF2 := Lib.hid F2
  have HF1 := Lib.hid K0.fr
  have HR2 := Lib.hid h2
  clear hcell hk K0 F2 h2 H1 HH hbr
  obtain ⟨gs, hgs⟩ : ∃ gs, gs = w.heap.size := ⟨_, rfl⟩
  rw [← hgs] at hk2 HGG HBR ⊢
  have HGS2 := Lib.hid hgs
  clear HGS hgs
  have har := run_arrayAt (P := Try.prog) w2 32 5 32 (some ⟨g, off, none⟩) 32 c Try.underlying32 (Nat.le_refl _)
  go_wp2_with (first | (focus (((with_reducible refine' wpList_load_cells rfl 32 (.tmp 9) rfl g off rfl (ub 32 f) _ _ Try.underlying32 rfl szR _ _ _); (focus exact HCELL.out); (focus exact ub_size _ _)); try (simp only [Act.put, List.setIfInBounds_toArray, List.set_cons_zero, List.set_cons_succ]))) | (focus (((with_reducible refine' wpList_store_part rfl 32 (.tmp 2) (.tmp 10) rfl gs 0 (ub 32 f) rfl rfl _ (ub_one _ _) 32 _ hk2 _ _); (focus (rw [ub_size]; exact szR)); (focus (rw [ub_size, ub_size]; decide)); intro wz hz Fz; try (simp only [Act.put, List.setIfInBounds_toArray, List.set_cons_zero, List.set_cons_succ])))))
  rw [whole_put _ _ (by rw [ub_size, ub_size]; exact Nat.le_refl _)] at hz
  refine bodyPost_ret (results_cell_row rfl _ _ gs 32 _ (0, 0) _ rfl hz Try.underlying32 rfl (by rw [ub_size]; exact szR)) rfl ?_
  refine ⟨rfl, o2, HR2.out.fr Fz (fun e => by have := HBR.out; omega) (fun k hk e => ?_), ?_⟩
  · obtain ⟨ad, e1, e2⟩ := hk
    cases e1
    have := HGG.out
    simp at e2
    omega
  · exact ((HF1.out.mono (fun _ _ h => h.elim)).trans HF2.out (fun i hi => .inl hi)).trans Fz (fun i hi => .inr (by have := HGS2.out; omega))
end Go.Proofs.Ytdlmfodnookmhaa

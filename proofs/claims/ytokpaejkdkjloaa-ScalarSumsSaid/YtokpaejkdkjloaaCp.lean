/-
  The contracts of Clamp of packages scalar and custumalref06.
-/
import Derived.Test.YtokpaejkdkjloaaSb
import Derived.Test.YtokpaejkdkjloaaOw
import Derived.StillTailTactics
namespace Go.Proofs.Ytokpaejkdkjloaa
open Go.RowKit
set_option linter.unusedVariables false

def lowb (x : UInt8) : UInt8 := UInt8.ofNat (x.toNat - x.toNat % 8)
def topb (x : UInt8) : UInt8 := UInt8.ofNat (x.toNat % 64 + 64)
def midb (x : UInt8) : UInt8 := UInt8.ofNat (x.toNat % 128)
theorem low_nat (x : UInt8) : (lowb x).toNat = x.toNat - x.toNat % 8 := by have := x.toNat_lt; unfold lowb; rw [UInt8.toNat_ofNat']; omega
theorem top_nat (x : UInt8) : (topb x).toNat = x.toNat % 64 + 64 := by have := x.toNat_lt; unfold topb; rw [UInt8.toNat_ofNat']; omega
theorem mid_nat (x : UInt8) : (midb x).toNat = x.toNat % 128 := by have := x.toNat_lt; unfold midb; rw [UInt8.toNat_ofNat']; omega
theorem clamp_fin : ∀ x : Fin 256, bits .andNot .u8 (x.val : Int) 7 = ((x.val - x.val % 8 : Nat) : Int) ∧ bits .andNot .u8 (x.val : Int) 128 = ((x.val % 128 : Nat) : Int) ∧ bits .or .u8 ((x.val % 128 : Nat) : Int) 64 = ((x.val % 64 + 64 : Nat) : Int) := by decide +kernel
theorem clamp_bits (x : UInt8) : bits .andNot .u8 (x.toNat : Int) 7 = ((lowb x).toNat : Int) ∧ bits .andNot .u8 (x.toNat : Int) 128 = ((midb x).toNat : Int) ∧ bits .or .u8 ((midb x).toNat : Int) 64 = ((topb x).toNat : Int) := by
  rw [low_nat, mid_nat, top_nat]
  exact clamp_fin ⟨x.toNat, x.toNat_lt⟩
/-- A secret's bytes. -/
def clampl (l : List UInt8) : List UInt8 := (l.set 0 (lowb (l.getD 0 0))).set 31 (topb (l.getD 31 0))
theorem clampl_length (l : List UInt8) : (clampl l).length = l.length := by simp [clampl]
theorem bv_set (l : List UInt8) (i : Nat) (y : UInt8) : ((bv l).toArray).setIfInBounds i (.int .u8 (y.toNat : Int)) = (bv (l.set i y)).toArray := by
  simp [bv, List.map_set]
theorem z32_bv' : (#[.int .u8 0, .int .u8 0, .int .u8 0, .int .u8 0, .int .u8 0, .int .u8 0, .int .u8 0, .int .u8 0, .int .u8 0, .int .u8 0, .int .u8 0, .int .u8 0, .int .u8 0, .int .u8 0, .int .u8 0, .int .u8 0, .int .u8 0, .int .u8 0, .int .u8 0, .int .u8 0, .int .u8 0, .int .u8 0, .int .u8 0, .int .u8 0, .int .u8 0, .int .u8 0, .int .u8 0, .int .u8 0, .int .u8 0, .int .u8 0, .int .u8 0, .int .u8 0] : Array Value) = (bv (List.replicate 32 0)).toArray := by kernel_rfl

theorem gate_load {P : Program} {ops : Array Oper} {rest : List Oper} {o : Oper} {a : Act} {w : World} {Q : Exit → Act → World → Prop} (ty : TypeId) (x : Operand) (ho : o.op = .load ty x)
    (h : wpList P ops Q (o :: rest) a w) : wpList P ops Q (o :: rest) a w := h
set_option maxRecDepth 100000 in
set_option maxHeartbeats 1600000 in
theorem clamp_any (l : List UInt8) (hl : l.length = 32) (w : World) :
    Calls Try.prog 72 #[.agg (bv l).toArray] w fun e w' => e = .returned (.agg (bv (clampl l)).toArray) ∧ Fr (fun _ => False) w w' := by
  have B0 := heap_alloc2_old w (.cells (bv l).toArray 36) (.cells #[.int .u8 0, .int .u8 0, .int .u8 0, .int .u8 0, .int .u8 0, .int .u8 0, .int .u8 0, .int .u8 0, .int .u8 0, .int .u8 0, .int .u8 0, .int .u8 0, .int .u8 0, .int .u8 0, .int .u8 0, .int .u8 0, .int .u8 0, .int .u8 0, .int .u8 0, .int .u8 0, .int .u8 0, .int .u8 0, .int .u8 0, .int .u8 0, .int .u8 0, .int .u8 0, .int .u8 0, .int .u8 0, .int .u8 0, .int .u8 0, .int .u8 0, .int .u8 0] 36)
  have C0 := heap_alloc2_new w (.cells (bv l).toArray 36) (.cells #[.int .u8 0, .int .u8 0, .int .u8 0, .int .u8 0, .int .u8 0, .int .u8 0, .int .u8 0, .int .u8 0, .int .u8 0, .int .u8 0, .int .u8 0, .int .u8 0, .int .u8 0, .int .u8 0, .int .u8 0, .int .u8 0, .int .u8 0, .int .u8 0, .int .u8 0, .int .u8 0, .int .u8 0, .int .u8 0, .int .u8 0, .int .u8 0, .int .u8 0, .int .u8 0, .int .u8 0, .int .u8 0, .int .u8 0, .int .u8 0, .int .u8 0, .int .u8 0] 36)
  have F0 : Fr (fun _ => False) w ((w.alloc (.cells (bv l).toArray 36)).alloc (.cells #[.int .u8 0, .int .u8 0, .int .u8 0, .int .u8 0, .int .u8 0, .int .u8 0, .int .u8 0, .int .u8 0, .int .u8 0, .int .u8 0, .int .u8 0, .int .u8 0, .int .u8 0, .int .u8 0, .int .u8 0, .int .u8 0, .int .u8 0, .int .u8 0, .int .u8 0, .int .u8 0, .int .u8 0, .int .u8 0, .int .u8 0, .int .u8 0, .int .u8 0, .int .u8 0, .int .u8 0, .int .u8 0, .int .u8 0, .int .u8 0, .int .u8 0, .int .u8 0] 36)) := ((Fr.refl _ w).alloc _).alloc _
  have c0 := cell_of_block B0 0
  have c1 := cell_of_block B0 31
  have f0 := free_of_block B0 0
  have f1 := free_of_block B0 31
  rw [show ((bv l).toArray)[0]? = some (.int .u8 ((l.getD 0 0).toNat : Int)) by simp [bv_get, List.getD_eq_getElem?_getD, List.getElem?_eq_getElem (show 0 < l.length by omega)]] at c0
  rw [show ((bv l).toArray)[31]? = some (.int .u8 ((l.getD 31 0).toNat : Int)) by simp [bv_get, List.getD_eq_getElem?_getD, List.getElem?_eq_getElem (show 31 < l.length by omega)]] at c1
  obtain ⟨e0, _, _⟩ := clamp_bits (l.getD 0 0)
  obtain ⟨_, e1, e2⟩ := clamp_bits (l.getD 31 0)
  have hfin : clampl l = ((l.set 0 (lowb (l.getD 0 0))).set 31 (midb (l.getD 31 0))).set 31 (topb (l.getD 31 0)) := by unfold clampl; rw [List.set_set]
  generalize lowb (l.getD 0 0) = y0 at *
  generalize midb (l.getD 31 0) = t at *
  generalize topb (l.getD 31 0) = y1 at *
  generalize (l.getD 0 0).toNat = x0 at *
  generalize (l.getD 31 0).toNat = x1 at *
  have B3 : (((((w.alloc (.cells (bv l).toArray 36)).alloc (.cells #[.int .u8 0, .int .u8 0, .int .u8 0, .int .u8 0, .int .u8 0, .int .u8 0, .int .u8 0, .int .u8 0, .int .u8 0, .int .u8 0, .int .u8 0, .int .u8 0, .int .u8 0, .int .u8 0, .int .u8 0, .int .u8 0, .int .u8 0, .int .u8 0, .int .u8 0, .int .u8 0, .int .u8 0, .int .u8 0, .int .u8 0, .int .u8 0, .int .u8 0, .int .u8 0, .int .u8 0, .int .u8 0, .int .u8 0, .int .u8 0, .int .u8 0, .int .u8 0] 36)).setCell ⟨w.heap.size, 0, none⟩ (.int .u8 (y0.toNat : Int))).setCell ⟨w.heap.size, 31, none⟩ (.int .u8 (t.toNat : Int))).setCell ⟨w.heap.size, 31, none⟩ (.int .u8 (y1.toNat : Int))).heap[w.heap.size]? = some (.cells (bv (clampl l)).toArray 36 (0, 0)) := by
    rw [block_setCell (block_setCell (block_setCell B0 0 _) 31 _) 31 _, bv_set, bv_set, bv_set, hfin]
  have C3 : (((((w.alloc (.cells (bv l).toArray 36)).alloc (.cells #[.int .u8 0, .int .u8 0, .int .u8 0, .int .u8 0, .int .u8 0, .int .u8 0, .int .u8 0, .int .u8 0, .int .u8 0, .int .u8 0, .int .u8 0, .int .u8 0, .int .u8 0, .int .u8 0, .int .u8 0, .int .u8 0, .int .u8 0, .int .u8 0, .int .u8 0, .int .u8 0, .int .u8 0, .int .u8 0, .int .u8 0, .int .u8 0, .int .u8 0, .int .u8 0, .int .u8 0, .int .u8 0, .int .u8 0, .int .u8 0, .int .u8 0, .int .u8 0] 36)).setCell ⟨w.heap.size, 0, none⟩ (.int .u8 (y0.toNat : Int))).setCell ⟨w.heap.size, 31, none⟩ (.int .u8 (t.toNat : Int))).setCell ⟨w.heap.size, 31, none⟩ (.int .u8 (y1.toNat : Int))).heap[w.heap.size + 1]? = some (.cells #[.int .u8 0, .int .u8 0, .int .u8 0, .int .u8 0, .int .u8 0, .int .u8 0, .int .u8 0, .int .u8 0, .int .u8 0, .int .u8 0, .int .u8 0, .int .u8 0, .int .u8 0, .int .u8 0, .int .u8 0, .int .u8 0, .int .u8 0, .int .u8 0, .int .u8 0, .int .u8 0, .int .u8 0, .int .u8 0, .int .u8 0, .int .u8 0, .int .u8 0, .int .u8 0, .int .u8 0, .int .u8 0, .int .u8 0, .int .u8 0, .int .u8 0, .int .u8 0] 36 (0, 0)) := by
    rw [Below.heap_setCell _ _ _ _ (by simp), Below.heap_setCell _ _ _ _ (by simp), Below.heap_setCell _ _ _ _ (by simp)]; exact C0
  have F3 : Fr (fun _ => False) w (((((w.alloc (.cells (bv l).toArray 36)).alloc (.cells #[.int .u8 0, .int .u8 0, .int .u8 0, .int .u8 0, .int .u8 0, .int .u8 0, .int .u8 0, .int .u8 0, .int .u8 0, .int .u8 0, .int .u8 0, .int .u8 0, .int .u8 0, .int .u8 0, .int .u8 0, .int .u8 0, .int .u8 0, .int .u8 0, .int .u8 0, .int .u8 0, .int .u8 0, .int .u8 0, .int .u8 0, .int .u8 0, .int .u8 0, .int .u8 0, .int .u8 0, .int .u8 0, .int .u8 0, .int .u8 0, .int .u8 0, .int .u8 0] 36)).setCell ⟨w.heap.size, 0, none⟩ (.int .u8 (y0.toNat : Int))).setCell ⟨w.heap.size, 31, none⟩ (.int .u8 (t.toNat : Int))).setCell ⟨w.heap.size, 31, none⟩ (.int .u8 (y1.toNat : Int))) := ((F0.setCell (Or.inr (by simp)) _).setCell (Or.inr (by simp)) _).setCell (Or.inr (by simp)) _
  have hl2 : (clampl l).length = 32 := by rw [clampl_length]; exact hl
  have s3 := Try.sizeB32 (clampl l) hl2
  have s1 : (#[.int .u8 0, .int .u8 0, .int .u8 0, .int .u8 0, .int .u8 0, .int .u8 0, .int .u8 0, .int .u8 0, .int .u8 0, .int .u8 0, .int .u8 0, .int .u8 0, .int .u8 0, .int .u8 0, .int .u8 0, .int .u8 0, .int .u8 0, .int .u8 0, .int .u8 0, .int .u8 0, .int .u8 0, .int .u8 0, .int .u8 0, .int .u8 0, .int .u8 0, .int .u8 0, .int .u8 0, .int .u8 0, .int .u8 0, .int .u8 0, .int .u8 0, .int .u8 0] : Array Value).size = ((bv (clampl l)).toArray).size := by rw [bytes_size _ hl2]; rfl
  have s2 := bv_oneA (clampl l)
  generalize (bv (clampl l)).toArray = RR at *
  clear hfin hl2 hl B0 C0 F0
  go_enter Try.func72, Try.ntmps72
  have GATE : True := trivial
  go_wp2_with (first
    | (with_reducible refine gate_load 5 (.tmp 3) rfl ?_; clear GATE; generalize ((w.alloc (.cells (bv l).toArray 36)).alloc (.cells #[.int .u8 0, .int .u8 0, .int .u8 0, .int .u8 0, .int .u8 0, .int .u8 0, .int .u8 0, .int .u8 0, .int .u8 0, .int .u8 0, .int .u8 0, .int .u8 0, .int .u8 0, .int .u8 0, .int .u8 0, .int .u8 0, .int .u8 0, .int .u8 0, .int .u8 0, .int .u8 0, .int .u8 0, .int .u8 0, .int .u8 0, .int .u8 0, .int .u8 0, .int .u8 0, .int .u8 0, .int .u8 0, .int .u8 0, .int .u8 0, .int .u8 0, .int .u8 0] 36)) = W at *)
    | (with_reducible refine wpList_load_row rfl 36 (.tmp 1) rfl w.heap.size rfl 36 RR (0, 0) _ B3 Try.underlying36 rfl s3 ?_)
    | (with_reducible refine wpList_store_row rfl 36 (.tmp 2) (.tmp 15) rfl (w.heap.size + 1) RR rfl rfl 36 _ C3 s3 s1 s2 ?_))
  refine bodyPost_ret (results_cell_row rfl _ _ (w.heap.size + 1) 36 RR (0, 0) _ rfl (setRow_heap _ _ _ _ _ _ C3) Try.underlying36 rfl s3) rfl ?_
  exact ⟨rfl, F3.trans (Fr.setRow (S := fun k => k = w.heap.size + 1) (Fr.refl _ _) rfl _) (fun i hi => Or.inr (by omega))⟩

theorem Lies.setB {w : World} {g : Nat} {l : List UInt8} (h : Lies w (some ⟨g, 0, none⟩) l) (q : Nat) (b : UInt8) (hq : q < l.length) : Lies (w.setCell ⟨g, q, none⟩ (.int .u8 (b.toNat : Int))) (some ⟨g, 0, none⟩) (l.set q b) := by
  obtain ⟨g2, o, e, hc⟩ := h.resolve_left (fun e => by rw [e] at hq; simp at hq)
  cases e
  refine Or.inr ⟨g, 0, rfl, fun j hj => ?_⟩
  rw [List.length_set] at hj
  rw [Nat.zero_add]
  have h1 := hc j hj
  rw [Nat.zero_add] at h1
  by_cases e : q = j
  · subst e
    rw [World.cell?_setCell_same _ _ _ h1]
    simp
  · rw [World.cell?_setCell_other _ _ _ _ (by intro e2; cases e2; exact e rfl), h1]
    simp [e]
set_option maxRecDepth 100000 in
set_option maxHeartbeats 1600000 in
theorem rclamp_any (l : List UInt8) (hl : l.length = 32) (w : World) :
    Calls Try.prog 73 #[.string ⟨l.toArray⟩] w fun e w' => e = .returned (.string ⟨(clampl l).toArray⟩) ∧ Fr (fun _ => False) w w' := by
  have hsz : (⟨l.toArray⟩ : ByteArray).size = 32 := by show l.toArray.size = _; simpa using hl
  have kc := fun w : World => Lib.run_convert_string_bytes (P := Try.prog) w 9 40 5 ⟨l.toArray⟩ Try.underlying9 Try.underlying40 Try.underlying5
  have own := own_str w ⟨l.toArray⟩ w.heap.size (Nat.le_refl _) (by omega)
  have F0 := own_str_fr w ⟨l.toArray⟩
  have hsb : sb ⟨l.toArray⟩ = l := by simp [sb]
  rw [hsz, hsb] at own
  have L0 := own.lies.2.2.2
  have fz : ∀ j, j < 32 → (Lib.bytesWorld w 5 ⟨l.toArray⟩).frozen? ⟨w.heap.size, j, none⟩ = false := by
    intro j hj
    rcases own with ⟨e, h0⟩ | ⟨g, cap, cur, fz, e, h1, hg, hfz, _⟩
    · rw [h0] at hl; simp at hl
    · injection e with e1 e2 e3
      injection e1 with e4
      injection e4 with e5
      subst e5
      rcases hfz with e | e
      · subst e; simp [World.frozen?, hg]
      · simp [World.frozen?, hg]; omega
  go_enter Try.func73, Try.ntmps73
  go_wp2_with fail
  clear own hsb kc
  have hl0 : 0 < l.length := by omega
  have hl31 : 31 < l.length := by omega
  have hc := (L0.resolve_left (fun e => by rw [e] at hl; simp at hl))
  obtain ⟨g2, o2, eg, hc⟩ := hc
  injection eg with e1; injection e1 with e2 e3; subst e2 e3
  have c0 := hc 0 hl0
  have c31 := hc 31 hl31
  rw [Nat.zero_add] at c0 c31
  have f0 := fz 0 (by omega)
  have f31 := fz 31 (by omega)
  generalize hW : Lib.bytesWorld w 5 ⟨l.toArray⟩ = W at *
  generalize hT : w.heap.size = T at *
  clear hc
  have hv0 : IntKind.u8.wrap (((l[0].toNat : Nat) : Int) - (((l[0].toNat : Nat) : Int)).tmod 8) = ((lowb l[0]).toNat : Int) := by
    have := l[0].toNat_lt
    rw [low_nat, Int.tmod_eq_emod_of_nonneg (by omega)]
    rw [IntKind.wrap_u8]
    omega
  have hv31 : IntKind.u8.wrap ((((l[31].toNat : Nat) : Int)).tmod 64 + 64) = ((topb l[31]).toNat : Int) := by
    have := l[31].toNat_lt
    rw [top_nat, Int.tmod_eq_emod_of_nonneg (by omega)]
    rw [IntKind.wrap_u8]
    omega
  have hcl : clampl l = (l.set 0 (lowb l[0])).set 31 (topb l[31]) := by
    unfold clampl
    rw [List.getD_eq_getElem?_getD, List.getD_eq_getElem?_getD, List.getElem?_eq_getElem hl0, List.getElem?_eq_getElem hl31]
    rfl
  generalize l[0] = x0 at *
  generalize l[31] = x31 at *
  have L1 : Lies ((W.drew).setCell ⟨T, 0, none⟩ (.int .u8 ((lowb x0).toNat : Int))) (some ⟨T, 0, none⟩) (l.set 0 (lowb x0)) := by
    have h : Lies W.drew (some ⟨T, 0, none⟩) l := L0
    exact h.setB 0 _ hl0
  have F1 : Fr (fun _ => False) w ((W.drew).setCell ⟨T, 0, none⟩ (.int .u8 ((lowb x0).toNat : Int))) := F0.drew.setCell (Or.inr (by show w.heap.size ≤ T; omega)) _
  go_still_tail 10, (by kernel_rfl)
  change wpList _ _ _ _ _ W.drew
  replace c0 : (W.drew).cell? ⟨T, 0, none⟩ = some (.int .u8 (x0.toNat : Int)) := c0
  replace c31 : (W.drew).cell? ⟨T, 31, none⟩ = some (.int .u8 (x31.toNat : Int)) := c31
  replace f0 : (W.drew).frozen? ⟨T, 0, none⟩ = false := f0
  replace f31 : (W.drew).frozen? ⟨T, 31, none⟩ = false := f31
  generalize W.drew = W1 at *
  have ht : ((topb x31).toNat : Int) = (x31.toNat : Int) % 64 + 64 := by rw [top_nat]; omega
  have L2 := L1.setB 31 (topb x31) (by rw [List.length_set]; exact hl31)
  have F2 : Fr (fun _ => False) w ((W1.setCell ⟨T, 0, none⟩ (.int .u8 ((lowb x0).toNat : Int))).setCell ⟨T, 31, none⟩ (.int .u8 ((topb x31).toNat : Int))) := F1.setCell (Or.inr (by show w.heap.size ≤ T; omega)) _
  rw [ht] at L2 F2
  have hcv := run_str L2 (grownCap w 32 0 5) 9 Try.underlying9
  rw [← hcl, clampl_length, hl] at hcv
  clear L1 L2 F1 hv31
  clear hcl
  go_wp2
  first | go_ret | go_ret2
  exact ⟨rfl, F2⟩
end Go.Proofs.Ytokpaejkdkjloaa


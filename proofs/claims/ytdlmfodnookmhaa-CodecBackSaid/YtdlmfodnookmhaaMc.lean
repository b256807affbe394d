/-
  The laws' tame: a kind, and a text that isn't too long.
-/
import Derived.Test.YtdlmfodnookmhaaMb
import Derived.Deep.Cut
namespace Go.Proofs.Ytdlmfodnookmhaa
open Go.RowKit
set_option linter.unusedVariables false
set_option linter.unusedSimpArgs false
theorem wpList_store_one {P : Program} {ops : Array Oper} {rest : List Oper} {o : Oper} {a : Act} {w : World} {Q : Exit → Act → World → Prop} (hgd : o.guard = none) (ty : TypeId) (x y : Operand) (ho : o.op = .store ty x y)
    (g off : Nat) (hx : a.eval x = .pointer (some ⟨g, off, none⟩)) (u : Value) (hy : a.eval y = u) (hu : u.cells = #[u]) (h1 : u.oneCell' = true) (hi : (P.info? ty).map (·.size) = some 1)
    (t : TypeId) (cs : Array Value) (hg : w.heap[g]? = some (.cells cs t (0, 0))) (hoff : off < cs.size)
    (h : ∀ w2 : World, w2.heap[g]? = some (.cells (cs.setIfInBounds off u) t (0, 0)) → Fr (fun i => i = g) w w2 → wpList P ops Q rest (a.put o.dst undef) w2) : wpList P ops Q (o :: rest) a w := by
  refine wpList_plain hgd fun _ hK => ?_
  have hst := run_storeCells_at P g off t [u] 0 cs w hg (by simp; omega) (by simpa using h1)
  have e : (cs.toList.take (off + 0) ++ [u] ++ cs.toList.drop (off + 0 + 1)).toArray = cs.setIfInBounds off u := by
    apply Array.toList_inj.1
    rw [Array.toList_setIfInBounds, List.set_eq_take_append_cons_drop, if_pos (by simpa using hoff)]
    simp
  have key := h (w.setRow g (cs.setIfInBounds off u)) (setRow_heap _ _ _ _ _ _ hg) (Fr.setRow' (S := fun i => i = g) (Fr.refl _ w) rfl _)
  simp only [List.length_cons, List.length_nil] at hst
  rw [e] at hst
  cases hq : P.info? ty with
  | none => simp [hq] at hi
  | some i =>
    have hs : i.size = 1 := by simpa [hq] using hi
    unfold Oper.wp execOp
    simp only [ho, hx, hy, Instr.storeAt, Instr.sureAddr, Sem.run_bind, Sem.run_pure, Result.andThen_ok]
    have hrun : (storeVar ty ⟨g, off, none⟩ u).run P w = .ok () (w.setRow g (cs.setIfInBounds off u)) := by
      simp [storeVar, sizeOf, typeInfo, hq, hu, hs]
      simpa using hst
    rw [hrun]
    exact hK _ _ key
theorem szPt : (Try.prog.info? 34).map (·.size) = some 35 := by kernel_rfl
theorem szI : (Try.prog.info? 3).map (·.size) = some 1 := by kernel_rfl
theorem szS : (Try.prog.info? 9).map (·.size) = some 1 := by kernel_rfl
theorem szR : (Try.prog.info? 32).map (·.size) = some 32 := by kernel_rfl
theorem ext_take (t : List UInt8) (q : Nat) : (⟨t.toArray⟩ : ByteArray).extract 0 q = ⟨(t.take q).toArray⟩ := by
  apply ByteArray.ext
  rw [ByteArray.data_extract]
  simp
theorem ba_size (t : List UInt8) : (⟨t.toArray⟩ : ByteArray).size = t.length := by show t.toArray.size = _; simp
theorem zPt : (#[.int .i64 0, .int .i64 0, .int .u8 0, .int .u8 0, .int .u8 0, .int .u8 0, .int .u8 0, .int .u8 0, .int .u8 0, .int .u8 0, .int .u8 0, .int .u8 0, .int .u8 0, .int .u8 0, .int .u8 0, .int .u8 0, .int .u8 0, .int .u8 0, .int .u8 0, .int .u8 0, .int .u8 0, .int .u8 0, .int .u8 0, .int .u8 0, .int .u8 0, .int .u8 0, .int .u8 0, .int .u8 0, .int .u8 0, .int .u8 0, .int .u8 0, .int .u8 0, .int .u8 0, .int .u8 0, .string ⟨#[]⟩] : Array Value) = pt 0 0 (fun _ => 0) [] := rfl
set_option maxRecDepth 100000 in
set_option maxHeartbeats 800000 in
theorem tame_any (k z zk : Int) (q : Nat) (f : Nat → UInt8) (t : List UInt8) (hz : IntKind.u64.wrap k = zk) (hq : zk.tmod 5 = (q : Int)) (hq5 : q < 5) (hmx : t.length ≤ 9223372036854775807) (w : World) :
    Calls Try.prog 8 #[.agg (pt k z f t)] w fun e w' => e = .returned (.agg (pt (1 + (q : Int)) z f (t.take 300))) ∧ Fr (fun _ => False) w w' := by
  have r2 : IntKind.i64.wrap (q : Int) = (q : Int) := IntWalk.i64_in _ (by omega)
  have hq5' : (q : Int) < 5 := by omega
  have hq0 : (0 : Int) ≤ (q : Int) := by omega
  obtain ⟨n, hn⟩ : ∃ n, n = min t.length 300 := ⟨_, rfl⟩
  have htk : t.take 300 = t.take n := by rw [hn]; rcases Nat.le_total t.length 300 with h | h <;> simp [h]; rw [List.take_of_length_le h]
  rw [htk]
  have hsz := ba_size t
  have hx := ext_take t n
  have m1 : (if (300 : Int) < (t.length : Int) then (300 : Int) else (t.length : Int)) = (n : Int) := by split <;> omega
  have m2 : min (t.length : Int) 300 = (n : Int) := by omega
  have hn0 : (0 : Int) ≤ (n : Int) := by omega
  have hns : (n : Int) ≤ (t.length : Int) := by omega
  have hT := pt_34 k z f t
  have h0 := pt_0 k z f t
  clear hn htk
  go_enter Try.func8, Try.ntmps8
  go_upto_region 1 with fail
  rw [zPt]
  have K0 := ((Kn.start w).new w.heap.size 35 (pt k z f t) 34 rfl (pt_size _ _ _ _)).new (w.heap.size + 1) 35 (pt 0 0 (fun _ => 0) []) 34 (by simp) (pt_size _ _ _ _)
  have c0 := K0.cell 1 rfl 0 (pt_0 _ _ _ _)
  generalize ((w.alloc (.cells (pt k z f t) 34)).alloc (.cells (pt 0 0 (fun _ => 0) []) 34)) = w1 at K0 c0 ⊢
  go_wp2_with (first | (focus (refine' wpList_store1_kn K0 rfl 3 (.tmp 9) (.tmp 8) rfl 1 _ 35 0 _ _ .i64 (1 + (q : Int)) rfl rfl szI rfl (by decide) ?_; intro wz Kz; simp only [List.set_cons_zero, List.set_cons_succ, pt_set0] at Kz; have c34 := Kz.cell 1 rfl 34 (pt_34 _ _ _ _); clear K0 c0; have K1 := Kz; clear Kz; try (simp only [Act.put, List.setIfInBounds_toArray, List.set_cons_zero, List.set_cons_succ]))) | (focus (refine' wpList_store_one rfl 9 (.tmp 17) (.tmp 16) rfl _ 34 rfl (.string ⟨(t.take n).toArray⟩) rfl rfl rfl szS _ _ (K1.heap 1 rfl) (by rw [pt_size]; decide) ?_; intro wz hz2 Fz; have Kz := K1.set 1 _ rfl _ (by rw [Array.size_setIfInBounds]; exact pt_size _ _ _ _) Fz hz2; simp only [List.set_cons_zero, List.set_cons_succ, pt_set34] at Kz; clear K1 c34 hz2 Fz; have K2 := Kz; clear Kz; try (simp only [Act.put, List.setIfInBounds_toArray, List.set_cons_zero, List.set_cons_succ]))) | (focus (((with_reducible refine' wpList_load_kn K2 rfl 34 (.tmp 1) rfl 1 _ _ _ _ rfl _ Try.underlying34 rfl szPt _ _); rotate_left 2; (focus exact rfl)); try (simp only [Act.put, List.setIfInBounds_toArray, List.set_cons_zero, List.set_cons_succ]))) | (focus (((with_reducible refine' wpList_store_kn K2 rfl 34 (.tmp 2) (.tmp 18) rfl 0 _ _ _ _ _ rfl rfl szPt _ _ _); rotate_left 2; (focus exact rfl)); (focus exact pt_sz _ _ _ _); intro wz Kz; simp only [List.set_cons_zero, List.set_cons_succ] at Kz; clear K2; have K3 := Kz; clear Kz; try (simp only [Act.put, List.setIfInBounds_toArray, List.set_cons_zero, List.set_cons_succ]))))
  refine bodyPost_ret (results_kn K3 rfl _ 0 _ _ _ _ rfl _ Try.underlying34 rfl szPt rfl) rfl ?_
  exact ⟨rfl, K3.fr⟩
end Go.Proofs.Ytdlmfodnookmhaa

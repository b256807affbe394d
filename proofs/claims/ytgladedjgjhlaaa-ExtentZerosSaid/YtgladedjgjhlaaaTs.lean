/-
  Sync, whole; copy of rows.
-/
import Derived.Test.YtgladedjgjhlaaaTr
import Derived.Laws.CopyRow
namespace Go.Proofs.Ytgladedjgjhlaaa
open Go.RowKit
set_option linter.unusedVariables false
set_option linter.unusedSimpArgs false
theorem own_slice {w : World} {base : Nat} {e : TypeId} {size : Nat} {v : Value} {n : Nat} {xs : List Value} (h : w.ownsRow base e size v n xs) : ∃ a cap, v = .slice a n cap := by
  rcases h.2 with ⟨e, h0⟩ | ⟨g, cap, cur, e, _⟩
  · exact ⟨none, 0, by rw [e, h0]⟩
  · exact ⟨_, _, e⟩
/-- Nothing waits any more. -/
theorem da_end {w w' : World} {d bn bl n : Nat} {N N' L : Nat → Nat → UInt8} {ws : List (Nat × (Nat → UInt8))} {wv : Value} {wr ar ar' : Int} {dn dn' : Bool} {base : Nat} (h : DA w d bn bl n N L ws wv wr ar dn base)
    (h1 : w'.heap[d]? = some (.cells (dcells bn bl n (.slice none 0 0) wr ar' dn') 106 (0, 0))) (h2 : w'.heap[bn]? = some (.cells (bk n N') 30 (0, 0))) (hF : Fr (fun k => k = d ∨ k = bn) w w') : DA w' d bn bl n N' L [] (.slice none 0 0) wr ar' dn' base :=
  ⟨h1, h2, (hF.block bl (lt_of_block h.las) (fun e => e.elim (fun e => h.d2 e.symm) (fun e => h.d3 e.symm))).trans h.las, World.ownsRow_nil _ _ _ _, h.d1, h.d2, h.d3, by simp [Value.ownBlock], by simp [Value.ownBlock], by simp [Value.ownBlock], h.b1, h.b2, h.b3, h.hn, fun p hp => by simp at hp⟩
set_option maxRecDepth 100000 in
set_option maxHeartbeats 3200000 in
theorem sync_any {w : World} {d bn bl n : Nat} {N L : Nat → Nat → UInt8} {ws : List (Nat × (Nat → UInt8))} {wv : Value} {wr ar : Int} {base : Nat} (h : DA w d bn bl n N L ws wv wr ar false base) (hm : ws.length < 1000000000000) :
    Calls Try.prog 20 #[.pointer (some ⟨d, 0, none⟩)] w fun e w' => e = .returned (.int .i64 0) ∧ DA w' d bn bl n N (lay L ws) [] (.slice none 0 0) wr ar false base ∧ Fr (fun k => k = d ∨ k = bl) w w' := by
  obtain ⟨a, cap, rfl⟩ := own_slice h.own
  have hd := h.blk
  have c2 : w.cell? ⟨d, 2, none⟩ = some (.slice a ws.length cap) := (cell_of_block hd 2).trans rfl
  have c5 : w.cell? ⟨d, 5, none⟩ = some (.bool false) := (cell_of_block hd 5).trans rfl
  have HH := Lib.hid h
  have HM := Lib.hid hm
  clear h hd hm
  go_enter Try.func20, Try.ntmps20
  go_wp2_with fail
  refine sync_loop HH.out HM.out _ rfl rfl rfl rfl rfl rfl ?_
  intro t w2 hn p0 p2 D F
  obtain ⟨f, hff, rfl⟩ := frame_open hn
  have e0 := hff 0 _ p0
  have e2 := hff 2 _ p2
  clear hff hn p0 p2
  rw [lit35, e0, e2]
  clear e0 e2
  have hd2 := D.blk
  have hb2 := D.now
  have HD := Lib.hid D
  have nd : ¬ (bn = d) := fun e => D.d1 e.symm
  clear D c2 c5
  have szs : (Try.prog.info? 104).map (·.size) = some 1 := by kernel_rfl
  go_wp2_with (focus ((with_reducible refine wpList_store_one ?p0 104 (.tmp 34) (.const (.slice none 0 0)) ?p1 d 2 ?p2 (.slice none 0 0) ?p3 ?p4 ?p5 szs 106 _ hd2 ?p6 ?p7); (case p0 => rfl); (case p1 => rfl); (case p2 => rfl); (case p3 => rfl); (case p4 => rfl); (case p5 => rfl); (case p6 => simp [dcells]); intro w3 h3 F3; (simp only [Act.put, List.setIfInBounds_toArray, List.set_cons_zero, List.set_cons_succ])))
  go_ret
  refine ⟨rfl, da_end HD.out h3 ((F3.block bn (lt_of_block hb2) nd).trans hb2) (F3.mono (fun _ _ e => .inl e)), (F.mono (fun _ _ e => .inr e)).trans F3 (fun _ e => .inl (.inl e))⟩
/-- Rows copied over others. -/
theorem run_copy_rows {P : Program} (w : World) (dT sT ty elem : TypeId) (z g o dLen dCap : Nat) (a : Addr) (sLen sCap : Nat) (cur : Array Value) (t : TypeId) (cs : List Value)
    (hu : P.underlying dT = some (.slice elem)) (hs : (P.info? elem).map (·.size) = some z)
    (hg : w.heap[g]? = some (.cells cur t (0, 0))) (hn : cs.length = Nat.min sLen dLen * z)
    (hsrc : ∀ j v, cs[j]? = some v → w.cell? (a.add j) = some v) (hfit : o + cs.length ≤ cur.size) (h1 : ∀ v ∈ cs, v.oneCell' = true) :
    (Builtin.copy_ #[dT, sT] ty #[.slice (some ⟨g, o, none⟩) dLen dCap, .slice (some a) sLen sCap]).run P w =
      .ok (goInt (Nat.min sLen dLen)) (w.setRow g (cur.toList.take o ++ cs ++ cur.toList.drop (o + cs.length)).toArray) := by
  have hl := run_loadCells_list (P := P) w a cs hsrc
  have hst := run_storeCells_at P g o t cs 0 cur w hg (by simpa using hfit) h1
  cases hq : P.info? elem with
  | none => simp [hq] at hs
  | some i =>
    have hi : i.size = z := by simpa [hq] using hs
    simp [Builtin.copy_, run_underlying hu, Builtin.lenOf, Builtin.firstCells, sizeOf, typeInfo, hq, hi, ← hn, hl, hst]
/-- A block copied whole over one of the same size. -/
theorem wpList_copy_whole {P : Program} {w : World} {ops : Array Oper} {rest : List Oper} {o : Oper} {a : Act} {Q : Exit → Act → World → Prop} (hgd : o.guard = none) (x y : Operand) (dT sT : TypeId)
    (ho : o.op = .call { callee := .builtin .copy, args := #[x, y], argTypes := #[dT, sT] }) (elem : TypeId) (hu : P.underlying dT = some (.slice elem)) (z : Nat) (hsz : (P.info? elem).map (·.size) = some z)
    (g g2 m dCap sCap : Nat) (hd : a.eval x = .slice (some ⟨g, 0, none⟩) m dCap) (hs : a.eval y = .slice (some ⟨g2, 0, none⟩) m sCap) (cur C : Array Value) (t t2 : TypeId) (hg : w.heap[g]? = some (.cells cur t (0, 0))) (hg2 : w.heap[g2]? = some (.cells C t2 (0, 0)))
    (hC : C.size = m * z) (hcur : cur.size = m * z) (h1 : C.all (·.oneCell') = true)
    (h : ∀ w2 : World, w2.heap[g]? = some (.cells C t (0, 0)) → Fr (fun k => k = g) w w2 → wpList P ops Q rest (a.put o.dst (goInt m)) w2) : wpList P ops Q (o :: rest) a w := by
  refine wpList_plain hgd fun K hK => ?_
  have hm : Nat.min m m = m := Nat.min_self m
  have hrun := run_copy_rows (P := P) w dT sT o.type elem z g 0 m dCap ⟨g2, 0, none⟩ m sCap cur t C.toList hu hsz hg (by rw [hm, Array.length_toList, hC]) (fun j v hj => by rw [Addr.add_mid, Nat.zero_add, cell_of_block hg2]; simpa using hj) (by rw [Array.length_toList]; omega) (fun v hv => (Array.all_eq_true_iff_forall_mem.1 h1) v (by simpa using hv))
  have e : (cur.toList.take 0 ++ C.toList ++ cur.toList.drop (0 + C.toList.length)).toArray = C := by
    rw [List.take_zero, List.nil_append, Nat.zero_add, Array.length_toList, hC, List.drop_eq_nil_of_le (by rw [Array.length_toList]; omega), List.append_nil, Array.toArray_toList]
  rw [e, hm] at hrun
  have key := h _ (setRow_heap w g cur C t (0, 0) hg) (Fr.setRow' (S := fun i => i = g) (Fr.refl _ w) rfl _)
  unfold Oper.wp
  simp [execOp, ho, resolve, invoke, builtin, hd, hs, hrun, Result.andThen]
  exact hK _ _ key
end Go.Proofs.Ytgladedjgjhlaaa

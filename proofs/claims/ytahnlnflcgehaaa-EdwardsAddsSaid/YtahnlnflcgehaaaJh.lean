/-
  Are two points the same; the law's bases.
-/
import Derived.Test.YtahnlnflcgehaaaJg
namespace Go.Proofs.Ytahnlnflcgehaaa
open Go.RowKit Pri
set_option linter.unusedVariables false
set_option linter.unusedSimpArgs false

theorem equalIn_elem (d X Y : Nat) (hX : X < 115792089237316195423570985008687907853269984665640564039457584007913129639936) (hY : Y < 115792089237316195423570985008687907853269984665640564039457584007913129639936) (w : World) : (Op.equalIn (d + 2) 24 (.agg (nc X)) (.agg (nc Y))).run Try.prog w = .ok (decide (X = Y)) w := by
  obtain ⟨a, b, c, e, _, _, _, _, hx, ex⟩ := nc_open X hX
  obtain ⟨x, y, z, t, _, _, _, _, hy, ey⟩ := nc_open Y hY
  rw [ex, ey]
  refine (equalIn_ints w d 24 22 4 .u64 Try.underlying24 Try.underlying22 Try.sizeW [a, b, c, e] [x, y, z, t] rfl rfl).trans ?_
  have h : (([(a : Int), b, c, e] : List Int) == [(x : Int), y, z, t]) = decide (X = Y) := by
    by_cases h : X = Y
    · rw [decide_eq_true h]
      have : a = x ∧ b = y ∧ c = z ∧ e = t := by unfold nv at hx hy; omega
      obtain ⟨rfl, rfl, rfl, rfl⟩ := this
      simp
    · rw [decide_eq_false h]
      have : ¬ (a = x ∧ b = y ∧ c = z ∧ e = t) := fun ⟨h1, h2, h3, h4⟩ => h (by rw [hx, hy, h1, h2, h3, h4])
      rw [beq_eq_false_iff_ne]
      intro hc
      simp only [List.cons.injEq, and_true] at hc
      exact this ⟨by omega, by omega, by omega, by omega⟩
  rw [h]
theorem run_part {P : Program} {cs R : Array Value} {o n : Nat} {e : TypeId} {d : TypeDesc} (hu : P.underlying e = some d) (hd : d.isRow = true) (hs : (P.info? e).map (·.size) = some n) (hp : Part cs o R) (hR : R.size = n) (w : World) : (part e cs o).run P w = .ok (.agg R) w := by
  obtain ⟨i0, hi, hz⟩ := Option.map_eq_some_iff.1 hs
  have he : cs.extract o (o + n) = R := by
    apply Array.ext_getElem?
    intro k
    by_cases hk : k < n
    · have h1 : R[k]? = some R[k] := Array.getElem?_eq_getElem (by omega)
      have h2 := hp k _ h1
      have hlt := (Array.getElem?_eq_some_iff.1 h2).1
      rw [h1, Array.getElem?_extract, if_pos (by omega), h2]
    · rw [Array.getElem?_eq_none (by rw [Array.size_extract]; omega), Array.getElem?_eq_none (by omega)]
  cases d <;> simp [TypeDesc.isRow] at hd <;> simp [part, isAgg, run_underlying hu, sizeOf, typeInfo, hi, hz, he]
theorem Try.pointFields : ∃ f0 f1 : Field, (Try.prog.fieldsOf 72).toList = [f0, f1] ∧ f0.name ≠ "_" ∧ f1.name ≠ "_" ∧ f0.type = 24 ∧ f1.type = 24 ∧ f0.offset = 0 ∧ f1.offset = 4 :=
  ⟨((Try.prog.fieldsOf 72).toList)[0]'(by decide +kernel), ((Try.prog.fieldsOf 72).toList)[1]'(by decide +kernel), by kernel_rfl, by decide +kernel, by decide +kernel, by kernel_rfl, by kernel_rfl, by kernel_rfl, by kernel_rfl⟩
theorem eq_fields (D : Nat) (a b c d : Nat) (ha : a < 115792089237316195423570985008687907853269984665640564039457584007913129639936) (hb : b < 115792089237316195423570985008687907853269984665640564039457584007913129639936) (hc : c < 115792089237316195423570985008687907853269984665640564039457584007913129639936) (hd : d < 115792089237316195423570985008687907853269984665640564039457584007913129639936) (w : World) : (Op.eqFields (D + 2) (pq a b) (pq c d) (Try.prog.fieldsOf 72).toList).run Try.prog w = .ok (decide (a = c) && decide (b = d)) w := by
  obtain ⟨f0, f1, hf, n0, n1, t0, t1, o0, o1⟩ := Try.pointFields
  have p0 : ∀ x y : Nat, ∀ W, (part f0.type (pq x y) f0.offset).run Try.prog W = .ok (.agg (nc x)) W := fun x y W => by
    rw [t0, o0]; exact run_part Try.underlying24 rfl Try.szEl (part2_0 _ _) (nc_size x) W
  have p1 : ∀ x y : Nat, ∀ W, (part f1.type (pq x y) f1.offset).run Try.prog W = .ok (.agg (nc y)) W := fun x y W => by
    rw [t1, o1]; exact run_part Try.underlying24 rfl Try.szEl (part2_1 (sz_nc _) _) (nc_size y) W
  have e0 := equalIn_elem D a c ha hc w
  have e1 := equalIn_elem D b d hb hd w
  rw [← t0] at e0
  rw [← t1] at e1
  rw [hf]
  simp only [Op.eqFields, Sem.run_bind, n0, n1, ne_eq, not_false_eq_true, if_true, p0, p1, e0, e1, Result.andThen_ok]
  by_cases h : a = c
  · rw [decide_eq_true h]
    simp only [Bool.not_true, Bool.false_eq_true, if_false, Sem.run_bind, p1, e1, Result.andThen_ok]
    by_cases h2 : b = d
    · rw [decide_eq_true h2]; simp
    · rw [decide_eq_false h2]; simp
  · rw [decide_eq_false h]; simp
theorem eql_pq (a b c d : Nat) (ha : a < 115792089237316195423570985008687907853269984665640564039457584007913129639936) (hb : b < 115792089237316195423570985008687907853269984665640564039457584007913129639936) (hc : c < 115792089237316195423570985008687907853269984665640564039457584007913129639936) (hd : d < 115792089237316195423570985008687907853269984665640564039457584007913129639936) (w : World) : (binOp .eql 72 (.agg (pq a b)) (.agg (pq c d))).run Try.prog w = .ok (.bool (decide (a = c) && decide (b = d))) w := by
  have h := eq_fields 9997 a b c d ha hb hc hd w
  have h2 := run_equalIn_struct (P := Try.prog) w 9999 72 (pq a b) (pq c d) (by kernel_rfl) (by kernel_rfl)
  rw [run_eql_struct]
  exact (congrArg (fun r => Result.andThen r fun b w' => Result.ok (Value.bool b) w') (h2.trans h)).trans rfl
theorem pv_inj {P Q : Fp × Fp} (h1 : px P = px Q) (h2 : pr P = pr Q) : P = Q := by
  have a : P.1 = Q.1 := Fin.ext h1
  have b : P.2 - 1 = Q.2 - 1 := Fin.ext h2
  have c : P.2 = Q.2 := by
    generalize P.2 = x at *
    generalize Q.2 = y at *
    grind
  exact Prod.ext a c
theorem same_pv (P Q : Fp × Fp) (c : Bool) (hc : c = true ↔ P = Q) : Ans Try.prog 68 #[.agg (pv P), .agg (pv Q)] (.bool c) := fun W => by
  refine psame_op c (pv P) (pv Q) W (fun W => ?_) (sz_pv _) (sz_pv _)
  have e : (decide (px P = px Q) && decide (pr P = pr Q)) = c := by
    rw [Bool.eq_iff_iff, hc, Bool.and_eq_true, decide_eq_true_iff, decide_eq_true_iff]
    exact ⟨fun ⟨h1, h2⟩ => pv_inj h1 h2, fun h => by rw [h]; exact ⟨rfl, rfl⟩⟩
  unfold pv
  rw [eql_pq (px P) (pr P) (px Q) (pr Q) (pxP P) (prP P) (pxP Q) (prP Q) W, e]
set_option maxRecDepth 100000 in
set_option maxHeartbeats 3200000 in
theorem bases_op (B C D : Array Value) (w : World)
    (BS : Ans Try.prog 73 #[] (.agg B))
    (E1 : Ans Try.prog 72 #[.agg B] (.agg C))
    (E2 : Ans Try.prog 72 #[.agg #[.int .u64 0, .int .u64 0, .int .u64 0, .int .u64 0, .int .u64 0, .int .u64 0, .int .u64 0, .int .u64 0]] (.agg D))
    (a0 : C[0]? = some (.int .u8 88)) (a31 : C[31]? = some (.int .u8 102)) (b0 : D[0]? = some (.int .u8 1)) (b31 : D[31]? = some (.int .u8 0))
    (sC : Sz 32 C) (sD : Sz 32 D) (sB : Sz 8 B) :
    Calls Try.prog 57 #[] w fun e w' => e = .returned (.bool true) ∧ Fr (fun _ => False) w w' := by
  have K := (Kn.start w)
  go_enter Try.func57, Try.ntmps57
  go_wp2_with (first
      | (focus ((with_reducible refine' wpList_store_kn K rfl 36 (.tmp 3) _ rfl 0 _ _ _ _ _ rfl rfl Try.szBa _ _ _); rotate_left 2; (focus exact rfl); (focus assumption); intro wz Kz; clear K; have K := Kz; clear Kz; simp only [List.set_cons_zero, List.set_cons_succ] at K; have c0 := K.cell 2 rfl 0 a0; have c1 := K.cell 2 rfl 31 a31; have c2 := K.cell 0 rfl 0 b0; have c3 := K.cell 0 rfl 31 b31; try (simp only [Act.put, List.setIfInBounds_toArray, List.set_cons_zero, List.set_cons_succ])))
      | (focus (first | ((with_reducible refine' wpList_load_kn K rfl 72 (.tmp 2) rfl 0 _ _ _ _ rfl _ Try.underlying72 rfl Try.szPt _ _); rotate_left 2; (focus exact rfl))))
      | (focus ((first | ((with_reducible refine' wpList_store_kn K rfl 36 (.tmp 1) _ rfl 0 _ _ _ _ _ rfl rfl Try.szBa _ _ _); rotate_left 2; (focus exact rfl)) | ((with_reducible refine' wpList_store_kn K rfl 36 (.tmp 3) _ rfl 0 _ _ _ _ _ rfl rfl Try.szBa _ _ _); rotate_left 2; (focus exact rfl))); (focus assumption); intro wz Kz; clear K; have K := Kz; clear Kz; simp only [List.set_cons_zero, List.set_cons_succ] at K; try (simp only [Act.put, List.setIfInBounds_toArray, List.set_cons_zero, List.set_cons_succ])))
      | ((with_reducible refine wpList_new_kn K 36 _ _ _ _ #[.int .u8 0, .int .u8 0, .int .u8 0, .int .u8 0, .int .u8 0, .int .u8 0, .int .u8 0, .int .u8 0, .int .u8 0, .int .u8 0, .int .u8 0, .int .u8 0, .int .u8 0, .int .u8 0, .int .u8 0, .int .u8 0, .int .u8 0, .int .u8 0, .int .u8 0, .int .u8 0, .int .u8 0, .int .u8 0, .int .u8 0, .int .u8 0, .int .u8 0, .int .u8 0, .int .u8 0, .int .u8 0, .int .u8 0, .int .u8 0, .int .u8 0, .int .u8 0] 32 rfl Try.alBa rfl ?_); intro gz wz Kz; clear K; have K := Kz; clear Kz; try (simp only [Act.put, List.setIfInBounds_toArray, List.set_cons_zero, List.set_cons_succ]))
      | ((with_reducible refine wpList_new_kn K 72 _ _ _ _ #[.int .u64 0, .int .u64 0, .int .u64 0, .int .u64 0, .int .u64 0, .int .u64 0, .int .u64 0, .int .u64 0] 8 rfl Try.alPt rfl ?_); intro gz2 wz Kz; clear K; have K := Kz; clear Kz; try (simp only [Act.put, List.setIfInBounds_toArray, List.set_cons_zero, List.set_cons_succ]))
      | ((with_reducible refine wpList_new_kn K 36 _ _ _ _ #[.int .u8 0, .int .u8 0, .int .u8 0, .int .u8 0, .int .u8 0, .int .u8 0, .int .u8 0, .int .u8 0, .int .u8 0, .int .u8 0, .int .u8 0, .int .u8 0, .int .u8 0, .int .u8 0, .int .u8 0, .int .u8 0, .int .u8 0, .int .u8 0, .int .u8 0, .int .u8 0, .int .u8 0, .int .u8 0, .int .u8 0, .int .u8 0, .int .u8 0, .int .u8 0, .int .u8 0, .int .u8 0, .int .u8 0, .int .u8 0, .int .u8 0, .int .u8 0] 32 rfl Try.alBa rfl ?_); intro gz3 wz Kz; clear K; have K := Kz; clear Kz; try (simp only [Act.put, List.setIfInBounds_toArray, List.set_cons_zero, List.set_cons_succ]))
      | (go_at_call 73; (with_reducible refine Calls.kn K (BS _) ?_); intro wz Kz; clear K; have K := Kz; clear Kz)
      | (go_at_call 72; (with_reducible refine Calls.kn K (E1 _) ?_); intro wz Kz; clear K; have K := Kz; clear Kz)
      | (go_at_call 72; (with_reducible refine Calls.kn K (E2 _) ?_); intro wz Kz; clear K; have K := Kz; clear Kz))
  go_ret
  exact ⟨rfl, K.fr⟩
theorem encn_bB : encn bB = 46316835694926478169428394003475163141307993866256225615783033603165251855960 := by
  unfold encn
  show bY % p25519 + _ * (bX % p25519 % 2) = _
  decide +kernel
theorem encn_zero : encn Cv.zero = 1 := by
  have h1 : (Cv.zero : Fp × Fp).1.val = 0 := val_zero
  have h2 : (Cv.zero : Fp × Fp).2.val = 1 := by show (1 : Fp).val = 1; rw [← fv_one, fv_val, one_mod_p]
  unfold encn
  rw [h1, h2]
theorem bases_any : Ans Try.prog 57 #[] (.bool true) := fun W => by
  have E2 := encode_pv Cv.zero
  rw [pv_zero, encn_zero] at E2
  have E1 := encode_pv bB
  rw [encn_bB] at E1
  refine bases_op (pv bB) _ _ W base_pv E1 E2 ?_ ?_ ?_ ?_ (sz_bl _) (sz_bl _) (sz_pv _)
  · rw [bl_cell _ 0 (by decide)]; rfl
  · rw [bl_cell _ 31 (by decide), p31]; rfl
  · rw [bl_cell _ 0 (by decide)]; rfl
  · rw [bl_cell _ 31 (by decide), p31]; rfl
end Go.Proofs.Ytahnlnflcgehaaa

/-
  CodecWrites.
-/
import Derived.Test.YtdlmfodnookmhaaMe
namespace Go.Proofs.Ytdlmfodnookmhaa
open Go.RowKit
set_option linter.unusedVariables false
set_option linter.unusedSimpArgs false
theorem wpList_load_cells {P : Program} {ops : Array Oper} {rest : List Oper} {o : Oper} {a : Act} {w : World} {Q : Exit → Act → World → Prop} (hgd : o.guard = none) (ty : TypeId) (x : Operand) (ho : o.op = .load ty x) (g q : Nat) (hx : a.eval x = .pointer (some ⟨g, q, none⟩)) (R : Array Value) (m : Nat)
    (d : TypeDesc) (hu : P.underlying ty = some d) (hd : d.isRow = true) (hty : (P.info? ty).map (·.size) = some m) (hc : ∀ i u, R[i]? = some u → w.cell? ⟨g, q + i, none⟩ = some u) (hm : R.size = m)
    (h : wpList P ops Q rest (a.put o.dst (.agg R)) w) : wpList P ops Q (o :: rest) a w := by
  refine wpList_load_mid hgd ty x ho g q hx R.toList d (fun j u hj => ?_) hu hd (by rw [hty, Array.length_toList, hm]) ?_
  · exact hc j u (by rw [← hj, Array.getElem?_toList])
  · rwa [Array.toArray_toList]
theorem zPt2 : (#[.int .i64 0, .int .i64 0, .int .u8 0, .int .u8 0, .int .u8 0, .int .u8 0, .int .u8 0, .int .u8 0, .int .u8 0, .int .u8 0, .int .u8 0, .int .u8 0, .int .u8 0, .int .u8 0, .int .u8 0, .int .u8 0, .int .u8 0, .int .u8 0, .int .u8 0, .int .u8 0, .int .u8 0, .int .u8 0, .int .u8 0, .int .u8 0, .int .u8 0, .int .u8 0, .int .u8 0, .int .u8 0, .int .u8 0, .int .u8 0, .int .u8 0, .int .u8 0, .int .u8 0, .int .u8 0, .string ⟨#[]⟩] : Array Value).size = 35 := rfl
set_option maxRecDepth 100000 in
theorem add_nil (x : Value) (w : World) : Calls Try.prog 17 #[.pointer none, x] w fun e w' => e = .returned (.tuple #[]) ∧ w = w' := by
  go_enter Try.func17, Try.ntmps17
  go_wp2_with fail
  go_end0
  exact ⟨rfl, rfl⟩
set_option maxRecDepth 100000 in
theorem byte_nil (w : World) : Calls Try.prog 5 #[.pointer none, .int .i64 1] w fun e w' => e = .returned (.tuple #[]) ∧ Fr (fun _ => False) w w' := by
  go_enter Try.func5, Try.ntmps5
  go_wp2_with fail
  refine (add_nil _ _).mono ?_
  rintro e w1 ⟨rfl, rfl⟩
  go_wp2_with fail
  go_end0
  exact ⟨rfl, (Fr.refl _ w).alloc _⟩
set_option maxRecDepth 100000 in
theorem text_nil (w : World) : Calls Try.prog 6 #[.pointer none, .slice none 0 0] w fun e w' => e = .returned (.tuple #[]) ∧ Fr (fun _ => False) w w' := by
  go_enter Try.func6, Try.ntmps6
  go_wp2_with fail
  refine (add_nil _ _).mono ?_
  rintro e w1 ⟨rfl, rfl⟩
  go_wp2_with fail
  refine (add_nil _ _).mono ?_
  rintro e w1 ⟨rfl, rfl⟩
  go_wp2_with fail
  go_end0
  exact ⟨rfl, (Fr.refl _ w).alloc _⟩
set_option maxRecDepth 100000 in
theorem bytes_nil (w : World) : Calls Try.prog 7 #[.pointer none] w fun e w' => e = .returned (.tuple #[.slice none 0 0, .int .i64 1]) ∧ Fr (fun _ => False) w w' := by
  go_enter Try.func7, Try.ntmps7
  go_wp2_with fail
  go_returns
  exact ⟨rfl, Fr.refl _ w⟩
theorem mod5 (z : Int) : ∃ u : Int, ∃ q : Nat, IntKind.u64.wrap z = u ∧ u.tmod 5 = (q : Int) ∧ q < 5 := by
  obtain ⟨u, hu⟩ := wrap_u64_nat z
  refine ⟨u, u % 5, hu, ?_, by omega⟩
  rw [Int.tmod_eq_emod_of_nonneg (by omega)]; omega
theorem enc_le (q : Nat) (z : Int) (f : Nat → UInt8) (t : List UInt8) (h : t.length ≤ 300) : (encd (enc q z f t)).length ≤ 302 := (enc_len q z f t).resolve_right (by omega)
set_option maxRecDepth 100000 in
set_option maxHeartbeats 3200000 in
theorem writes_any {w : World} {v0 : Value} {ps : List Prt} (h0 : PL w v0 ps) : Calls Try.prog 3 #[v0] w fun e w' => e = .returned (.bool true) ∧ Fr (fun _ => False) w w' := by
  obtain ⟨a, cap, rfl, hl, hc⟩ := h0
  obtain ⟨N, hN⟩ : ∃ N, N = ps.length := ⟨_, rfl⟩
  have HC := Lib.hid hc
  have HL := Lib.hid hl
  have HN := Lib.hid hN
  clear hc hl
  rw [← hN]
  clear hN
  go_enter Try.func3, Try.ntmps3
  go_wp2_with fail
  refine (byte_nil w).mono ?_
  rintro e w1 ⟨rfl, F1⟩
  go_wp2_with fail
  refine (text_nil w1).mono ?_
  rintro e w2 ⟨rfl, F2⟩
  go_wp2_with fail
  refine (bytes_nil w2).mono ?_
  rintro e w3 ⟨rfl, F3⟩
  have F03 := (F1.trans F2 (fun _ h => h.elim)).trans F3 (fun _ h => h.elim)
  have W3 : Wr (w3.alloc (.cells #[.slice none 0 0, .int .i64 0] 31)) w3.heap.size w.heap.size (.slice none 0 0) (bv []) 0 :=
    ⟨heap_alloc_new w3 _, World.ownsRow_nil _ _ _ _, by have := F03.size; simp; omega⟩
  have HF3 := Lib.hid (F03.alloc (.cells #[.slice none 0 0, .int .i64 0] 31))
  have hbw := F03.size
  have HW3 := Lib.hid W3
  clear F1 F2 F3 F03 W3
  go_wp2_with fail
  generalize w3.heap.size = bw at *
  have HBW := Lib.hid hbw
  clear hbw
  go_loopw [7, 8, 9] (fun want right i wr => ∃ k : Nat, k ≤ 20 ∧ ∃ (acc : List UInt8) (v' : Value) (er : Int) (rb : Bool), i = .int .i64 k ∧ want = .string ⟨acc.toArray⟩ ∧ right = .bool rb ∧ (rb = true ∧ er = 0 ∨ rb = false ∧ er = 5) ∧ Wr wr bw w.heap.size v' (bv acc) er ∧ acc.length ≤ 302 * k ∧ Fr (fun _ => False) w wr) (fun _ _ i _ => 20 - (intOf i).toNat)
  case atStart => exact ⟨0, by omega, [], .slice none 0 0, 0, true, by simp, rfl, rfl, .inl ⟨rfl, rfl⟩, HW3.out, by simp, HF3.out⟩
  case round =>
    obtain ⟨k, hk, acc, v', er, rb, rfl, rfl, rfl, her, hW, hA, hF⟩ := hrel
    have HA := Lib.hid hA
    have HW := Lib.hid hW
    have HF := Lib.hid hF
    have HK := Lib.hid hk
    clear hA hW hF hk
    by_cases hlt : k < N ∧ k < 20
    · have q1 : (k : Int) < (N : Int) := by omega
      have q2 : (k : Int) < 20 := by omega
      have q0 : (0 : Int) ≤ (k : Int) := by omega
      have HK9 := Lib.hid hlt.2
      obtain ⟨x, hx⟩ : ∃ x, ps[k]? = some x := ⟨_, List.getElem?_eq_getElem (by have := HN.out; omega)⟩
      obtain ⟨g, o, rfl, hg, hcs, htx, _⟩ := HC.out k x hx
      obtain ⟨kk, z, f, t⟩ := x
      have hcr : ∀ i u, (pt kk z f t)[i]? = some u → wr.cell? ⟨g, o + k * 35 + i, none⟩ = some u := fun i u hu => HF.out.cellSome (fun h => h) (hcs i u hu)
      have htl : t.length ≤ 9223372036854775807 := by have : t.length ≤ maxLen := htx; unfold maxLen at this; omega
      obtain ⟨zk, q, hz, hq, hq5⟩ := mod5 kk
      have HT := Lib.hid (fun V : World => tame_any kk z zk q f t hz hq hq5 htl V)
      have HQ := Lib.hid hq5
      have HCR := Lib.hid hcr
      clear hcs htx hx hlt hz hq hq5 htl hcr hg
      go_wp2_with (first | (focus (((with_reducible refine' wpList_load_cells rfl 34 (.tmp 38) rfl g (o + k * 35) rfl (pt kk z f t) _ _ Try.underlying34 rfl szPt _ _ _); (focus exact HCR.out); (focus exact pt_size _ _ _ _)); try (simp only [Act.put, List.setIfInBounds_toArray, List.set_cons_zero, List.set_cons_succ]))))
      refine (HT.out _).mono ?_
      rintro e w4 ⟨rfl, F4⟩
      have ht3 : (t.take 300).length ≤ 300 := by rw [List.length_take]; omega
      generalize t.take 300 = t3 at ht3 ⊢
      have HT3 := Lib.hid ht3
      have K1 := (Kn.start w4).new w4.heap.size 35 #[.int .i64 0, .int .i64 0, .int .u8 0, .int .u8 0, .int .u8 0, .int .u8 0, .int .u8 0, .int .u8 0, .int .u8 0, .int .u8 0, .int .u8 0, .int .u8 0, .int .u8 0, .int .u8 0, .int .u8 0, .int .u8 0, .int .u8 0, .int .u8 0, .int .u8 0, .int .u8 0, .int .u8 0, .int .u8 0, .int .u8 0, .int .u8 0, .int .u8 0, .int .u8 0, .int .u8 0, .int .u8 0, .int .u8 0, .int .u8 0, .int .u8 0, .int .u8 0, .int .u8 0, .int .u8 0, .string ⟨#[]⟩] 34 rfl zPt2
      have HW4 := Lib.hid (HW.out.fr F4 (fun h => h) (fun _ _ h => h))
      have HF4 := Lib.hid (HF.out.trans F4 (fun _ h => h.elim))
      have hb4 : bw < w4.heap.size := lt_of_block HW4.out.blk
      have HB4 := Lib.hid hb4
      clear HT HCR HW HF F4 ht3 hb4
      go_wp2_with (first | (focus (((with_reducible refine' wpList_store_kn K1 rfl 34 (.tmp 10) (.tmp 40) rfl 0 _ _ _ _ _ rfl rfl szPt _ _ _); rotate_left 2; (focus exact rfl)); (focus exact pt_sz _ _ _ _); intro wz Kz; simp only [List.set_cons_zero, List.set_cons_succ] at Kz; clear K1; have K2 := Kz; clear Kz; try (simp only [Act.put, List.setIfInBounds_toArray, List.set_cons_zero, List.set_cons_succ]))) | (focus (((with_reducible refine' wpList_load_kn K2 rfl 34 (.tmp 10) rfl 0 _ _ _ _ rfl _ Try.underlying34 rfl szPt _ _); rotate_left 2; (focus exact rfl)); try (simp only [Act.put, List.setIfInBounds_toArray, List.set_cons_zero, List.set_cons_succ]))))
      have HWz := Lib.hid (HW4.out.fr K2.fr (fun h => h) (fun _ _ h => h))
      have HFz := Lib.hid (HF4.out.trans K2.fr (fun _ h => h.elim))
      have hgz := K2.heap 0 rfl
      have HGz := Lib.hid hgz
      have hv4 : v'.ownBlock ≠ some w4.heap.size := fun e => by have := (HW4.out.row_lt _ e).2; omega
      have HV4 := Lib.hid hv4
      clear HW4 HF4 K2 hgz hv4
      refine (write_any q HQ.out bw w.heap.size v' er (bv acc) z f t3 HT3.out _ HWz.out (by rw [bv_length]; have := HA.out; have := HK9.out; omega)).mono ?_
      rintro e w5 ⟨rfl, v5, h5, F5, o5⟩
      have hp5 := (F5.block _ (lt_of_block HGz.out) (fun e => e.elim (fun e => by have := HB4.out; omega) HV4.out)).trans HGz.out
      have HF5 := Lib.hid (HFz.out.trans F5 (fun i hi => .inr (by
        rcases hi with e | e
        · have := HBW.out; omega
        · exact (HWz.out.row_lt _ e).1)))
      have H5 := Lib.hid h5
      clear h5 F5 o5 HFz HWz HGz
      generalize w4.heap.size = gp at *
      go_wp2_with (first | (focus (((with_reducible refine' wpList_load_row rfl 34 (.tmp 10) rfl gp rfl 34 _ (0, 0) _ hp5 Try.underlying34 rfl (by rw [szPt, pt_size]) _)); try (simp only [Act.put, List.setIfInBounds_toArray, List.set_cons_zero, List.set_cons_succ]))))
      refine (rwrite_any q HQ.out z f t3 HT3.out w5).mono ?_
      rintro e w6 ⟨rfl, F6⟩
      have ho := enc_le q z f t3 HT3.out
      generalize enc q z f t3 = o at *
      have HO := Lib.hid ho
      have HF56 := Lib.hid F6
      have HF6 := Lib.hid (HF5.out.trans F6 (fun _ h => h.elim))
      clear hp5 F6 ho HF5
      rcases her with ⟨rfl, rfl⟩ | ⟨rfl, rfl⟩
      · have c1 : ∀ V : World, (Op.stringOp .add ⟨acc.toArray⟩ ⟨(encd o).toArray⟩).run Try.prog V = .ok (.string ⟨(acc ++ encd o).toArray⟩) V := fun V => run_string_add_lists V acc (encd o) (by have := HA.out; have := HK9.out; omega) (by have := HO.out; omega)
        go_wp2_with fail
        refine ⟨⟨k + 1, by have := HK9.out; omega, acc ++ encd o, v5, (if o.isSome then 0 else 5), o.isSome, by simp, rfl, by simp, ?_, ?_, ?_, HF6.out⟩, by simp [intOf]; have := HK9.out; omega⟩
        · cases o <;> simp
        · have := (H5.out).fr HF56.out (fun h => h) (fun _ _ h => h)
          rwa [bv_append]
        · rw [List.length_append]; have := HO.out; have := HA.out; omega
      · have c1 : ∀ V : World, (Op.stringOp .add ⟨acc.toArray⟩ ⟨(encd o).toArray⟩).run Try.prog V = .ok (.string ⟨(acc ++ encd o).toArray⟩) V := fun V => run_string_add_lists V acc (encd o) (by have := HA.out; have := HK9.out; omega) (by have := HO.out; omega)
        go_wp2_with fail
        refine ⟨⟨k + 1, by have := HK9.out; omega, acc ++ encd o, v5, (if o.isSome then 5 else 5), false, by simp, rfl, by simp, ?_, ?_, ?_, HF6.out⟩, by simp [intOf]; have := HK9.out; omega⟩
        · cases o <;> simp
        · have := (H5.out).fr HF56.out (fun h => h) (fun _ _ h => h)
          rwa [bv_append]
        · rw [List.length_append]; have := HO.out; have := HA.out; omega
    · have hA2 : acc.length ≤ 6040 := by have := HA.out; have := HK.out; omega
      have HA2 := Lib.hid hA2
      clear HC hA2
      by_cases hkN : k < N
      · obtain rfl : k = 20 := by have := HK.out; omega
        have q1 : (20 : Int) < (N : Int) := by omega
        clear HA HK
        have HA := HA2
        rcases her with ⟨rfl, rfl⟩ | ⟨rfl, rfl⟩
        · go_wp2_with fail
          refine (bytes_any bw w.heap.size v' 0 (bv acc) wr HW.out (bv_one _) (by rw [bv_length]; have := HA.out; omega)).mono ?_
          rintro e w4 ⟨v2, rfl, hown, F4⟩
          rw [bv_length] at hown
          obtain ⟨a3, c3, rfl, _⟩ := slice_of_own hown
          have hl := (lies_own hown).2.2.2
          have HLI := Lib.hid hl
          have HF4 := Lib.hid (HF.out.trans F4 (fun _ h => h.elim))
          clear hl hown F4 HW HF
          go_wp2_with fail
          refine (codes_any w4).mono ?_
          rintro e w5 ⟨rfl, F5⟩
          have hst := run_str (HLI.out.fr F5 (fun _ _ h => h)) c3 9 Try.underlying9
          have HF5 := Lib.hid (HF4.out.trans F5 (fun _ h => h.elim))
          clear HLI F5 HF4
          go_wp2_with fail
          go_ret
          exact ⟨rfl, HF5.out⟩
        · go_wp2_with fail
          refine (bytes_any bw w.heap.size v' 5 (bv acc) wr HW.out (bv_one _) (by rw [bv_length]; have := HA.out; omega)).mono ?_
          rintro e w4 ⟨v2, rfl, hown, F4⟩
          rw [bv_length] at hown
          obtain ⟨a3, c3, rfl, _⟩ := slice_of_own hown
          have hl := (lies_own hown).2.2.2
          have HLI := Lib.hid hl
          have HF4 := Lib.hid (HF.out.trans F4 (fun _ h => h.elim))
          clear hl hown F4 HW HF
          go_wp2_with fail
          refine (codes_any w4).mono ?_
          rintro e w5 ⟨rfl, F5⟩
          have hst := run_str (HLI.out.fr F5 (fun _ _ h => h)) c3 9 Try.underlying9
          have HF5 := Lib.hid (HF4.out.trans F5 (fun _ h => h.elim))
          clear HLI F5 HF4
          go_wp2_with fail
          go_ret
          exact ⟨rfl, HF5.out⟩
      · have q1 : ¬ ((k : Int) < (N : Int)) := by omega
        clear HA
        have HA := HA2
        rcases her with ⟨rfl, rfl⟩ | ⟨rfl, rfl⟩
        · go_wp2_with fail
          refine (bytes_any bw w.heap.size v' 0 (bv acc) wr HW.out (bv_one _) (by rw [bv_length]; have := HA.out; omega)).mono ?_
          rintro e w4 ⟨v2, rfl, hown, F4⟩
          rw [bv_length] at hown
          obtain ⟨a3, c3, rfl, _⟩ := slice_of_own hown
          have hl := (lies_own hown).2.2.2
          have HLI := Lib.hid hl
          have HF4 := Lib.hid (HF.out.trans F4 (fun _ h => h.elim))
          clear hl hown F4 HW HF
          go_wp2_with fail
          refine (codes_any w4).mono ?_
          rintro e w5 ⟨rfl, F5⟩
          have hst := run_str (HLI.out.fr F5 (fun _ _ h => h)) c3 9 Try.underlying9
          have HF5 := Lib.hid (HF4.out.trans F5 (fun _ h => h.elim))
          clear HLI F5 HF4
          go_wp2_with fail
          go_ret
          exact ⟨rfl, HF5.out⟩
        · go_wp2_with fail
          refine (bytes_any bw w.heap.size v' 5 (bv acc) wr HW.out (bv_one _) (by rw [bv_length]; have := HA.out; omega)).mono ?_
          rintro e w4 ⟨v2, rfl, hown, F4⟩
          rw [bv_length] at hown
          obtain ⟨a3, c3, rfl, _⟩ := slice_of_own hown
          have hl := (lies_own hown).2.2.2
          have HLI := Lib.hid hl
          have HF4 := Lib.hid (HF.out.trans F4 (fun _ h => h.elim))
          clear hl hown F4 HW HF
          go_wp2_with fail
          refine (codes_any w4).mono ?_
          rintro e w5 ⟨rfl, F5⟩
          have hst := run_str (HLI.out.fr F5 (fun _ _ h => h)) c3 9 Try.underlying9
          have HF5 := Lib.hid (HF4.out.trans F5 (fun _ h => h.elim))
          clear HLI F5 HF4
          go_wp2_with fail
          go_ret
          exact ⟨rfl, HF5.out⟩
end Go.Proofs.Ytdlmfodnookmhaa

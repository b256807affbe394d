/-
  CodecBack: the first loop.
-/
import Derived.Test.YtdlmfodnookmhaaMi
namespace Go.Proofs.Ytdlmfodnookmhaa
open Go.RowKit
set_option linter.unusedVariables false
set_option linter.unusedSimpArgs false
set_option maxRecDepth 100000 in
set_option maxHeartbeats 6400000 in
theorem back1 {Q : Exit → Act → World → Prop} {w0 w : World} {bw : Nat} {v1 : Value} {a : Option Addr} {cap N : Nat} {ps : List Prt} (hNp : N = ps.length) (hc : ∀ j x, ps[j]? = some x → ∃ g o, a = some ⟨g, o, none⟩ ∧ g < w0.heap.size ∧ (∀ i u, x.cells[i]? = some u → w0.cell? ⟨g, o + j * 35 + i, none⟩ = some u) ∧ x.text.length ≤ maxLen ∧ In64 x.num)
    (I0 : Inv w0 w bw (.slice none 0 0) (.slice none 0 0) []) (t : Array Value) (hn : t.size = 156)
    (p0 : t[0]? = some (.slice a N cap)) (p1 : t[1]? = some v1) (p5 : t[5]? = some (.pointer (some ⟨bw, 0, none⟩))) (p6 : t[6]? = some (.slice none 0 0)) (p7 : t[7]? = some (.int .i64 0))
    (hexit : ∀ t' w' ks v' vin, t'.size = 156 → t'[1]? = some v1 → t'[5]? = some (.pointer (some ⟨bw, 0, none⟩)) → t'[6]? = some vin → ks.length ≤ 20 → Inv w0 w' bw v' vin ks → Q (.exit 0) ⟨t', []⟩ w') :
    Code.wp Try.prog (.loop (loopAt Try.f4 0)) Q ⟨t, []⟩ w := by
  refine wp_loop_up (min N 20) (fun k t w' => t.size = 156 ∧ t[0]? = some (.slice a N cap) ∧ t[1]? = some v1 ∧ t[5]? = some (.pointer (some ⟨bw, 0, none⟩)) ∧ t[7]? = some (.int .i64 (k : Int)) ∧ ∃ ks v' vin, t[6]? = some vin ∧ ks.length ≤ k ∧ Inv w0 w' bw v' vin ks) t w ⟨hn, p0, p1, p5, p7, [], _, _, p6, by simp, I0⟩ ?_
  clear hn p0 p1 p5 p6 p7 t
  rintro k t w1 hk ⟨hn, p0, p1, p5, p7, ks, v', vin, p6, hks, I1⟩ K hK
  obtain ⟨f, hff, rfl⟩ := frame_open hn
  have e0 := hff 0 _ p0
  have e1 := hff 1 _ p1
  have e5 := hff 5 _ p5
  have e6 := hff 6 _ p6
  have e7 := hff 7 _ p7
  clear hff hn p0 p1 p5 p6 p7
  rw [lit156, e0, e1, e5, e6, e7]
  clear e0 e1 e5 e6 e7
  conv => arg 2; whnf
  have HE := Lib.hid hexit
  have HK := Lib.hid hK
  have HI := Lib.hid I1
  have HKS := Lib.hid hks
  have HC := Lib.hid hc
  have HKM := Lib.hid hk
  clear hexit hK I1 hks hc I0
  have hN := hNp
  have HN := Lib.hid hN
  clear hNp
  by_cases hlt : k < N ∧ k < 20
  · have q1 : (k : Int) < (N : Int) := by omega
    have q2 : (k : Int) < 20 := by omega
    have q0 : (0 : Int) ≤ (k : Int) := by omega
    have HK9 := Lib.hid hlt
    have m1 : wrap64 ((k : Int) + 1) = (k : Int) + 1 := IntWalk.wrap64_in _ (by omega)
    obtain ⟨x, hx⟩ : ∃ x, ps[k]? = some x := ⟨_, List.getElem?_eq_getElem (by omega)⟩
    obtain ⟨g, o, rfl, hg, hcs, htx, hin⟩ := HC.out k x hx
    obtain ⟨kk, z, f, t⟩ := x
    have hcr : ∀ i u, (pt kk z f t)[i]? = some u → w1.cell? ⟨g, o + k * 35 + i, none⟩ = some u := fun i u hu => HI.out.fr.cellSome (fun h => h) (hcs i u hu)
    have htl : t.length ≤ 9223372036854775807 := by have : t.length ≤ maxLen := htx; unfold maxLen at this; omega
    obtain ⟨zk, q, hz, hq, hq5⟩ := mod5 kk
    have HT0 := Lib.hid (fun V : World => tame_any kk z zk q f t hz hq hq5 htl V)
    have HQ := Lib.hid hq5
    have HCR := Lib.hid hcr
    have HIN := Lib.hid hin
    clear hcs htx hx hlt hz hq hq5 htl hcr hg HC hN hk HKM
    go_wp2_with (first | (focus (((with_reducible refine' wpList_load_cells rfl 34 (.tmp 33) rfl g (o + k * 35) rfl (pt kk z f t) _ _ Try.underlying34 rfl szPt _ _ _); (focus exact HCR.out); (focus exact pt_size _ _ _ _)); try (simp only [Act.put, List.setIfInBounds_toArray, List.set_cons_zero, List.set_cons_succ]))))
    refine (HT0.out _).mono ?_
    rintro e w4 ⟨rfl, F4⟩
    have ht3 : (t.take 300).length ≤ 300 := by rw [List.length_take]; omega
    generalize t.take 300 = t3 at ht3 ⊢
    have HT3 := Lib.hid ht3
    have K1 := (Kn.start w4).new w4.heap.size 35 #[.int .i64 0, .int .i64 0, .int .u8 0, .int .u8 0, .int .u8 0, .int .u8 0, .int .u8 0, .int .u8 0, .int .u8 0, .int .u8 0, .int .u8 0, .int .u8 0, .int .u8 0, .int .u8 0, .int .u8 0, .int .u8 0, .int .u8 0, .int .u8 0, .int .u8 0, .int .u8 0, .int .u8 0, .int .u8 0, .int .u8 0, .int .u8 0, .int .u8 0, .int .u8 0, .int .u8 0, .int .u8 0, .int .u8 0, .int .u8 0, .int .u8 0, .int .u8 0, .int .u8 0, .int .u8 0, .string ⟨#[]⟩] 34 rfl zPt2
    have HI4 := Lib.hid (HI.out.fr' F4)
    clear HT0 HCR HI F4 ht3
    go_wp2_with (first | (focus (((with_reducible refine' wpList_store_kn K1 rfl 34 (.tmp 8) (.tmp 35) rfl 0 _ _ _ _ _ rfl rfl szPt _ _ _); rotate_left 2; (focus exact rfl)); (focus exact pt_sz _ _ _ _); intro wz Kz; simp only [List.set_cons_zero, List.set_cons_succ] at Kz; clear K1; have K2 := Kz; clear Kz; try (simp only [Act.put, List.setIfInBounds_toArray, List.set_cons_zero, List.set_cons_succ]))) | (focus (((with_reducible refine' wpList_load_kn K2 rfl 34 (.tmp 8) rfl 0 _ _ _ _ rfl _ Try.underlying34 rfl szPt _ _); rotate_left 2; (focus exact rfl)); try (simp only [Act.put, List.setIfInBounds_toArray, List.set_cons_zero, List.set_cons_succ]))))
    have HIz := Lib.hid (HI4.out.fr' K2.fr)
    have hgz := K2.heap 0 rfl
    have hv4 : ∀ j, v'.ownBlock = some j ∨ vin.ownBlock = some j ∨ j = bw → j < w4.heap.size := fun j e => by
      rcases e with e | e | e
      · exact (HI4.out.wr.row_lt _ e).2
      · exact (own_lt HI4.out.own _ e).2
      · rw [e]; exact lt_of_block HI4.out.wr.blk
    have HV4 := Lib.hid hv4
    clear HI4 hv4 K2
    generalize w4.heap.size = gp at *
    refine (rwrite_any q HQ.out z f t3 HT3.out _).mono ?_
    rintro e w6 ⟨rfl, F6⟩
    have hp6 := (F6.kp hgz)
    have HI6 := Lib.hid (HIz.out.fr' F6)
    have ho := enc_le q z f t3 HT3.out
    obtain ⟨oo, hoo⟩ : ∃ oo, enc q z f t3 = oo := ⟨_, rfl⟩
    rw [hoo] at ho ⊢
    have HO := Lib.hid ho
    have HOO := Lib.hid hoo
    clear F6 ho hoo HIz hgz
    cases oo with
    | none =>
      clear hp6
      go_wp2_with fail
      exact HK.out _ _ (by have := HK9.out; have := HN.out; omega) ⟨rfl, rfl, rfl, rfl, by simp, ks, v', vin, rfl, by have := HKS.out; omega, HI6.out⟩
    | some l =>
      have HP6 := Lib.hid hp6
      have O6 := own_fr HI6.out.own ((Fr.refl (fun _ => False) w6).alloc (.cells (pt (1 + (q : Int)) z f t3) 34)) (fun _ _ h => h)
      have R6 : (w6.alloc (.cells (pt (1 + (q : Int)) z f t3) 34)).heap[w6.heap.size]? = some (.cells (pt (1 + (q : Int)) z f t3) 34 (0, 0)) := heap_alloc_new _ _
      obtain ⟨ti, zv, t1, t2, t3', t4, t5⟩ := ptInfo
      have HT := Lib.hid (And.intro t1 (And.intro t2 (And.intro t3' (And.intro t4 t5))))
      have hsrc : Src Try.prog 35 22 (.slice (some ⟨w6.heap.size, 0, none⟩) 1 1) 1 (pt (1 + (q : Int)) z f t3).toList (w6.alloc (.cells (pt (1 + (q : Int)) z f t3) 34)) := Src.ofSlice (w6.alloc (.cells (pt (1 + (q : Int)) z f t3) 34)) Try.underlying22 ⟨w6.heap.size, 0, none⟩ 1 1 (pt (1 + (q : Int)) z f t3).toList (by rw [Array.length_toList, pt_size]) (fun j u hj => by
        rw [Addr.add_mid, Nat.zero_add, cell_of_block R6]; simpa using hj) (fun u hu => (Array.all_eq_true_iff_forall_mem.1 (pt_one (1 + (q : Int)) z f t3)) u (by simpa using hu))
      have HSRC := Lib.hid hsrc
      have HO6 := Lib.hid O6
      have HMX := Lib.hid (show ks.length + 1 ≤ maxLen by have := HKS.out; have := HK9.out; simp only [maxLen]; omega)
      have HBY := Lib.hid (show (ks.length + 1) * 64 ≤ 140737488355328 by have := HKS.out; have := HK9.out; omega)
      have HBS := Lib.hid (show w0.heap.size ≤ (w6.alloc (.cells (pt (1 + (q : Int)) z f t3) 34)).heap.size by have := HI6.out.fr.size; simp; omega)
      clear O6 R6 hsrc t1 t2 t3' t4 t5
      go_wp2_with (first | (focus (((with_reducible refine' wpList_load_row rfl 34 (.tmp 8) rfl gp rfl 34 _ (0, 0) _ hp6 Try.underlying34 rfl (by rw [szPt, pt_size]) _)); try (simp only [Act.put, List.setIfInBounds_toArray, List.set_cons_zero, List.set_cons_succ]))) | (focus (((with_reducible refine' wpList_load_row rfl 34 (.tmp 8) rfl gp rfl 34 _ (0, 0) _ hp7 Try.underlying34 rfl (by rw [szPt, pt_size]) _)); try (simp only [Act.put, List.setIfInBounds_toArray, List.set_cons_zero, List.set_cons_succ]))) | (focus ((refine wpList_buildSlice rfl 22 1 _ rfl #[(0, .agg (pt (1 + (q : Int)) z f t3))] (by first | kernel_rfl | rfl | simp [Act.eval]) (mkP _ _ _ _ _) ?_); simp only [Act.put, List.setIfInBounds_toArray, List.set_cons_zero, List.set_cons_succ])) | (focus ((refine wpList_app _ rfl (.tmp 43) (.tmp 45) 22 22 rfl w0.heap.size 34 ti zv 35 64 Try.underlying22 HT.out.1 HT.out.2.1 HT.out.2.2.1 HT.out.2.2.2.1 HT.out.2.2.2.2 (by decide) vin ks.length (flat ks) rfl HO6.out _ rfl 1 (pt (1 + (q : Int)) z f t3).toList HSRC.out HMX.out HBY.out HBS.out ?_); intro v2 w7 O7 G7 G7x; have hp7 := ((Fr.ofGrown G7).block gp (by have := lt_of_block HP6.out; simp; omega) (fun e => by have := HV4.out gp (.inr (.inl e)); omega)).trans (((Fr.refl (fun _ => False) w6).alloc _).kp HP6.out); clear hp6; simp only [Act.put, List.setIfInBounds_toArray, List.set_cons_zero, List.set_cons_succ])))
      have hw6 : w6.heap.size < (w6.alloc (.cells (pt (1 + (q : Int)) z f t3) 34)).heap.size := by simp
      have FG := Fr.ofGrown G7
      have A6 := (Fr.refl (fun _ => False) w6).alloc (.cells (pt (1 + (q : Int)) z f t3) 34)
      have W7 : Wr w7 bw w0.heap.size v' (bv (bts ks)) 0 := (HI6.out.wr.fr A6 (fun h => h) (fun _ _ h => h)).fr FG (fun e => HI6.out.s1 e) (fun j hj e => HI6.out.s2 j e hj)
      have HW7 := Lib.hid W7
      have HO7 := Lib.hid O7
      have HFG := Lib.hid FG
      have HA6 := Lib.hid A6
      have HGX := Lib.hid G7x
      have HW6 := Lib.hid hw6
      clear W7 O7 FG A6 G7x hw6 G7 HSRC HO6 HMX HBY HBS HT
      refine (write_any q HQ.out bw w0.heap.size v' 0 (bv (bts ks)) z f t3 HT3.out w7 HW7.out (by rw [bv_length]; have := HI6.out.len; have := HKS.out; have := HK9.out; omega)).mono ?_
      rintro e w8 ⟨rfl, v5, h5, F5, o5⟩
      rw [HOO.out] at h5
      have HX5 := Lib.hid h5
      have HF5 := Lib.hid F5
      have HO5 := Lib.hid o5
      clear h5 F5 o5 hp7
      go_wp2_with fail
      have hs1 : ∀ j, vin.ownBlock = some j → j < w6.heap.size := fun j hj => (own_lt HI6.out.own _ hj).2
      have hb1 : bw < w6.heap.size := lt_of_block HI6.out.wr.blk
      have hv1 : ∀ j, v'.ownBlock = some j → j < w6.heap.size := fun j hj => (HI6.out.wr.row_lt _ hj).2
      have hsz : (w6.alloc (.cells (pt (1 + (q : Int)) z f t3) 34)).heap.size ≤ w7.heap.size := HFG.out.size
      have hw6 := HW6.out
      have hsep1 : v2.ownBlock ≠ some bw := fun e => by
        rcases HGX.out with o | o
        · exact HI6.out.s1 (by rw [← o]; exact e)
        · rw [o] at e; have := Option.some.inj e; omega
      have hsep2 : ∀ j, v2.ownBlock = some j → v'.ownBlock ≠ some j := fun j hj e => by
        rcases HGX.out with o | o
        · exact HI6.out.s2 j (by rw [← o]; exact hj) e
        · rw [o] at hj; have := Option.some.inj hj; have := hv1 j e; omega
      refine HK.out _ _ (by have := HK9.out; have := HN.out; omega) ⟨rfl, rfl, rfl, rfl, by simp, ks ++ [⟨q, z, f, t3⟩], v5, v2, rfl, by have := HKS.out; simp; omega, ?_⟩
      refine ⟨?_, ?_, hsep1, fun j hj e => ?_, fun x hx => ?_, ?_, HI6.out.bw0, ?_⟩
      · rw [flat_snoc, List.length_append]
        exact own_fr HO7.out HF5.out (fun j hj e => e.elim (fun e => hsep1 (by rw [hj, e])) (fun e => hsep2 j hj e))
      · rw [bts_snoc, bv_append]
        have : encd (Rp.bytes ⟨q, z, f, t3⟩) = encd (some l) := by show encd (enc q z f t3) = _; rw [HOO.out]
        rw [this]; exact HX5.out
      · rcases HO5.out with o | o
        · exact hsep2 j hj (by rw [← o]; exact e)
        · have h1 := o j e
          have h2 := (own_lt HO7.out j hj).2
          omega
      · rcases List.mem_append.1 hx with hx | hx
        · exact HI6.out.ok x hx
        · have e : x = ⟨q, z, f, t3⟩ := by simpa using hx
          rw [e]
          exact ⟨HQ.out, HIN.out, HT3.out, l, HOO.out⟩
      · refine ((HI6.out.fr.trans HA6.out (fun _ h => h.elim)).trans HFG.out (fun j hj => .inr (own_lt HI6.out.own j hj).1)).trans HF5.out (fun j hj => .inr ?_)
        rcases hj with e | e
        · rw [e]; exact HI6.out.bw0
        · exact (HI6.out.wr.row_lt j e).1
      · rw [bts_snoc, List.length_append, List.length_append]
        have h1 := HI6.out.len
        have h2 := HO.out
        have : encd (Rp.bytes ⟨q, z, f, t3⟩) = encd (some l) := by show encd (enc q z f t3) = _; rw [HOO.out]
        rw [this]
        simp only [List.length_cons, List.length_nil]
        omega
  · have hk20 : k ≤ 20 := by omega
    have HK20 := Lib.hid hk20
    by_cases hkN : k < N
    · obtain rfl : k = 20 := by omega
      have q1 : (20 : Int) < (N : Int) := by omega
      clear hk hN hk20 hlt
      go_wp2_with fail
      exact HE.out _ _ ks v' vin rfl rfl rfl rfl HKS.out HI.out
    · have q1 : ¬ ((k : Int) < (N : Int)) := by omega
      clear hk hN hk20 hlt
      go_wp2_with fail
      exact HE.out _ _ ks v' vin rfl rfl rfl rfl (by have := HKS.out; have := HK20.out; omega) HI.out
end Go.Proofs.Ytdlmfodnookmhaa

/-
  Write of an armed disk.
-/
import Derived.Test.YtgladedjgjhlaaaTn
namespace Go.Proofs.Ytgladedjgjhlaaa
open Go.RowKit
set_option linter.unusedVariables false
set_option linter.unusedSimpArgs false

set_option maxRecDepth 100000 in
set_option maxHeartbeats 3200000 in
theorem write_off {w : World} {d bn bl n : Nat} {N L : Nat → Nat → UInt8} {ws : List (Nat × (Nat → UInt8))} {wv : Value} {wr : Int} {base : Nat} (h : DA w d bn bl n N L ws wv wr 1 false base) (hm : ws.length < 1000000000000) (hwr : In64 (wr + 1))  (i : Nat) (hi : i < n) (b : Nat → UInt8) :
    Calls Try.prog 19 #[.pointer (some ⟨d, 0, none⟩), .int .i64 (i : Int), .agg (ub 128 b)] w fun e w' => e = .returned (.int .i64 13) ∧ ∃ v', w'.heap[d]? = some (.cells (dcells bn bl n v' (wr + 1) (0) true) 106 (0, 0)) ∧ w'.heap[bn]? = some (.cells (bk n (bset N i b)) 30 (0, 0)) ∧ w'.ownsRow base 108 129 v' (ws.length + 1) (wcells ws ++ (wrow i b).toList) ∧ (v'.ownBlock = wv.ownBlock ∨ ∃ k, v'.ownBlock = some k ∧ w.heap.size ≤ k) ∧ Fr (Wt d bn wv) w w' := by
  have hre := fun W hF => h.reach (i : Int) W hF
  rw [show rcode n false (i : Int) = 0 by unfold rcode; simp; omega] at hre
  have HR := Lib.hid hre
  have sB : Sz 128 (ub 128 b) := ⟨ub_size _ _, ub_one _ _⟩
  generalize hBB : ub 128 b = B at *
  have K := (Kn.start w).new (w.heap.size) 128 B 30 rfl sB.1
  clear hre
  go_enter Try.func19, Try.ntmps19
  go_wp2_with fail
  refine (HR.out _ K.fr).mono ?_
  rintro e w2 ⟨rfl, F2⟩
  have K2 := K.call F2
  clear K
  have K := K2
  clear K2
  have hd2 := (K.fr.block _ (lt_of_block h.blk) (fun h => h)).trans h.blk
  have hb2 := (K.fr.block _ (lt_of_block h.now) (fun h => h)).trans h.now
  have hv2 := K.heap 0 rfl
  have nB : ¬ (w.heap.size = bn) := by have := lt_of_block h.now; omega
  have nd : ¬ (d = bn) := h.d1
  have q0 : (0 : Int) ≤ (i : Int) := by omega
  have q1 : (i : Int) < (n : Int) := by omega
  have hn := h.hn
  go_wp2_with fail
  refine Ks.wp_region_mono (fun k => k = bn) (sg 0 7 ++ ((7, true) :: [])) (by kernel_rfl) (by kernel_rfl) ?_
  refine Ks.Wk.seg 0 7 (by kernel_rfl) (by kernel_rfl) ?_
  apply Exists.intro
  refine ⟨?wk0, ?fin0⟩
  case wk0 =>
      intro γ
      have c0 : ∀ y : Ks.Ws γ, y.w.cell? ⟨d, 0, none⟩ = some (.slice (some ⟨bn, 0, none⟩) n n) := fun y => by rw [cell_of_block (y.blk hd2 nd)]; rfl
      simp only [List.drop_succ_cons, List.drop_zero, List.take_succ_cons, List.take_zero]
      repeat (any_goals (first | (focus (go_big_quiet_want; (refine' Ks.quiet_load_rows 30 (.tmp 5) rfl w.heap.size rfl _ _ _ _ hv2 nB Try.underlying30 rfl (by rw [sB.1]; exact Try.szBk) _); simp only [Act.put, List.setIfInBounds_toArray, List.set_cons_zero, List.set_cons_succ]; go_big_quiet_on)) | go_big_quiet_step (fail) | quiet_step (fail)))
      exact wpQuiet_nil rfl
  case fin0 =>
    (try simp only [Act.put, List.setIfInBounds_toArray, List.set_cons_zero, List.set_cons_succ])
    refine Ks.Wk.one rfl (fun w3 X3 => ?_)
    have b3 := (X3.block _ (lt_of_block hb2) (fun h => h)).trans hb2
    refine wpList_store_part rfl 30 (.tmp 20) (.tmp 19) rfl bn (i * 128) B rfl rfl (by rw [sB.1]; exact Try.szBk) sB.2 30 _ b3 (by rw [sB.1, bk_size]; omega) (fun w4 B4 F4 => ⟨rfl, F4, ?_⟩)
    rw [sB.1, Nat.mul_comm, ← hBB, bk_set n N i hi b] at B4
    have F4' : Fr (fun k => k = bn) w2 w4 := (X3.mono (fun _ _ h => h.elim)).trans F4 (fun _ h => .inl h)
    simp only [Act.put, List.setIfInBounds_toArray, List.set_cons_zero, List.set_cons_succ]
    intro w5 X5
    have F5 : Fr (fun k => k = bn) w w5 := ((K.fr.mono (fun _ _ h => h.elim)).trans F4' (fun _ h => .inl h)).trans X5 (fun _ h => h.elim)
    have B5 := (X5.block _ (lt_of_block B4) (fun h => h)).trans B4
    have F25 : Fr (fun k => k = bn) w2 w5 := F4'.trans X5 (fun _ h => h.elim)
    have V5 := (F25.block _ (lt_of_block hv2) nB).trans hv2
    have D5 := (F25.block _ (lt_of_block hd2) nd).trans hd2
    clear K F2 hd2 hb2 hv2 X3 b3 B4 F4 F4' X5 HR
    go_wp2_with fail
    have nO : ¬ (wv.ownBlock = some w.heap.size) := by
      intro hc
      rcases h.own.2 with ⟨e, h0⟩ | ⟨g, cap, cur, e, hb, hg, rest⟩
      · rw [e] at hc; exact absurd hc (by simp [Value.ownBlock])
      · rw [e] at hc
        have : g = w.heap.size := by simpa [Value.ownBlock] using hc
        have := lt_of_block hg
        omega
    have nd2 : ¬ (wv.ownBlock = some d) := h.o1
    refine Kz.wp_region_mono (fun k => wv.ownBlock = some k) 12 (sg 0 7 ++ ((7, true) :: (8, true) :: (9, true) :: (10, true) :: (11, true) :: (12, true) :: [])) (by kernel_rfl) (by kernel_rfl) ?_
    refine Kz.Wk.seg 0 7 (by kernel_rfl) (by kernel_rfl) ?_
    apply Exists.intro
    refine ⟨?wk1, ?fin1⟩
    case wk1 =>
      intro γ
      have c2 : ∀ y : Ks.Ws γ, y.w.cell? ⟨d, 2, none⟩ = some wv := fun y => by rw [cell_of_block (y.blk D5 nd2)]; rfl
      simp only [List.drop_succ_cons, List.drop_zero, List.take_succ_cons, List.take_zero]
      repeat (any_goals (first | (focus (go_big_quiet_want; (refine' Ks.quiet_load_rows 30 (.tmp 5) rfl w.heap.size rfl _ _ _ _ V5 nO Try.underlying30 rfl (by rw [sB.1]; exact Try.szBk) _); simp only [Act.put, List.setIfInBounds_toArray, List.set_cons_zero, List.set_cons_succ]; go_big_quiet_on)) | go_big_quiet_step (fail) | quiet_step (fail)))
      exact wpQuiet_nil rfl
    case fin1 =>
    (try simp only [Act.put, List.setIfInBounds_toArray, List.set_cons_zero, List.set_cons_succ])
    have hb7 : ∀ w, (Instr.build 108 #[(0, .int .i64 (i : Int)), (1, .agg B)]).run Try.prog w = .ok (.agg (wrow i b)) w := fun w => by rw [← hBB]; exact mkW i b w
    refine Kz.Wk.one rfl (fun w6 X6 => ?_)
    refine wpList_build rfl 108 _ rfl #[(0, .int .i64 (i : Int)), (1, .agg B)] (by first | kernel_rfl | rfl | simp [Act.eval]) (hb7 w6) ⟨rfl, fun _ => Fr.refl _ _, ?_⟩
    simp only [Act.put, List.setIfInBounds_toArray, List.set_cons_zero, List.set_cons_succ]
    refine Kz.Wk.one rfl (fun w7 X7 => ?_)
    refine wpList_buildSlice rfl 104 1 _ rfl #[(0, .agg (wrow i b))] (by first | kernel_rfl | rfl | simp [Act.eval]) (mkS i b w7) ⟨rfl, fun _ => (Fr.refl _ w7).alloc _, ?_⟩
    simp only [Act.put, List.setIfInBounds_toArray, List.set_cons_zero, List.set_cons_succ]
    refine Kz.Wk.one rfl (fun w8 X8 => ?_)
    have X58 : Fr (fun _ => False) w5 w8 := ((Ex.tr X6 X7).alloc _).trans X8 (fun _ h => h.elim)
    have F8 : Fr (fun k => k = bn) w w8 := F5.trans X58 (fun _ h => h.elim)
    have O8 := own_fr h.own F8 (fun k hk hb => h.o2 (by rw [hk, hb]))
    have R8 := (X8.block _ (by simp) (fun h => h)).trans (show (w7.alloc (.cells (wrow i b) 108)).heap[w7.heap.size]? = some (.cells (wrow i b) 108 (0, 0)) from heap_alloc_new _ _)
    obtain ⟨ti, z, t1, t2, t3, t4, t5⟩ := wInfo
    have hnew : ∀ j u, (wrow i b).toList[j]? = some u → w8.cell? ((⟨w7.heap.size, 0, none⟩ : Addr).add j) = some u := fun j u hj => by
      rw [Addr.add_mid, Nat.zero_add, cell_of_block R8]; simpa using hj
    have hb8 : base ≤ w8.heap.size := by have := h.b1; have := lt_of_block h.blk; have := F8.size; omega
    refine wpList_app _ rfl (.tmp 25) (.tmp 29) 104 104 rfl base 108 ti z 129 136 Try.underlying104 t1 t2 t3 t4 t5 (by decide) wv ws.length (wcells ws) rfl O8 _ rfl 1 (wrow i b).toList (Src.ofSlice _ Try.underlying104 ⟨w7.heap.size, 0, none⟩ 1 1 _ (by rw [Array.length_toList, wrow_size]) hnew (wrow_one i b)) (by simp only [maxLen]; omega) (by omega) hb8 (fun v' w9 O9 G9 G9x => ⟨rfl, fun _ => Fr.ofGrown G9, ?_⟩)
    have X89 := Fr.ofGrown G9
    have F9 : Fr (fun k => k = bn ∨ wv.ownBlock = some k) w w9 := (F8.mono (fun _ _ h => Or.inl h)).trans X89 (fun _ h => .inl (.inr h))
    simp only [Act.put, List.setIfInBounds_toArray, List.set_cons_zero, List.set_cons_succ]
    refine Kz.Wk.one rfl (fun wa Xa => ?_)
    go_wp2_with fail
    refine ⟨Fr.refl _ _, ?_⟩
    refine Kz.Wk.one rfl (fun wb Xb => ?_)
    go_wp2_with fail
    refine ⟨Fr.refl _ _, ?_⟩
    refine Kz.Wk.one rfl (fun wc Xc => ?_)
    have X9c : Fr (fun _ => False) w9 wc := Ex.tr (Ex.tr Xa Xb) Xc
    have Fc := F9.trans X9c (fun _ h => h.elim)
    have Dc := (Fc.block _ (lt_of_block h.blk) (fun hh => hh.elim nd nd2)).trans h.blk
    have szs : (Try.prog.info? 104).map (·.size) = some 1 := by kernel_rfl
    refine wpList_store_one rfl 104 (.tmp 32) (.tmp 30) rfl d 2 rfl v' rfl (own_shape O9).1 (own_shape O9).2 szs 106 _ Dc (by simp [dcells]) (fun wd Dd Fd => ⟨rfl, fun hne => absurd rfl hne, ?_⟩)
    simp only [Act.put, List.setIfInBounds_toArray, List.set_cons_zero, List.set_cons_succ]
    intro we Xe
    have De := (Xe.block _ (lt_of_block Dd) (fun hh => hh)).trans Dd
    have Oe := own_fr (own_fr (own_fr O9 X9c (fun _ _ hh => hh)) Fd (fun k hk hb => by
      have hb : k = d := hb
      rw [hb] at hk
      rcases G9x with e | e
      · exact h.o1 (by rw [← e]; exact hk)
      · rw [e] at hk
        have : w8.heap.size = d := by simpa using hk
        have := lt_of_block h.blk
        have := F8.size
        omega)) Xe (fun _ _ hh => hh)
    have s1 := (X58.block _ (lt_of_block B5) (fun hh => hh)).trans B5
    have s2 := (X89.block _ (lt_of_block s1) h.o2).trans s1
    have s3 := (X9c.block _ (lt_of_block s2) (fun hh => hh)).trans s2
    have s4 := (Fd.block _ (lt_of_block s3) (fun hh => nd hh.symm)).trans s3
    have Be := (Xe.block _ (lt_of_block s4) (fun hh => hh)).trans s4
    clear s1 s2 s3 s4
    have G9y : v'.ownBlock = wv.ownBlock ∨ ∃ k, v'.ownBlock = some k ∧ w.heap.size ≤ k := G9x.imp id (fun e => ⟨_, e, F8.size⟩)
    have Fe : Fr (Wt d bn wv) w we := ((Fc.mono (fun k _ hh => hh.elim (fun e => .inr (.inl e)) (fun e => .inr (.inr e)))).trans Fd (fun k e => .inl (.inl e))).trans Xe (fun _ hh => hh.elim)
    have nO2 : ∀ k, v'.ownBlock = some k → ¬ (k = d) := fun k hk hb => by
      rw [hb] at hk
      rcases G9y with e | ⟨k2, e, hk2⟩
      · exact h.o1 (by rw [← e]; exact hk)
      · rw [e] at hk
        have : k2 = d := by simpa using hk
        have := lt_of_block h.blk
        omega
    clear G9x G9 O9 X9c X89 Xe Fd Dd Dc Fc F9 Xa Xb Xc R8 hnew O8 F8 X58 X8 X7 X6 hb8 B5 D5 V5 F5 F25 t1 t2 t3 t4 t5
    have De' : we.heap[d]? = some (.cells (dcells bn bl n v' wr 1 false) 106 (0, 0)) := De
    have c3 : we.cell? ⟨d, 3, none⟩ = some (.int .i64 wr) := by rw [cell_of_block De']; rfl
    have szi : (Try.prog.info? 3).map (·.size) = some 1 := by kernel_rfl
    have hwr2 := hwr.k
    skip
    clear De
    have szb : (Try.prog.info? 4).map (·.size) = some 1 := by kernel_rfl
    go_wp2_with (first | (focus ((with_reducible refine wpList_store_one ?p0 3 (.tmp 39) (.tmp 37) ?p1 d 3 ?p2 (.int .i64 (wr + 1)) ?p3 ?p4 ?p5 szi 106 _ De' ?p6 ?p7); (case p0 => rfl); (case p1 => rfl); (case p2 => rfl); (case p3 => first | rfl | (simp [Act.eval, hwr2, a2]; done)); (case p4 => rfl); (case p5 => rfl); (case p6 => simp [dcells]); intro w10 h10 F10; (simp only [Act.put, List.setIfInBounds_toArray, List.set_cons_zero, List.set_cons_succ]); have De2 : w10.heap[d]? = some (.cells (dcells bn bl n v' (wr + 1) 1 false) 106 (0, 0)) := h10; have c4De2 : w10.cell? ⟨d, 4, none⟩ = some (.int .i64 (1)) := (cell_of_block De2 4).trans rfl; have c5De2 : w10.cell? ⟨d, 5, none⟩ = some (.bool false) := (cell_of_block De2 5).trans rfl)) | (focus ((with_reducible refine wpList_store_one ?q0 3 (.tmp 51) (.tmp 49) ?q1 d 4 ?q2 (.int .i64 (0)) ?q3 ?q4 ?q5 szi 106 _ De2 ?q6 ?q7); (case q0 => rfl); (case q1 => rfl); (case q2 => rfl); (case q3 => first | rfl | (simp [Act.eval, hwr2, a2]; done)); (case q4 => rfl); (case q5 => rfl); (case q6 => simp [dcells]); intro w11 h11 F11; (simp only [Act.put, List.setIfInBounds_toArray, List.set_cons_zero, List.set_cons_succ]); have De3 : w11.heap[d]? = some (.cells (dcells bn bl n v' (wr + 1) (0) false) 106 (0, 0)) := h11; have c4De3 : w11.cell? ⟨d, 4, none⟩ = some (.int .i64 ((0))) := (cell_of_block De3 4).trans rfl; have c5De3 : w11.cell? ⟨d, 5, none⟩ = some (.bool false) := (cell_of_block De3 5).trans rfl)) | (focus ((with_reducible refine wpList_store_one ?r0 4 (.tmp 59) (.tmp 57) ?r1 d 5 ?r2 (.bool true) ?r3 ?r4 ?r5 szb 106 _ De3 ?r6 ?r7); (case r0 => rfl); (case r1 => rfl); (case r2 => rfl); (case r3 => first | rfl | (simp [Act.eval, hwr2, a2]; done)); (case r4 => rfl); (case r5 => rfl); (case r6 => simp [dcells]); intro w12 h12 F12; (simp only [Act.put, List.setIfInBounds_toArray, List.set_cons_zero, List.set_cons_succ]); have De4 : w12.heap[d]? = some (.cells (dcells bn bl n v' (wr + 1) (0) true) 106 (0, 0)) := h12; have c4De4 : w12.cell? ⟨d, 4, none⟩ = some (.int .i64 ((0))) := (cell_of_block De4 4).trans rfl; have c5De4 : w12.cell? ⟨d, 5, none⟩ = some (.bool true) := (cell_of_block De4 5).trans rfl)))
    go_ret
    have Fx : Fr (fun k => k = d) we w12 := (F10.trans F11 (fun _ h => .inl h)).trans F12 (fun _ h => .inl h)
    refine ⟨rfl, v', De4, (Fx.block _ (lt_of_block Be) (fun hh => nd hh.symm)).trans Be, own_fr Oe Fx nO2, G9y, Fe.trans Fx (fun k e => .inl (.inl e))⟩
set_option maxRecDepth 100000 in
set_option maxHeartbeats 3200000 in
theorem write_go {w : World} {d bn bl n : Nat} {N L : Nat → Nat → UInt8} {ws : List (Nat × (Nat → UInt8))} {wv : Value} {wr ar : Int} {base : Nat} (h : DA w d bn bl n N L ws wv wr ar false base) (hm : ws.length < 1000000000000) (hwr : In64 (wr + 1)) (har : 1 < ar) (ha2 : In64 ar) (i : Nat) (hi : i < n) (b : Nat → UInt8) :
    Calls Try.prog 19 #[.pointer (some ⟨d, 0, none⟩), .int .i64 (i : Int), .agg (ub 128 b)] w fun e w' => e = .returned (.int .i64 0) ∧ ∃ v', w'.heap[d]? = some (.cells (dcells bn bl n v' (wr + 1) (ar - 1) false) 106 (0, 0)) ∧ w'.heap[bn]? = some (.cells (bk n (bset N i b)) 30 (0, 0)) ∧ w'.ownsRow base 108 129 v' (ws.length + 1) (wcells ws ++ (wrow i b).toList) ∧ (v'.ownBlock = wv.ownBlock ∨ ∃ k, v'.ownBlock = some k ∧ w.heap.size ≤ k) ∧ Fr (Wt d bn wv) w w' := by
  have hre := fun W hF => h.reach (i : Int) W hF
  rw [show rcode n false (i : Int) = 0 by unfold rcode; simp; omega] at hre
  have HR := Lib.hid hre
  have sB : Sz 128 (ub 128 b) := ⟨ub_size _ _, ub_one _ _⟩
  generalize hBB : ub 128 b = B at *
  have K := (Kn.start w).new (w.heap.size) 128 B 30 rfl sB.1
  clear hre
  go_enter Try.func19, Try.ntmps19
  go_wp2_with fail
  refine (HR.out _ K.fr).mono ?_
  rintro e w2 ⟨rfl, F2⟩
  have K2 := K.call F2
  clear K
  have K := K2
  clear K2
  have hd2 := (K.fr.block _ (lt_of_block h.blk) (fun h => h)).trans h.blk
  have hb2 := (K.fr.block _ (lt_of_block h.now) (fun h => h)).trans h.now
  have hv2 := K.heap 0 rfl
  have nB : ¬ (w.heap.size = bn) := by have := lt_of_block h.now; omega
  have nd : ¬ (d = bn) := h.d1
  have q0 : (0 : Int) ≤ (i : Int) := by omega
  have q1 : (i : Int) < (n : Int) := by omega
  have hn := h.hn
  go_wp2_with fail
  refine Ks.wp_region_mono (fun k => k = bn) (sg 0 7 ++ ((7, true) :: [])) (by kernel_rfl) (by kernel_rfl) ?_
  refine Ks.Wk.seg 0 7 (by kernel_rfl) (by kernel_rfl) ?_
  apply Exists.intro
  refine ⟨?wk0, ?fin0⟩
  case wk0 =>
      intro γ
      have c0 : ∀ y : Ks.Ws γ, y.w.cell? ⟨d, 0, none⟩ = some (.slice (some ⟨bn, 0, none⟩) n n) := fun y => by rw [cell_of_block (y.blk hd2 nd)]; rfl
      simp only [List.drop_succ_cons, List.drop_zero, List.take_succ_cons, List.take_zero]
      repeat (any_goals (first | (focus (go_big_quiet_want; (refine' Ks.quiet_load_rows 30 (.tmp 5) rfl w.heap.size rfl _ _ _ _ hv2 nB Try.underlying30 rfl (by rw [sB.1]; exact Try.szBk) _); simp only [Act.put, List.setIfInBounds_toArray, List.set_cons_zero, List.set_cons_succ]; go_big_quiet_on)) | go_big_quiet_step (fail) | quiet_step (fail)))
      exact wpQuiet_nil rfl
  case fin0 =>
    (try simp only [Act.put, List.setIfInBounds_toArray, List.set_cons_zero, List.set_cons_succ])
    refine Ks.Wk.one rfl (fun w3 X3 => ?_)
    have b3 := (X3.block _ (lt_of_block hb2) (fun h => h)).trans hb2
    refine wpList_store_part rfl 30 (.tmp 20) (.tmp 19) rfl bn (i * 128) B rfl rfl (by rw [sB.1]; exact Try.szBk) sB.2 30 _ b3 (by rw [sB.1, bk_size]; omega) (fun w4 B4 F4 => ⟨rfl, F4, ?_⟩)
    rw [sB.1, Nat.mul_comm, ← hBB, bk_set n N i hi b] at B4
    have F4' : Fr (fun k => k = bn) w2 w4 := (X3.mono (fun _ _ h => h.elim)).trans F4 (fun _ h => .inl h)
    simp only [Act.put, List.setIfInBounds_toArray, List.set_cons_zero, List.set_cons_succ]
    intro w5 X5
    have F5 : Fr (fun k => k = bn) w w5 := ((K.fr.mono (fun _ _ h => h.elim)).trans F4' (fun _ h => .inl h)).trans X5 (fun _ h => h.elim)
    have B5 := (X5.block _ (lt_of_block B4) (fun h => h)).trans B4
    have F25 : Fr (fun k => k = bn) w2 w5 := F4'.trans X5 (fun _ h => h.elim)
    have V5 := (F25.block _ (lt_of_block hv2) nB).trans hv2
    have D5 := (F25.block _ (lt_of_block hd2) nd).trans hd2
    clear K F2 hd2 hb2 hv2 X3 b3 B4 F4 F4' X5 HR
    go_wp2_with fail
    have nO : ¬ (wv.ownBlock = some w.heap.size) := by
      intro hc
      rcases h.own.2 with ⟨e, h0⟩ | ⟨g, cap, cur, e, hb, hg, rest⟩
      · rw [e] at hc; exact absurd hc (by simp [Value.ownBlock])
      · rw [e] at hc
        have : g = w.heap.size := by simpa [Value.ownBlock] using hc
        have := lt_of_block hg
        omega
    have nd2 : ¬ (wv.ownBlock = some d) := h.o1
    refine Kz.wp_region_mono (fun k => wv.ownBlock = some k) 12 (sg 0 7 ++ ((7, true) :: (8, true) :: (9, true) :: (10, true) :: (11, true) :: (12, true) :: [])) (by kernel_rfl) (by kernel_rfl) ?_
    refine Kz.Wk.seg 0 7 (by kernel_rfl) (by kernel_rfl) ?_
    apply Exists.intro
    refine ⟨?wk1, ?fin1⟩
    case wk1 =>
      intro γ
      have c2 : ∀ y : Ks.Ws γ, y.w.cell? ⟨d, 2, none⟩ = some wv := fun y => by rw [cell_of_block (y.blk D5 nd2)]; rfl
      simp only [List.drop_succ_cons, List.drop_zero, List.take_succ_cons, List.take_zero]
      repeat (any_goals (first | (focus (go_big_quiet_want; (refine' Ks.quiet_load_rows 30 (.tmp 5) rfl w.heap.size rfl _ _ _ _ V5 nO Try.underlying30 rfl (by rw [sB.1]; exact Try.szBk) _); simp only [Act.put, List.setIfInBounds_toArray, List.set_cons_zero, List.set_cons_succ]; go_big_quiet_on)) | go_big_quiet_step (fail) | quiet_step (fail)))
      exact wpQuiet_nil rfl
    case fin1 =>
    (try simp only [Act.put, List.setIfInBounds_toArray, List.set_cons_zero, List.set_cons_succ])
    have hb7 : ∀ w, (Instr.build 108 #[(0, .int .i64 (i : Int)), (1, .agg B)]).run Try.prog w = .ok (.agg (wrow i b)) w := fun w => by rw [← hBB]; exact mkW i b w
    refine Kz.Wk.one rfl (fun w6 X6 => ?_)
    refine wpList_build rfl 108 _ rfl #[(0, .int .i64 (i : Int)), (1, .agg B)] (by first | kernel_rfl | rfl | simp [Act.eval]) (hb7 w6) ⟨rfl, fun _ => Fr.refl _ _, ?_⟩
    simp only [Act.put, List.setIfInBounds_toArray, List.set_cons_zero, List.set_cons_succ]
    refine Kz.Wk.one rfl (fun w7 X7 => ?_)
    refine wpList_buildSlice rfl 104 1 _ rfl #[(0, .agg (wrow i b))] (by first | kernel_rfl | rfl | simp [Act.eval]) (mkS i b w7) ⟨rfl, fun _ => (Fr.refl _ w7).alloc _, ?_⟩
    simp only [Act.put, List.setIfInBounds_toArray, List.set_cons_zero, List.set_cons_succ]
    refine Kz.Wk.one rfl (fun w8 X8 => ?_)
    have X58 : Fr (fun _ => False) w5 w8 := ((Ex.tr X6 X7).alloc _).trans X8 (fun _ h => h.elim)
    have F8 : Fr (fun k => k = bn) w w8 := F5.trans X58 (fun _ h => h.elim)
    have O8 := own_fr h.own F8 (fun k hk hb => h.o2 (by rw [hk, hb]))
    have R8 := (X8.block _ (by simp) (fun h => h)).trans (show (w7.alloc (.cells (wrow i b) 108)).heap[w7.heap.size]? = some (.cells (wrow i b) 108 (0, 0)) from heap_alloc_new _ _)
    obtain ⟨ti, z, t1, t2, t3, t4, t5⟩ := wInfo
    have hnew : ∀ j u, (wrow i b).toList[j]? = some u → w8.cell? ((⟨w7.heap.size, 0, none⟩ : Addr).add j) = some u := fun j u hj => by
      rw [Addr.add_mid, Nat.zero_add, cell_of_block R8]; simpa using hj
    have hb8 : base ≤ w8.heap.size := by have := h.b1; have := lt_of_block h.blk; have := F8.size; omega
    refine wpList_app _ rfl (.tmp 25) (.tmp 29) 104 104 rfl base 108 ti z 129 136 Try.underlying104 t1 t2 t3 t4 t5 (by decide) wv ws.length (wcells ws) rfl O8 _ rfl 1 (wrow i b).toList (Src.ofSlice _ Try.underlying104 ⟨w7.heap.size, 0, none⟩ 1 1 _ (by rw [Array.length_toList, wrow_size]) hnew (wrow_one i b)) (by simp only [maxLen]; omega) (by omega) hb8 (fun v' w9 O9 G9 G9x => ⟨rfl, fun _ => Fr.ofGrown G9, ?_⟩)
    have X89 := Fr.ofGrown G9
    have F9 : Fr (fun k => k = bn ∨ wv.ownBlock = some k) w w9 := (F8.mono (fun _ _ h => Or.inl h)).trans X89 (fun _ h => .inl (.inr h))
    simp only [Act.put, List.setIfInBounds_toArray, List.set_cons_zero, List.set_cons_succ]
    refine Kz.Wk.one rfl (fun wa Xa => ?_)
    go_wp2_with fail
    refine ⟨Fr.refl _ _, ?_⟩
    refine Kz.Wk.one rfl (fun wb Xb => ?_)
    go_wp2_with fail
    refine ⟨Fr.refl _ _, ?_⟩
    refine Kz.Wk.one rfl (fun wc Xc => ?_)
    have X9c : Fr (fun _ => False) w9 wc := Ex.tr (Ex.tr Xa Xb) Xc
    have Fc := F9.trans X9c (fun _ h => h.elim)
    have Dc := (Fc.block _ (lt_of_block h.blk) (fun hh => hh.elim nd nd2)).trans h.blk
    have szs : (Try.prog.info? 104).map (·.size) = some 1 := by kernel_rfl
    refine wpList_store_one rfl 104 (.tmp 32) (.tmp 30) rfl d 2 rfl v' rfl (own_shape O9).1 (own_shape O9).2 szs 106 _ Dc (by simp [dcells]) (fun wd Dd Fd => ⟨rfl, fun hne => absurd rfl hne, ?_⟩)
    simp only [Act.put, List.setIfInBounds_toArray, List.set_cons_zero, List.set_cons_succ]
    intro we Xe
    have De := (Xe.block _ (lt_of_block Dd) (fun hh => hh)).trans Dd
    have Oe := own_fr (own_fr (own_fr O9 X9c (fun _ _ hh => hh)) Fd (fun k hk hb => by
      have hb : k = d := hb
      rw [hb] at hk
      rcases G9x with e | e
      · exact h.o1 (by rw [← e]; exact hk)
      · rw [e] at hk
        have : w8.heap.size = d := by simpa using hk
        have := lt_of_block h.blk
        have := F8.size
        omega)) Xe (fun _ _ hh => hh)
    have s1 := (X58.block _ (lt_of_block B5) (fun hh => hh)).trans B5
    have s2 := (X89.block _ (lt_of_block s1) h.o2).trans s1
    have s3 := (X9c.block _ (lt_of_block s2) (fun hh => hh)).trans s2
    have s4 := (Fd.block _ (lt_of_block s3) (fun hh => nd hh.symm)).trans s3
    have Be := (Xe.block _ (lt_of_block s4) (fun hh => hh)).trans s4
    clear s1 s2 s3 s4
    have G9y : v'.ownBlock = wv.ownBlock ∨ ∃ k, v'.ownBlock = some k ∧ w.heap.size ≤ k := G9x.imp id (fun e => ⟨_, e, F8.size⟩)
    have Fe : Fr (Wt d bn wv) w we := ((Fc.mono (fun k _ hh => hh.elim (fun e => .inr (.inl e)) (fun e => .inr (.inr e)))).trans Fd (fun k e => .inl (.inl e))).trans Xe (fun _ hh => hh.elim)
    have nO2 : ∀ k, v'.ownBlock = some k → ¬ (k = d) := fun k hk hb => by
      rw [hb] at hk
      rcases G9y with e | ⟨k2, e, hk2⟩
      · exact h.o1 (by rw [← e]; exact hk)
      · rw [e] at hk
        have : k2 = d := by simpa using hk
        have := lt_of_block h.blk
        omega
    clear G9x G9 O9 X9c X89 Xe Fd Dd Dc Fc F9 Xa Xb Xc R8 hnew O8 F8 X58 X8 X7 X6 hb8 B5 D5 V5 F5 F25 t1 t2 t3 t4 t5
    have De' : we.heap[d]? = some (.cells (dcells bn bl n v' wr ar false) 106 (0, 0)) := De
    have c3 : we.cell? ⟨d, 3, none⟩ = some (.int .i64 wr) := by rw [cell_of_block De']; rfl
    have szi : (Try.prog.info? 3).map (·.size) = some 1 := by kernel_rfl
    have hwr2 := hwr.k
    have u1 : decide (0 < ar) = true := by simp; omega
    have a1 : In64 (ar - 1) := by unfold In64 at *; omega
    have a2 := a1.k
    have u2 : decide (ar - 1 = 0) = false := by simp; omega
    have u3 : (ar - 1 == 0) = false := by simp; omega
    clear De
    have szb : (Try.prog.info? 4).map (·.size) = some 1 := by kernel_rfl
    go_wp2_with (first | (focus ((with_reducible refine wpList_store_one ?p0 3 (.tmp 39) (.tmp 37) ?p1 d 3 ?p2 (.int .i64 (wr + 1)) ?p3 ?p4 ?p5 szi 106 _ De' ?p6 ?p7); (case p0 => rfl); (case p1 => rfl); (case p2 => rfl); (case p3 => first | rfl | (simp [Act.eval, hwr2, a2]; done)); (case p4 => rfl); (case p5 => rfl); (case p6 => simp [dcells]); intro w10 h10 F10; (simp only [Act.put, List.setIfInBounds_toArray, List.set_cons_zero, List.set_cons_succ]); have De2 : w10.heap[d]? = some (.cells (dcells bn bl n v' (wr + 1) ar false) 106 (0, 0)) := h10; have c4De2 : w10.cell? ⟨d, 4, none⟩ = some (.int .i64 (ar)) := (cell_of_block De2 4).trans rfl; have c5De2 : w10.cell? ⟨d, 5, none⟩ = some (.bool false) := (cell_of_block De2 5).trans rfl)) | (focus ((with_reducible refine wpList_store_one ?q0 3 (.tmp 51) (.tmp 49) ?q1 d 4 ?q2 (.int .i64 (ar - 1)) ?q3 ?q4 ?q5 szi 106 _ De2 ?q6 ?q7); (case q0 => rfl); (case q1 => rfl); (case q2 => rfl); (case q3 => first | rfl | (simp [Act.eval, hwr2, a2]; done)); (case q4 => rfl); (case q5 => rfl); (case q6 => simp [dcells]); intro w11 h11 F11; (simp only [Act.put, List.setIfInBounds_toArray, List.set_cons_zero, List.set_cons_succ]); have De3 : w11.heap[d]? = some (.cells (dcells bn bl n v' (wr + 1) (ar - 1) false) 106 (0, 0)) := h11; have c4De3 : w11.cell? ⟨d, 4, none⟩ = some (.int .i64 ((ar - 1))) := (cell_of_block De3 4).trans rfl; have c5De3 : w11.cell? ⟨d, 5, none⟩ = some (.bool false) := (cell_of_block De3 5).trans rfl)) | (focus ((with_reducible refine wpList_store_one ?r0 4 (.tmp 59) (.tmp 57) ?r1 d 5 ?r2 (.bool false) ?r3 ?r4 ?r5 szb 106 _ De3 ?r6 ?r7); (case r0 => rfl); (case r1 => rfl); (case r2 => rfl); (case r3 => first | rfl | (simp [Act.eval, hwr2, a2]; done)); (case r4 => rfl); (case r5 => rfl); (case r6 => simp [dcells]); intro w12 h12 F12; (simp only [Act.put, List.setIfInBounds_toArray, List.set_cons_zero, List.set_cons_succ]); have De4 : w12.heap[d]? = some (.cells (dcells bn bl n v' (wr + 1) (ar - 1) false) 106 (0, 0)) := h12; have c4De4 : w12.cell? ⟨d, 4, none⟩ = some (.int .i64 ((ar - 1))) := (cell_of_block De4 4).trans rfl; have c5De4 : w12.cell? ⟨d, 5, none⟩ = some (.bool false) := (cell_of_block De4 5).trans rfl)))
    go_ret
    have Fx : Fr (fun k => k = d) we w12 := (F10.trans F11 (fun _ h => .inl h)).trans F12 (fun _ h => .inl h)
    refine ⟨rfl, v', De4, (Fx.block _ (lt_of_block Be) (fun hh => nd hh.symm)).trans Be, own_fr Oe Fx nO2, G9y, Fe.trans Fx (fun k e => .inl (.inl e))⟩
end Go.Proofs.Ytgladedjgjhlaaa

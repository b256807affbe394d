/-
  DocWrite.
-/
import Derived.Test.YtgladedjgjhlaaaOc
namespace Go.Proofs.Ytgladedjgjhlaaa
open Go.RowKit
set_option linter.unusedVariables false
set_option linter.unusedSimpArgs false
theorem Try.szRb : (Try.prog.info? 29).map (·.size) = some 128 := by kernel_rfl
set_option maxRecDepth 100000 in
theorem rmkW (i : Nat) (b : Nat → UInt8) (w : World) : (Instr.build 110 #[(0, .int .i64 (i : Int)), (1, .agg (ub 128 b))]).run Try.prog w = .ok (.agg (wrow i b)) w := by kernel_rfl
set_option maxRecDepth 100000 in
theorem rmkS (i : Nat) (b : Nat → UInt8) (w : World) : (Instr.buildSlice 49 1 #[(0, .agg (wrow i b))]).run Try.prog w = .ok (.slice (some ⟨w.heap.size, 0, none⟩) 1 1) (w.alloc (.cells (wrow i b) 110)) := by kernel_rfl
set_option maxRecDepth 100000 in
theorem rwInfo : ∃ ti z, Try.prog.info? 110 = some ti ∧ ti.zero = some z ∧ ti.size = 129 ∧ ti.bytes = 136 ∧ z.cells.size = 129 := ⟨_, .agg (#[.int .i64 0] ++ Array.replicate 128 (.int .u8 0)), rfl, by kernel_rfl, by kernel_rfl, by kernel_rfl, by kernel_rfl⟩
set_option maxRecDepth 100000 in
set_option maxHeartbeats 6400000 in
theorem rwrite_un {w : World} {d bl n : Nat} {L : Nat → Nat → UInt8} {ws : List (Nat × (Nat → UInt8))} {wv : Value} {wr : Int} {ar : Int} {base : Nat} (h : DB w d bl n L ws wv wr ar false base) (hm : ws.length < 1000000000000) (hwr : In64 (wr + 1)) (har : ¬ (0 < ar)) (i : Nat) (hi : i < n) (b : Nat → UInt8) :
    Calls Try.prog 27 #[(.pointer (some ⟨d, 0, none⟩)), .int .i64 (i : Int), .agg (ub 128 b)] w fun e w' => e = .returned (.int .i64 0) ∧ ∃ v', w'.heap[d]? = some (.cells (rcells bl n v' (wr + 1) ar false) 51 (0, 0)) ∧ w'.ownsRow base 110 129 v' (ws.length + 1) (wcells ws ++ (wrow i b).toList) ∧ (v'.ownBlock = wv.ownBlock ∨ ∃ k, v'.ownBlock = some k ∧ w.heap.size ≤ k) ∧ Fr (fun k => k = d ∨ wv.ownBlock = some k) w w' := by
  have sB : Sz 128 (ub 128 b) := ⟨ub_size _ _, ub_one _ _⟩
  generalize hBB : ub 128 b = B at *
  have HBB := Lib.hid hBB
  clear hBB
  have K := (Kn.start w).new (w.heap.size) 128 B 29 rfl sB.1
  have c0 : ∀ W : World, Fr (fun _ => False) w W → W.cell? ⟨d, 0, none⟩ = some (.slice (some ⟨bl, 0, none⟩) n n) := fun W hF => (h.fr hF (fun _ _ h => h)).c 0 rfl
  have c4 : ∀ W : World, Fr (fun _ => False) w W → W.cell? ⟨d, 4, none⟩ = some (.bool false) := fun W hF => (h.fr hF (fun _ _ h => h)).c 4 rfl
  have x0 := c0 _ K.fr
  have x4 := c4 _ K.fr
  have q0 : ¬ ((i : Int) < 0) := by omega
  have q1 : ¬ ((n : Int) ≤ (i : Int)) := by omega
  have t0 : decide ((i : Int) < 0) = false := by simp
  have t1 : decide ((n : Int) ≤ (i : Int)) = false := by simpa using q1
  have hd2 := (K.fr.block _ (lt_of_block h.blk) (fun h => h)).trans h.blk
  have hv2 := K.heap 0 rfl
  have nO : ¬ (wv.ownBlock = some w.heap.size) := fun hc => by have := (h.up _ (.inr (.inr hc))).2; omega
  have nd2 : ¬ (wv.ownBlock = some d) := h.o1
  clear c0 c4
  go_enter Try.func27, Try.ntmps27
  have hne : ¬ (w.heap.size = d) := by have := lt_of_block h.blk; omega
  generalize hW1 : w.alloc (.cells B 29) = w1 at *
  go_wp2_with fail
  clear hW1 x0 x4
  refine Kz.wp_region_mono (fun k => wv.ownBlock = some k) 12 (sg 0 7 ++ ((7, true) :: (8, true) :: (9, true) :: (10, true) :: (11, true) :: (12, true) :: [])) (by kernel_rfl) (by kernel_rfl) ?_
  refine Kz.Wk.seg 0 7 (by kernel_rfl) (by kernel_rfl) ?_
  apply Exists.intro
  refine ⟨?wk1, ?fin1⟩
  case wk1 =>
    intro γ
    have c2 : ∀ y : Ks.Ws γ, y.w.cell? ⟨d, 1, none⟩ = some wv := fun y => by rw [cell_of_block (y.blk hd2 nd2)]; rfl
    simp only [List.drop_succ_cons, List.drop_zero, List.take_succ_cons, List.take_zero]
    repeat (any_goals (first | (focus (go_big_quiet_want; (refine' Ks.quiet_load_rows 29 (.tmp 5) rfl w.heap.size rfl _ _ _ _ hv2 nO Try.underlying29 rfl (by rw [sB.1]; exact Try.szRb) _); simp only [Act.put, List.setIfInBounds_toArray, List.set_cons_zero, List.set_cons_succ]; go_big_quiet_on)) | go_big_quiet_step (fail) | quiet_step (fail)))
    exact wpQuiet_nil rfl
  case fin1 =>
  (try simp only [Act.put, List.setIfInBounds_toArray, List.set_cons_zero, List.set_cons_succ])
  have hb7 : ∀ w, (Instr.build 110 #[(0, .int .i64 (i : Int)), (1, .agg B)]).run Try.prog w = .ok (.agg (wrow i b)) w := fun w => by rw [← HBB.out]; exact rmkW i b w
  refine Kz.Wk.one rfl (fun w6 X6 => ?_)
  refine wpList_build rfl 110 _ rfl #[(0, .int .i64 (i : Int)), (1, .agg B)] (by first | kernel_rfl | rfl | simp [Act.eval]) (hb7 w6) ⟨rfl, fun _ => Fr.refl _ _, ?_⟩
  simp only [Act.put, List.setIfInBounds_toArray, List.set_cons_zero, List.set_cons_succ]
  refine Kz.Wk.one rfl (fun w7 X7 => ?_)
  refine wpList_buildSlice rfl 49 1 _ rfl #[(0, .agg (wrow i b))] (by first | kernel_rfl | rfl | simp [Act.eval]) (rmkS i b w7) ⟨rfl, fun _ => (Fr.refl _ w7).alloc _, ?_⟩
  simp only [Act.put, List.setIfInBounds_toArray, List.set_cons_zero, List.set_cons_succ]
  refine Kz.Wk.one rfl (fun w8 X8 => ?_)
  have X58 : Fr (fun _ => False) w1 w8 := ((Ex.tr X6 X7).alloc _).trans X8 (fun _ h => h.elim)
  have F8 : Fr (fun _ => False) w w8 := K.fr.trans X58 (fun _ h => h.elim)
  have O8 := own_fr h.own F8 (fun k hk hb => hb)
  have R8 := (X8.block _ (by simp) (fun h => h)).trans (show (w7.alloc (.cells (wrow i b) 110)).heap[w7.heap.size]? = some (.cells (wrow i b) 110 (0, 0)) from heap_alloc_new _ _)
  obtain ⟨ti, z, t1, t2, t3, t4, t5⟩ := rwInfo
  have hnew : ∀ j u, (wrow i b).toList[j]? = some u → w8.cell? ((⟨w7.heap.size, 0, none⟩ : Addr).add j) = some u := fun j u hj => by
    rw [Addr.add_mid, Nat.zero_add, cell_of_block R8]; simpa using hj
  have hb8 : base ≤ w8.heap.size := by have := h.b1; have := lt_of_block h.blk; have := F8.size; omega
  refine wpList_app _ rfl (.tmp 26) (.tmp 30) 49 49 rfl base 110 ti z 129 136 Try.underlying49 t1 t2 t3 t4 t5 (by decide) wv ws.length (wcells ws) rfl O8 _ rfl 1 (wrow i b).toList (Src.ofSlice _ Try.underlying49 ⟨w7.heap.size, 0, none⟩ 1 1 _ (by rw [Array.length_toList, wrow_size]) hnew (wrow_one i b)) (by simp only [maxLen]; omega) (by omega) hb8 (fun v' w9 O9 G9 G9x => ⟨rfl, fun _ => Fr.ofGrown G9, ?_⟩)
  have X89 := Fr.ofGrown G9
  have F9 : Fr (fun k => wv.ownBlock = some k) w w9 := (F8.mono (fun _ _ h => h.elim)).trans X89 (fun _ h => .inl h)
  simp only [Act.put, List.setIfInBounds_toArray, List.set_cons_zero, List.set_cons_succ]
  refine Kz.Wk.one rfl (fun wa Xa => ?_)
  go_wp2_with fail
  refine ⟨Fr.refl _ _, ?_⟩
  refine Kz.Wk.one rfl (fun wb Xb => ?_)
  go_wp2_with fail
  refine ⟨Fr.refl _ _, ?_⟩
  refine Kz.Wk.one rfl (fun wc Xc => ?_)
  have X9c : Fr (fun _ => False) w9 wc := Ex.tr (Ex.tr Xa Xb) Xc
  have Fc := F9.trans X9c (fun _ h => h.elim)
  have Dc := (Fc.block _ (lt_of_block h.blk) nd2).trans h.blk
  have szs : (Try.prog.info? 49).map (·.size) = some 1 := by kernel_rfl
  refine wpList_store_one rfl 49 (.tmp 33) (.tmp 31) rfl d 1 rfl v' rfl (own_shape O9).1 (own_shape O9).2 szs 51 _ Dc (by simp [rcells]) (fun wd Dd Fd => ⟨rfl, fun hne => absurd rfl hne, ?_⟩)
  simp only [Act.put, List.setIfInBounds_toArray, List.set_cons_zero, List.set_cons_succ]
  intro we Xe
  have De0 := (Xe.block _ (lt_of_block Dd) (fun hh => hh)).trans Dd
  have G9y : v'.ownBlock = wv.ownBlock ∨ ∃ k, v'.ownBlock = some k ∧ w.heap.size ≤ k := G9x.imp id (fun e => ⟨_, e, F8.size⟩)
  have nO2 : ∀ k, v'.ownBlock = some k → ¬ (k = d) := fun k hk hb => by
    rw [hb] at hk
    exact own_not G9y h.o1 (lt_of_block h.blk) hk
  have Oe := own_fr (own_fr (own_fr O9 X9c (fun _ _ hh => hh)) Fd (fun k hk hb => nO2 k hk hb)) Xe (fun _ _ hh => hh)
  have Fe : Fr (fun k => k = d ∨ wv.ownBlock = some k) w we := ((Fc.mono (fun k _ hh => .inr hh)).trans Fd (fun k e => .inl (.inl e))).trans Xe (fun _ hh => hh.elim)
  have HO := Lib.hid Oe
  clear Oe G9x G9 O9 X9c X89 Xe Fd Dd Dc Fc F9 Xa Xb Xc R8 hnew O8 F8 X58 X8 X7 X6 hb8 t1 t2 t3 t4 t5 hd2 hv2 K
  have De : we.heap[d]? = some (.cells (rcells bl n v' wr ar false) 51 (0, 0)) := De0
  clear De0
  have c2 : we.cell? ⟨d, 2, none⟩ = some (.int .i64 wr) := (cell_of_block De 2).trans rfl
  have szi : (Try.prog.info? 3).map (·.size) = some 1 := by kernel_rfl
  have szb : (Try.prog.info? 4).map (·.size) = some 1 := by kernel_rfl
  have hwr2 := hwr.k
  have a2 : (0 : Nat) = 0 := rfl
  have u1 : decide (0 < ar) = false := by simpa using har
  go_wp2_with (first | (focus ((with_reducible refine wpList_store_one ?p0 3 (.tmp 40) (.tmp 38) ?p1 d 2 ?p2 (.int .i64 (wr + 1)) ?p3 ?p4 ?p5 szi 51 _ De ?p6 ?p7); (case p0 => rfl); (case p1 => rfl); (case p2 => rfl); (case p3 => first | rfl | (simp [Act.eval, hwr2, a2]; done)); (case p4 => rfl); (case p5 => rfl); (case p6 => simp [rcells]); intro w10 hw10 Fw10; (simp only [Act.put, List.setIfInBounds_toArray, List.set_cons_zero, List.set_cons_succ]); have De2 : w10.heap[d]? = some (.cells (rcells bl n v' (wr + 1) ar false) 51 (0, 0)) := hw10; have c3De2 : w10.cell? ⟨d, 3, none⟩ = some (.int .i64 ar) := (cell_of_block De2 3).trans rfl; have c4De2 : w10.cell? ⟨d, 4, none⟩ = some (.bool false) := (cell_of_block De2 4).trans rfl)))
  go_ret
  exact ⟨rfl, v', De2, own_fr HO.out Fw10 nO2, G9y, Fe.trans Fw10 (fun k e => .inl (.inl e))⟩
set_option maxRecDepth 100000 in
set_option maxHeartbeats 6400000 in
theorem rwrite_off {w : World} {d bl n : Nat} {L : Nat → Nat → UInt8} {ws : List (Nat × (Nat → UInt8))} {wv : Value} {wr : Int} {base : Nat} (h : DB w d bl n L ws wv wr 1 false base) (hm : ws.length < 1000000000000) (hwr : In64 (wr + 1))  (i : Nat) (hi : i < n) (b : Nat → UInt8) :
    Calls Try.prog 27 #[(.pointer (some ⟨d, 0, none⟩)), .int .i64 (i : Int), .agg (ub 128 b)] w fun e w' => e = .returned (.int .i64 13) ∧ ∃ v', w'.heap[d]? = some (.cells (rcells bl n v' (wr + 1) 0 true) 51 (0, 0)) ∧ w'.ownsRow base 110 129 v' (ws.length + 1) (wcells ws ++ (wrow i b).toList) ∧ (v'.ownBlock = wv.ownBlock ∨ ∃ k, v'.ownBlock = some k ∧ w.heap.size ≤ k) ∧ Fr (fun k => k = d ∨ wv.ownBlock = some k) w w' := by
  have sB : Sz 128 (ub 128 b) := ⟨ub_size _ _, ub_one _ _⟩
  generalize hBB : ub 128 b = B at *
  have HBB := Lib.hid hBB
  clear hBB
  have K := (Kn.start w).new (w.heap.size) 128 B 29 rfl sB.1
  have c0 : ∀ W : World, Fr (fun _ => False) w W → W.cell? ⟨d, 0, none⟩ = some (.slice (some ⟨bl, 0, none⟩) n n) := fun W hF => (h.fr hF (fun _ _ h => h)).c 0 rfl
  have c4 : ∀ W : World, Fr (fun _ => False) w W → W.cell? ⟨d, 4, none⟩ = some (.bool false) := fun W hF => (h.fr hF (fun _ _ h => h)).c 4 rfl
  have x0 := c0 _ K.fr
  have x4 := c4 _ K.fr
  have q0 : ¬ ((i : Int) < 0) := by omega
  have q1 : ¬ ((n : Int) ≤ (i : Int)) := by omega
  have t0 : decide ((i : Int) < 0) = false := by simp
  have t1 : decide ((n : Int) ≤ (i : Int)) = false := by simpa using q1
  have hd2 := (K.fr.block _ (lt_of_block h.blk) (fun h => h)).trans h.blk
  have hv2 := K.heap 0 rfl
  have nO : ¬ (wv.ownBlock = some w.heap.size) := fun hc => by have := (h.up _ (.inr (.inr hc))).2; omega
  have nd2 : ¬ (wv.ownBlock = some d) := h.o1
  clear c0 c4
  go_enter Try.func27, Try.ntmps27
  have hne : ¬ (w.heap.size = d) := by have := lt_of_block h.blk; omega
  generalize hW1 : w.alloc (.cells B 29) = w1 at *
  go_wp2_with fail
  clear hW1 x0 x4
  refine Kz.wp_region_mono (fun k => wv.ownBlock = some k) 12 (sg 0 7 ++ ((7, true) :: (8, true) :: (9, true) :: (10, true) :: (11, true) :: (12, true) :: [])) (by kernel_rfl) (by kernel_rfl) ?_
  refine Kz.Wk.seg 0 7 (by kernel_rfl) (by kernel_rfl) ?_
  apply Exists.intro
  refine ⟨?wk1, ?fin1⟩
  case wk1 =>
    intro γ
    have c2 : ∀ y : Ks.Ws γ, y.w.cell? ⟨d, 1, none⟩ = some wv := fun y => by rw [cell_of_block (y.blk hd2 nd2)]; rfl
    simp only [List.drop_succ_cons, List.drop_zero, List.take_succ_cons, List.take_zero]
    repeat (any_goals (first | (focus (go_big_quiet_want; (refine' Ks.quiet_load_rows 29 (.tmp 5) rfl w.heap.size rfl _ _ _ _ hv2 nO Try.underlying29 rfl (by rw [sB.1]; exact Try.szRb) _); simp only [Act.put, List.setIfInBounds_toArray, List.set_cons_zero, List.set_cons_succ]; go_big_quiet_on)) | go_big_quiet_step (fail) | quiet_step (fail)))
    exact wpQuiet_nil rfl
  case fin1 =>
  (try simp only [Act.put, List.setIfInBounds_toArray, List.set_cons_zero, List.set_cons_succ])
  have hb7 : ∀ w, (Instr.build 110 #[(0, .int .i64 (i : Int)), (1, .agg B)]).run Try.prog w = .ok (.agg (wrow i b)) w := fun w => by rw [← HBB.out]; exact rmkW i b w
  refine Kz.Wk.one rfl (fun w6 X6 => ?_)
  refine wpList_build rfl 110 _ rfl #[(0, .int .i64 (i : Int)), (1, .agg B)] (by first | kernel_rfl | rfl | simp [Act.eval]) (hb7 w6) ⟨rfl, fun _ => Fr.refl _ _, ?_⟩
  simp only [Act.put, List.setIfInBounds_toArray, List.set_cons_zero, List.set_cons_succ]
  refine Kz.Wk.one rfl (fun w7 X7 => ?_)
  refine wpList_buildSlice rfl 49 1 _ rfl #[(0, .agg (wrow i b))] (by first | kernel_rfl | rfl | simp [Act.eval]) (rmkS i b w7) ⟨rfl, fun _ => (Fr.refl _ w7).alloc _, ?_⟩
  simp only [Act.put, List.setIfInBounds_toArray, List.set_cons_zero, List.set_cons_succ]
  refine Kz.Wk.one rfl (fun w8 X8 => ?_)
  have X58 : Fr (fun _ => False) w1 w8 := ((Ex.tr X6 X7).alloc _).trans X8 (fun _ h => h.elim)
  have F8 : Fr (fun _ => False) w w8 := K.fr.trans X58 (fun _ h => h.elim)
  have O8 := own_fr h.own F8 (fun k hk hb => hb)
  have R8 := (X8.block _ (by simp) (fun h => h)).trans (show (w7.alloc (.cells (wrow i b) 110)).heap[w7.heap.size]? = some (.cells (wrow i b) 110 (0, 0)) from heap_alloc_new _ _)
  obtain ⟨ti, z, t1, t2, t3, t4, t5⟩ := rwInfo
  have hnew : ∀ j u, (wrow i b).toList[j]? = some u → w8.cell? ((⟨w7.heap.size, 0, none⟩ : Addr).add j) = some u := fun j u hj => by
    rw [Addr.add_mid, Nat.zero_add, cell_of_block R8]; simpa using hj
  have hb8 : base ≤ w8.heap.size := by have := h.b1; have := lt_of_block h.blk; have := F8.size; omega
  refine wpList_app _ rfl (.tmp 26) (.tmp 30) 49 49 rfl base 110 ti z 129 136 Try.underlying49 t1 t2 t3 t4 t5 (by decide) wv ws.length (wcells ws) rfl O8 _ rfl 1 (wrow i b).toList (Src.ofSlice _ Try.underlying49 ⟨w7.heap.size, 0, none⟩ 1 1 _ (by rw [Array.length_toList, wrow_size]) hnew (wrow_one i b)) (by simp only [maxLen]; omega) (by omega) hb8 (fun v' w9 O9 G9 G9x => ⟨rfl, fun _ => Fr.ofGrown G9, ?_⟩)
  have X89 := Fr.ofGrown G9
  have F9 : Fr (fun k => wv.ownBlock = some k) w w9 := (F8.mono (fun _ _ h => h.elim)).trans X89 (fun _ h => .inl h)
  simp only [Act.put, List.setIfInBounds_toArray, List.set_cons_zero, List.set_cons_succ]
  refine Kz.Wk.one rfl (fun wa Xa => ?_)
  go_wp2_with fail
  refine ⟨Fr.refl _ _, ?_⟩
  refine Kz.Wk.one rfl (fun wb Xb => ?_)
  go_wp2_with fail
  refine ⟨Fr.refl _ _, ?_⟩
  refine Kz.Wk.one rfl (fun wc Xc => ?_)
  have X9c : Fr (fun _ => False) w9 wc := Ex.tr (Ex.tr Xa Xb) Xc
  have Fc := F9.trans X9c (fun _ h => h.elim)
  have Dc := (Fc.block _ (lt_of_block h.blk) nd2).trans h.blk
  have szs : (Try.prog.info? 49).map (·.size) = some 1 := by kernel_rfl
  refine wpList_store_one rfl 49 (.tmp 33) (.tmp 31) rfl d 1 rfl v' rfl (own_shape O9).1 (own_shape O9).2 szs 51 _ Dc (by simp [rcells]) (fun wd Dd Fd => ⟨rfl, fun hne => absurd rfl hne, ?_⟩)
  simp only [Act.put, List.setIfInBounds_toArray, List.set_cons_zero, List.set_cons_succ]
  intro we Xe
  have De0 := (Xe.block _ (lt_of_block Dd) (fun hh => hh)).trans Dd
  have G9y : v'.ownBlock = wv.ownBlock ∨ ∃ k, v'.ownBlock = some k ∧ w.heap.size ≤ k := G9x.imp id (fun e => ⟨_, e, F8.size⟩)
  have nO2 : ∀ k, v'.ownBlock = some k → ¬ (k = d) := fun k hk hb => by
    rw [hb] at hk
    exact own_not G9y h.o1 (lt_of_block h.blk) hk
  have Oe := own_fr (own_fr (own_fr O9 X9c (fun _ _ hh => hh)) Fd (fun k hk hb => nO2 k hk hb)) Xe (fun _ _ hh => hh)
  have Fe : Fr (fun k => k = d ∨ wv.ownBlock = some k) w we := ((Fc.mono (fun k _ hh => .inr hh)).trans Fd (fun k e => .inl (.inl e))).trans Xe (fun _ hh => hh.elim)
  have HO := Lib.hid Oe
  clear Oe G9x G9 O9 X9c X89 Xe Fd Dd Dc Fc F9 Xa Xb Xc R8 hnew O8 F8 X58 X8 X7 X6 hb8 t1 t2 t3 t4 t5 hd2 hv2 K
  have De : we.heap[d]? = some (.cells (rcells bl n v' wr 1 false) 51 (0, 0)) := De0
  clear De0
  have c2 : we.cell? ⟨d, 2, none⟩ = some (.int .i64 wr) := (cell_of_block De 2).trans rfl
  have szi : (Try.prog.info? 3).map (·.size) = some 1 := by kernel_rfl
  have szb : (Try.prog.info? 4).map (·.size) = some 1 := by kernel_rfl
  have hwr2 := hwr.k
  have a2 : (0 : Nat) = 0 := rfl
  go_wp2_with (first | (focus ((with_reducible refine wpList_store_one ?p0 3 (.tmp 40) (.tmp 38) ?p1 d 2 ?p2 (.int .i64 (wr + 1)) ?p3 ?p4 ?p5 szi 51 _ De ?p6 ?p7); (case p0 => rfl); (case p1 => rfl); (case p2 => rfl); (case p3 => first | rfl | (simp [Act.eval, hwr2, a2]; done)); (case p4 => rfl); (case p5 => rfl); (case p6 => simp [rcells]); intro w10 hw10 Fw10; (simp only [Act.put, List.setIfInBounds_toArray, List.set_cons_zero, List.set_cons_succ]); have De2 : w10.heap[d]? = some (.cells (rcells bl n v' (wr + 1) 1 false) 51 (0, 0)) := hw10; have c3De2 : w10.cell? ⟨d, 3, none⟩ = some (.int .i64 1) := (cell_of_block De2 3).trans rfl; have c4De2 : w10.cell? ⟨d, 4, none⟩ = some (.bool false) := (cell_of_block De2 4).trans rfl)) | (focus ((with_reducible refine wpList_store_one ?q0 3 (.tmp 52) (.tmp 50) ?q1 d 3 ?q2 (.int .i64 0) ?q3 ?q4 ?q5 szi 51 _ De2 ?q6 ?q7); (case q0 => rfl); (case q1 => rfl); (case q2 => rfl); (case q3 => first | rfl | (simp [Act.eval, hwr2, a2]; done)); (case q4 => rfl); (case q5 => rfl); (case q6 => simp [rcells]); intro w11 hw11 Fw11; (simp only [Act.put, List.setIfInBounds_toArray, List.set_cons_zero, List.set_cons_succ]); have De3 : w11.heap[d]? = some (.cells (rcells bl n v' (wr + 1) 0 false) 51 (0, 0)) := hw11; have c3De3 : w11.cell? ⟨d, 3, none⟩ = some (.int .i64 0) := (cell_of_block De3 3).trans rfl; have c4De3 : w11.cell? ⟨d, 4, none⟩ = some (.bool false) := (cell_of_block De3 4).trans rfl)) | (focus ((with_reducible refine wpList_store_one ?r0 4 (.tmp 60) (.const (.bool true)) ?r1 d 4 ?r2 (.bool true) ?r3 ?r4 ?r5 szb 51 _ De3 ?r6 ?r7); (case r0 => rfl); (case r1 => rfl); (case r2 => rfl); (case r3 => first | rfl | (simp [Act.eval, hwr2, a2]; done)); (case r4 => rfl); (case r5 => rfl); (case r6 => simp [rcells]); intro w12 hw12 Fw12; (simp only [Act.put, List.setIfInBounds_toArray, List.set_cons_zero, List.set_cons_succ]); have De4 : w12.heap[d]? = some (.cells (rcells bl n v' (wr + 1) 0 true) 51 (0, 0)) := hw12; have c3De4 : w12.cell? ⟨d, 3, none⟩ = some (.int .i64 0) := (cell_of_block De4 3).trans rfl; have c4De4 : w12.cell? ⟨d, 4, none⟩ = some (.bool true) := (cell_of_block De4 4).trans rfl)))
  go_ret
  exact ⟨rfl, v', De4, own_fr HO.out ((Fw10.trans Fw11 (fun _ e => .inl e)).trans Fw12 (fun _ e => .inl e)) nO2, G9y, Fe.trans ((Fw10.trans Fw11 (fun _ e => .inl e)).trans Fw12 (fun _ e => .inl e)) (fun k e => .inl (.inl e))⟩
set_option maxRecDepth 100000 in
set_option maxHeartbeats 6400000 in
theorem rwrite_go {w : World} {d bl n : Nat} {L : Nat → Nat → UInt8} {ws : List (Nat × (Nat → UInt8))} {wv : Value} {wr : Int} {ar : Int} {base : Nat} (h : DB w d bl n L ws wv wr ar false base) (hm : ws.length < 1000000000000) (hwr : In64 (wr + 1)) (har : 1 < ar) (hin : In64 ar) (i : Nat) (hi : i < n) (b : Nat → UInt8) :
    Calls Try.prog 27 #[(.pointer (some ⟨d, 0, none⟩)), .int .i64 (i : Int), .agg (ub 128 b)] w fun e w' => e = .returned (.int .i64 0) ∧ ∃ v', w'.heap[d]? = some (.cells (rcells bl n v' (wr + 1) (ar - 1) false) 51 (0, 0)) ∧ w'.ownsRow base 110 129 v' (ws.length + 1) (wcells ws ++ (wrow i b).toList) ∧ (v'.ownBlock = wv.ownBlock ∨ ∃ k, v'.ownBlock = some k ∧ w.heap.size ≤ k) ∧ Fr (fun k => k = d ∨ wv.ownBlock = some k) w w' := by
  have sB : Sz 128 (ub 128 b) := ⟨ub_size _ _, ub_one _ _⟩
  generalize hBB : ub 128 b = B at *
  have HBB := Lib.hid hBB
  clear hBB
  have K := (Kn.start w).new (w.heap.size) 128 B 29 rfl sB.1
  have c0 : ∀ W : World, Fr (fun _ => False) w W → W.cell? ⟨d, 0, none⟩ = some (.slice (some ⟨bl, 0, none⟩) n n) := fun W hF => (h.fr hF (fun _ _ h => h)).c 0 rfl
  have c4 : ∀ W : World, Fr (fun _ => False) w W → W.cell? ⟨d, 4, none⟩ = some (.bool false) := fun W hF => (h.fr hF (fun _ _ h => h)).c 4 rfl
  have x0 := c0 _ K.fr
  have x4 := c4 _ K.fr
  have q0 : ¬ ((i : Int) < 0) := by omega
  have q1 : ¬ ((n : Int) ≤ (i : Int)) := by omega
  have t0 : decide ((i : Int) < 0) = false := by simp
  have t1 : decide ((n : Int) ≤ (i : Int)) = false := by simpa using q1
  have hd2 := (K.fr.block _ (lt_of_block h.blk) (fun h => h)).trans h.blk
  have hv2 := K.heap 0 rfl
  have nO : ¬ (wv.ownBlock = some w.heap.size) := fun hc => by have := (h.up _ (.inr (.inr hc))).2; omega
  have nd2 : ¬ (wv.ownBlock = some d) := h.o1
  clear c0 c4
  go_enter Try.func27, Try.ntmps27
  have hne : ¬ (w.heap.size = d) := by have := lt_of_block h.blk; omega
  generalize hW1 : w.alloc (.cells B 29) = w1 at *
  go_wp2_with fail
  clear hW1 x0 x4
  refine Kz.wp_region_mono (fun k => wv.ownBlock = some k) 12 (sg 0 7 ++ ((7, true) :: (8, true) :: (9, true) :: (10, true) :: (11, true) :: (12, true) :: [])) (by kernel_rfl) (by kernel_rfl) ?_
  refine Kz.Wk.seg 0 7 (by kernel_rfl) (by kernel_rfl) ?_
  apply Exists.intro
  refine ⟨?wk1, ?fin1⟩
  case wk1 =>
    intro γ
    have c2 : ∀ y : Ks.Ws γ, y.w.cell? ⟨d, 1, none⟩ = some wv := fun y => by rw [cell_of_block (y.blk hd2 nd2)]; rfl
    simp only [List.drop_succ_cons, List.drop_zero, List.take_succ_cons, List.take_zero]
    repeat (any_goals (first | (focus (go_big_quiet_want; (refine' Ks.quiet_load_rows 29 (.tmp 5) rfl w.heap.size rfl _ _ _ _ hv2 nO Try.underlying29 rfl (by rw [sB.1]; exact Try.szRb) _); simp only [Act.put, List.setIfInBounds_toArray, List.set_cons_zero, List.set_cons_succ]; go_big_quiet_on)) | go_big_quiet_step (fail) | quiet_step (fail)))
    exact wpQuiet_nil rfl
  case fin1 =>
  (try simp only [Act.put, List.setIfInBounds_toArray, List.set_cons_zero, List.set_cons_succ])
  have hb7 : ∀ w, (Instr.build 110 #[(0, .int .i64 (i : Int)), (1, .agg B)]).run Try.prog w = .ok (.agg (wrow i b)) w := fun w => by rw [← HBB.out]; exact rmkW i b w
  refine Kz.Wk.one rfl (fun w6 X6 => ?_)
  refine wpList_build rfl 110 _ rfl #[(0, .int .i64 (i : Int)), (1, .agg B)] (by first | kernel_rfl | rfl | simp [Act.eval]) (hb7 w6) ⟨rfl, fun _ => Fr.refl _ _, ?_⟩
  simp only [Act.put, List.setIfInBounds_toArray, List.set_cons_zero, List.set_cons_succ]
  refine Kz.Wk.one rfl (fun w7 X7 => ?_)
  refine wpList_buildSlice rfl 49 1 _ rfl #[(0, .agg (wrow i b))] (by first | kernel_rfl | rfl | simp [Act.eval]) (rmkS i b w7) ⟨rfl, fun _ => (Fr.refl _ w7).alloc _, ?_⟩
  simp only [Act.put, List.setIfInBounds_toArray, List.set_cons_zero, List.set_cons_succ]
  refine Kz.Wk.one rfl (fun w8 X8 => ?_)
  have X58 : Fr (fun _ => False) w1 w8 := ((Ex.tr X6 X7).alloc _).trans X8 (fun _ h => h.elim)
  have F8 : Fr (fun _ => False) w w8 := K.fr.trans X58 (fun _ h => h.elim)
  have O8 := own_fr h.own F8 (fun k hk hb => hb)
  have R8 := (X8.block _ (by simp) (fun h => h)).trans (show (w7.alloc (.cells (wrow i b) 110)).heap[w7.heap.size]? = some (.cells (wrow i b) 110 (0, 0)) from heap_alloc_new _ _)
  obtain ⟨ti, z, t1, t2, t3, t4, t5⟩ := rwInfo
  have hnew : ∀ j u, (wrow i b).toList[j]? = some u → w8.cell? ((⟨w7.heap.size, 0, none⟩ : Addr).add j) = some u := fun j u hj => by
    rw [Addr.add_mid, Nat.zero_add, cell_of_block R8]; simpa using hj
  have hb8 : base ≤ w8.heap.size := by have := h.b1; have := lt_of_block h.blk; have := F8.size; omega
  refine wpList_app _ rfl (.tmp 26) (.tmp 30) 49 49 rfl base 110 ti z 129 136 Try.underlying49 t1 t2 t3 t4 t5 (by decide) wv ws.length (wcells ws) rfl O8 _ rfl 1 (wrow i b).toList (Src.ofSlice _ Try.underlying49 ⟨w7.heap.size, 0, none⟩ 1 1 _ (by rw [Array.length_toList, wrow_size]) hnew (wrow_one i b)) (by simp only [maxLen]; omega) (by omega) hb8 (fun v' w9 O9 G9 G9x => ⟨rfl, fun _ => Fr.ofGrown G9, ?_⟩)
  have X89 := Fr.ofGrown G9
  have F9 : Fr (fun k => wv.ownBlock = some k) w w9 := (F8.mono (fun _ _ h => h.elim)).trans X89 (fun _ h => .inl h)
  simp only [Act.put, List.setIfInBounds_toArray, List.set_cons_zero, List.set_cons_succ]
  refine Kz.Wk.one rfl (fun wa Xa => ?_)
  go_wp2_with fail
  refine ⟨Fr.refl _ _, ?_⟩
  refine Kz.Wk.one rfl (fun wb Xb => ?_)
  go_wp2_with fail
  refine ⟨Fr.refl _ _, ?_⟩
  refine Kz.Wk.one rfl (fun wc Xc => ?_)
  have X9c : Fr (fun _ => False) w9 wc := Ex.tr (Ex.tr Xa Xb) Xc
  have Fc := F9.trans X9c (fun _ h => h.elim)
  have Dc := (Fc.block _ (lt_of_block h.blk) nd2).trans h.blk
  have szs : (Try.prog.info? 49).map (·.size) = some 1 := by kernel_rfl
  refine wpList_store_one rfl 49 (.tmp 33) (.tmp 31) rfl d 1 rfl v' rfl (own_shape O9).1 (own_shape O9).2 szs 51 _ Dc (by simp [rcells]) (fun wd Dd Fd => ⟨rfl, fun hne => absurd rfl hne, ?_⟩)
  simp only [Act.put, List.setIfInBounds_toArray, List.set_cons_zero, List.set_cons_succ]
  intro we Xe
  have De0 := (Xe.block _ (lt_of_block Dd) (fun hh => hh)).trans Dd
  have G9y : v'.ownBlock = wv.ownBlock ∨ ∃ k, v'.ownBlock = some k ∧ w.heap.size ≤ k := G9x.imp id (fun e => ⟨_, e, F8.size⟩)
  have nO2 : ∀ k, v'.ownBlock = some k → ¬ (k = d) := fun k hk hb => by
    rw [hb] at hk
    exact own_not G9y h.o1 (lt_of_block h.blk) hk
  have Oe := own_fr (own_fr (own_fr O9 X9c (fun _ _ hh => hh)) Fd (fun k hk hb => nO2 k hk hb)) Xe (fun _ _ hh => hh)
  have Fe : Fr (fun k => k = d ∨ wv.ownBlock = some k) w we := ((Fc.mono (fun k _ hh => .inr hh)).trans Fd (fun k e => .inl (.inl e))).trans Xe (fun _ hh => hh.elim)
  have HO := Lib.hid Oe
  clear Oe G9x G9 O9 X9c X89 Xe Fd Dd Dc Fc F9 Xa Xb Xc R8 hnew O8 F8 X58 X8 X7 X6 hb8 t1 t2 t3 t4 t5 hd2 hv2 K
  have De : we.heap[d]? = some (.cells (rcells bl n v' wr ar false) 51 (0, 0)) := De0
  clear De0
  have c2 : we.cell? ⟨d, 2, none⟩ = some (.int .i64 wr) := (cell_of_block De 2).trans rfl
  have szi : (Try.prog.info? 3).map (·.size) = some 1 := by kernel_rfl
  have szb : (Try.prog.info? 4).map (·.size) = some 1 := by kernel_rfl
  have hwr2 := hwr.k
  have a2 : IntKind.i64.wrap (ar - 1) = ar - 1 := IntWalk.i64_in _ (by unfold In64 at hin; omega)
  have a3 : wrap64 (ar - 1) = ar - 1 := IntWalk.wrap64_in _ (by unfold In64 at hin; omega)
  have u1 : decide (0 < ar) = true := by simp; omega
  have u2 : decide (ar - 1 = 0) = false := by simp; omega
  have u3 : (ar - 1 == 0) = false := by simp; omega
  go_wp2_with (first | (focus ((with_reducible refine wpList_store_one ?p0 3 (.tmp 40) (.tmp 38) ?p1 d 2 ?p2 (.int .i64 (wr + 1)) ?p3 ?p4 ?p5 szi 51 _ De ?p6 ?p7); (case p0 => rfl); (case p1 => rfl); (case p2 => rfl); (case p3 => first | rfl | (simp [Act.eval, hwr2, a2]; done)); (case p4 => rfl); (case p5 => rfl); (case p6 => simp [rcells]); intro w10 hw10 Fw10; (simp only [Act.put, List.setIfInBounds_toArray, List.set_cons_zero, List.set_cons_succ]); have De2 : w10.heap[d]? = some (.cells (rcells bl n v' (wr + 1) ar false) 51 (0, 0)) := hw10; have c3De2 : w10.cell? ⟨d, 3, none⟩ = some (.int .i64 ar) := (cell_of_block De2 3).trans rfl; have c4De2 : w10.cell? ⟨d, 4, none⟩ = some (.bool false) := (cell_of_block De2 4).trans rfl)) | (focus ((with_reducible refine wpList_store_one ?q0 3 (.tmp 52) (.tmp 50) ?q1 d 3 ?q2 (.int .i64 (ar - 1)) ?q3 ?q4 ?q5 szi 51 _ De2 ?q6 ?q7); (case q0 => rfl); (case q1 => rfl); (case q2 => rfl); (case q3 => first | rfl | (simp [Act.eval, hwr2, a2]; done)); (case q4 => rfl); (case q5 => rfl); (case q6 => simp [rcells]); intro w11 hw11 Fw11; (simp only [Act.put, List.setIfInBounds_toArray, List.set_cons_zero, List.set_cons_succ]); have De3 : w11.heap[d]? = some (.cells (rcells bl n v' (wr + 1) (ar - 1) false) 51 (0, 0)) := hw11; have c3De3 : w11.cell? ⟨d, 3, none⟩ = some (.int .i64 (ar - 1)) := (cell_of_block De3 3).trans rfl; have c4De3 : w11.cell? ⟨d, 4, none⟩ = some (.bool false) := (cell_of_block De3 4).trans rfl)))
  go_ret
  exact ⟨rfl, v', De3, own_fr HO.out (Fw10.trans Fw11 (fun _ e => .inl e)) nO2, G9y, Fe.trans (Fw10.trans Fw11 (fun _ e => .inl e)) (fun k e => .inl (.inl e))⟩
/-- What a DocWrite leaves. -/
theorem db_put {w w' : World} {d bl n : Nat} {L : Nat → Nat → UInt8} {ws : List (Nat × (Nat → UInt8))} {wv : Value} {wr ar : Int} {dn : Bool} {base : Nat} (h : DB w d bl n L ws wv wr ar dn base) {i : Nat} (hi : i < n) {b : Nat → UInt8} {v' : Value} {wr' ar' : Int} {dn' : Bool}
    (h1 : w'.heap[d]? = some (.cells (rcells bl n v' wr' ar' dn') 51 (0, 0))) (h3 : w'.ownsRow base 110 129 v' (ws.length + 1) (wcells ws ++ (wrow i b).toList)) (h4 : v'.ownBlock = wv.ownBlock ∨ ∃ k, v'.ownBlock = some k ∧ w.heap.size ≤ k) (hF : Fr (fun k => k = d ∨ wv.ownBlock = some k) w w') :
    DB w' d bl n L (ws ++ [(i, b)]) v' wr' ar' dn' base := by
  refine ⟨h1, (hF.block bl (lt_of_block h.las) (fun e => e.elim (fun e => h.d2 e.symm) h.o3)).trans h.las, ?_, h.d2, own_not h4 h.o1 (lt_of_block h.blk), own_not h4 h.o3 (lt_of_block h.las), h.b1, h.b3, h.hn, ?_⟩
  · rw [← wcells_put, List.length_append]; exact h3
  · intro p hp
    rcases List.mem_append.1 hp with hp | hp
    · exact h.hw p hp
    · have : p = (i, b) := by simpa using hp
      rw [this]; exact hi
theorem rwrite_any {w : World} {d bl n : Nat} {L : Nat → Nat → UInt8} {ws : List (Nat × (Nat → UInt8))} {wv : Value} {wr ar : Int} {base : Nat} (h : DB w d bl n L ws wv wr ar false base) (hm : ws.length < 1000000000000) (hwr : In64 (wr + 1)) (ha : In64 ar) (h0 : 0 ≤ ar) (i : Nat) (hi : i < n) (b : Nat → UInt8) :
    Calls Try.prog 27 #[(.pointer (some ⟨d, 0, none⟩)), .int .i64 (i : Int), .agg (ub 128 b)] w fun e w' => e = .returned (.int .i64 (if ar = 1 then 13 else 0)) ∧ ∃ v', DB w' d bl n L (ws ++ [(i, b)]) v' (wr + 1) (if 0 < ar then ar - 1 else ar) (decide (ar = 1)) base ∧ (v'.ownBlock = wv.ownBlock ∨ ∃ k, v'.ownBlock = some k ∧ w.heap.size ≤ k) ∧ Fr (fun k => k = d ∨ wv.ownBlock = some k) w w' := by
  by_cases c1 : ar = 1
  · subst c1
    refine (rwrite_off h hm hwr i hi b).mono ?_
    rintro e w' ⟨rfl, v', h1, h3, h4, hF⟩
    exact ⟨rfl, v', db_put h hi h1 h3 h4 hF, h4, hF⟩
  · by_cases c2 : 0 < ar
    · refine (rwrite_go h hm hwr (by omega) ha i hi b).mono ?_
      rintro e w' ⟨rfl, v', h1, h3, h4, hF⟩
      rw [if_neg c1, if_pos c2, decide_eq_false c1]
      exact ⟨rfl, v', db_put h hi h1 h3 h4 hF, h4, hF⟩
    · refine (rwrite_un h hm hwr c2 i hi b).mono ?_
      rintro e w' ⟨rfl, v', h1, h3, h4, hF⟩
      rw [if_neg c1, if_neg c2, decide_eq_false c1]
      exact ⟨rfl, v', db_put h hi h1 h3 h4 hF, h4, hF⟩
set_option maxRecDepth 100000 in
set_option maxHeartbeats 6400000 in
theorem rwrite_bad {w : World} {d bl n : Nat} {L : Nat → Nat → UInt8} {ws : List (Nat × (Nat → UInt8))} {wv : Value} {wr ar : Int} {dn : Bool} {base : Nat} (h : DB w d bl n L ws wv wr ar dn base) (i : Int) (hc : ¬ (rcode n dn i = 0)) (b : Nat → UInt8) :
    Calls Try.prog 27 #[(.pointer (some ⟨d, 0, none⟩)), .int .i64 i, .agg (ub 128 b)] w fun e w' => e = .returned (.int .i64 (rcode n dn i)) ∧ Fr (fun _ => False) w w' := by
  have sB : Sz 128 (ub 128 b) := ⟨ub_size _ _, ub_one _ _⟩
  generalize ub 128 b = B at *
  cases dn with
  | true =>
    rw [show rcode n true i = 13 from rfl]
    have K := (Kn.start w).new (w.heap.size) 128 B 29 rfl sB.1
    have h2 := h.fr K.fr (fun _ _ h => h)
    have c0 := h2.c 0 (v := .slice (some ⟨bl, 0, none⟩) n n) rfl
    have c4 := h2.c 4 (v := .bool true) rfl
    have F := K.fr
    clear h2 K
    go_enter Try.func27, Try.ntmps27
    generalize hW1 : w.alloc (.cells B 29) = w1 at *
    go_wp2_with fail
    go_ret
    exact ⟨rfl, F⟩
  | false =>
    have hr : rcode n false i = 1 := by
      unfold rcode at hc ⊢
      simp only [Bool.false_eq_true, if_false] at hc ⊢
      split at hc
      · exact absurd rfl hc
      · rename_i hh; rw [if_neg hh]
    rw [hr]
    by_cases q0 : i < 0
    · have t0 : decide (i < 0) = true := by simpa using q0
      have K := (Kn.start w).new (w.heap.size) 128 B 29 rfl sB.1
      have h2 := h.fr K.fr (fun _ _ h => h)
      have c0 := h2.c 0 (v := .slice (some ⟨bl, 0, none⟩) n n) rfl
      have c4 := h2.c 4 (v := .bool false) rfl
      have F := K.fr
      clear h2 K
      go_enter Try.func27, Try.ntmps27
      generalize hW1 : w.alloc (.cells B 29) = w1 at *
      go_wp2_with fail
      go_ret
      exact ⟨rfl, F⟩
    · have q1 : (n : Int) ≤ i := by
        unfold rcode at hc
        simp only [Bool.false_eq_true, if_false] at hc
        split at hc
        · exact absurd rfl hc
        · omega
      have t0 : decide (i < 0) = false := by simpa using q0
      have t1 : decide ((n : Int) ≤ i) = true := by simpa using q1
      have K := (Kn.start w).new (w.heap.size) 128 B 29 rfl sB.1
      have h2 := h.fr K.fr (fun _ _ h => h)
      have c0 := h2.c 0 (v := .slice (some ⟨bl, 0, none⟩) n n) rfl
      have c4 := h2.c 4 (v := .bool false) rfl
      have F := K.fr
      clear h2 K
      go_enter Try.func27, Try.ntmps27
      generalize hW1 : w.alloc (.cells B 29) = w1 at *
      go_wp2_with fail
      go_ret
      exact ⟨rfl, F⟩
end Go.Proofs.Ytgladedjgjhlaaa

/-
  DocRead.
-/
import Derived.Test.YtgladedjgjhlaaaOh
namespace Go.Proofs.Ytgladedjgjhlaaa
open Go.RowKit
set_option linter.unusedVariables false
set_option linter.unusedSimpArgs false
theorem Try.zRb : Try.zeroCells29 = ub 128 (fun _ => 0) := by kernel_rfl
theorem sZ29 : Sz 128 Try.zeroCells29 := by rw [Try.zRb]; exact ⟨ub_size _ _, ub_one _ _⟩
set_option maxRecDepth 100000 in
theorem lit60 (f : Nat → Value) : ((List.range 60).map f).toArray = (f 0 :: f 1 :: f 2 :: f 3 :: f 4 :: f 5 :: f 6 :: f 7 :: f 8 :: f 9 :: f 10 :: f 11 :: f 12 :: f 13 :: f 14 :: f 15 :: f 16 :: f 17 :: f 18 :: f 19 :: f 20 :: f 21 :: f 22 :: f 23 :: f 24 :: f 25 :: f 26 :: f 27 :: f 28 :: f 29 :: f 30 :: f 31 :: f 32 :: f 33 :: f 34 :: f 35 :: f 36 :: f 37 :: f 38 :: f 39 :: f 40 :: f 41 :: f 42 :: f 43 :: f 44 :: f 45 :: f 46 :: f 47 :: f 48 :: f 49 :: f 50 :: f 51 :: f 52 :: f 53 :: f 54 :: f 55 :: f 56 :: f 57 :: f 58 :: f 59 :: []).toArray := by kernel_rfl
set_option maxRecDepth 100000 in
set_option maxHeartbeats 6400000 in
theorem rread_loop {Q : Exit → Act → World → Prop} {w w1 : World} {d bl n : Nat} {L : Nat → Nat → UInt8} {ws : List (Nat × (Nat → UInt8))} {wv : Value} {wr ar : Int} {dn : Bool} {base : Nat} (h : DB w d bl n L ws wv wr ar dn base) (hm : ws.length < 1000000000000) (i : Nat) (hi : i < n) (g4 g6 : Nat) (Z : Array Value) (K1 : Kn w [⟨g6, 128, ub 128 (L i), 29⟩, ⟨g4, 128, Z, 29⟩] w1) (t : Array Value) (hn : t.size = 60)
    (p0 : t[0]? = some (.pointer (some ⟨d, 0, none⟩))) (p1 : t[1]? = some (.int .i64 (i : Int))) (p4 : t[4]? = some (.pointer (some ⟨g4, 0, none⟩))) (p6 : t[6]? = some (.pointer (some ⟨g6, 0, none⟩))) (p7 : t[7]? = some (.int .i64 0))
    (hexit : ∀ t' w', t'.size = 60 → t'[4]? = some (.pointer (some ⟨g4, 0, none⟩)) → t'[6]? = some (.pointer (some ⟨g6, 0, none⟩)) → Kn w [⟨g6, 128, ub 128 (lay L ws i), 29⟩, ⟨g4, 128, Z, 29⟩] w' → Q (.exit 0) ⟨t', []⟩ w') :
    Code.wp Try.prog (.loop (loopAt Try.f26 0)) Q ⟨t, []⟩ w1 := by
  obtain ⟨a, cap, rfl⟩ := own_slice h.own
  refine wp_loop_up ws.length (fun k t w' => t.size = 60 ∧ t[0]? = some (.pointer (some ⟨d, 0, none⟩)) ∧ t[1]? = some (.int .i64 (i : Int)) ∧ t[4]? = some (.pointer (some ⟨g4, 0, none⟩)) ∧ t[6]? = some (.pointer (some ⟨g6, 0, none⟩)) ∧ t[7]? = some (.int .i64 (k : Int)) ∧ Kn w [⟨g6, 128, ub 128 (lay L (ws.take k) i), 29⟩, ⟨g4, 128, Z, 29⟩] w') t w1 ⟨hn, p0, p1, p4, p6, p7, K1⟩ ?_
  clear hn p0 p1 p4 p6 p7 t K1
  rintro k t w1 hk ⟨hn, p0, p1, p4, p6, p7, K1⟩ K hK
  obtain ⟨f, hff, rfl⟩ := frame_open hn
  have e0 := hff 0 _ p0
  have e1 := hff 1 _ p1
  have e4 := hff 4 _ p4
  have e6 := hff 6 _ p6
  have e7 := hff 7 _ p7
  clear hff hn p0 p1 p4 p6 p7
  rw [lit60, e0, e1, e4, e6, e7]
  clear e0 e1 e4 e6 e7
  conv => arg 2; whnf
  have HE := Lib.hid hexit
  have HK := Lib.hid hK
  have D := h.fr K1.fr (fun _ _ h => h)
  have c1 : w1.cell? ⟨d, 1, none⟩ = some (.slice a ws.length cap) := D.c 1 rfl
  clear hexit hK
  have w4 : wrap64 ((k : Int) + 1) = (k : Int) + 1 := IntWalk.wrap64_in _ (by omega)
  have v4 : IntKind.i64.wrap ((k : Int) + 1) = (k : Int) + 1 := IntWalk.i64_in _ (by omega)
  have i0 : (0 : Int) ≤ (i : Int) := by omega
  by_cases hlt : k < ws.length
  · have q3 : (k : Int) < (ws.length : Int) := by omega
    have q4 : (0 : Int) ≤ (k : Int) := by omega
    obtain ⟨p, hp⟩ : ∃ p, ws[k]? = some p := ⟨_, List.getElem?_eq_getElem hlt⟩
    rcases D.own.2 with ⟨e, h0⟩ | ⟨g, cap2, cur, e, hb, hg, hcap, hmax, hcs, hcur⟩
    · omega
    have e2 : a = some ⟨g, 0, none⟩ := by injection e
    subst e2
    have hs := lay_take L ws k p hp
    obtain ⟨q, b⟩ := p
    have hh : cur[k * 129]? = some (.int .i64 (q : Int)) := by
      have := own_cell hcur k (q, b) hp 0 (.int .i64 (q : Int)) rfl
      simpa using this
    have cq : w1.cell? ⟨g, k * 129, none⟩ = some (.int .i64 (q : Int)) := (cell_of_block hg _).trans hh
    have rg : w1.rangeAt g (k * 129 + 1) (ub 128 b).toList := fun j u hj => by
      have := own_cell hcur k (q, b) hp (1 + j) u (by have := wrow_part q b j u (by simpa using hj); simpa using this)
      rw [cell_of_block hg, Nat.add_assoc]; exact this
    have szr : (Try.prog.info? 29).map (·.size) = some (ub 128 b).toList.length := by rw [Array.length_toList, ub_size]; exact Try.szRb
    have sB : Sz 128 (ub 128 b) := ⟨ub_size _ _, ub_one _ _⟩
    have Hs := Lib.hid hs
    have HH := Lib.hid h
    clear hp hcur D hb hg hcap hmax hcs hk e hs h hh
    by_cases hqi : q = i
    · subst hqi
      have hrow : ub 128 b = ub 128 (lay L (ws.take (k + 1)) q) := by rw [Hs.out]; unfold bset; rw [if_pos rfl]
      have HR := Lib.hid hrow
      clear hrow
      generalize ub 128 b = B at *
      go_wp2_with (first | (focus ((with_reducible refine wpList_load_mid ?a0 29 (.tmp 57) ?a1 g (k * 129 + 1) ?a2 B.toList _ rg Try.underlying29 ?a4 szr ?a3); (case a0 => rfl); (case a4 => rfl); (case a1 => rfl); (case a2 => rfl); (simp only [Act.put, List.setIfInBounds_toArray, List.set_cons_zero, List.set_cons_succ]; simp only [Array.toArray_toList]))) | (focus (((with_reducible refine' wpList_store_kn K1 rfl 29 (.tmp 6) _ rfl 0 _ _ _ _ _ rfl rfl Try.szRb _ _ _); rotate_left 2; (focus exact rfl)); (focus (with_reducible assumption)); intro wz Kz; clear K1; have K1 := Kz; clear Kz; simp only [List.set_cons_zero, List.set_cons_succ] at K1; try (simp only [Act.put, List.setIfInBounds_toArray, List.set_cons_zero, List.set_cons_succ]))))
      rw [HR.out] at K1
      exact HK.out _ _ hlt ⟨rfl, rfl, rfl, rfl, rfl, by simp, K1⟩
    · have t1 : ((q : Int) == (i : Int)) = false := by simp; omega
      have t2 : decide ((q : Int) = (i : Int)) = false := by simp; omega
      have t3 : ¬ ((q : Int) = (i : Int)) := by omega
      have hrow : lay L (ws.take (k + 1)) i = lay L (ws.take k) i := by rw [Hs.out]; unfold bset; rw [if_neg (fun e => hqi e.symm)]
      have HR := Lib.hid hrow
      clear hrow
      go_wp2_with fail
      rw [← HR.out] at K1
      exact HK.out _ _ hlt ⟨rfl, rfl, rfl, rfl, rfl, by simp, K1⟩
  · obtain rfl : k = ws.length := by omega
    rw [List.take_length] at K1
    have HD2 := Lib.hid D
    clear D
    go_wp2_with fail
    exact HE.out _ _ rfl rfl rfl K1
set_option maxRecDepth 100000 in
set_option maxHeartbeats 6400000 in
theorem rread_ok {w : World} {d bl n : Nat} {L : Nat → Nat → UInt8} {ws : List (Nat × (Nat → UInt8))} {wv : Value} {wr ar : Int} {base : Nat} (h : DB w d bl n L ws wv wr ar false base) (hm : ws.length < 1000000000000) (i : Nat) (hi : i < n) :
    Calls Try.prog 26 #[(.pointer (some ⟨d, 0, none⟩)), .int .i64 (i : Int)] w fun e w' => e = .returned (.tuple #[.agg (ub 128 (lay L ws i)), .int .i64 0]) ∧ Fr (fun _ => False) w w' := by
  have K1 := (Kn.start w).new (w.heap.size) 128 Try.zeroCells29 29 rfl sZ29.1
  have h1 := h.fr K1.fr (fun _ _ h => h)
  have c0 := h1.c 0 (v := .slice (some ⟨bl, 0, none⟩) n n) rfl
  have c4 := h1.c 4 (v := .bool false) rfl
  have hl := h1.las
  have q0 : (0 : Int) ≤ (i : Int) := by omega
  have q1 : (i : Int) < (n : Int) := by omega
  have q2 : ¬ ((n : Int) ≤ (i : Int)) := by omega
  have t0 : decide ((i : Int) < 0) = false := by simp
  have t1 : decide ((n : Int) ≤ (i : Int)) = false := by simpa using q2
  have hn8 := h.hn
  have rg : (w.alloc (.cells Try.zeroCells29 29)).rangeAt bl (i * 128) (ub 128 (L i)).toList := fun j u hj => by
    rw [cell_of_block hl, Nat.mul_comm]; exact bk_part n L i hi j u (by simpa using hj)
  have szr : (Try.prog.info? 29).map (·.size) = some (ub 128 (L i)).toList.length := by rw [Array.length_toList, ub_size]; exact Try.szRb
  have sB : Sz 128 (ub 128 (L i)) := ⟨ub_size _ _, ub_one _ _⟩
  have HH := Lib.hid h
  have HM := Lib.hid hm
  clear h h1 hm hl
  go_enter Try.func26, Try.ntmps26
  have sZ := sZ29
  generalize hW1 : w.alloc (.cells Try.zeroCells29 29) = w1 at *
  have K2 := K1.new (w1.heap.size) 128 Try.zeroCells29 29 rfl sZ.1
  clear K1
  generalize hB : ub 128 (L i) = B at *
  have HB := Lib.hid hB
  clear hB
  go_wp2_with (first | (focus ((with_reducible refine wpList_load_mid ?a0 29 (.tmp 30) ?a1 bl (i * 128) ?a2 B.toList _ rg Try.underlying29 ?a4 szr ?a3); (case a0 => rfl); (case a4 => rfl); (case a1 => rfl); (case a2 => rfl); (simp only [Act.put, List.setIfInBounds_toArray, List.set_cons_zero, List.set_cons_succ]; simp only [Array.toArray_toList]))) | (focus (((with_reducible refine' wpList_store_kn K2 rfl 29 (.tmp 6) _ rfl 0 _ _ _ _ _ rfl rfl Try.szRb _ _ _); rotate_left 2; (focus exact rfl)); (focus (with_reducible assumption)); intro wz Kz; clear K2; have K2 := Kz; clear Kz; simp only [List.set_cons_zero, List.set_cons_succ] at K2; try (simp only [Act.put, List.setIfInBounds_toArray, List.set_cons_zero, List.set_cons_succ]))))
  rw [← HB.out] at K2
  refine rread_loop HH.out HM.out i hi w.heap.size w1.heap.size Try.zeroCells29 K2 _ rfl rfl rfl rfl rfl rfl ?_
  intro t w2 hn p4 p6 K3
  obtain ⟨f, hff, rfl⟩ := frame_open hn
  have e4 := hff 4 _ p4
  have e6 := hff 6 _ p6
  clear hff hn p4 p6
  rw [lit60, e4, e6]
  clear e4 e6
  have sR : Sz 128 (ub 128 (lay L ws i)) := ⟨ub_size _ _, ub_one _ _⟩
  generalize hRR : ub 128 (lay L ws i) = R at *
  have HRR := Lib.hid hRR
  clear hRR
  clear K2 rg c0 c4
  go_wp2_with (first | ((with_reducible refine' wpList_load_kn K3 rfl 29 (.tmp 6) rfl 0 _ _ _ _ rfl _ Try.underlying29 rfl Try.szRb _ _); rotate_left 2; (focus exact rfl)) | (focus (((with_reducible refine' wpList_store_kn K3 rfl 29 (.tmp 4) _ rfl 1 _ _ _ _ _ rfl rfl Try.szRb _ _ _); rotate_left 2; (focus exact rfl)); (focus (with_reducible assumption)); intro wz Kz; clear K3; have K3 := Kz; clear Kz; simp only [List.set_cons_zero, List.set_cons_succ] at K3; try (simp only [Act.put, List.setIfInBounds_toArray, List.set_cons_zero, List.set_cons_succ]))))
  refine bodyPost_ret (results_cell_tmpD rfl _ w.heap.size R (.int .i64 0) 29 (0, 0) rfl rfl _ Try.underlying29 rfl (by rw [sR.1]; exact Try.szRb) (K3.heap 1 rfl)) rfl ?_
  rw [HRR.out]
  exact ⟨rfl, K3.fr⟩
set_option maxRecDepth 100000 in
set_option maxHeartbeats 6400000 in
theorem rread_bad {w : World} {d bl n : Nat} {L : Nat → Nat → UInt8} {ws : List (Nat × (Nat → UInt8))} {wv : Value} {wr ar : Int} {dn : Bool} {base : Nat} (h : DB w d bl n L ws wv wr ar dn base) (i : Int) (hc : ¬ (rcode n dn i = 0)) :
    Calls Try.prog 26 #[(.pointer (some ⟨d, 0, none⟩)), .int .i64 i] w fun e w' => e = .returned (.tuple #[.agg (ub 128 (fun _ => 0)), .int .i64 (rcode n dn i)]) ∧ Fr (fun _ => False) w w' := by
  cases dn with
  | true =>
    rw [show rcode n true i = 13 from rfl]
    clear hc
    have K1 := (Kn.start w).new (w.heap.size) 128 Try.zeroCells29 29 rfl sZ29.1
    have h1 := h.fr K1.fr (fun _ _ h => h)
    have c0 := h1.c 0 (v := .slice (some ⟨bl, 0, none⟩) n n) rfl
    have c4 := h1.c 4 (v := .bool true) rfl
    have sZ := sZ29
    clear h1 h
    go_enter Try.func26, Try.ntmps26
    generalize hW1 : w.alloc (.cells Try.zeroCells29 29) = w1 at *
    go_wp2_with (focus (((with_reducible refine' wpList_store_kn K1 rfl 29 (.tmp 4) _ rfl 0 _ _ _ _ _ rfl rfl Try.szRb _ _ _); rotate_left 2; (focus exact rfl)); (focus (with_reducible assumption)); intro wz Kz; clear K1; have K1 := Kz; clear Kz; simp only [List.set_cons_zero, List.set_cons_succ] at K1; try (simp only [Act.put, List.setIfInBounds_toArray, List.set_cons_zero, List.set_cons_succ])))
    refine bodyPost_ret (results_cell_tmpD rfl _ w.heap.size Try.zeroCells29 (.int .i64 13) 29 (0, 0) rfl rfl _ Try.underlying29 rfl (by rw [sZ.1]; exact Try.szRb) (K1.heap 0 rfl)) rfl ?_
    rw [Try.zRb]
    exact ⟨rfl, K1.fr⟩
  | false =>
    have hr : rcode n false i = 1 := by
      unfold rcode at hc ⊢
      simp only [Bool.false_eq_true, if_false] at hc ⊢
      split at hc
      · exact absurd rfl hc
      · rename_i hh; rw [if_neg hh]
    rw [hr]
    by_cases q0 : i < 0
    · have t0 : decide (i < 0) = true := by simpa using q0
      clear hc hr
      have K1 := (Kn.start w).new (w.heap.size) 128 Try.zeroCells29 29 rfl sZ29.1
      have h1 := h.fr K1.fr (fun _ _ h => h)
      have c0 := h1.c 0 (v := .slice (some ⟨bl, 0, none⟩) n n) rfl
      have c4 := h1.c 4 (v := .bool false) rfl
      have sZ := sZ29
      clear h1 h
      go_enter Try.func26, Try.ntmps26
      generalize hW1 : w.alloc (.cells Try.zeroCells29 29) = w1 at *
      go_wp2_with (focus (((with_reducible refine' wpList_store_kn K1 rfl 29 (.tmp 4) _ rfl 0 _ _ _ _ _ rfl rfl Try.szRb _ _ _); rotate_left 2; (focus exact rfl)); (focus (with_reducible assumption)); intro wz Kz; clear K1; have K1 := Kz; clear Kz; simp only [List.set_cons_zero, List.set_cons_succ] at K1; try (simp only [Act.put, List.setIfInBounds_toArray, List.set_cons_zero, List.set_cons_succ])))
      refine bodyPost_ret (results_cell_tmpD rfl _ w.heap.size Try.zeroCells29 (.int .i64 1) 29 (0, 0) rfl rfl _ Try.underlying29 rfl (by rw [sZ.1]; exact Try.szRb) (K1.heap 0 rfl)) rfl ?_
      rw [Try.zRb]
      exact ⟨rfl, K1.fr⟩
    · have q1 : (n : Int) ≤ i := by
        unfold rcode at hc
        simp only [Bool.false_eq_true, if_false] at hc
        split at hc
        · exact absurd rfl hc
        · omega
      have t0 : decide (i < 0) = false := by simpa using q0
      have t1 : decide ((n : Int) ≤ i) = true := by simpa using q1
      clear hc hr
      have K1 := (Kn.start w).new (w.heap.size) 128 Try.zeroCells29 29 rfl sZ29.1
      have h1 := h.fr K1.fr (fun _ _ h => h)
      have c0 := h1.c 0 (v := .slice (some ⟨bl, 0, none⟩) n n) rfl
      have c4 := h1.c 4 (v := .bool false) rfl
      have sZ := sZ29
      clear h1 h
      go_enter Try.func26, Try.ntmps26
      generalize hW1 : w.alloc (.cells Try.zeroCells29 29) = w1 at *
      go_wp2_with (focus (((with_reducible refine' wpList_store_kn K1 rfl 29 (.tmp 4) _ rfl 0 _ _ _ _ _ rfl rfl Try.szRb _ _ _); rotate_left 2; (focus exact rfl)); (focus (with_reducible assumption)); intro wz Kz; clear K1; have K1 := Kz; clear Kz; simp only [List.set_cons_zero, List.set_cons_succ] at K1; try (simp only [Act.put, List.setIfInBounds_toArray, List.set_cons_zero, List.set_cons_succ])))
      refine bodyPost_ret (results_cell_tmpD rfl _ w.heap.size Try.zeroCells29 (.int .i64 1) 29 (0, 0) rfl rfl _ Try.underlying29 rfl (by rw [sZ.1]; exact Try.szRb) (K1.heap 0 rfl)) rfl ?_
      rw [Try.zRb]
      exact ⟨rfl, K1.fr⟩
theorem rread_any {w : World} {d bl n : Nat} {L : Nat → Nat → UInt8} {ws : List (Nat × (Nat → UInt8))} {wv : Value} {wr ar : Int} {dn : Bool} {base : Nat} (h : DB w d bl n L ws wv wr ar dn base) (hm : ws.length < 1000000000000) (i : Int) :
    Calls Try.prog 26 #[(.pointer (some ⟨d, 0, none⟩)), .int .i64 i] w fun e w' => e = .returned (.tuple #[.agg (ub 128 (if rcode n dn i = 0 then lay L ws i.toNat else fun _ => 0)), .int .i64 (rcode n dn i)]) ∧ Fr (fun _ => False) w w' := by
  by_cases hc : rcode n dn i = 0
  · obtain ⟨h5, h0, h1⟩ := rcode_in hc
    have e : ((i.toNat : Nat) : Int) = i := Int.toNat_of_nonneg h0
    rw [if_pos hc, hc]
    subst h5
    have := rread_ok h hm i.toNat (by omega)
    rw [e] at this
    exact this
  · rw [if_neg hc]
    exact rread_bad h i hc
end Go.Proofs.Ytgladedjgjhlaaa

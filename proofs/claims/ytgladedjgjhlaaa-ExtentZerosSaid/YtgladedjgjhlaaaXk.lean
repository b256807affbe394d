/-
  Clear of an extent.
-/
import Derived.Test.YtgladedjgjhlaaaXj
namespace Go.Proofs.Ytgladedjgjhlaaa
open Go.RowKit
set_option linter.unusedVariables false
set_option linter.unusedSimpArgs false
theorem neq_zero (f : Nat → UInt8) (W : World) : (binOp .neq 30 (.agg (ub 128 f)) (.agg Try.zeroCells30)).run Try.prog W = .ok (.bool (!(zr f))) W := by
  rw [Try.zBk, neq_blk]; rfl
set_option maxRecDepth 100000 in
theorem lit47 (f : Nat → Value) : ((List.range 47).map f).toArray = (f 0 :: f 1 :: f 2 :: f 3 :: f 4 :: f 5 :: f 6 :: f 7 :: f 8 :: f 9 :: f 10 :: f 11 :: f 12 :: f 13 :: f 14 :: f 15 :: f 16 :: f 17 :: f 18 :: f 19 :: f 20 :: f 21 :: f 22 :: f 23 :: f 24 :: f 25 :: f 26 :: f 27 :: f 28 :: f 29 :: f 30 :: f 31 :: f 32 :: f 33 :: f 34 :: f 35 :: f 36 :: f 37 :: f 38 :: f 39 :: f 40 :: f 41 :: f 42 :: f 43 :: f 44 :: f 45 :: f 46 :: []).toArray := by kernel_rfl
set_option maxRecDepth 100000 in
set_option maxHeartbeats 6400000 in
theorem clear_loop {Q : Exit → Act → World → Prop} {w : World} {x d bn bl n : Nat} {xf xc xs : Int} {N L : Nat → Nat → UInt8} {ws : List (Nat × (Nat → UInt8))} {wv : Value} {wr ar : Int} {base : Nat} (hx : Ext w x (.pointer (some ⟨d, 0, none⟩)) xf xc xs) (D : DA w d bn bl n N L ws wv wr ar false base) (b0 sz : Nat) (hb : b0 + sz ≤ n) (t : Array Value) (hn : t.size = 47)
    (p0 : t[0]? = some (.pointer (some ⟨x, 0, none⟩))) (p6 : t[6]? = some (.int .i64 (b0 : Int))) (p7 : t[7]? = some (.int .i64 (sz : Int))) (p9 : t[9]? = some (.int .i64 (b0 : Int)))
    (hexit : ∀ t' w', t'.size = 47 → (∀ j, b0 ≤ j → j < b0 + sz → zr (N j) = true) → Fr (fun _ => False) w w' → Q (.exit 0) ⟨t', []⟩ w')
    (hret : ∀ t' w', t'.size = 47 → t'[4]? = some (.bool false) → t'[5]? = some (.int .i64 0) → ¬ (∀ j, b0 ≤ j → j < b0 + sz → zr (N j) = true) → Fr (fun _ => False) w w' → Q .ret ⟨t', []⟩ w') :
    Code.wp Try.prog (.loop (loopAt Try.f42 0)) Q ⟨t, []⟩ w := by
  have hn8 := D.hn
  refine wp_loop_up sz (fun k t w' => t.size = 47 ∧ t[0]? = some (.pointer (some ⟨x, 0, none⟩)) ∧ t[6]? = some (.int .i64 (b0 : Int)) ∧ t[7]? = some (.int .i64 (sz : Int)) ∧ t[9]? = some (.int .i64 ((b0 + k : Nat) : Int)) ∧ (∀ j, b0 ≤ j → j < b0 + k → zr (N j) = true) ∧ Fr (fun _ => False) w w') t w ⟨hn, p0, p6, p7, p9, fun j h1 h2 => absurd h2 (by omega), Fr.refl _ _⟩ ?_
  clear hn p0 p6 p7 p9 t
  rintro k t w1 hk ⟨hn, p0, p6, p7, p9, hzr, F1⟩ K hK
  obtain ⟨f, hff, rfl⟩ := frame_open hn
  have e0 := hff 0 _ p0
  have e6 := hff 6 _ p6
  have e7 := hff 7 _ p7
  have e9 := hff 9 _ p9
  clear hff hn p0 p6 p7 p9
  rw [lit47, e0, e6, e7, e9]
  clear e0 e6 e7 e9
  conv => arg 2; whnf
  have HE := Lib.hid hexit
  have HT := Lib.hid hret
  have HK := Lib.hid hK
  have HX := Lib.hid (hx.fr F1)
  have HD := Lib.hid (D.fr F1 (fun _ _ h => h))
  have HZ := Lib.hid hzr
  have HF := Lib.hid F1
  have c0 : w1.cell? ⟨x, 0, none⟩ = some (.pointer (some ⟨d, 0, none⟩)) := (cell_of_block HX.out 0).trans rfl
  have sZ : Sz 128 Try.zeroCells30 := by rw [Try.zBk]; exact ⟨ub_size _ _, ub_one _ _⟩
  clear hexit hret hK hx D hzr F1
  obtain ⟨i, hi⟩ : ∃ i, b0 + k = i := ⟨_, rfl⟩
  rw [hi]
  have hbn : b0 + sz ≤ 8192 := Nat.le_trans hb hn8
  have hin8 : i ≤ 8192 := by rw [← hi]; exact Nat.le_trans (Nat.add_le_add_left hk b0) hbn
  have HI := Lib.hid hi
  by_cases hlt : k < sz
  · have q1 : (i : Int) < (b0 : Int) + (sz : Int) := by omega
    have hin : i < n := by omega
    have hib : b0 ≤ i ∧ i < b0 + sz := by omega
    have HIB := Lib.hid hib
    clear hi hib
    have r1 := wrk b0 sz hbn
    have r2 := wrk2 b0 sz hbn
    have r3 := wrk3 i hin8
    have r4 := wrk4 i hin8
    go_wp2_with fail
    refine (read_in HD.out i hin (N i) rfl).mono ?_
    rintro e w2 ⟨rfl, F2⟩
    have K1 := ((Kn.start w1).call F2).new (w2.heap.size) 128 Try.zeroCells30 30 rfl sZ.1
    have sB : Sz 128 (ub 128 (N i)) := ⟨ub_size _ _, ub_one _ _⟩
    clear F2
    cases hz : zr (N i) with
    | true =>
      have heq : ∀ W : World, (binOp .neq 30 (.agg (ub 128 (N i))) (.agg Try.zeroCells30)).run Try.prog W = .ok (.bool false) W := fun W => by rw [neq_zero, hz]; rfl
      generalize ub 128 (N i) = B at sB heq ⊢
      have HZZ := Lib.hid hz
      clear hz c0
      go_wp2_with (first | (focus (((with_reducible refine' wpList_store_kn K1 rfl 30 (.tmp 10) _ rfl 0 _ _ _ _ _ rfl rfl Try.szBk _ _ _); rotate_left 2; (focus exact rfl)); (focus (with_reducible assumption)); intro wz Kz; clear K1; have K1 := Kz; clear Kz; simp only [List.set_cons_zero, List.set_cons_succ] at K1; try (simp only [Act.put, List.setIfInBounds_toArray, List.set_cons_zero, List.set_cons_succ]))) | (focus (refine' wpList_load_pt_gd K1 rfl 30 (.tmp 10) rfl 0 _ _ 0 128 _ _ _ rfl _ Try.underlying30 rfl Try.szBk rfl (Part.whole _) sB.1 _)))
      clear r1 r2 r3 r4
      refine HK.out _ _ hlt ⟨rfl, rfl, rfl, rfl, ?_, ?_, HF.out.trans K1.fr (fun _ h => h.elim)⟩
      · have := HI.out; subst this; simp [Int.add_assoc]
      · intro j h1 h2
        by_cases e : j = i
        · rw [e]; exact HZZ.out
        · exact HZ.out j h1 (by have := HI.out; omega)
    | false =>
      have heq : ∀ W : World, (binOp .neq 30 (.agg (ub 128 (N i))) (.agg Try.zeroCells30)).run Try.prog W = .ok (.bool true) W := fun W => by rw [neq_zero, hz]; rfl
      generalize ub 128 (N i) = B at sB heq ⊢
      have HZZ := Lib.hid hz
      clear hz c0
      go_wp2_with (first | (focus (((with_reducible refine' wpList_store_kn K1 rfl 30 (.tmp 10) _ rfl 0 _ _ _ _ _ rfl rfl Try.szBk _ _ _); rotate_left 2; (focus exact rfl)); (focus (with_reducible assumption)); intro wz Kz; clear K1; have K1 := Kz; clear Kz; simp only [List.set_cons_zero, List.set_cons_succ] at K1; try (simp only [Act.put, List.setIfInBounds_toArray, List.set_cons_zero, List.set_cons_succ]))) | (focus (refine' wpList_load_pt_gd K1 rfl 30 (.tmp 10) rfl 0 _ _ 0 128 _ _ _ rfl _ Try.underlying30 rfl Try.szBk rfl (Part.whole _) sB.1 _)))
      exact HT.out _ _ rfl rfl rfl (fun h => by have a1 := h i HIB.out.1 HIB.out.2; rw [HZZ.out] at a1; cases a1) (HF.out.trans K1.fr (fun _ h => h.elim))
  · obtain rfl : k = sz := by omega
    have q1 : ¬ ((i : Int) < (b0 : Int) + (k : Int)) := by omega
    have q2 : decide ((i : Int) < (b0 : Int) + (k : Int)) = false := by simpa using q1
    clear hi
    have r1 := wrk b0 k hbn
    have r2 := wrk2 b0 k hbn
    go_wp2_with fail
    exact HE.out _ _ rfl HZ.out HF.out
set_option maxRecDepth 100000 in
set_option maxHeartbeats 6400000 in
theorem clear_any {w : World} {x d bn bl n : Nat} {xf xc xs : Int} {N L : Nat → Nat → UInt8} {ws : List (Nat × (Nat → UInt8))} {wv : Value} {wr ar : Int} {base : Nat} (hx : Ext w x (.pointer (some ⟨d, 0, none⟩)) xf xc xs) (D : DA w d bn bl n N L ws wv wr ar false base) (i : Int) (i0 : 0 ≤ i) (i1 : i < xc) (b0 sz : Nat) (e1 : xf + i * xs = (b0 : Int)) (e2 : xs = (sz : Int)) (g1 : In64 (i * xs)) (g2 : In64 (xf + i * xs)) (hb : b0 + sz ≤ n) :
    Calls Try.prog 42 #[(.pointer (some ⟨x, 0, none⟩)), .int .i64 i] w fun e w' => ∃ b : Bool, e = .returned (.tuple #[.bool b, .int .i64 0]) ∧ (b = true ↔ ∀ j, b0 ≤ j → j < b0 + sz → zr (N j) = true) ∧ Fr (fun _ => False) w w' := by
  have HX := Lib.hid hx
  have HD := Lib.hid D
  have har := area_ok x (.pointer (some ⟨d, 0, none⟩)) xf xc xs i w hx i0 i1 g1 g2
  rw [e1, e2] at har
  have HAR := Lib.hid har
  have HB := Lib.hid hb
  clear hx D har e1 e2 g1 g2 i0 i1 hb
  go_enter Try.func42, Try.ntmps42
  go_wp2_with fail
  refine HAR.out.mono ?_
  rintro e w2 ⟨rfl, F2⟩
  have HX2 := Lib.hid (HX.out.fr F2)
  have HD2 := Lib.hid (HD.out.fr F2 (fun _ _ h => h))
  have HF2 := Lib.hid F2
  clear F2
  go_wp2_with fail
  refine clear_loop HX2.out HD2.out b0 sz HB.out _ rfl rfl rfl rfl rfl ?_ ?_
  · intro t w3 hn hz F3
    obtain ⟨f, hff, rfl⟩ := frame_open hn
    clear hff hn
    rw [lit47]
    have HZ := Lib.hid hz
    have HF3 := Lib.hid F3
    clear hz F3
    go_wp2_with fail
    go_returns
    exact ⟨true, rfl, ⟨fun _ => HZ.out, fun _ => rfl⟩, HF2.out.trans HF3.out (fun _ h => h.elim)⟩
  · intro t w3 hn p4 p5 hz F3
    obtain ⟨f, hff, rfl⟩ := frame_open hn
    have e4 := hff 4 _ p4
    have e5 := hff 5 _ p5
    clear hff hn p4 p5
    rw [lit47, e4, e5]
    clear e4 e5
    have HZ := Lib.hid hz
    have HF3 := Lib.hid F3
    clear hz F3
    go_wp2_with fail
    go_returns
    exact ⟨false, rfl, ⟨(fun h => by cases h), (fun h => absurd h HZ.out)⟩, HF2.out.trans HF3.out (fun _ h => h.elim)⟩
end Go.Proofs.Ytgladedjgjhlaaa

/-
  CadenceApart: a round.
-/
import Derived.Test.YtcpapielklplcaaAo
namespace Go.Proofs.Ytcpapielklplcaa
open Go.RowKit
set_option linter.unusedVariables false
set_option linter.unusedSimpArgs false
/-- Between the rounds. -/
def Rd (w0 w : World) (pa pb k : Nat) : Prop := ∃ A B, Tw w0 w pa pb (5 + (k : Int)) (5 + (k : Int)) A B ∧ RR A B ∧ B.length ≤ k + 1
theorem RR.add {A B B' : List Mb} {x : Mb} (R : RR A B) (h : AddRel B B' x) (hx : isM x.id = false) (a1 : x.age ≤ 9223372036854775807) : RR A B' ∧ B'.length ≤ B.length + 1 := by
  rcases h with rfl | ⟨p1, p2, a0, i, hi, rfl⟩
  · exact ⟨R, by omega⟩
  · exact ⟨R.ins i x hx p1 p2 a0 a1, by rw [ins_len B i x hi]; omega⟩
theorem RR.rem {A B B' : List Mb} {s : ByteArray} (R : RR A B) (h : RemRel B B' s) (hs : isM s = false) : RR A B' ∧ B'.length ≤ B.length := by
  rcases h with rfl | ⟨k, m, hk, e, rfl⟩
  · exact ⟨R, by omega⟩
  · refine ⟨R.era k m hk ?_, List.length_eraseIdx_le ..⟩
    unfold isM at hs ⊢
    rw [e]; exact hs
set_option maxRecDepth 100000 in
set_option maxHeartbeats 6400000 in
theorem skip_end {K : Act → World → Prop} {Q : Exit → Act → World → Prop} {w0 w : World} {pa pb c k : Nat} {a : Option Addr} {l : List Jc} (hl : ∀ j x, l[j]? = some x → ∃ g o, a = some ⟨g, o, none⟩ ∧ g < w0.heap.size ∧ JC w0 g (o + j * 4) x) (hm : l.length ≤ maxLen) (h40 : k < 40) (S : Rd w0 w pa pb k) (h2 : l.length ≤ k) (fr : Array Value) (hn : fr.size = 135) (p2 : fr[2]? = some (.slice a l.length c)) (p7 : fr[7]? = some (.pointer (some ⟨pa, 0, none⟩))) (p9 : fr[9]? = some (.pointer (some ⟨pb, 0, none⟩))) (p13 : fr[13]? = some (.int .i64 (k : Int)))
    (hK : ∀ t' w', t'.size = 135 → t'[2]? = some (.slice a l.length c) → t'[7]? = some (.pointer (some ⟨pa, 0, none⟩)) → t'[9]? = some (.pointer (some ⟨pb, 0, none⟩)) → t'[13]? = some (.int .i64 ((k + 1 : Nat) : Int)) → Rd w0 w' pa pb (k + 1) → K ⟨t', []⟩ w') :
    Code.wp Try.prog (loopAt Try.f3 0) (Exit.then K Q) ⟨fr, []⟩ w := by
  obtain ⟨A, B, T, R, hbl⟩ := S
  have q2 : (k : Int) < 40 := by omega
  have q0 : (0 : Int) ≤ (k : Int) := Int.natCast_nonneg k
  have w1 : wrap64 ((k : Int) + 1) = ((k + 1 : Nat) : Int) := by rw [IntWalk.wrap64_in _ (by omega)]; omega
  have W1 := Lib.hid w1
  have HQ := Lib.hid (show 0 ≤ 5 + (k : Int) ∧ 5 + (k : Int) ≤ 1000000 from ⟨by omega, by omega⟩)
  have HQ4 := Lib.hid q2
  have HT := Lib.hid T
  have HR := Lib.hid R
  have HK := Lib.hid hK
  have HBL := Lib.hid (show B.length ≤ k + 1 + 1 by omega)
  have q3 : ¬ ((k : Int) < (l.length : Int)) := by omega
  clear hl hm h40 T R hbl w1 hK h2
  obtain ⟨f, hff, rfl⟩ := frame_open hn
  have e2 := hff 2 _ p2
  have e7 := hff 7 _ p7
  have e9 := hff 9 _ p9
  have e13 := hff 13 _ p13
  clear hff hn p2 p7 p9 p13
  rw [lit135, e2, e7, e9, e13]
  clear e2 e7 e9 e13
  conv => arg 2; whnf
  go_wp2_with fail
  refine (HT.out.tick HQ.out.1 HQ.out.2 (by have := HR.out.la; omega) HR.out.ga).mono ?_
  rintro e wt ⟨⟨xa, xc, rfl, _⟩, T1⟩
  have HT1 := Lib.hid T1.swap
  clear T1
  go_wp2_with fail
  refine (HT1.out.tick HQ.out.1 HQ.out.2 (by have := HBL.out; have := HQ.out; omega) HR.out.gb).mono ?_
  rintro e wu ⟨⟨ya, yc, rfl, hD⟩, T2⟩
  have HT2 := Lib.hid T2.swap
  have HD := Lib.hid hD
  clear T2 hD
  go_wp2_with fail
  refine due_loop (z13 := (k : Int)) HD.out (Nat.le_trans (dueL_len _) (by have := HBL.out; have := HQ.out; omega)) _ rfl rfl rfl rfl rfl rfl rfl rfl rfl rfl rfl ?_
  intro t' wv hn p2 p7 p9 p13 p14 p15 p16 p17 p18 FV
  have HT3 := Lib.hid (HT2.out.ext FV)
  rw [HR.out.due] at p18
  clear FV
  generalize (dueL A).length = nd at *
  by_cases hnd : nd = 1
  · subst hnd
    have p18' : t'[18]? = some (.bool true) := p18
    clear p18
    obtain ⟨f, hff, rfl⟩ := frame_open hn
    have e2 := hff 2 _ p2
    have e7 := hff 7 _ p7
    have e9 := hff 9 _ p9
    have e13 := hff 13 _ p13
    have e14 := hff 14 _ p14
    have e15 := hff 15 _ p15
    have e16 := hff 16 _ p16
    have e17 := hff 17 _ p17
    have e18 := hff 18 _ p18'
    clear hff hn p2 p7 p9 p13 p14 p15 p16 p17 p18'
    rw [lit135, e2, e7, e9, e13, e14, e15, e16, e17, e18]
    clear e2 e7 e9 e13 e14 e15 e16 e17 e18
    go_wp2_with fail
    (try rw [W1.out])
    exact HK.out _ _ rfl rfl rfl rfl rfl ⟨_, _, by have := HT3.out; rw [show (5 + ((k + 1 : Nat) : Int)) = 5 + (k : Int) + 1 by omega]; exact this, HR.out.tick, by rw [List.length_map]; exact HBL.out⟩
  · have hnd2 : ¬ ((nd : Int) = 1) := by omega
    have hnd3 : (nd == 1) = false := beq_eq_false_iff_ne.2 hnd
    rw [hnd3] at p18
    clear hnd3
    obtain ⟨f, hff, rfl⟩ := frame_open hn
    have e2 := hff 2 _ p2
    have e7 := hff 7 _ p7
    have e9 := hff 9 _ p9
    have e13 := hff 13 _ p13
    have e14 := hff 14 _ p14
    have e15 := hff 15 _ p15
    have e16 := hff 16 _ p16
    have e17 := hff 17 _ p17
    have e18 := hff 18 _ p18
    clear hff hn p2 p7 p9 p13 p14 p15 p16 p17 p18
    rw [lit135, e2, e7, e9, e13, e14, e15, e16, e17, e18]
    clear e2 e7 e9 e13 e14 e15 e16 e17 e18
    go_wp2_with fail
    (try rw [W1.out])
    exact HK.out _ _ rfl rfl rfl rfl rfl ⟨_, _, by have := HT3.out; rw [show (5 + ((k + 1 : Nat) : Int)) = 5 + (k : Int) + 1 by omega]; exact this, HR.out.tick, by rw [List.length_map]; exact HBL.out⟩
set_option maxRecDepth 100000 in
set_option maxHeartbeats 6400000 in
theorem skip_m {K : Act → World → Prop} {Q : Exit → Act → World → Prop} {w0 w : World} {pa pb c k : Nat} {a : Option Addr} {l : List Jc} (hl : ∀ j x, l[j]? = some x → ∃ g o, a = some ⟨g, o, none⟩ ∧ g < w0.heap.size ∧ JC w0 g (o + j * 4) x) (hm : l.length ≤ maxLen) (h40 : k < 40) (S : Rd w0 w pa pb k) {x : Jc} (hk : l[k]? = some x) (hx : isM x.id = true) (fr : Array Value) (hn : fr.size = 135) (p2 : fr[2]? = some (.slice a l.length c)) (p7 : fr[7]? = some (.pointer (some ⟨pa, 0, none⟩))) (p9 : fr[9]? = some (.pointer (some ⟨pb, 0, none⟩))) (p13 : fr[13]? = some (.int .i64 (k : Int)))
    (hK : ∀ t' w', t'.size = 135 → t'[2]? = some (.slice a l.length c) → t'[7]? = some (.pointer (some ⟨pa, 0, none⟩)) → t'[9]? = some (.pointer (some ⟨pb, 0, none⟩)) → t'[13]? = some (.int .i64 ((k + 1 : Nat) : Int)) → Rd w0 w' pa pb (k + 1) → K ⟨t', []⟩ w') :
    Code.wp Try.prog (loopAt Try.f3 0) (Exit.then K Q) ⟨fr, []⟩ w := by
  obtain ⟨A, B, T, R, hbl⟩ := S
  have q2 : (k : Int) < 40 := by omega
  have q0 : (0 : Int) ≤ (k : Int) := Int.natCast_nonneg k
  have w1 : wrap64 ((k : Int) + 1) = ((k + 1 : Nat) : Int) := by rw [IntWalk.wrap64_in _ (by omega)]; omega
  have W1 := Lib.hid w1
  have HQ := Lib.hid (show 0 ≤ 5 + (k : Int) ∧ 5 + (k : Int) ≤ 1000000 from ⟨by omega, by omega⟩)
  have HQ4 := Lib.hid q2
  have HT := Lib.hid T
  have HR := Lib.hid R
  have HK := Lib.hid hK
  have HBL := Lib.hid (show B.length ≤ k + 1 + 1 by omega)
  have hb : (x.id.toList == [109]) = true := hx
  obtain ⟨ga, oa, rfl, hga, z0, z1, z2, z3, in0, in2, in3⟩ := hl k x hk
  have hkl := (List.getElem?_eq_some_iff.1 hk).1
  have q3 : (k : Int) < (l.length : Int) := by omega
  have HJ := Lib.hid (And.intro z0 (And.intro z1 (And.intro z2 z3)))
  have HGA := Lib.hid hga
  have HIA := Lib.hid in3
  clear in0 in2 in3 z0 z1 z2 z3 hga hl hm h40 hkl hk
  clear T R hbl w1 hK hx
  have c0 : w.cell? ⟨ga, oa + k * 4, none⟩ = some (.int .i64 x.what) := (HT.out.fr).cellSome (fun h => h) HJ.out.1
  have c1 : w.cell? ⟨ga, oa + k * 4 + 1, none⟩ = some (.string x.id) := (HT.out.fr).cellSome (fun h => h) HJ.out.2.1
  have c2 : w.cell? ⟨ga, oa + k * 4 + 2, none⟩ = some (.int .i64 x.per) := (HT.out.fr).cellSome (fun h => h) HJ.out.2.2.1
  have c3 : w.cell? ⟨ga, oa + k * 4 + 3, none⟩ = some (.int .i64 x.age) := (HT.out.fr).cellSome (fun h => h) HJ.out.2.2.2
  obtain ⟨f, hff, rfl⟩ := frame_open hn
  have e2 := hff 2 _ p2
  have e7 := hff 7 _ p7
  have e9 := hff 9 _ p9
  have e13 := hff 13 _ p13
  clear hff hn p2 p7 p9 p13
  rw [lit135, e2, e7, e9, e13]
  clear e2 e7 e9 e13
  conv => arg 2; whnf
  go_wp2_with fail
  refine (HT.out.tick HQ.out.1 HQ.out.2 (by have := HR.out.la; omega) HR.out.ga).mono ?_
  rintro e wt ⟨⟨xa, xc, rfl, _⟩, T1⟩
  have HT1 := Lib.hid T1.swap
  clear T1
  go_wp2_with fail
  refine (HT1.out.tick HQ.out.1 HQ.out.2 (by have := HBL.out; have := HQ.out; omega) HR.out.gb).mono ?_
  rintro e wu ⟨⟨ya, yc, rfl, hD⟩, T2⟩
  have HT2 := Lib.hid T2.swap
  have HD := Lib.hid hD
  clear T2 hD
  go_wp2_with fail
  refine due_loop (z13 := (k : Int)) HD.out (Nat.le_trans (dueL_len _) (by have := HBL.out; have := HQ.out; omega)) _ rfl rfl rfl rfl rfl rfl rfl rfl rfl rfl rfl ?_
  intro t' wv hn p2 p7 p9 p13 p14 p15 p16 p17 p18 FV
  have HT3 := Lib.hid (HT2.out.ext FV)
  rw [HR.out.due] at p18
  clear FV
  generalize (dueL A).length = nd at *
  by_cases hnd : nd = 1
  · subst hnd
    have p18' : t'[18]? = some (.bool true) := p18
    clear p18
    obtain ⟨f, hff, rfl⟩ := frame_open hn
    have e2 := hff 2 _ p2
    have e7 := hff 7 _ p7
    have e9 := hff 9 _ p9
    have e13 := hff 13 _ p13
    have e14 := hff 14 _ p14
    have e15 := hff 15 _ p15
    have e16 := hff 16 _ p16
    have e17 := hff 17 _ p17
    have e18 := hff 18 _ p18'
    clear hff hn p2 p7 p9 p13 p14 p15 p16 p17 p18'
    rw [lit135, e2, e7, e9, e13, e14, e15, e16, e17, e18]
    clear e2 e7 e9 e13 e14 e15 e16 e17 e18
    go_wp2_with fail
    (try rw [W1.out])
    exact HK.out _ _ rfl rfl rfl rfl rfl ⟨_, _, by have := HT3.out; rw [show (5 + ((k + 1 : Nat) : Int)) = 5 + (k : Int) + 1 by omega]; exact this, HR.out.tick, by rw [List.length_map]; exact HBL.out⟩
  · have hnd2 : ¬ ((nd : Int) = 1) := by omega
    have hnd3 : (nd == 1) = false := beq_eq_false_iff_ne.2 hnd
    rw [hnd3] at p18
    clear hnd3
    obtain ⟨f, hff, rfl⟩ := frame_open hn
    have e2 := hff 2 _ p2
    have e7 := hff 7 _ p7
    have e9 := hff 9 _ p9
    have e13 := hff 13 _ p13
    have e14 := hff 14 _ p14
    have e15 := hff 15 _ p15
    have e16 := hff 16 _ p16
    have e17 := hff 17 _ p17
    have e18 := hff 18 _ p18
    clear hff hn p2 p7 p9 p13 p14 p15 p16 p17 p18
    rw [lit135, e2, e7, e9, e13, e14, e15, e16, e17, e18]
    clear e2 e7 e9 e13 e14 e15 e16 e17 e18
    go_wp2_with fail
    (try rw [W1.out])
    exact HK.out _ _ rfl rfl rfl rfl rfl ⟨_, _, by have := HT3.out; rw [show (5 + ((k + 1 : Nat) : Int)) = 5 + (k : Int) + 1 by omega]; exact this, HR.out.tick, by rw [List.length_map]; exact HBL.out⟩
set_option maxRecDepth 100000 in
set_option maxHeartbeats 6400000 in
theorem add_round {K : Act → World → Prop} {Q : Exit → Act → World → Prop} {w0 w : World} {pa pb c k : Nat} {a : Option Addr} {l : List Jc} (hl : ∀ j x, l[j]? = some x → ∃ g o, a = some ⟨g, o, none⟩ ∧ g < w0.heap.size ∧ JC w0 g (o + j * 4) x) (hm : l.length ≤ maxLen) (h40 : k < 40) (S : Rd w0 w pa pb k) {x : Jc} (hk : l[k]? = some x) (hx : isM x.id = false) (fr : Array Value) (hn : fr.size = 135) (p2 : fr[2]? = some (.slice a l.length c)) (p7 : fr[7]? = some (.pointer (some ⟨pa, 0, none⟩))) (p9 : fr[9]? = some (.pointer (some ⟨pb, 0, none⟩))) (p13 : fr[13]? = some (.int .i64 (k : Int)))
    (hK : ∀ t' w', t'.size = 135 → t'[2]? = some (.slice a l.length c) → t'[7]? = some (.pointer (some ⟨pa, 0, none⟩)) → t'[9]? = some (.pointer (some ⟨pb, 0, none⟩)) → t'[13]? = some (.int .i64 ((k + 1 : Nat) : Int)) → Rd w0 w' pa pb (k + 1) → K ⟨t', []⟩ w') :
    Code.wp Try.prog (loopAt Try.f3 0) (Exit.then K Q) ⟨fr, []⟩ w := by
  obtain ⟨A, B, T, R, hbl⟩ := S
  have q2 : (k : Int) < 40 := by omega
  have q0 : (0 : Int) ≤ (k : Int) := Int.natCast_nonneg k
  have w1 : wrap64 ((k : Int) + 1) = ((k + 1 : Nat) : Int) := by rw [IntWalk.wrap64_in _ (by omega)]; omega
  have W1 := Lib.hid w1
  have HQ := Lib.hid (show 0 ≤ 5 + (k : Int) ∧ 5 + (k : Int) ≤ 1000000 from ⟨by omega, by omega⟩)
  have HQ4 := Lib.hid q2
  have HT := Lib.hid T
  have HR := Lib.hid R
  have HK := Lib.hid hK
  have HBL0 := Lib.hid hbl
  have HX := Lib.hid hx
  have hb : (x.id.toList == [109]) = false := hx
  obtain ⟨ga, oa, rfl, hga, z0, z1, z2, z3, in0, in2, in3⟩ := hl k x hk
  have hkl := (List.getElem?_eq_some_iff.1 hk).1
  have q3 : (k : Int) < (l.length : Int) := by omega
  have HJ := Lib.hid (And.intro z0 (And.intro z1 (And.intro z2 z3)))
  have HGA := Lib.hid hga
  have HIA := Lib.hid in3
  clear in0 in2 in3 z0 z1 z2 z3 hga hl hm h40 hkl hk
  clear T R hbl w1 hK hx
  have c0 : w.cell? ⟨ga, oa + k * 4, none⟩ = some (.int .i64 x.what) := (HT.out.fr).cellSome (fun h => h) HJ.out.1
  have c1 : w.cell? ⟨ga, oa + k * 4 + 1, none⟩ = some (.string x.id) := (HT.out.fr).cellSome (fun h => h) HJ.out.2.1
  have c2 : w.cell? ⟨ga, oa + k * 4 + 2, none⟩ = some (.int .i64 x.per) := (HT.out.fr).cellSome (fun h => h) HJ.out.2.2.1
  have c3 : w.cell? ⟨ga, oa + k * 4 + 3, none⟩ = some (.int .i64 x.age) := (HT.out.fr).cellSome (fun h => h) HJ.out.2.2.2
  have T9 := HT.out.swap
  obtain ⟨f, hff, rfl⟩ := frame_open hn
  have e2 := hff 2 _ p2
  have e7 := hff 7 _ p7
  have e9 := hff 9 _ p9
  have e13 := hff 13 _ p13
  clear hff hn p2 p7 p9 p13
  rw [lit135, e2, e7, e9, e13]
  clear e2 e7 e9 e13
  conv => arg 2; whnf
  go_wp2_with fail
  refine Ks.wp_region_mono (fun b => w0.heap.size ≤ b) (sg 0 16 ++ ((16, true) :: [])) (by kernel_rfl) (by kernel_rfl) ?_
  refine Ks.Wk.seg 0 16 (by kernel_rfl) (by kernel_rfl) ?_
  apply Exists.intro
  refine ⟨?wk1, ?fin1⟩
  case wk1 =>
    intro γ
    have f1 : ∀ z : Ks.Ws γ, z.w.cell? ⟨ga, oa + k * 4 + 1, none⟩ = some (.string x.id) := fun z => z.h.cellSome (Nat.not_le.2 HGA.out) c1
    have f2 : ∀ z : Ks.Ws γ, z.w.cell? ⟨ga, oa + k * 4 + 2, none⟩ = some (.int .i64 x.per) := fun z => z.h.cellSome (Nat.not_le.2 HGA.out) c2
    have f3 : ∀ z : Ks.Ws γ, z.w.cell? ⟨ga, oa + k * 4 + 3, none⟩ = some (.int .i64 x.age) := fun z => z.h.cellSome (Nat.not_le.2 HGA.out) c3
    simp only [List.drop_succ_cons, List.drop_zero, List.take_succ_cons, List.take_zero]
    repeat (any_goals (first | go_big_quiet_step (fail) | quiet_step (fail)))
    exact wpQuiet_nil rfl
  case fin1 =>
  (try simp only [Act.put, List.setIfInBounds_toArray, List.set_cons_zero, List.set_cons_succ])
  refine Ks.Wk.one rfl (fun w6 X6 => ?_)
  go_wp2_with fail
  refine ((T9.ext X6).add (by have := HBL0.out; have := HQ4.out; omega) x.id x.per x.age).mono ?_
  rintro e w7 ⟨⟨er, B7, rfl, T7, hrel⟩, G7⟩
  have HT7 := Lib.hid T7
  have HG7 := Lib.hid G7
  have HRL := Lib.hid (HR.out.add hrel HX.out HIA.out.2)
  clear T7 T9 X6 c0 c1 c2 c3 G7 hrel HR HT
  go_wp2_with fail
  refine ⟨HG7.out, ?_⟩
  (try simp only [Act.put, List.setIfInBounds_toArray, List.set_cons_zero, List.set_cons_succ])
  intro w8 X8
  have HT8 := Lib.hid (HT7.out.ext X8)
  clear X8
  have c0 : w8.cell? ⟨ga, oa + k * 4, none⟩ = some (.int .i64 x.what) := (HT8.out.fr).cellSome (fun h => h) HJ.out.1
  have c1 : w8.cell? ⟨ga, oa + k * 4 + 1, none⟩ = some (.string x.id) := (HT8.out.fr).cellSome (fun h => h) HJ.out.2.1
  have c2 : w8.cell? ⟨ga, oa + k * 4 + 2, none⟩ = some (.int .i64 x.per) := (HT8.out.fr).cellSome (fun h => h) HJ.out.2.2.1
  have c3 : w8.cell? ⟨ga, oa + k * 4 + 3, none⟩ = some (.int .i64 x.age) := (HT8.out.fr).cellSome (fun h => h) HJ.out.2.2.2
  by_cases hev : x.what.tmod 3 = 0
  · have ev : (x.what.tmod 3 == 0) = true := by rw [hev]; rfl
    go_wp2_with fail
    refine (HT8.out.rem (by have := HRL.out.2; have := HBL0.out; have := HQ4.out; omega) x.id).mono ?_
    rintro e w9 ⟨⟨er2, B9, rfl, T10, hrel2⟩, _⟩
    have HT := Lib.hid T10.swap
    have hr2 := HRL.out.1.rem hrel2 HX.out
    have HR := Lib.hid hr2.1
    have HBL := Lib.hid (show B9.length ≤ k + 1 + 1 by have := hr2.2; have := HRL.out.2; have := HBL0.out; omega)
    clear T10 hrel2 hr2 c0 c1 c2 c3 hev ev
    go_wp2_with fail
    refine (HT.out.tick HQ.out.1 HQ.out.2 (by have := HR.out.la; omega) HR.out.ga).mono ?_
    rintro e wt ⟨⟨xa, xc, rfl, _⟩, T1⟩
    have HT1 := Lib.hid T1.swap
    clear T1
    go_wp2_with fail
    refine (HT1.out.tick HQ.out.1 HQ.out.2 (by have := HBL.out; have := HQ.out; omega) HR.out.gb).mono ?_
    rintro e wu ⟨⟨ya, yc, rfl, hD⟩, T2⟩
    have HT2 := Lib.hid T2.swap
    have HD := Lib.hid hD
    clear T2 hD
    go_wp2_with fail
    refine due_loop (z13 := (k : Int)) HD.out (Nat.le_trans (dueL_len _) (by have := HBL.out; have := HQ.out; omega)) _ rfl rfl rfl rfl rfl rfl rfl rfl rfl rfl rfl ?_
    intro t' wv hn p2 p7 p9 p13 p14 p15 p16 p17 p18 FV
    have HT3 := Lib.hid (HT2.out.ext FV)
    rw [HR.out.due] at p18
    clear FV
    generalize (dueL A).length = nd at *
    by_cases hnd : nd = 1
    · subst hnd
      have p18' : t'[18]? = some (.bool true) := p18
      clear p18
      obtain ⟨f, hff, rfl⟩ := frame_open hn
      have e2 := hff 2 _ p2
      have e7 := hff 7 _ p7
      have e9 := hff 9 _ p9
      have e13 := hff 13 _ p13
      have e14 := hff 14 _ p14
      have e15 := hff 15 _ p15
      have e16 := hff 16 _ p16
      have e17 := hff 17 _ p17
      have e18 := hff 18 _ p18'
      clear hff hn p2 p7 p9 p13 p14 p15 p16 p17 p18'
      rw [lit135, e2, e7, e9, e13, e14, e15, e16, e17, e18]
      clear e2 e7 e9 e13 e14 e15 e16 e17 e18
      go_wp2_with fail
      (try rw [W1.out])
      exact HK.out _ _ rfl rfl rfl rfl rfl ⟨_, _, by have := HT3.out; rw [show (5 + ((k + 1 : Nat) : Int)) = 5 + (k : Int) + 1 by omega]; exact this, HR.out.tick, by rw [List.length_map]; exact HBL.out⟩
    · have hnd2 : ¬ ((nd : Int) = 1) := by omega
      have hnd3 : (nd == 1) = false := beq_eq_false_iff_ne.2 hnd
      rw [hnd3] at p18
      clear hnd3
      obtain ⟨f, hff, rfl⟩ := frame_open hn
      have e2 := hff 2 _ p2
      have e7 := hff 7 _ p7
      have e9 := hff 9 _ p9
      have e13 := hff 13 _ p13
      have e14 := hff 14 _ p14
      have e15 := hff 15 _ p15
      have e16 := hff 16 _ p16
      have e17 := hff 17 _ p17
      have e18 := hff 18 _ p18
      clear hff hn p2 p7 p9 p13 p14 p15 p16 p17 p18
      rw [lit135, e2, e7, e9, e13, e14, e15, e16, e17, e18]
      clear e2 e7 e9 e13 e14 e15 e16 e17 e18
      go_wp2_with fail
      (try rw [W1.out])
      exact HK.out _ _ rfl rfl rfl rfl rfl ⟨_, _, by have := HT3.out; rw [show (5 + ((k + 1 : Nat) : Int)) = 5 + (k : Int) + 1 by omega]; exact this, HR.out.tick, by rw [List.length_map]; exact HBL.out⟩
  · have ev : (x.what.tmod 3 == 0) = false := beq_eq_false_iff_ne.2 hev
    have HT := Lib.hid HT8.out.swap
    have HR := Lib.hid HRL.out.1
    have HBL := Lib.hid (show B7.length ≤ k + 1 + 1 by have := HRL.out.2; have := HBL0.out; omega)
    go_wp2_with fail
    refine (HT.out.tick HQ.out.1 HQ.out.2 (by have := HR.out.la; omega) HR.out.ga).mono ?_
    rintro e wt ⟨⟨xa, xc, rfl, _⟩, T1⟩
    have HT1 := Lib.hid T1.swap
    clear T1
    go_wp2_with fail
    refine (HT1.out.tick HQ.out.1 HQ.out.2 (by have := HBL.out; have := HQ.out; omega) HR.out.gb).mono ?_
    rintro e wu ⟨⟨ya, yc, rfl, hD⟩, T2⟩
    have HT2 := Lib.hid T2.swap
    have HD := Lib.hid hD
    clear T2 hD
    go_wp2_with fail
    refine due_loop (z13 := (k : Int)) HD.out (Nat.le_trans (dueL_len _) (by have := HBL.out; have := HQ.out; omega)) _ rfl rfl rfl rfl rfl rfl rfl rfl rfl rfl rfl ?_
    intro t' wv hn p2 p7 p9 p13 p14 p15 p16 p17 p18 FV
    have HT3 := Lib.hid (HT2.out.ext FV)
    rw [HR.out.due] at p18
    clear FV
    generalize (dueL A).length = nd at *
    by_cases hnd : nd = 1
    · subst hnd
      have p18' : t'[18]? = some (.bool true) := p18
      clear p18
      obtain ⟨f, hff, rfl⟩ := frame_open hn
      have e2 := hff 2 _ p2
      have e7 := hff 7 _ p7
      have e9 := hff 9 _ p9
      have e13 := hff 13 _ p13
      have e14 := hff 14 _ p14
      have e15 := hff 15 _ p15
      have e16 := hff 16 _ p16
      have e17 := hff 17 _ p17
      have e18 := hff 18 _ p18'
      clear hff hn p2 p7 p9 p13 p14 p15 p16 p17 p18'
      rw [lit135, e2, e7, e9, e13, e14, e15, e16, e17, e18]
      clear e2 e7 e9 e13 e14 e15 e16 e17 e18
      go_wp2_with fail
      (try rw [W1.out])
      exact HK.out _ _ rfl rfl rfl rfl rfl ⟨_, _, by have := HT3.out; rw [show (5 + ((k + 1 : Nat) : Int)) = 5 + (k : Int) + 1 by omega]; exact this, HR.out.tick, by rw [List.length_map]; exact HBL.out⟩
    · have hnd2 : ¬ ((nd : Int) = 1) := by omega
      have hnd3 : (nd == 1) = false := beq_eq_false_iff_ne.2 hnd
      rw [hnd3] at p18
      clear hnd3
      obtain ⟨f, hff, rfl⟩ := frame_open hn
      have e2 := hff 2 _ p2
      have e7 := hff 7 _ p7
      have e9 := hff 9 _ p9
      have e13 := hff 13 _ p13
      have e14 := hff 14 _ p14
      have e15 := hff 15 _ p15
      have e16 := hff 16 _ p16
      have e17 := hff 17 _ p17
      have e18 := hff 18 _ p18
      clear hff hn p2 p7 p9 p13 p14 p15 p16 p17 p18
      rw [lit135, e2, e7, e9, e13, e14, e15, e16, e17, e18]
      clear e2 e7 e9 e13 e14 e15 e16 e17 e18
      go_wp2_with fail
      (try rw [W1.out])
      exact HK.out _ _ rfl rfl rfl rfl rfl ⟨_, _, by have := HT3.out; rw [show (5 + ((k + 1 : Nat) : Int)) = 5 + (k : Int) + 1 by omega]; exact this, HR.out.tick, by rw [List.length_map]; exact HBL.out⟩
end Go.Proofs.Ytcpapielklplcaa

/-
  The same rows: of any two of one length.
  Clash of two lists of any length: where two texts clash it is told.
  Clash of two lists of any length, whole.
  What is summed up for a past, in the law.
  What is summed up for a past, whole.
  Why two pasts that end in one link and aren't alike clash.
-/
import Derived.Test.YtikdgjgcopjocaaDoorQHg
namespace Go.Proofs.YtikdgjgcopjocaaDoor
open Go.RowKit
set_option linter.unusedVariables false
set_option linter.unusedSimpArgs false
set_option maxRecDepth 100000 in
set_option maxHeartbeats 6400000 in
theorem same2_in {KK : Act → World → Prop} {Q : Exit → Act → World → Prop} {w : World} {a a2 : Option Addr} {n c c2 i : Nat} {P R : List (List UInt8)} (hi : i < n) (hn9 : n ≤ 1000) (hPn : P.length = n) (hRn : R.length = n) (hS : Sv w a P) (hS2 : Sv w a2 R) (hb : (P.getD i [] == R.getD i []) = true) (fr : Array Value) (hn : fr.size = 26) (p0 : fr[0]? = some (.slice a n c)) (p1 : fr[1]? = some (.slice a2 n c2)) (p5 : fr[5]? = some (.int .i64 (i : Int)))
    (hC : ∀ t' w', t'.size = 26 → t'[0]? = some (.slice a n c) → t'[1]? = some (.slice a2 n c2) → t'[5]? = some (.int .i64 ((i + 1 : Nat) : Int)) → Fr (fun _ => False) w w' → KK ⟨t', []⟩ w') :
    Code.wp Tryd.prog (loopAt Tryd.f18 0) (Exit.then KK Q) ⟨fr, []⟩ w := by
  obtain ⟨g, off, rfl⟩ := hS.at (by omega)
  obtain ⟨g2, off2, rfl⟩ := hS2.at (by omega)
  have q1 : (i : Int) < (n : Int) := by omega
  have q4 : (0 : Int) ≤ (i : Int) := Int.natCast_nonneg i
  obtain ⟨x, hx⟩ : ∃ x, x = P.getD i [] := ⟨_, rfl⟩
  have hxi : P[i]? = some x := by rw [hx, List.getD_eq_getElem?_getD, List.getElem?_eq_getElem (by omega)]; rfl
  obtain ⟨y, hy⟩ : ∃ y, y = R.getD i [] := ⟨_, rfl⟩
  have hyi : R[i]? = some y := by rw [hy, List.getD_eq_getElem?_getD, List.getElem?_eq_getElem (by omega)]; rfl
  rw [← hx, ← hy] at hb
  have H1 := Lib.hid (And.intro (hS.cell hxi) (hS2.cell hyi))
  have k1 : ∀ u : Wd w, u.w.cell? ⟨g, off + i, none⟩ = some (.string ⟨x.toArray⟩) := fun u => u.h.cellSome (p := ⟨g, off + i, none⟩) (fun h => h) H1.out.1
  have k2 : ∀ u : Wd w, u.w.cell? ⟨g2, off2 + i, none⟩ = some (.string ⟨y.toArray⟩) := fun u => u.h.cellSome (p := ⟨g2, off2 + i, none⟩) (fun h => h) H1.out.2
  have W1 : wrap64 ((i : Int) + 1) = ((i + 1 : Nat) : Int) := by rw [IntWalk.wrap64_in _ (by omega)]; omega
  have HC := Lib.hid hC
  have HW := Lib.hid W1
  clear hC hS hS2 hPn hRn hn9 hx hxi hy hyi W1
  obtain ⟨f, hff, rfl⟩ := frame_open hn
  have e0 := hff 0 _ p0
  have e1 := hff 1 _ p1
  have e5 := hff 5 _ p5
  clear hff hn p0 p1 p5
  rw [lit26, e0, e1, e5]
  clear e0 e1 e5
  conv => arg 2; whnf
  go_wp2_with fail
  refine wp_region_keep (by kernel_rfl) (by kernel_rfl) ?_
  repeat (any_goals (first | go_big_quiet_step (fail) | quiet_step (fail)))
  refine wpQuiet_nil ?_
  intro _ hwz
  obtain ⟨u, rfl⟩ := hwz
  go_wp2_with fail
  exact HC.out _ _ (by first | rfl | simp) rfl rfl (congrArg (fun z => some (Value.int .i64 z)) HW.out) u.h
set_option maxRecDepth 100000 in
set_option maxHeartbeats 6400000 in
theorem same2_bad {KK : Act → World → Prop} {Q : Exit → Act → World → Prop} {w : World} {a a2 : Option Addr} {n c c2 i : Nat} {P R : List (List UInt8)} (hi : i < n) (hn9 : n ≤ 1000) (hPn : P.length = n) (hRn : R.length = n) (hS : Sv w a P) (hS2 : Sv w a2 R) (hb : (P.getD i [] == R.getD i []) = false) (fr : Array Value) (hn : fr.size = 26) (p0 : fr[0]? = some (.slice a n c)) (p1 : fr[1]? = some (.slice a2 n c2)) (p5 : fr[5]? = some (.int .i64 (i : Int)))
    (hC : ∀ t' w', t'.size = 26 → t'[4]? = some (.bool false) → Fr (fun _ => False) w w' → Q .ret ⟨t', []⟩ w') :
    Code.wp Tryd.prog (loopAt Tryd.f18 0) (Exit.then KK Q) ⟨fr, []⟩ w := by
  obtain ⟨g, off, rfl⟩ := hS.at (by omega)
  obtain ⟨g2, off2, rfl⟩ := hS2.at (by omega)
  have q1 : (i : Int) < (n : Int) := by omega
  have q4 : (0 : Int) ≤ (i : Int) := Int.natCast_nonneg i
  obtain ⟨x, hx⟩ : ∃ x, x = P.getD i [] := ⟨_, rfl⟩
  have hxi : P[i]? = some x := by rw [hx, List.getD_eq_getElem?_getD, List.getElem?_eq_getElem (by omega)]; rfl
  obtain ⟨y, hy⟩ : ∃ y, y = R.getD i [] := ⟨_, rfl⟩
  have hyi : R[i]? = some y := by rw [hy, List.getD_eq_getElem?_getD, List.getElem?_eq_getElem (by omega)]; rfl
  rw [← hx, ← hy] at hb
  have H1 := Lib.hid (And.intro (hS.cell hxi) (hS2.cell hyi))
  have k1 : ∀ u : Wd w, u.w.cell? ⟨g, off + i, none⟩ = some (.string ⟨x.toArray⟩) := fun u => u.h.cellSome (p := ⟨g, off + i, none⟩) (fun h => h) H1.out.1
  have k2 : ∀ u : Wd w, u.w.cell? ⟨g2, off2 + i, none⟩ = some (.string ⟨y.toArray⟩) := fun u => u.h.cellSome (p := ⟨g2, off2 + i, none⟩) (fun h => h) H1.out.2
  have W1 : wrap64 ((i : Int) + 1) = ((i + 1 : Nat) : Int) := by rw [IntWalk.wrap64_in _ (by omega)]; omega
  have HC := Lib.hid hC
  have HW := Lib.hid W1
  clear hC hS hS2 hPn hRn hn9 hx hxi hy hyi W1
  obtain ⟨f, hff, rfl⟩ := frame_open hn
  have e0 := hff 0 _ p0
  have e1 := hff 1 _ p1
  have e5 := hff 5 _ p5
  clear hff hn p0 p1 p5
  rw [lit26, e0, e1, e5]
  clear e0 e1 e5
  conv => arg 2; whnf
  go_wp2_with fail
  refine wp_region_keep (by kernel_rfl) (by kernel_rfl) ?_
  repeat (any_goals (first | go_big_quiet_step (fail) | quiet_step (fail)))
  refine wpQuiet_nil ?_
  intro _ hwz
  obtain ⟨u, rfl⟩ := hwz
  go_wp2_with fail
  exact HC.out _ _ (by first | rfl | simp) rfl u.h
set_option maxRecDepth 100000 in
set_option maxHeartbeats 6400000 in
theorem same2_any (a a2 : Option Addr) (c c2 n : Nat) (P R : List (List UInt8)) (hPn : P.length = n) (hRn : R.length = n) (hn9 : n ≤ 1000) (w : World) (hS : Sv w a P) (hS2 : Sv w a2 R) : Calls Tryd.prog 18 #[.slice a n c, .slice a2 n c2] w fun e w' => (∃ b, e = .returned (.bool b) ∧ (b = true ↔ P = R)) ∧ Fr (fun _ => False) w w' := by
  have HK := Lib.hid (And.intro hS hS2)
  have HN := Lib.hid (And.intro hPn (And.intro hRn hn9))
  have b0 : ((n : Int) == (n : Int)) = true := beq_self_eq_true _
  clear hS hS2 hPn hRn hn9
  go_enter Tryd.func18, Tryd.ntmps18
  go_wp2_with fail
  refine wp_loop_up n (fun i t w' => t.size = 26 ∧ t[0]? = some (.slice a n c) ∧ t[1]? = some (.slice a2 n c2) ∧ t[5]? = some (.int .i64 (i : Int)) ∧ (∀ j, j < i → P.getD j [] = R.getD j []) ∧ Fr (fun _ => False) w w') _ w ⟨by first | rfl | simp, rfl, rfl, rfl, fun j hj => absurd hj (Nat.not_lt_zero j), Fr.refl _ _⟩ ?_
  rintro i t w2 hi ⟨hn, p0, p1, p5, hg, F2⟩ KK hKK
  by_cases hlt : i < n
  · cases hb : P.getD i [] == R.getD i [] with
    | true =>
      exact same2_in hlt HN.out.2.2 HN.out.1 HN.out.2.1 (HK.out.1.ext F2) (HK.out.2.ext F2) hb t hn p0 p1 p5 (fun t' w3 b0 b1 b2 b3 b4 => hKK t' w3 hlt ⟨b0, b1, b2, b3, fun j hj => by
        rcases Nat.lt_or_ge j i with h | h
        · exact hg j h
        · have : j = i := by omega
          rw [this]; exact eq_of_beq hb, F2.trans b4 (fun _ h => h.elim)⟩)
    | false =>
      refine same2_bad hlt HN.out.2.2 HN.out.1 HN.out.2.1 (HK.out.1.ext F2) (HK.out.2.ext F2) hb t hn p0 p1 p5 (fun t' w3 hn p4 F3 => ?_)
      have H2 := Lib.hid (F2.trans F3 (fun _ h => h.elim))
      have HB := Lib.hid (show ¬ (P = R) from fun e => by rw [e, beq_self_eq_true] at hb; cases hb)
      clear hKK F2 F3 hb hg
      obtain ⟨f, hff, rfl⟩ := frame_open hn
      have e4 := hff 4 _ p4
      clear hff hn p4
      rw [lit26, e4]
      clear e4
      go_wp2_with fail
      go_ret
      exact ⟨⟨false, rfl, by simp [HB.out]⟩, H2.out⟩
  · have : i = n := by omega
    subst this
    refine same_end t hn p0 p1 p5 (fun t' hn => ?_)
    have H2 := Lib.hid F2
    have HB := Lib.hid (show P = R from List.ext_getElem (by rw [HN.out.1, HN.out.2.1]) (fun j h1 h2 => by
      have := hg j (by have := HN.out.1; omega)
      rw [List.getD_eq_getElem?_getD, List.getD_eq_getElem?_getD, List.getElem?_eq_getElem h1, List.getElem?_eq_getElem h2] at this
      exact this))
    clear hKK F2 hg
    obtain ⟨f, hff, rfl⟩ := frame_open hn
    clear hff hn
    rw [lit26]
    go_wp2_with fail
    go_ret
    exact ⟨⟨true, rfl, by simp [HB.out]⟩, H2.out⟩
end Go.Proofs.YtikdgjgcopjocaaDoor
namespace Go.Proofs.YtikdgjgcopjocaaDoor
open Go.RowKit
set_option linter.unusedVariables false
set_option linter.unusedSimpArgs false
/-- Two unlike texts of one sum. -/
def Cl.at (A B : List (List UInt8)) (i j : Nat) : Bool := (!(A.getD i [] == B.getD j [])) && (S2.sum (A.getD i []) == S2.sum (B.getD j []))
set_option maxRecDepth 100000 in
theorem lit41 (f : Nat → Value) : ((List.range 41).map f).toArray = (f 0 :: f 1 :: f 2 :: f 3 :: f 4 :: f 5 :: f 6 :: f 7 :: f 8 :: f 9 :: f 10 :: f 11 :: f 12 :: f 13 :: f 14 :: f 15 :: f 16 :: f 17 :: f 18 :: f 19 :: f 20 :: f 21 :: f 22 :: f 23 :: f 24 :: f 25 :: f 26 :: f 27 :: f 28 :: f 29 :: f 30 :: f 31 :: f 32 :: f 33 :: f 34 :: f 35 :: f 36 :: f 37 :: f 38 :: f 39 :: f 40 :: []).toArray := by kernel_rfl
set_option maxRecDepth 100000 in
set_option maxHeartbeats 6400000 in
theorem clash_eq {KK : Act → World → Prop} {Q : Exit → Act → World → Prop} {w : World} {a b : Option Addr} {na nb ca cb i j : Nat} {A B : List (List UInt8)} (hi : i < na) (hj : j < nb) (hA9 : na ≤ 1000) (hB9 : nb ≤ 1000) (hAn : A.length = na) (hBn : B.length = nb) (hAs : ∀ x ∈ A, x.length ≤ 1000000) (hBs : ∀ x ∈ B, x.length ≤ 1000000) (hS : Sv w a A) (hS2 : Sv w b B) (hE : REnv w) (hb : (A.getD i [] == B.getD j []) = true) (fr : Array Value) (hn : fr.size = 41) (p0 : fr[0]? = some (.slice a na ca)) (p1 : fr[1]? = some (.slice b nb cb)) (p5 : fr[5]? = some (.int .i64 (i : Int))) (p6 : fr[6]? = some (.int .i64 (j : Int)))
    (hC : ∀ t' w', t'.size = 41 → t'[0]? = some (.slice a na ca) → t'[1]? = some (.slice b nb cb) → t'[5]? = some (.int .i64 (i : Int)) → t'[6]? = some (.int .i64 ((j + 1 : Nat) : Int)) → Fr (fun _ => False) w w' → KK ⟨t', []⟩ w') :
    Code.wp Tryd.prog (loopAt Tryd.f19 1) (Exit.then KK Q) ⟨fr, []⟩ w := by
  obtain ⟨g, off, rfl⟩ := hS.at (by omega)
  obtain ⟨g2, off2, rfl⟩ := hS2.at (by omega)
  have q1 : (i : Int) < (na : Int) := by omega
  have q4 : (0 : Int) ≤ (i : Int) := Int.natCast_nonneg i
  have q2 : (j : Int) < (nb : Int) := by omega
  have q5 : (0 : Int) ≤ (j : Int) := Int.natCast_nonneg j
  obtain ⟨x, hx⟩ : ∃ x, x = A.getD i [] := ⟨_, rfl⟩
  have hxi : A[i]? = some x := by rw [hx, List.getD_eq_getElem?_getD, List.getElem?_eq_getElem (by omega)]; rfl
  obtain ⟨y, hy⟩ : ∃ y, y = B.getD j [] := ⟨_, rfl⟩
  have hyi : B[j]? = some y := by rw [hy, List.getD_eq_getElem?_getD, List.getElem?_eq_getElem (by omega)]; rfl
  rw [← hx, ← hy] at hb
  obtain ⟨sx, hsx⟩ : ∃ sx, sx = S2.sum x := ⟨_, rfl⟩
  obtain ⟨sy, hsy⟩ : ∃ sy, sy = S2.sum y := ⟨_, rfl⟩
  have HSX := Lib.hid (show ∀ (V : World) (F : Fr (fun _ => False) w V), Calls Tryd.prog 12 #[.string ⟨x.toArray⟩] V fun e w' => e = .returned (.string ⟨sx.toArray⟩) ∧ Fr (fun _ => False) V w' from fun V F => by rw [hsx]; exact rsum_str x (hAs x (List.mem_of_getElem? hxi)) V (hE.ext F))
  have HSY := Lib.hid (show ∀ (V : World) (F : Fr (fun _ => False) w V), Calls Tryd.prog 12 #[.string ⟨y.toArray⟩] V fun e w' => e = .returned (.string ⟨sy.toArray⟩) ∧ Fr (fun _ => False) V w' from fun V F => by rw [hsy]; exact rsum_str y (hBs y (List.mem_of_getElem? hyi)) V (hE.ext F))
  have H1 := Lib.hid (And.intro (hS.cell hxi) (hS2.cell hyi))
  have k1 : ∀ u : Wd w, u.w.cell? ⟨g, off + i, none⟩ = some (.string ⟨x.toArray⟩) := fun u => u.h.cellSome (p := ⟨g, off + i, none⟩) (fun h => h) H1.out.1
  have k2 : ∀ u : Wd w, u.w.cell? ⟨g2, off2 + j, none⟩ = some (.string ⟨y.toArray⟩) := fun u => u.h.cellSome (p := ⟨g2, off2 + j, none⟩) (fun h => h) H1.out.2
  have HW := Lib.hid (show wrap64 ((j : Int) + 1) = ((j + 1 : Nat) : Int) by rw [IntWalk.wrap64_in _ (by omega)]; omega)
  have HC := Lib.hid hC
  clear hC hS hS2 hAn hBn hA9 hB9 hAs hBs hE hx hxi hy hyi hsx hsy
  obtain ⟨f, hff, rfl⟩ := frame_open hn
  have e0 := hff 0 _ p0
  have e1 := hff 1 _ p1
  have e5 := hff 5 _ p5
  have e6 := hff 6 _ p6
  clear hff hn p0 p1 p5 p6
  rw [lit41, e0, e1, e5, e6]
  clear e0 e1 e5 e6
  conv => arg 2; whnf
  go_wp2_with fail
  refine wp_region_keep (by kernel_rfl) (by kernel_rfl) ?_
  repeat (any_goals (first | go_big_quiet_step ((go_at_call 12; first | with_reducible exact Calls.keep (HSX.out _ (Wd.h _)) | with_reducible exact Calls.keep (HSY.out _ (Wd.h _)))) | quiet_step ((go_at_call 12; first | with_reducible exact Calls.keep (HSX.out _ (Wd.h _)) | with_reducible exact Calls.keep (HSY.out _ (Wd.h _))))))
  refine wpQuiet_nil ?_
  intro _ hwz
  obtain ⟨u, rfl⟩ := hwz
  go_wp2_with fail
  exact HC.out _ _ (by first | rfl | simp) rfl rfl rfl (congrArg (fun z => some (Value.int .i64 z)) HW.out) u.h
set_option maxRecDepth 100000 in
set_option maxHeartbeats 6400000 in
theorem clash_ne {KK : Act → World → Prop} {Q : Exit → Act → World → Prop} {w : World} {a b : Option Addr} {na nb ca cb i j : Nat} {A B : List (List UInt8)} (hi : i < na) (hj : j < nb) (hA9 : na ≤ 1000) (hB9 : nb ≤ 1000) (hAn : A.length = na) (hBn : B.length = nb) (hAs : ∀ x ∈ A, x.length ≤ 1000000) (hBs : ∀ x ∈ B, x.length ≤ 1000000) (hS : Sv w a A) (hS2 : Sv w b B) (hE : REnv w) (hb : (A.getD i [] == B.getD j []) = false) (hs : (S2.sum (A.getD i []) == S2.sum (B.getD j [])) = false) (fr : Array Value) (hn : fr.size = 41) (p0 : fr[0]? = some (.slice a na ca)) (p1 : fr[1]? = some (.slice b nb cb)) (p5 : fr[5]? = some (.int .i64 (i : Int))) (p6 : fr[6]? = some (.int .i64 (j : Int)))
    (hC : ∀ t' w', t'.size = 41 → t'[0]? = some (.slice a na ca) → t'[1]? = some (.slice b nb cb) → t'[5]? = some (.int .i64 (i : Int)) → t'[6]? = some (.int .i64 ((j + 1 : Nat) : Int)) → Fr (fun _ => False) w w' → KK ⟨t', []⟩ w') :
    Code.wp Tryd.prog (loopAt Tryd.f19 1) (Exit.then KK Q) ⟨fr, []⟩ w := by
  obtain ⟨g, off, rfl⟩ := hS.at (by omega)
  obtain ⟨g2, off2, rfl⟩ := hS2.at (by omega)
  have q1 : (i : Int) < (na : Int) := by omega
  have q4 : (0 : Int) ≤ (i : Int) := Int.natCast_nonneg i
  have q2 : (j : Int) < (nb : Int) := by omega
  have q5 : (0 : Int) ≤ (j : Int) := Int.natCast_nonneg j
  obtain ⟨x, hx⟩ : ∃ x, x = A.getD i [] := ⟨_, rfl⟩
  have hxi : A[i]? = some x := by rw [hx, List.getD_eq_getElem?_getD, List.getElem?_eq_getElem (by omega)]; rfl
  obtain ⟨y, hy⟩ : ∃ y, y = B.getD j [] := ⟨_, rfl⟩
  have hyi : B[j]? = some y := by rw [hy, List.getD_eq_getElem?_getD, List.getElem?_eq_getElem (by omega)]; rfl
  rw [← hx, ← hy] at hb
  obtain ⟨sx, hsx⟩ : ∃ sx, sx = S2.sum x := ⟨_, rfl⟩
  obtain ⟨sy, hsy⟩ : ∃ sy, sy = S2.sum y := ⟨_, rfl⟩
  rw [← hx, ← hy, ← hsx, ← hsy] at hs
  have HSX := Lib.hid (show ∀ (V : World) (F : Fr (fun _ => False) w V), Calls Tryd.prog 12 #[.string ⟨x.toArray⟩] V fun e w' => e = .returned (.string ⟨sx.toArray⟩) ∧ Fr (fun _ => False) V w' from fun V F => by rw [hsx]; exact rsum_str x (hAs x (List.mem_of_getElem? hxi)) V (hE.ext F))
  have HSY := Lib.hid (show ∀ (V : World) (F : Fr (fun _ => False) w V), Calls Tryd.prog 12 #[.string ⟨y.toArray⟩] V fun e w' => e = .returned (.string ⟨sy.toArray⟩) ∧ Fr (fun _ => False) V w' from fun V F => by rw [hsy]; exact rsum_str y (hBs y (List.mem_of_getElem? hyi)) V (hE.ext F))
  have H1 := Lib.hid (And.intro (hS.cell hxi) (hS2.cell hyi))
  have k1 : ∀ u : Wd w, u.w.cell? ⟨g, off + i, none⟩ = some (.string ⟨x.toArray⟩) := fun u => u.h.cellSome (p := ⟨g, off + i, none⟩) (fun h => h) H1.out.1
  have k2 : ∀ u : Wd w, u.w.cell? ⟨g2, off2 + j, none⟩ = some (.string ⟨y.toArray⟩) := fun u => u.h.cellSome (p := ⟨g2, off2 + j, none⟩) (fun h => h) H1.out.2
  have HW := Lib.hid (show wrap64 ((j : Int) + 1) = ((j + 1 : Nat) : Int) by rw [IntWalk.wrap64_in _ (by omega)]; omega)
  have HC := Lib.hid hC
  clear hC hS hS2 hAn hBn hA9 hB9 hAs hBs hE hx hxi hy hyi hsx hsy
  obtain ⟨f, hff, rfl⟩ := frame_open hn
  have e0 := hff 0 _ p0
  have e1 := hff 1 _ p1
  have e5 := hff 5 _ p5
  have e6 := hff 6 _ p6
  clear hff hn p0 p1 p5 p6
  rw [lit41, e0, e1, e5, e6]
  clear e0 e1 e5 e6
  conv => arg 2; whnf
  go_wp2_with fail
  refine wp_region_keep (by kernel_rfl) (by kernel_rfl) ?_
  repeat (any_goals (first | go_big_quiet_step ((go_at_call 12; first | with_reducible exact Calls.keep (HSX.out _ (Wd.h _)) | with_reducible exact Calls.keep (HSY.out _ (Wd.h _)))) | quiet_step ((go_at_call 12; first | with_reducible exact Calls.keep (HSX.out _ (Wd.h _)) | with_reducible exact Calls.keep (HSY.out _ (Wd.h _))))))
  refine wpQuiet_nil ?_
  intro _ hwz
  obtain ⟨u, rfl⟩ := hwz
  go_wp2_with fail
  exact HC.out _ _ (by first | rfl | simp) rfl rfl rfl (congrArg (fun z => some (Value.int .i64 z)) HW.out) u.h
set_option maxRecDepth 100000 in
set_option maxHeartbeats 6400000 in
theorem clash_hit {KK : Act → World → Prop} {Q : Exit → Act → World → Prop} {w : World} {a b : Option Addr} {na nb ca cb i j : Nat} {A B : List (List UInt8)} (hi : i < na) (hj : j < nb) (hA9 : na ≤ 1000) (hB9 : nb ≤ 1000) (hAn : A.length = na) (hBn : B.length = nb) (hAs : ∀ x ∈ A, x.length ≤ 1000000) (hBs : ∀ x ∈ B, x.length ≤ 1000000) (hS : Sv w a A) (hS2 : Sv w b B) (hE : REnv w) (hb : (A.getD i [] == B.getD j []) = false) (hs : (S2.sum (A.getD i []) == S2.sum (B.getD j [])) = true) (fr : Array Value) (hn : fr.size = 41) (p0 : fr[0]? = some (.slice a na ca)) (p1 : fr[1]? = some (.slice b nb cb)) (p5 : fr[5]? = some (.int .i64 (i : Int))) (p6 : fr[6]? = some (.int .i64 (j : Int)))
    (hC : ∀ t' w', t'.size = 41 → t'[4]? = some (.bool true) → Fr (fun _ => False) w w' → Q .ret ⟨t', []⟩ w') :
    Code.wp Tryd.prog (loopAt Tryd.f19 1) (Exit.then KK Q) ⟨fr, []⟩ w := by
  obtain ⟨g, off, rfl⟩ := hS.at (by omega)
  obtain ⟨g2, off2, rfl⟩ := hS2.at (by omega)
  have q1 : (i : Int) < (na : Int) := by omega
  have q4 : (0 : Int) ≤ (i : Int) := Int.natCast_nonneg i
  have q2 : (j : Int) < (nb : Int) := by omega
  have q5 : (0 : Int) ≤ (j : Int) := Int.natCast_nonneg j
  obtain ⟨x, hx⟩ : ∃ x, x = A.getD i [] := ⟨_, rfl⟩
  have hxi : A[i]? = some x := by rw [hx, List.getD_eq_getElem?_getD, List.getElem?_eq_getElem (by omega)]; rfl
  obtain ⟨y, hy⟩ : ∃ y, y = B.getD j [] := ⟨_, rfl⟩
  have hyi : B[j]? = some y := by rw [hy, List.getD_eq_getElem?_getD, List.getElem?_eq_getElem (by omega)]; rfl
  rw [← hx, ← hy] at hb
  obtain ⟨sx, hsx⟩ : ∃ sx, sx = S2.sum x := ⟨_, rfl⟩
  obtain ⟨sy, hsy⟩ : ∃ sy, sy = S2.sum y := ⟨_, rfl⟩
  rw [← hx, ← hy, ← hsx, ← hsy] at hs
  have HSX := Lib.hid (show ∀ (V : World) (F : Fr (fun _ => False) w V), Calls Tryd.prog 12 #[.string ⟨x.toArray⟩] V fun e w' => e = .returned (.string ⟨sx.toArray⟩) ∧ Fr (fun _ => False) V w' from fun V F => by rw [hsx]; exact rsum_str x (hAs x (List.mem_of_getElem? hxi)) V (hE.ext F))
  have HSY := Lib.hid (show ∀ (V : World) (F : Fr (fun _ => False) w V), Calls Tryd.prog 12 #[.string ⟨y.toArray⟩] V fun e w' => e = .returned (.string ⟨sy.toArray⟩) ∧ Fr (fun _ => False) V w' from fun V F => by rw [hsy]; exact rsum_str y (hBs y (List.mem_of_getElem? hyi)) V (hE.ext F))
  have H1 := Lib.hid (And.intro (hS.cell hxi) (hS2.cell hyi))
  have k1 : ∀ u : Wd w, u.w.cell? ⟨g, off + i, none⟩ = some (.string ⟨x.toArray⟩) := fun u => u.h.cellSome (p := ⟨g, off + i, none⟩) (fun h => h) H1.out.1
  have k2 : ∀ u : Wd w, u.w.cell? ⟨g2, off2 + j, none⟩ = some (.string ⟨y.toArray⟩) := fun u => u.h.cellSome (p := ⟨g2, off2 + j, none⟩) (fun h => h) H1.out.2
  have HW := Lib.hid (show wrap64 ((j : Int) + 1) = ((j + 1 : Nat) : Int) by rw [IntWalk.wrap64_in _ (by omega)]; omega)
  have HC := Lib.hid hC
  clear hC hS hS2 hAn hBn hA9 hB9 hAs hBs hE hx hxi hy hyi hsx hsy
  obtain ⟨f, hff, rfl⟩ := frame_open hn
  have e0 := hff 0 _ p0
  have e1 := hff 1 _ p1
  have e5 := hff 5 _ p5
  have e6 := hff 6 _ p6
  clear hff hn p0 p1 p5 p6
  rw [lit41, e0, e1, e5, e6]
  clear e0 e1 e5 e6
  conv => arg 2; whnf
  go_wp2_with fail
  refine wp_region_keep (by kernel_rfl) (by kernel_rfl) ?_
  repeat (any_goals (first | go_big_quiet_step ((go_at_call 12; first | with_reducible exact Calls.keep (HSX.out _ (Wd.h _)) | with_reducible exact Calls.keep (HSY.out _ (Wd.h _)))) | quiet_step ((go_at_call 12; first | with_reducible exact Calls.keep (HSX.out _ (Wd.h _)) | with_reducible exact Calls.keep (HSY.out _ (Wd.h _))))))
  refine wpQuiet_nil ?_
  intro _ hwz
  obtain ⟨u, rfl⟩ := hwz
  go_wp2_with fail
  exact HC.out _ _ (by first | rfl | simp) rfl u.h
set_option maxRecDepth 100000 in
set_option maxHeartbeats 6400000 in
theorem clash_jend {KK : Act → World → Prop} {Q : Exit → Act → World → Prop} {w : World} {a b : Option Addr} {na nb ca cb i : Nat} (fr : Array Value) (hn : fr.size = 41) (p0 : fr[0]? = some (.slice a na ca)) (p1 : fr[1]? = some (.slice b nb cb)) (p5 : fr[5]? = some (.int .i64 (i : Int))) (p6 : fr[6]? = some (.int .i64 (nb : Int)))
    (hQ : ∀ t', t'.size = 41 → t'[0]? = some (.slice a na ca) → t'[1]? = some (.slice b nb cb) → t'[5]? = some (.int .i64 (i : Int)) → Q (.exit 2) ⟨t', []⟩ w) :
    Code.wp Tryd.prog (loopAt Tryd.f19 1) (Exit.then KK Q) ⟨fr, []⟩ w := by
  have q2 : ¬ ((nb : Int) < (nb : Int)) := by omega
  have q2b : ¬ (nb < nb) := by omega
  have HK := Lib.hid hQ
  clear hQ
  obtain ⟨f, hff, rfl⟩ := frame_open hn
  have e0 := hff 0 _ p0
  have e1 := hff 1 _ p1
  have e5 := hff 5 _ p5
  have e6 := hff 6 _ p6
  clear hff hn p0 p1 p5 p6
  rw [lit41, e0, e1, e5, e6]
  clear e0 e1 e5 e6
  conv => arg 2; whnf
  go_wp2_with fail
  exact HK.out _ (by first | rfl | simp) rfl rfl rfl
set_option maxRecDepth 100000 in
set_option maxHeartbeats 6400000 in
theorem clash_iend {KK : Act → World → Prop} {Q : Exit → Act → World → Prop} {w : World} {a b : Option Addr} {na nb ca cb : Nat} (fr : Array Value) (hn : fr.size = 41) (p0 : fr[0]? = some (.slice a na ca)) (p1 : fr[1]? = some (.slice b nb cb)) (p5 : fr[5]? = some (.int .i64 (na : Int)))
    (hQ : ∀ t', t'.size = 41 → Q (.exit 0) ⟨t', []⟩ w) :
    Code.wp Tryd.prog (loopAt Tryd.f19 0) (Exit.then KK Q) ⟨fr, []⟩ w := by
  have q2 : ¬ ((na : Int) < (na : Int)) := by omega
  have q2b : ¬ (na < na) := by omega
  have HK := Lib.hid hQ
  clear hQ
  obtain ⟨f, hff, rfl⟩ := frame_open hn
  have e0 := hff 0 _ p0
  have e1 := hff 1 _ p1
  have e5 := hff 5 _ p5
  clear hff hn p0 p1 p5
  rw [lit41, e0, e1, e5]
  clear e0 e1 e5
  conv => arg 2; whnf
  go_wp2_with fail
  exact HK.out _ (by first | rfl | simp)
end Go.Proofs.YtikdgjgcopjocaaDoor
namespace Go.Proofs.YtikdgjgcopjocaaDoor
open Go.RowKit
set_option linter.unusedVariables false
set_option linter.unusedSimpArgs false
/-- What stands fast while two lists are looked through. -/
structure Cx (w0 : World) (a b : Option Addr) (na nb : Nat) (A B : List (List UInt8)) : Prop where
  a9 : na ≤ 1000
  b9 : nb ≤ 1000
  an : A.length = na
  bn : B.length = nb
  al : ∀ x ∈ A, x.length ≤ 1000000
  bl : ∀ x ∈ B, x.length ≤ 1000000
  sa : Sv w0 a A
  sb : Sv w0 b B
  re : REnv w0
set_option maxRecDepth 100000 in
set_option maxHeartbeats 6400000 in
theorem clash_jloop {Q : Exit → Act → World → Prop} {w0 w : World} {a b : Option Addr} {na nb ca cb i : Nat} {A B : List (List UInt8)} (X : Cx w0 a b na nb A B) (hi : i < na) (F0 : Fr (fun _ => False) w0 w) (fr : Array Value) (hn : fr.size = 41) (p0 : fr[0]? = some (.slice a na ca)) (p1 : fr[1]? = some (.slice b nb cb)) (p5 : fr[5]? = some (.int .i64 (i : Int))) (p6 : fr[6]? = some (.int .i64 (0 : Int)))
    (hQ : ∀ t' w', t'.size = 41 → t'[0]? = some (.slice a na ca) → t'[1]? = some (.slice b nb cb) → t'[5]? = some (.int .i64 (i : Int)) → (∀ j, j < nb → Cl.at A B i j = false) → Fr (fun _ => False) w0 w' → Q (.exit 2) ⟨t', []⟩ w')
    (hQ2 : ∀ t' w', t'.size = 41 → t'[4]? = some (.bool true) → Fr (fun _ => False) w0 w' → Q .ret ⟨t', []⟩ w') :
    Code.wp Tryd.prog (.loop (loopAt Tryd.f19 1)) Q ⟨fr, []⟩ w := by
  refine wp_loop_up nb (fun j t w' => t.size = 41 ∧ t[0]? = some (.slice a na ca) ∧ t[1]? = some (.slice b nb cb) ∧ t[5]? = some (.int .i64 (i : Int)) ∧ t[6]? = some (.int .i64 (j : Int)) ∧ (∀ k, k < j → Cl.at A B i k = false) ∧ Fr (fun _ => False) w0 w') fr w ⟨hn, p0, p1, p5, p6, fun k hk => absurd hk (Nat.not_lt_zero k), F0⟩ ?_
  rintro j t w1 hj ⟨hn1, p0, p1, p5, p6, hg1, F1⟩ KK hKK
  by_cases hlt : j < nb
  · have up : Cl.at A B i j = false → ∀ k, k < j + 1 → Cl.at A B i k = false := fun h k hk => by
      rcases Nat.lt_or_ge k j with h2 | h2
      · exact hg1 k h2
      · have : k = j := by omega
        rw [this]; exact h
    cases hb : A.getD i [] == B.getD j [] with
    | true => exact clash_eq hi hlt X.a9 X.b9 X.an X.bn X.al X.bl (X.sa.ext F1) (X.sb.ext F1) (X.re.ext F1) hb t hn1 p0 p1 p5 p6 (fun t' w' b0 b1 b2 b3 b4 b5 => hKK t' w' (by omega) ⟨b0, b1, b2, b3, b4, up (by unfold Cl.at; rw [hb]; rfl), F1.trans b5 (fun _ h => h.elim)⟩)
    | false =>
      cases hs : S2.sum (A.getD i []) == S2.sum (B.getD j []) with
      | false => exact clash_ne hi hlt X.a9 X.b9 X.an X.bn X.al X.bl (X.sa.ext F1) (X.sb.ext F1) (X.re.ext F1) hb hs t hn1 p0 p1 p5 p6 (fun t' w' b0 b1 b2 b3 b4 b5 => hKK t' w' (by omega) ⟨b0, b1, b2, b3, b4, up (by unfold Cl.at; rw [hb, hs]; rfl), F1.trans b5 (fun _ h => h.elim)⟩)
      | true => exact clash_hit hi hlt X.a9 X.b9 X.an X.bn X.al X.bl (X.sa.ext F1) (X.sb.ext F1) (X.re.ext F1) hb hs t hn1 p0 p1 p5 p6 (fun t' w' b0 b1 b2 => hQ2 t' w' b0 b1 (F1.trans b2 (fun _ h => h.elim)))
  · have : j = nb := by omega
    subst this
    exact clash_jend t hn1 p0 p1 p5 p6 (fun t' b0 b1 b2 b3 => hQ t' w1 b0 b1 b2 b3 hg1 F1)
set_option maxRecDepth 100000 in
set_option maxHeartbeats 6400000 in
theorem clash_iin {KK : Act → World → Prop} {Q : Exit → Act → World → Prop} {w0 w : World} {a b : Option Addr} {na nb ca cb i : Nat} {A B : List (List UInt8)} (X : Cx w0 a b na nb A B) (hi : i < na) (F0 : Fr (fun _ => False) w0 w) (fr : Array Value) (hn : fr.size = 41) (p0 : fr[0]? = some (.slice a na ca)) (p1 : fr[1]? = some (.slice b nb cb)) (p5 : fr[5]? = some (.int .i64 (i : Int)))
    (hC : ∀ t' w', t'.size = 41 → t'[0]? = some (.slice a na ca) → t'[1]? = some (.slice b nb cb) → t'[5]? = some (.int .i64 ((i + 1 : Nat) : Int)) → (∀ j, j < nb → Cl.at A B i j = false) → Fr (fun _ => False) w0 w' → KK ⟨t', []⟩ w')
    (hQ2 : ∀ t' w', t'.size = 41 → t'[4]? = some (.bool true) → Fr (fun _ => False) w0 w' → Q .ret ⟨t', []⟩ w') :
    Code.wp Tryd.prog (loopAt Tryd.f19 0) (Exit.then KK Q) ⟨fr, []⟩ w := by
  have q1 : (i : Int) < (na : Int) := by omega
  have q4 : (0 : Int) ≤ (i : Int) := Int.natCast_nonneg i
  have HW := Lib.hid (show wrap64 ((i : Int) + 1) = ((i + 1 : Nat) : Int) by have := X.a9; rw [IntWalk.wrap64_in _ (by omega)]; omega)
  have HC := Lib.hid hC
  have HC2 := Lib.hid hQ2
  have HX := Lib.hid X
  have HF := Lib.hid F0
  have HI := Lib.hid hi
  clear hC hQ2 X F0 hi
  obtain ⟨f, hff, rfl⟩ := frame_open hn
  have e0 := hff 0 _ p0
  have e1 := hff 1 _ p1
  have e5 := hff 5 _ p5
  clear hff hn p0 p1 p5
  rw [lit41, e0, e1, e5]
  clear e0 e1 e5
  conv => arg 2; whnf
  go_wp2_with fail
  refine clash_jloop (i := i) HX.out HI.out HF.out _ (by first | rfl | simp) rfl rfl rfl rfl ?_ ?_
  · intro t' w' hn p0 p1 p5 hno F
    have HN := Lib.hid (And.intro hno F)
    clear hno F q1
    obtain ⟨f, hff, rfl⟩ := frame_open hn
    have e0 := hff 0 _ p0
    have e1 := hff 1 _ p1
    have e5 := hff 5 _ p5
    clear hff hn p0 p1 p5
    rw [lit41, e0, e1, e5]
    clear e0 e1 e5
    go_wp2_with fail
    exact HC.out _ _ (by first | rfl | simp) rfl rfl (congrArg (fun z => some (Value.int .i64 z)) HW.out) HN.out.1 HN.out.2
  · intro t' w' hn p4 F
    exact HC2.out _ _ hn p4 F
set_option maxRecDepth 100000 in
set_option maxHeartbeats 6400000 in
theorem clash_any2 (a b : Option Addr) (na nb ca cb : Nat) (A B : List (List UInt8)) (i0 j0 : Nat) (hi0 : i0 < na) (hj0 : j0 < nb) (hcl : Cl.at A B i0 j0 = true) (w : World) (X : Cx w a b na nb A B) :
    Calls Tryd.prog 19 #[.slice a na ca, .slice b nb cb] w fun e w' => e = .returned (.bool true) ∧ Fr (fun _ => False) w w' := by
  have HX := Lib.hid X
  have HH := Lib.hid (And.intro hi0 (And.intro hj0 hcl))
  clear X hi0 hj0 hcl
  go_enter Tryd.func19, Tryd.ntmps19
  go_wp2_with fail
  refine wp_loop_up na (fun i t w' => t.size = 41 ∧ t[0]? = some (.slice a na ca) ∧ t[1]? = some (.slice b nb cb) ∧ t[5]? = some (.int .i64 (i : Int)) ∧ (∀ k, k < i → ∀ j, j < nb → Cl.at A B k j = false) ∧ Fr (fun _ => False) w w') _ w ⟨by first | rfl | simp, rfl, rfl, rfl, fun k hk => absurd hk (Nat.not_lt_zero k), Fr.refl _ _⟩ ?_
  rintro i t w1 hi ⟨hn1, p0, p1, p5, hg1, F1⟩ KK hKK
  by_cases hlt : i < na
  · refine clash_iin HX.out hlt F1 t hn1 p0 p1 p5 (fun t' w' b0 b1 b2 b3 b4 b5 => hKK t' w' (by omega) ⟨b0, b1, b2, b3, fun k hk => by
      rcases Nat.lt_or_ge k i with h2 | h2
      · exact hg1 k h2
      · have : k = i := by omega
        rw [this]; exact b4, b5⟩) ?_
    intro t' w' hn p4 F
    have HF := Lib.hid F
    clear F hKK F1 hg1
    obtain ⟨f, hff, rfl⟩ := frame_open hn
    have e4 := hff 4 _ p4
    clear hff hn p4
    rw [lit41, e4]
    clear e4
    go_wp2_with fail
    go_ret
    exact ⟨rfl, HF.out⟩
  · have : i = na := by omega
    subst this
    exact absurd (hg1 _ HH.out.1 _ HH.out.2.1) (by rw [HH.out.2.2]; decide)
end Go.Proofs.YtikdgjgcopjocaaDoor
namespace Go.Proofs.YtikdgjgcopjocaaDoor
open Go.RowKit
set_option linter.unusedVariables false
set_option linter.unusedSimpArgs false
def Ck.tx (id : List UInt8) (z : Int) (R L : List (List UInt8)) (a : List UInt8) (n : Nat) : List (List UInt8) := (List.range n).map fun k => CH.text id (Ck.ep z k) (R.getD k []) (Ck.prev L a k)
set_option maxRecDepth 100000 in
theorem Ck.tx_snoc (id : List UInt8) (z : Int) (R L : List (List UInt8)) (a : List UInt8) (n : Nat) : Ck.tx id z R L a (n + 1) = Ck.tx id z R L a n ++ [CH.text id (Ck.ep z n) (R.getD n []) (Ck.prev L a n)] := by
  unfold Ck.tx; rw [List.range_succ, List.map_append]; rfl
set_option maxRecDepth 100000 in
theorem Ck.tx_len (id : List UInt8) (z : Int) (R L : List (List UInt8)) (a : List UInt8) (n : Nat) : (Ck.tx id z R L a n).length = n := by simp [Ck.tx]
set_option maxRecDepth 100000 in
theorem Ck.tx_get {id : List UInt8} {z : Int} {R L : List (List UInt8)} {a : List UInt8} {n k : Nat} (hk : k < n) : (Ck.tx id z R L a n).getD k [] = CH.text id (Ck.ep z k) (R.getD k []) (Ck.prev L a k) := by
  rw [List.getD_eq_getElem?_getD, List.getElem?_eq_getElem (by rw [Ck.tx_len]; exact hk)]
  simp [Ck.tx]
set_option maxRecDepth 100000 in
set_option maxHeartbeats 6400000 in
theorem tx_in {KK : Act → World → Prop} {Q : Exit → Act → World → Prop} {w : World} {g b m rc lc k Z : Nat} {ra la : Option Addr} {id : List UInt8} {z : Int} {R L : List (List UInt8)} {ah : List UInt8} {v : Value} {C : Array Value} (hk : k < m) (hm12 : m ≤ 12) (hRm : R.length = m) (hLm : L.length = m) (hah : ah.length = 32) (hn6 : id.length ≤ 60000) (hC0 : w.cell? ⟨g, 0, none⟩ = some (.int .i64 z)) (hC33 : w.cell? ⟨g, 33, none⟩ = some (.slice ra m rc)) (hgZ : g < Z) (hgb : g ≠ b) (hb : w.heap[b]? = some (.cells (krow (Ck.prev L ah k)) 23 (0, 0))) (hK : Kv w ra R) (hKL : Kv w la L) (hrb : ∀ i, inBlk ra i → i < Z ∧ i ≠ b) (hlb : ∀ i, inBlk la i → i < Z ∧ i ≠ b) (hO : Os w Z v (Ck.tx id z R L ah k)) (hbZ : b < Z) (hZ : Z ≤ w.heap.size) (fr : Array Value) (hn : fr.size = 44) (p0 : fr[0]? = some (.string ⟨id.toArray⟩)) (p2 : fr[2]? = some (.slice la m lc)) (p4 : fr[4]? = some (.pointer (some ⟨g, 0, none⟩))) (p8 : fr[8]? = some (.pointer (some ⟨b, 0, none⟩))) (p9 : fr[9]? = some (.int .i64 (k : Int))) (p7 : fr[7]? = some (v))
    (hQ : ∀ t' w' v', t'.size = 44 → t'[0]? = some (.string ⟨id.toArray⟩) → t'[2]? = some (.slice la m lc) → t'[4]? = some (.pointer (some ⟨g, 0, none⟩)) → t'[8]? = some (.pointer (some ⟨b, 0, none⟩)) → t'[9]? = some (.int .i64 (((k + 1 : Nat) : Int) : Int)) → t'[7]? = some (v') → w'.heap[b]? = some (.cells (krow (Ck.prev L ah (k + 1))) 23 (0, 0)) → Os w' Z v' (Ck.tx id z R L ah (k + 1)) → Fr (fun i => i = b ∨ Z ≤ i) w w' → KK ⟨t', []⟩ w') :
    Code.wp Tryd.prog (loopAt Tryd.f20 0) (Exit.then KK Q) ⟨fr, []⟩ w := by
  obtain ⟨ti, zz, hI⟩ := sInfo
  have HI := Lib.hid hI
  obtain ⟨r, hr⟩ : ∃ r, r = R.getD k [] := ⟨_, rfl⟩
  have hri : R[k]? = some r := by rw [hr, List.getD_eq_getElem?_getD, List.getElem?_eq_getElem (by omega)]; rfl
  have hr32 := hK.all r (List.mem_of_getElem? hri)
  obtain ⟨x, hx⟩ : ∃ x, x = L.getD k [] := ⟨_, rfl⟩
  have hxi : L[k]? = some x := by rw [hx, List.getD_eq_getElem?_getD, List.getElem?_eq_getElem (by omega)]; rfl
  have hx32 := hKL.all x (List.mem_of_getElem? hxi)
  obtain ⟨gr, or, rfl⟩ := hK.at (by omega)
  obtain ⟨gl, ol, rfl⟩ := hKL.at (by omega)
  have hgr := hrb gr ⟨_, rfl, rfl⟩
  have hgl := hlb gl ⟨_, rfl, rfl⟩
  have hcx := hKL.cells hxi
  have hCR : Came w (some ⟨gr, or + k * 32, none⟩) 32 32 r := ⟨hr32, Nat.le_refl _, by unfold maxLen; omega, hK.one hri, fun e => by cases e⟩
  have hp32 : (Ck.prev L ah k).length = 32 := by
    cases k with
    | zero => exact hah
    | succ j => show (L.getD j []).length = 32; rw [List.getD_eq_getElem?_getD, List.getElem?_eq_getElem (by omega)]; exact hKL.all _ (List.getElem_mem _)
  have hpn : Ck.prev L ah (k + 1) = x := hx.symm
  have hsn := Ck.tx_snoc id z R L ah k
  have hll := Ck.tx_len id z R L ah k
  rw [← hr] at hsn
  generalize Ck.prev L ah k = h0 at *
  obtain ⟨tx, htx⟩ : ∃ tx, tx = CH.text id (Ck.ep z k) r h0 := ⟨_, rfl⟩
  obtain ⟨s, hs⟩ : ∃ s : Nat, IntKind.u64.wrap (IntKind.u64.wrap z + IntKind.u64.wrap (k : Int)) = (s : Int) := ⟨(IntKind.u64.wrap (IntKind.u64.wrap z + IntKind.u64.wrap (k : Int))).toNat, (Int.toNat_of_nonneg (Int.emod_nonneg _ (show (18446744073709551616 : Int) ≠ 0 by decide))).symm⟩
  have hep := Ck.ep_wrap2 z k
  rw [hs, ← Ck.w64] at hep
  have HTX := Lib.hid (fun (V : World) => rctext_any id r h0 (wrap64 (s : Int)) (Ck.ep z k) hep hn6 (by omega) (by omega) V)
  rw [← htx] at HTX hsn
  have hHB : Came w (some ⟨b, 0, none⟩) 32 32 h0 := by have := came_row hb (by rw [hp32]; decide); rwa [hp32] at this
  have q1 : (k : Int) < (m : Int) := by omega
  have q4 : (0 : Int) ≤ (k : Int) := Int.natCast_nonneg k
  have HW1 := Lib.hid (show wrap64 ((k : Int) + 1) = ((k + 1 : Nat) : Int) by rw [IntWalk.wrap64_in _ (by omega)]; omega)
  have HLN := Lib.hid (show (Ck.tx id z R L ah k).length ≤ 12 by rw [hll]; omega)
  generalize Ck.tx id z R L ah k = TK at *
  have HQ := Lib.hid hQ
  have HSN := Lib.hid hsn
  have HPN := Lib.hid hpn
  have HCX := Lib.hid hcx
  have HCC := Lib.hid (And.intro hC0 hC33)
  have HB := Lib.hid hb
  have HO := Lib.hid hO
  have HZ := Lib.hid (And.intro hbZ (And.intro hZ (And.intro hgZ (And.intro hgb (And.intro hgr hgl)))))
  have H0 := Lib.hid hp32
  have HX := Lib.hid hx32
  have HCR := Lib.hid hCR
  have HHB := Lib.hid hHB
  have E1 : Value.int .u64 (IntKind.u64.wrap (IntKind.u64.wrap z + IntKind.u64.wrap (k : Int))) = Value.int .u64 (s : Int) := by rw [hs]
  have c33 := hC33
  clear hQ hsn hpn hcx hC0 hC33 hb hO hbZ hZ hgZ hgb hgr hgl hp32 hx32 hr32 hCR hHB hep hs htx hri hxi hr hx hK hKL hn6 hll hah hRm hLm hm12 hrb hlb hI
  obtain ⟨f, hff, rfl⟩ := frame_open hn
  have e0 := hff 0 _ p0
  have e2 := hff 2 _ p2
  have e4 := hff 4 _ p4
  have e8 := hff 8 _ p8
  have e9 := hff 9 _ p9
  have e7 := hff 7 _ p7
  clear hff hn p0 p2 p4 p8 p9 p7
  rw [lit44, e0, e2, e4, e8, e9, e7]
  clear e0 e2 e4 e8 e9 e7
  conv => arg 2; whnf
  go_wp2_with fail
  refine Ks.wp_region_mono (fun k => Z ≤ k) (sg 0 17 ++ ((17, true) :: ((18, true) :: ((19, true) :: ((20, true) :: ([])))))) (by kernel_rfl) (by kernel_rfl) ?_
  refine Ks.Wk.seg 0 17 (by kernel_rfl) (by kernel_rfl) ?_
  apply Exists.intro
  refine ⟨?wk0, ?fin0⟩
  case wk0 =>
    intro γ
    have kx : ∀ u : Ks.Ws γ, u.w.cell? ⟨g, 0, none⟩ = some (.int .i64 z) := fun u => u.h.cellSome (p := ⟨g, 0, none⟩) (fun h => absurd HZ.out.2.2.1 (Nat.not_lt.2 h)) HCC.out.1
    have ky : ∀ u : Ks.Ws γ, u.w.cell? ⟨g, 33, none⟩ = some (.slice (some ⟨gr, or, none⟩) m rc) := fun u => u.h.cellSome (p := ⟨g, 33, none⟩) (fun h => absurd HZ.out.2.2.1 (Nat.not_lt.2 h)) HCC.out.2
    have cr : ∀ u : Ks.Ws γ, (convert 22 9 (.slice (some ⟨gr, or + k * 32, none⟩) 32 32)).run Tryd.prog u.w = .ok (.string ⟨r.toArray⟩) u.w := fun u => (Came.str2 ⟨HCR.out.len, HCR.out.le, HCR.out.mx, HCR.out.lies.fr u.h (fun k hk h => by obtain ⟨ad, e1, e2⟩ := hk; cases e1; exact absurd HZ.out.2.2.2.2.1.1 (Nat.not_lt.2 (Nat.le_trans h (Nat.le_of_eq e2.symm)))), HCR.out.nil⟩)
    have cb : ∀ u : Ks.Ws γ, (convert 22 9 (.slice (some ⟨b, 0, none⟩) 32 32)).run Tryd.prog u.w = .ok (.string ⟨h0.toArray⟩) u.w := fun u => (Came.str2 ⟨HHB.out.len, HHB.out.le, HHB.out.mx, HHB.out.lies.fr u.h (fun k hk h => by obtain ⟨ad, e1, e2⟩ := hk; cases e1; exact absurd HZ.out.1 (Nat.not_lt.2 (Nat.le_trans h (Nat.le_of_eq e2.symm)))), HHB.out.nil⟩)
    simp only [List.drop_succ_cons, List.drop_zero, List.take_succ_cons, List.take_zero]
    repeat (any_goals (first | go_big_quiet_step (fail) | quiet_step (fail)))
    exact wpQuiet_nil rfl
  case fin0 =>
  (try simp only [Act.put, List.setIfInBounds_toArray, List.set_cons_zero, List.set_cons_succ])
  refine Ks.Wk.call rfl (by kernel_rfl) 8 #[.string ⟨id.toArray⟩, .int .i64 (wrap64 (s : Int)), .string ⟨r.toArray⟩, .string ⟨h0.toArray⟩] (fun W => by first | kernel_rfl | rfl) (fun v V => v = str tx) (fun V hx => (HTX.out V).mono (fun e w' he => ⟨_, he.1, he.2, rfl⟩)) ?_
  rintro v3 w3 X3 rfl
  (try simp only [List.getElem_toArray, List.getElem_cons_succ, List.getElem_cons_zero, Act.put, List.setIfInBounds_toArray, List.set_cons_zero, List.set_cons_succ])
  refine Ks.Wk.one rfl (fun w4 Xw4 => ?_)
  refine wpList_buildSlice rfl 42 1 _ rfl #[(0, str tx)] (by first | kernel_rfl | rfl | simp [Act.eval]) (mkS tx w4) ⟨rfl, Ks.Es.of ((Fr.refl _ w4).alloc _), ?_⟩
  (try simp only [List.getElem_toArray, List.getElem_cons_succ, List.getElem_cons_zero, Act.put, List.setIfInBounds_toArray, List.set_cons_zero, List.set_cons_succ])
  have B4 := heap_alloc_new w4 (.cells #[str tx] 9)
  have X34 : Fr (fun _ => False) w (w4.alloc (.cells #[str tx] 9)) := (X3.trans Xw4 (fun _ h => h.elim)).alloc _
  refine Ks.Wk.one rfl (fun w5 Xw5 => ?_)
  have X5 := X34.trans Xw5 (fun _ h => h.elim)
  have O5 := own_ext HO.out X5
  have B5 := (Xw5.block _ (lt_of_block B4) (fun h => h)).trans B4
  refine wpList_app _ rfl (.tmp 19) (.tmp 37) 42 42 rfl Z 9 ti zz 1 16 Tryd.underlying42 HI.out.1 HI.out.2.1 HI.out.2.2.1 HI.out.2.2.2.1 HI.out.2.2.2.2 (by decide) v _ _ rfl O5 _ rfl 1 [str tx] (src_str B5) (by have := HLN.out; unfold maxLen; omega) (by have := HLN.out; omega) (Nat.le_trans HZ.out.2.1 X5.size) (fun v6 w6 O6 G6 G6x => ⟨rfl, (Fr.ofGrown G6).mono (fun k _ hk => (ownsRow_lt O5 k hk).1), ?_⟩)
  (try simp only [List.getElem_toArray, List.getElem_cons_succ, List.getElem_cons_zero, Act.put, List.setIfInBounds_toArray, List.set_cons_zero, List.set_cons_succ])
  refine Ks.Wk.one rfl (fun w7 Xw7 => ?_)
  go_wp2_with fail
  refine ⟨Ks.Es.of (Fr.refl _ _), ?_⟩
  (try simp only [List.getElem_toArray, List.getElem_cons_succ, List.getElem_cons_zero, Act.put, List.setIfInBounds_toArray, List.set_cons_zero, List.set_cons_succ])
  intro w8 X8
  have O8 : Os w8 Z v6 (TK ++ [tx]) := own_ext (Os.snoc O6) (Xw7.trans X8 (fun _ h => h.elim))
  have F8 : Fr (fun i => Z ≤ i) w w8 := ((X5.mono (fun _ _ h => h.elim)).trans (Fr.ofGrown G6) (fun k hk => .inl (ownsRow_lt O5 k hk).1)).trans (Xw7.trans X8 (fun _ h => h.elim)) (fun _ h => h.elim)
  rw [← HSN.out] at O8
  have hcx8 : ∀ (j : Nat) (u : Value), (krow x)[j]? = some u → w8.cell? ⟨gl, ol + k * 32 + j, none⟩ = some u := fun j u hu => F8.cellSome (p := ⟨gl, ol + k * 32 + j, none⟩) (fun h => absurd HZ.out.2.2.2.2.2.1 (Nat.not_lt.2 h)) (HCX.out j u hu)
  have hb8 := (F8.block b (lt_of_block HB.out) (fun h => absurd HZ.out.1 (Nat.not_lt.2 h))).trans HB.out
  have H8 := Lib.hid (And.intro O8 F8)
  clear O8 F8 X8 Xw7 X5 O5 B5 O6 G6 G6x B4 X34 Xw5 Xw4 X3 E1 c33
  go_wp2_with (first | (focus ((refine wpList_load_kv rfl (.tmp 41) rfl gl (ol + k * 32) rfl x HX.out hcx8 ?_); simp only [Act.put, List.setIfInBounds_toArray, List.set_cons_zero, List.set_cons_succ])) | (focus (refine wpList_store_rowA rfl 23 (.tmp 8) (.tmp 42) rfl b (krow x) rfl rfl 23 _ hb8 (sz32' HX.out) (by rw [krow_size, krow_size, H0.out, HX.out]) (krow_one _) ?_; intro w9 B9 F9; simp only [Act.put, List.setIfInBounds_toArray, List.set_cons_zero, List.set_cons_succ]; refine Hid.out ?_)))
  have O9 : Os w9 Z v6 (Ck.tx id z R L ah (k + 1)) := own_fr H8.out.1 F9 (fun i hi e => absurd (ownsRow_lt H8.out.1 i hi).1 (by have := HZ.out.1; omega))
  have G9 : Fr (fun i => i = b ∨ Z ≤ i) w w9 := (H8.out.2.mono (fun _ _ h => .inr h)).trans F9 (fun i hi => .inl (.inl hi))
  have H9 := Lib.hid (And.intro B9 (And.intro O9 G9))
  clear B9 O9 G9 F9 hb8 hcx8
  refine Lib.hid ?_
  go_wp2_with fail
  exact HQ.out _ _ v6 (by first | rfl | simp) rfl rfl rfl rfl (congrArg (fun z => some (Value.int .i64 z)) HW1.out) rfl (by rw [HPN.out]; exact H9.out.1) H9.out.2.1 H9.out.2.2
end Go.Proofs.YtikdgjgcopjocaaDoor
namespace Go.Proofs.YtikdgjgcopjocaaDoor
open Go.RowKit
set_option linter.unusedVariables false
set_option linter.unusedSimpArgs false
set_option maxRecDepth 100000 in
theorem kv_blk {w : World} {a : Option Addr} {R : List (List UInt8)} (h : Kv w a R) (h0 : 0 < R.length) : ∀ i, inBlk a i → i < w.heap.size := fun i hi => by
  obtain ⟨g, off, rfl⟩ := h.at h0
  obtain ⟨ad, e1, e2⟩ := hi
  cases e1
  obtain ⟨x, hx⟩ : ∃ x, R[0]? = some x := ⟨R[0]'h0, List.getElem?_eq_getElem _⟩
  have hx32 := h.all x (List.mem_of_getElem? hx)
  have := World.block_lt_of_cell? w _ (h.cells hx 0 (.int .u8 ((x[0]'(by omega)).toNat : Int)) (by rw [krow, List.getElem?_toArray, bv_get' x 0 (by omega)]))
  rw [← e2]
  exact this
set_option maxRecDepth 100000 in
set_option maxHeartbeats 6400000 in
theorem tx_end {KK : Act → World → Prop} {Q : Exit → Act → World → Prop} {w : World} {g b m lc rc : Nat} {ra la : Option Addr} {id : List UInt8} {v : Value} (hC33 : w.cell? ⟨g, 33, none⟩ = some (.slice ra m rc)) (fr : Array Value) (hn : fr.size = 44) (p0 : fr[0]? = some (.string ⟨id.toArray⟩)) (p2 : fr[2]? = some (.slice la m lc)) (p4 : fr[4]? = some (.pointer (some ⟨g, 0, none⟩))) (p8 : fr[8]? = some (.pointer (some ⟨b, 0, none⟩))) (p9 : fr[9]? = some (.int .i64 (m : Int))) (p7 : fr[7]? = some (v))
    (hQ : ∀ t', t'.size = 44 → t'[7]? = some v → Q (.exit 0) ⟨t', []⟩ w) :
    Code.wp Tryd.prog (loopAt Tryd.f20 0) (Exit.then KK Q) ⟨fr, []⟩ w := by
  have q2 : ¬ ((m : Int) < (m : Int)) := by omega
  have q2b : ¬ (m < m) := by omega
  have HK := Lib.hid hQ
  clear hQ
  obtain ⟨f, hff, rfl⟩ := frame_open hn
  have e0 := hff 0 _ p0
  have e2 := hff 2 _ p2
  have e4 := hff 4 _ p4
  have e8 := hff 8 _ p8
  have e9 := hff 9 _ p9
  have e7 := hff 7 _ p7
  clear hff hn p0 p2 p4 p8 p9 p7
  rw [lit44, e0, e2, e4, e8, e9, e7]
  clear e0 e2 e4 e8 e9 e7
  conv => arg 2; whnf
  go_wp2_with fail
  exact HK.out _ (by first | rfl | simp) rfl
set_option maxRecDepth 100000 in
set_option maxHeartbeats 6400000 in
theorem tx_loop {Q : Exit → Act → World → Prop} {w0 w : World} {g b m rc lc Z : Nat} {ra la : Option Addr} {id : List UInt8} {z : Int} {R L : List (List UInt8)} {ah : List UInt8} {C : Array Value} (hm12 : m ≤ 12) (hRm : R.length = m) (hLm : L.length = m) (hah : ah.length = 32) (hn6 : id.length ≤ 60000) (F0 : Fr (fun _ => False) w0 w) (hb0 : w0.heap.size ≤ b) (hZ0 : w0.heap.size ≤ Z) (hC0 : w.cell? ⟨g, 0, none⟩ = some (.int .i64 z)) (hC33 : w.cell? ⟨g, 33, none⟩ = some (.slice ra m rc)) (hgb : g ≠ b) (hgZ : g < Z) (hb : w.heap[b]? = some (.cells (krow ah) 23 (0, 0))) (hK : Kv w0 ra R) (hKL : Kv w0 la L) (hbZ : b < Z) (hZ : Z ≤ w.heap.size) (fr : Array Value) (hn : fr.size = 44) (p0 : fr[0]? = some (.string ⟨id.toArray⟩)) (p2 : fr[2]? = some (.slice la m lc)) (p4 : fr[4]? = some (.pointer (some ⟨g, 0, none⟩))) (p8 : fr[8]? = some (.pointer (some ⟨b, 0, none⟩))) (p9 : fr[9]? = some (.int .i64 (0 : Int))) (p7 : fr[7]? = some (.slice none 0 0))
    (hQ : ∀ t' w' v, t'.size = 44 → t'[7]? = some v → Os w' Z v (Ck.tx id z R L ah m) → Fr (fun i => i = b ∨ Z ≤ i) w w' → Q (.exit 0) ⟨t', []⟩ w') :
    Code.wp Tryd.prog (.loop (loopAt Tryd.f20 0)) Q ⟨fr, []⟩ w := by
  have nS : ¬ (g = b ∨ Z ≤ g) := fun h => by rcases h with h | h; exact hgb h; exact absurd hgZ (Nat.not_lt.2 h)
  refine wp_loop_up m (fun k t w' => ∃ v, t.size = 44 ∧ t[0]? = some (.string ⟨id.toArray⟩) ∧ t[2]? = some (.slice la m lc) ∧ t[4]? = some (.pointer (some ⟨g, 0, none⟩)) ∧ t[8]? = some (.pointer (some ⟨b, 0, none⟩)) ∧ t[9]? = some (.int .i64 (k : Int)) ∧ t[7]? = some (v) ∧ w'.heap[b]? = some (.cells (krow (Ck.prev L ah k)) 23 (0, 0)) ∧ Os w' Z v (Ck.tx id z R L ah k) ∧ Fr (fun i => i = b ∨ Z ≤ i) w w') fr w ⟨_, hn, p0, p2, p4, p8, p9, p7, hb, Os.nil w Z, Fr.refl _ _⟩ ?_
  rintro k t w1 hk ⟨v, hn1, p0, p2, p4, p8, p9, p7, hb1, hO1, F1⟩ KK hKK
  by_cases hlt : k < m
  · have F01 : Fr (fun _ => False) w0 w1 := F0.trans F1 (fun i hi => .inr (by rcases hi with h | h; exact h ▸ hb0; exact Nat.le_trans hZ0 h))
    have br := kv_blk hK (by omega)
    have bl := kv_blk hKL (by omega)
    exact tx_in (C := C) (Z := Z) hlt hm12 hRm hLm hah hn6 (F1.cellSome (p := ⟨g, 0, none⟩) nS hC0) (F1.cellSome (p := ⟨g, 33, none⟩) nS hC33) hgZ hgb hb1 (hK.ext F01) (hKL.ext F01) (fun i hi => by have := br i hi; exact ⟨by omega, by omega⟩) (fun i hi => by have := bl i hi; exact ⟨by omega, by omega⟩) hO1 hbZ (Nat.le_trans hZ F1.size) t hn1 p0 p2 p4 p8 p9 p7 (fun t' w' v' b0 b1 b2 b3 b4 b5 b6 b7 b8 b9 => hKK t' w' (by omega) ⟨v', b0, b1, b2, b3, b4, b5, b6, b7, b8, F1.trans b9 (fun _ h => .inl h)⟩)
  · have : k = m := by omega
    subst this
    exact tx_end (F1.cellSome (p := ⟨g, 33, none⟩) nS hC33) t hn1 p0 p2 p4 p8 p9 p7 (fun t' b0 b1 => hQ t' w1 v b0 b1 hO1 F1)
set_option maxRecDepth 100000 in
set_option maxHeartbeats 6400000 in
theorem tx_any (id : List UInt8) (z : Int) (ah : List UInt8) (ra la : Option Addr) (m rc lc : Nat) (R L : List (List UInt8)) (w : World) (hn6 : id.length ≤ 60000) (hah : ah.length = 32) (hRm : R.length = m) (hLm : L.length = m) (hm12 : m ≤ 12) (hK : Kv w ra R) (hKL : Kv w la L) :
    Calls Tryd.prog 20 #[.string ⟨id.toArray⟩, .agg (pastRow z ah (.slice ra m rc)), .slice la m lc] w fun e w' => (∃ v, e = .returned v ∧ Os w' w.heap.size v (Ck.tx id z R L ah m)) ∧ Fr (fun _ => False) w w' := by
  obtain ⟨C, hC, hC34, hC0, hC33, hC1⟩ := past_facts z (.slice ra m rc) ah hah
  rw [← hC]
  have HAH := Lib.hid hah
  have HC := Lib.hid (And.intro hC34 (And.intro hC1 (And.intro hC0 hC33)))
  have HH := Lib.hid (And.intro hm12 (And.intro hRm (And.intro hLm (And.intro hn6 (And.intro hK hKL)))))
  have K1 := (Kn.start w).new w.heap.size 34 C 34 rfl hC34
  have s32 : (Tryd.prog.info? 23).map (·.size) = some 32 := sz32
  clear hah hC hC34 hC0 hC33 hC1 hm12 hRm hLm hn6 hK hKL
  go_enter Tryd.func20, Tryd.ntmps20
  go_wp2_with (first | (focus (refine wpList_load_pt K1 rfl 23 (.tmp 10) rfl 0 w.heap.size 34 1 32 C (krow ah) 34 rfl _ Tryd.underlying23 rfl s32 rfl HC.out.2.1 (by rw [krow_size]; exact HAH.out) ?_; (try simp only [Act.put, List.setIfInBounds_toArray, List.set_cons_zero, List.set_cons_succ]))) | (focus (rw [zero32]; refine wpList_store_rowA rfl 23 (.tmp 8) (.tmp 11) rfl (w.heap.size + 1) (krow ah) rfl rfl 23 _ (heap_alloc2_new w _ _) (sz32' HAH.out) (by rw [ub_size, krow_size, HAH.out]) (krow_one _) ?_; intro w2 B2 F2; simp only [Act.put, List.setIfInBounds_toArray, List.set_cons_zero, List.set_cons_succ]; refine Hid.out ?_)))
  have C2 := (F2.block w.heap.size (lt_of_block (heap_alloc2_old w (.cells C 34) (.cells (ub 32 (fun _ => 0)) 23))) (by omega)).trans (heap_alloc2_old w (.cells C 34) (.cells (ub 32 (fun _ => 0)) 23))
  have G2 : Fr (fun _ => False) w w2 := (((Fr.refl (fun _ => False) w).alloc (.cells C 34)).alloc (.cells (ub 32 (fun _ => 0)) 23)).trans F2 (fun i hi => .inr (by omega))
  have HC2 := Lib.hid C2
  have HB2 := Lib.hid B2
  have HG2 := Lib.hid G2
  have HSZ := Lib.hid (lt_of_block B2)
  clear F2 G2 C2 B2 K1
  refine Lib.hid ?_
  go_wp2_with fail
  refine tx_loop (C := C) (w0 := w) (g := w.heap.size) (b := w.heap.size + 1) (Z := w2.heap.size) (R := R) (L := L) (z := z) (id := id) (ra := ra) (rc := rc) HH.out.1 HH.out.2.1 HH.out.2.2.1 HAH.out HH.out.2.2.2.1 HG2.out (by omega) HG2.out.size ((cell_of_block HC2.out _).trans HC.out.2.2.1) ((cell_of_block HC2.out _).trans HC.out.2.2.2) (by omega) (by have := HSZ.out; omega) HB2.out HH.out.2.2.2.2.1 HH.out.2.2.2.2.2 HSZ.out (Nat.le_refl _) _ (by first | rfl | simp) rfl rfl rfl rfl rfl rfl ?_
  intro t' w4 v hn p7 hO4 F4
  have HO := Lib.hid (And.intro (own_up hO4 HG2.out.size) (HG2.out.trans F4 (fun i hi => .inr (by rcases hi with h | h; omega; exact Nat.le_trans HG2.out.size h))))
  clear hO4 F4
  obtain ⟨f, hff, rfl⟩ := frame_open hn
  have e7 := hff 7 _ p7
  clear hff hn p7
  rw [lit44, e7]
  clear e7
  go_wp2_with fail
  go_ret
  exact ⟨⟨_, rfl, HO.out.1⟩, HO.out.2⟩
end Go.Proofs.YtikdgjgcopjocaaDoor
namespace Go.Proofs.YtikdgjgcopjocaaDoor
open Go.RowKit
set_option linter.unusedVariables false
set_option linter.unusedSimpArgs false
set_option maxRecDepth 100000 in
theorem byte_eq {a b : Nat} (h : UInt8.ofNat a = UInt8.ofNat b) : a % 256 = b % 256 := by
  have := congrArg UInt8.toNat h
  rwa [UInt8.toNat_ofNat', UInt8.toNat_ofNat'] at this
set_option maxRecDepth 100000 in
theorem be8_inj (u v : Nat) (hu : u < 18446744073709551616) (hv : v < 18446744073709551616) (h : S2.be8 u = S2.be8 v) : u = v := by
  have g : ∀ j, j < 8 → (u / 2 ^ (56 - 8 * j)) % 256 = (v / 2 ^ (56 - 8 * j)) % 256 := fun j hj => by
    have h2 := congrArg (fun l => l[j]?) h
    simp only [S2.be8, List.getElem?_map, List.getElem?_range hj, Option.map_some, Option.some.injEq] at h2
    exact byte_eq h2
  have g0 : u / 72057594037927936 % 256 = v / 72057594037927936 % 256 := g 0 (by decide)
  have g1 : u / 281474976710656 % 256 = v / 281474976710656 % 256 := g 1 (by decide)
  have g2 : u / 1099511627776 % 256 = v / 1099511627776 % 256 := g 2 (by decide)
  have g3 : u / 4294967296 % 256 = v / 4294967296 % 256 := g 3 (by decide)
  have g4 : u / 16777216 % 256 = v / 16777216 % 256 := g 4 (by decide)
  have g5 : u / 65536 % 256 = v / 65536 % 256 := g 5 (by decide)
  have g6 : u / 256 % 256 = v / 256 % 256 := g 6 (by decide)
  have g7 : u / 1 % 256 = v / 1 % 256 := g 7 (by decide)
  clear g h
  omega
set_option maxRecDepth 100000 in
theorem Ck.prev_hd {id : List UInt8} {z : Int} {R : List (List UInt8)} {a : List UInt8} {n k : Nat} (hk : k < n) : Ck.prev (Ck.links id z R a n) a k = Ck.hd id z R a k := by
  cases k with
  | zero => rfl
  | succ k => show (Ck.links id z R a n).getD k [] = _; rw [Ck.links_get (by omega)]
set_option maxRecDepth 100000 in
theorem CH.text_inj {id r r' a a' : List UInt8} {u u' : Nat} (hr : r.length = r'.length) (ha : a.length = a'.length) (hu : u < 18446744073709551616) (hu' : u' < 18446744073709551616) (h : CH.text id u r a = CH.text id u' r' a') : u = u' ∧ r = r' ∧ a = a' := by
  unfold CH.text at h
  obtain ⟨h1, h2⟩ := List.append_inj' h ha
  obtain ⟨h3, h4⟩ := List.append_inj' h1 hr
  exact ⟨be8_inj _ _ hu hu' (List.append_cancel_left h3), h4, h2⟩
set_option maxRecDepth 100000 in
theorem Ck.ep_lt (z : Int) (k : Nat) : Ck.ep z k < 18446744073709551616 := by
  unfold Ck.ep
  have h0 := Int.emod_nonneg (z + k) (show (18446744073709551616 : Int) ≠ 0 by decide)
  have h1 := Int.emod_lt_of_pos (z + k) (show (0 : Int) < 18446744073709551616 by decide)
  omega
set_option maxRecDepth 100000 in
theorem Ck.ep_inj {z z' : Int} {k : Nat} (h1 : -9223372036854775808 ≤ z) (h2 : z ≤ 9223372036854775807) (h3 : -9223372036854775808 ≤ z') (h4 : z' ≤ 9223372036854775807) (h : Ck.ep z k = Ck.ep z' k) : z = z' := by
  unfold Ck.ep at h
  have a0 := Int.emod_nonneg (z + k) (show (18446744073709551616 : Int) ≠ 0 by decide)
  have b0 := Int.emod_nonneg (z' + k) (show (18446744073709551616 : Int) ≠ 0 by decide)
  omega
set_option maxRecDepth 100000 in
theorem Ck.must {id : List UInt8} {z z' : Int} {R R' : List (List UInt8)} {a a' : List UInt8} {n : Nat} (hn : 0 < n) (hz1 : -9223372036854775808 ≤ z) (hz2 : z ≤ 9223372036854775807) (hz3 : -9223372036854775808 ≤ z') (hz4 : z' ≤ 9223372036854775807) (hR : Lg.All32 R) (hR' : Lg.All32 R') (hRn : R.length = n) (hRn' : R'.length = n) (ha : a.length = 32) (ha' : a'.length = 32) (hl : Ck.hd id z R a n = Ck.hd id z' R' a' n) (hne : ¬ (z = z' ∧ a = a' ∧ R = R')) :
    ∃ i, i < n ∧ Cl.at (Ck.tx id z R (Ck.links id z R a n) a n) (Ck.tx id z' R' (Ck.links id z' R' a' n) a' n) i i = true := by
  refine Classical.byContradiction fun hno => hne ?_
  have hat : ∀ (P : List (List UInt8)), Lg.All32 P → P.length = n → ∀ k, k < n → (P.getD k []).length = 32 := fun P hP hPn k hk => by
    rw [List.getD_eq_getElem?_getD, List.getElem?_eq_getElem (by omega)]; exact hP _ (List.getElem_mem _)
  have step : ∀ k, k < n → Ck.hd id z R a (k + 1) = Ck.hd id z' R' a' (k + 1) → Ck.ep z k = Ck.ep z' k ∧ R.getD k [] = R'.getD k [] ∧ Ck.hd id z R a k = Ck.hd id z' R' a' k := by
    intro k hk he
    have hcl : ¬ (Cl.at (Ck.tx id z R (Ck.links id z R a n) a n) (Ck.tx id z' R' (Ck.links id z' R' a' n) a' n) k k = true) := fun h => hno ⟨k, hk, h⟩
    unfold Cl.at at hcl
    rw [Ck.tx_get hk, Ck.tx_get hk, Ck.prev_hd hk, Ck.prev_hd hk] at hcl
    have hs : S2.sum (CH.text id (Ck.ep z k) (R.getD k []) (Ck.hd id z R a k)) = S2.sum (CH.text id (Ck.ep z' k) (R'.getD k []) (Ck.hd id z' R' a' k)) := he
    rw [hs, beq_self_eq_true, Bool.and_true] at hcl
    have ht : CH.text id (Ck.ep z k) (R.getD k []) (Ck.hd id z R a k) = CH.text id (Ck.ep z' k) (R'.getD k []) (Ck.hd id z' R' a' k) := by
      refine Classical.byContradiction fun h2 => hcl ?_
      rw [Bool.not_eq_true']
      exact beq_eq_false_iff_ne.2 h2
    exact CH.text_inj (by rw [hat R hR hRn k hk, hat R' hR' hRn' k hk]) (by rw [Ck.hd_len ha, Ck.hd_len ha']) (Ck.ep_lt _ _) (Ck.ep_lt _ _) ht
  have down : ∀ d, d ≤ n → Ck.hd id z R a (n - d) = Ck.hd id z' R' a' (n - d) := by
    intro d
    induction d with
    | zero => intro _; exact hl
    | succ d ih =>
      intro hd
      have := ih (by omega)
      have e : n - d = (n - (d + 1)) + 1 := by omega
      rw [e] at this
      exact (step _ (by omega) this).2.2
  have all : ∀ k, k < n → Ck.ep z k = Ck.ep z' k ∧ R.getD k [] = R'.getD k [] ∧ Ck.hd id z R a k = Ck.hd id z' R' a' k := fun k hk => step k hk (by
    have := down (n - (k + 1)) (by omega)
    have e : n - (n - (k + 1)) = k + 1 := by omega
    rwa [e] at this)
  refine ⟨Ck.ep_inj hz1 hz2 hz3 hz4 (all 0 hn).1, (all 0 hn).2.2, ?_⟩
  refine List.ext_getElem (by rw [hRn, hRn']) (fun j h1 h2 => ?_)
  have := (all j (by omega)).2.1
  rw [List.getD_eq_getElem?_getD, List.getD_eq_getElem?_getD, List.getElem?_eq_getElem h1, List.getElem?_eq_getElem h2] at this
  exact this
end Go.Proofs.YtikdgjgcopjocaaDoor

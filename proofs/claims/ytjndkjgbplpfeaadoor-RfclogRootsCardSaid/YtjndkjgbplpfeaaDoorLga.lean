/-
  The law RfclogRoots: its loop.
-/
import Derived.Test.YtjndkjgbplpfeaaDoorQLe
namespace Go.Proofs.YtjndkjgbplpfeaaDoor
open Go.RowKit
set_option linter.unusedVariables false
set_option linter.unusedSimpArgs false
set_option maxRecDepth 100000 in
theorem str_differ (l : List UInt8) (W : World) : (binOp .neq 9 (.string ⟨l.toArray⟩) (.string ⟨l.toArray⟩)).run Tryd.prog W = .ok (.bool false) W := by
  simp [binOp, Op.stringOp]
set_option maxRecDepth 100000 in
theorem lit103 (f : Nat → Value) : ((List.range 103).map f).toArray = (f 0 :: f 1 :: f 2 :: f 3 :: f 4 :: f 5 :: f 6 :: f 7 :: f 8 :: f 9 :: f 10 :: f 11 :: f 12 :: f 13 :: f 14 :: f 15 :: f 16 :: f 17 :: f 18 :: f 19 :: f 20 :: f 21 :: f 22 :: f 23 :: f 24 :: f 25 :: f 26 :: f 27 :: f 28 :: f 29 :: f 30 :: f 31 :: f 32 :: f 33 :: f 34 :: f 35 :: f 36 :: f 37 :: f 38 :: f 39 :: f 40 :: f 41 :: f 42 :: f 43 :: f 44 :: f 45 :: f 46 :: f 47 :: f 48 :: f 49 :: f 50 :: f 51 :: f 52 :: f 53 :: f 54 :: f 55 :: f 56 :: f 57 :: f 58 :: f 59 :: f 60 :: f 61 :: f 62 :: f 63 :: f 64 :: f 65 :: f 66 :: f 67 :: f 68 :: f 69 :: f 70 :: f 71 :: f 72 :: f 73 :: f 74 :: f 75 :: f 76 :: f 77 :: f 78 :: f 79 :: f 80 :: f 81 :: f 82 :: f 83 :: f 84 :: f 85 :: f 86 :: f 87 :: f 88 :: f 89 :: f 90 :: f 91 :: f 92 :: f 93 :: f 94 :: f 95 :: f 96 :: f 97 :: f 98 :: f 99 :: f 100 :: f 101 :: f 102 :: []).toArray := by kernel_rfl
set_option maxRecDepth 100000 in
set_option maxHeartbeats 6400000 in
theorem roots_in {KK : Act → World → Prop} {Q : Exit → Act → World → Prop} {w : World} {lb Z K cu i : Nat} {z : Int} {au : Option Addr} {v : Value} {LL : List (List UInt8)} (hi : i ≤ K) (hK20 : K ≤ 20) (hLK : LL.length = K) (hsm : ∀ x ∈ LL, x.length ≤ 60) (hcu : K ≤ cu) (hcm : cu ≤ maxLen) (hM : LM w lb Z v (LL.map Lg.leaf)) (hsv : Sv w au LL) (hE : Env w) (hR : REnv w) (fr : Array Value) (hn : fr.size = 103) (p1 : fr[1]? = some (.int .i64 z)) (p5 : fr[5]? = some (.pointer (some ⟨lb, 0, none⟩))) (p6 : fr[6]? = some (.slice au K cu)) (p7 : fr[7]? = some (.int .i64 (i : Int)))
    (hK : ∀ t' w', t'.size = 103 → t'[1]? = some (.int .i64 z) → t'[5]? = some (.pointer (some ⟨lb, 0, none⟩)) → t'[6]? = some (.slice au K cu) → t'[7]? = some (.int .i64 ((i + 1 : Nat) : Int)) → Fr (fun _ => False) w w' → KK ⟨t', []⟩ w') :
    Code.wp Tryd.prog (loopAt Tryd.f3 0) (Exit.then KK Q) ⟨fr, []⟩ w := by
  have q1 : (i : Int) ≤ (K : Int) := by omega
  have q4 : (0 : Int) ≤ (i : Int) := Int.natCast_nonneg i
  have q5 : i ≤ cu := by omega
  have q6 : (i : Int) ≤ (cu : Int) := by omega
  have W1 : wrap64 ((i : Int) + 1) = ((i + 1 : Nat) : Int) := by rw [IntWalk.wrap64_in _ (by omega)]; omega
  have HRM := Lib.hid (root_m lb Z v (LL.map Lg.leaf) i (by rw [List.length_map]; omega) (by rw [List.length_map]; omega) w hM hE)
  have HRL := Lib.hid (Lg.root_len (hM.all.take i))
  have HRR := Lib.hid (fun (W : World) (F : Fr (fun _ => False) w W) => rroot_any i au cu (LL.take i) i W (by rw [List.length_take]; omega) (by rw [List.length_take]; omega) q5 hcm (fun x hx => Nat.le_trans (hsm x (List.mem_of_mem_take hx)) (by decide)) ((hsv.take i).ext F) (hR.ext F))
  rw [← List.map_take] at HRM HRL
  generalize hrt : Lg.root ((LL.take i).map Lg.leaf) = rt at *
  have HK := Lib.hid hK
  clear hK hM hsv hE hR hsm hcm hcu hLK hrt
  obtain ⟨f, hff, rfl⟩ := frame_open hn
  have e1 := hff 1 _ p1
  have e5 := hff 5 _ p5
  have e6 := hff 6 _ p6
  have e7 := hff 7 _ p7
  clear hff hn p1 p5 p6 p7
  rw [lit103, e1, e5, e6, e7]
  clear e1 e5 e6 e7
  conv => arg 2; whnf
  go_wp2_with fail
  refine HRM.out.mono ?_
  rintro e w2 ⟨rfl, F2⟩
  have HF2 := Lib.hid F2
  clear F2
  go_wp2_with (rw [zero32]; refine wpList_store_rowA rfl 31 (.tmp 8) (.tmp 47) rfl w2.heap.size (krow rt) rfl rfl 31 _ (heap_alloc_new _ _) (sz32' HRL.out) (by rw [ub_size, krow_size, HRL.out]) (krow_one _) ?_; intro w3 B F; simp only [Act.put, List.setIfInBounds_toArray, List.set_cons_zero, List.set_cons_succ]; refine Hid.out ?_)
  have G3 : Fr (fun _ => False) w w3 := (HF2.out.alloc (.cells (ub 32 (fun _ => 0)) 31)).trans F (fun k hk => .inr (by rw [hk]; exact HF2.out.size))
  have C1 : Came w3 (some ⟨w2.heap.size, 0, none⟩) 32 32 rt := by have := came_row B (by rw [HRL.out]; decide); rwa [HRL.out] at this
  have HC1 := Lib.hid C1
  have HB3 := Lib.hid B
  have HG3 := Lib.hid G3
  have HR3 := Lib.hid (show ∀ (W : World) (F : Fr (fun _ => False) w3 W), Calls Tryd.prog 14 #[.slice au i cu] W fun e w' => e = .returned (.string ⟨rt.toArray⟩) ∧ Fr (fun _ => False) W w' from fun W F => HRR.out W (G3.trans F (fun _ h => h.elim)))
  clear B F G3 HF2 C1 HRM HRR
  refine Lib.hid ?_
  have k1 := fun (x : Wd w3) => (HC1.out.ext x.h).str2
  have k3 : ∀ W : World, (binOp .neq 9 (.string ⟨rt.toArray⟩) (.string ⟨rt.toArray⟩)).run Tryd.prog W = .ok (.bool false) W := fun W => str_differ _ W
  go_wp2_with fail
  refine wp_region_keep (by kernel_rfl) (by kernel_rfl) ?_
  repeat (any_goals (first | go_big_quiet_step (first | exact Calls.keep (HR3.out _ (Wd.h _))) | quiet_step (fail)))
  refine wpQuiet_nil ?_
  intro _ hwz
  obtain ⟨y, rfl⟩ := hwz
  go_wp2_with fail
  exact HK.out _ _ (by first | rfl | simp) rfl rfl rfl (congrArg (fun z => some (Value.int .i64 z)) (show (i : Int) + 1 = ((i + 1 : Nat) : Int) by omega)) (HG3.out.trans y.h (fun _ h => h.elim))
set_option maxRecDepth 100000 in
set_option maxHeartbeats 6400000 in
theorem roots_end {KK : Act → World → Prop} {Q : Exit → Act → World → Prop} {w : World} {lb K cu : Nat} {z : Int} {au : Option Addr} (fr : Array Value) (hn : fr.size = 103) (p1 : fr[1]? = some (.int .i64 z)) (p5 : fr[5]? = some (.pointer (some ⟨lb, 0, none⟩))) (p6 : fr[6]? = some (.slice au K cu)) (p7 : fr[7]? = some (.int .i64 ((K + 1 : Nat) : Int)))
    (hQ : ∀ t', t'.size = 103 → t'[1]? = some (.int .i64 z) → t'[5]? = some (.pointer (some ⟨lb, 0, none⟩)) → t'[6]? = some (.slice au K cu) → Q (.exit 0) ⟨t', []⟩ w) :
    Code.wp Tryd.prog (loopAt Tryd.f3 0) (Exit.then KK Q) ⟨fr, []⟩ w := by
  have q2 : ¬ (((K + 1 : Nat) : Int) ≤ (K : Int)) := by omega
  have HK := Lib.hid hQ
  clear hQ
  generalize hj : K + 1 = j at *
  have q3 : ¬ (j ≤ K) := by omega
  clear hj
  obtain ⟨f, hff, rfl⟩ := frame_open hn
  have e1 := hff 1 _ p1
  have e5 := hff 5 _ p5
  have e6 := hff 6 _ p6
  have e7 := hff 7 _ p7
  clear hff hn p1 p5 p6 p7
  rw [lit103, e1, e5, e6, e7]
  clear e1 e5 e6 e7
  conv => arg 2; whnf
  go_wp2_with fail
  exact HK.out _ (by first | rfl | simp) rfl rfl rfl
set_option maxRecDepth 100000 in
set_option maxHeartbeats 6400000 in
theorem roots_loop {Q : Exit → Act → World → Prop} {w : World} {lb Z K cu : Nat} {z : Int} {au : Option Addr} {v : Value} {LL : List (List UInt8)} (hK20 : K ≤ 20) (hLK : LL.length = K) (hsm : ∀ x ∈ LL, x.length ≤ 60) (hcu : K ≤ cu) (hcm : cu ≤ maxLen) (hM : LM w lb Z v (LL.map Lg.leaf)) (hsv : Sv w au LL) (hE : Env w) (hR : REnv w) (fr : Array Value) (hn : fr.size = 103) (p1 : fr[1]? = some (.int .i64 z)) (p5 : fr[5]? = some (.pointer (some ⟨lb, 0, none⟩))) (p6 : fr[6]? = some (.slice au K cu)) (p7 : fr[7]? = some (.int .i64 (0 : Int)))
    (hQ : ∀ t' w', t'.size = 103 → t'[1]? = some (.int .i64 z) → t'[5]? = some (.pointer (some ⟨lb, 0, none⟩)) → t'[6]? = some (.slice au K cu) → Fr (fun _ => False) w w' → Q (.exit 0) ⟨t', []⟩ w') :
    Code.wp Tryd.prog (.loop (loopAt Tryd.f3 0)) Q ⟨fr, []⟩ w := by
  refine wp_loop_up (K + 1) (fun i t w' => t.size = 103 ∧ t[1]? = some (.int .i64 z) ∧ t[5]? = some (.pointer (some ⟨lb, 0, none⟩)) ∧ t[6]? = some (.slice au K cu) ∧ t[7]? = some (.int .i64 (i : Int)) ∧ Fr (fun _ => False) w w') fr w ⟨hn, p1, p5, p6, p7, Fr.refl _ _⟩ ?_
  rintro i t w1 hi ⟨hn1, p1, p5, p6, p7, F1⟩ KK hKK
  by_cases hlt : i ≤ K
  · exact roots_in hlt hK20 hLK hsm hcu hcm (hM.ext F1) (hsv.ext F1) (hE.ext F1) (hR.ext F1) t hn1 p1 p5 p6 p7 (fun t' w' b0 b1 b2 b3 b4 b5 => hKK t' w' (by omega) ⟨b0, b1, b2, b3, b4, F1.trans b5 (fun _ h => h.elim)⟩)
  · have : i = K + 1 := by omega
    subst this
    exact roots_end t hn1 p1 p5 p6 p7 (fun t' b0 b1 b2 b3 => hQ t' w1 b0 b1 b2 b3 F1)
end Go.Proofs.YtjndkjgbplpfeaaDoor

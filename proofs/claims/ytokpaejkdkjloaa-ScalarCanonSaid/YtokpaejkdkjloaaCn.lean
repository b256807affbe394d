/-
  The walk of the law ScalarCanon.
-/
import Derived.Test.YtokpaejkdkjloaaCa
import Derived.Test.YtokpaejkdkjloaaCp
import Derived.Test.YtokpaejkdkjloaaOa
import Derived.Test.YtokpaejkdkjloaaLo
import Derived.Test.YtokpaejkdkjloaaSm
import Derived.Test.YtokpaejkdkjloaaKp
import Derived.Deep.RegionHeld3
namespace Go.Proofs.Ytokpaejkdkjloaa
open Go.RowKit
set_option linter.unusedVariables false


set_option maxRecDepth 100000 in
set_option maxHeartbeats 100000000 in
theorem scanonl_t (VB VM VC cs ds : List Value) (SL SB SC : ByteArray) (n0 n1 n2 n3 m0 m1 m2 m3 x0 x1 x2 x3 : Nat) (w : World)
    (CA : ∀ W : World, Calls Try.prog 70 #[.agg VB.toArray] W fun e w' => e = .returned (.tuple #[.agg #[.int .u64 (n0 : Int), .int .u64 (n1 : Int), .int .u64 (n2 : Int), .int .u64 (n3 : Int)], .bool true]) ∧ Fr (fun _ => False) W w')
    (OF : ∀ W : World, Calls Try.prog 71 #[.string SL] W fun e w' => e = .returned (.agg cs.toArray) ∧ Fr (fun _ => False) W w')
    (BY : ∀ W : World, Calls Try.prog 67 #[.agg cs.toArray] W fun e w' => e = .returned (.string SB) ∧ Fr (fun _ => False) W w')
    (SY : ∀ W : World, Calls Try.prog 58 #[.agg #[.int .u64 (x0 : Int), .int .u64 (x1 : Int), .int .u64 (x2 : Int), .int .u64 (x3 : Int)]] W fun e w' => e = .returned (.agg VM.toArray) ∧ Fr (fun _ => False) W w')
    (CM : ∀ W : World, Calls Try.prog 70 #[.agg VM.toArray] W fun e w' => e = .returned (.tuple #[.agg #[.int .u64 (m0 : Int), .int .u64 (m1 : Int), .int .u64 (m2 : Int), .int .u64 (m3 : Int)], .bool true]) ∧ Fr (fun _ => False) W w')
    (CL : ∀ W : World, Calls Try.prog 72 #[.agg VB.toArray] W fun e w' => e = .returned (.agg VC.toArray) ∧ Fr (fun _ => False) W w')
    (CR : ∀ W : World, Calls Try.prog 73 #[.string SL] W fun e w' => e = .returned (.string SC) ∧ Fr (fun _ => False) W w')
    (OR : ∀ W : World, Calls Try.prog 59 #[] W fun e w' => e = .returned (.bool true) ∧ Fr (fun _ => False) W w')
    (SA : ∀ W : World, Calls Try.prog 60 #[.agg #[.int .u64 (n0 : Int), .int .u64 (n1 : Int), .int .u64 (n2 : Int), .int .u64 (n3 : Int)], .agg cs.toArray] W fun e w' => e = .returned (.bool true) ∧ Fr (fun _ => False) W w')
    (LO : ∀ W : World, Calls Try.prog 57 #[.agg #[.int .u64 (x0 : Int), .int .u64 (x1 : Int), .int .u64 (x2 : Int), .int .u64 (x3 : Int)]] W fun e w' => e = .returned (.agg ds.toArray) ∧ Fr (fun _ => False) W w')
    (SM : ∀ W : World, Calls Try.prog 60 #[.agg #[.int .u64 (m0 : Int), .int .u64 (m1 : Int), .int .u64 (m2 : Int), .int .u64 (m3 : Int)], .agg ds.toArray] W fun e w' => e = .returned (.bool true) ∧ Fr (fun _ => False) W w')
    (str1 : ∀ W : World, W.heap[w.heap.size]? = some (.cells VB.toArray 36 (0, 0)) → (convert 40 9 (.slice (some ⟨w.heap.size, 0, none⟩) 32 32)).run Try.prog W = .ok (.string SL) W)
    (str2 : ∀ (b : Nat) (W : World), W.heap[b]? = some (.cells VC.toArray 36 (0, 0)) → (convert 40 9 (.slice (some ⟨b, 0, none⟩) 32 32)).run Try.prog W = .ok (.string SC) W)
    (c0 c1 c2 c3 c4 c5 c6 c7 c8 c9 c10 c11 c12 c13 c14 c15 : Int) (hce : cs = [.int .i64 c0, .int .i64 c1, .int .i64 c2, .int .i64 c3, .int .i64 c4, .int .i64 c5, .int .i64 c6, .int .i64 c7, .int .i64 c8, .int .i64 c9, .int .i64 c10, .int .i64 c11, .int .i64 c12, .int .i64 c13, .int .i64 c14, .int .i64 c15])
    (eqs : (SB.toList == SL.toList) = true)
    (hb : VB.length = 32) (hc : VC.length = 32) (hcs : cs.length = 16) (oneB : ∀ v ∈ VB, v.oneCell' = true) (oneC : ∀ v ∈ VC, v.oneCell' = true) (oneS : ∀ v ∈ cs, v.oneCell' = true) :
    Calls Try.prog 13 #[.agg VB.toArray, .agg #[.int .u64 (x0 : Int), .int .u64 (x1 : Int), .int .u64 (x2 : Int), .int .u64 (x3 : Int)]] w fun e w' => e = .returned (.bool true) ∧ Fr (fun _ => False) w w' := by
  have HCE := Lib.hid hce
  clear hce
  have B0 := heap_alloc2_old w (.cells VB.toArray 36) (.cells #[.int .u64 (x0 : Int), .int .u64 (x1 : Int), .int .u64 (x2 : Int), .int .u64 (x3 : Int)] 77)
  have X0 := heap_alloc2_new w (.cells VB.toArray 36) (.cells #[.int .u64 (x0 : Int), .int .u64 (x1 : Int), .int .u64 (x2 : Int), .int .u64 (x3 : Int)] 77)
  have F0 : Fr (fun _ => False) w ((w.alloc (.cells VB.toArray 36)).alloc (.cells #[.int .u64 (x0 : Int), .int .u64 (x1 : Int), .int .u64 (x2 : Int), .int .u64 (x3 : Int)] 77)) := ((Fr.refl _ w).alloc _).alloc _
  have sB : (Try.prog.info? 36).map (·.size) = some VB.toArray.size := by rw [List.size_toArray, hb]; kernel_rfl
  have sS : (Try.prog.info? 78).map (·.size) = some cs.toArray.size := by rw [List.size_toArray, hcs]; kernel_rfl
  generalize hVBA : VB.toArray = VA at *
  go_enter Try.func13, Try.ntmps13
  go_wp2_with (with_reducible refine wpList_load_row rfl 36 (.tmp 2) rfl w.heap.size rfl 36 VA (0, 0) _ B0 Try.underlying36 rfl sB ?_)
  refine (CA _).mono ?_
  rintro e w1 ⟨rfl, F1⟩
  have B1 := F1.keepM B0
  have X1 := F1.keepM X0
  have G1 := F0.trans F1 (fun _ h => h.elim)
  clear F0 F1 B0 X0
  generalize hZ : w.heap.size = Z at *
  have hs2 := str1 (w1.alloc (.cells #[.int .u64 (n0 : Int), .int .u64 (n1 : Int), .int .u64 (n2 : Int), .int .u64 (n3 : Int)] 77)) ((Below.heap_alloc _ _ _ (lt_of_block B1)).trans B1)
  have N2 := heap_alloc_new w1 (.cells #[.int .u64 (n0 : Int), .int .u64 (n1 : Int), .int .u64 (n2 : Int), .int .u64 (n3 : Int)] 77)
  have B2 := (Below.heap_alloc w1 (.cells #[.int .u64 (n0 : Int), .int .u64 (n1 : Int), .int .u64 (n2 : Int), .int .u64 (n3 : Int)] 77) _ (lt_of_block B1)).trans B1
  have X2 := (Below.heap_alloc w1 (.cells #[.int .u64 (n0 : Int), .int .u64 (n1 : Int), .int .u64 (n2 : Int), .int .u64 (n3 : Int)] 77) _ (lt_of_block X1)).trans X1
  have G2 := G1.alloc (.cells #[.int .u64 (n0 : Int), .int .u64 (n1 : Int), .int .u64 (n2 : Int), .int .u64 (n3 : Int)] 77)
  go_wp2_with fail
  refine (OF _).mono ?_
  generalize hV5 : w1.heap.size = V5 at *
  generalize w1.alloc (.cells #[.int .u64 (n0 : Int), .int .u64 (n1 : Int), .int .u64 (n2 : Int), .int .u64 (n3 : Int)] 77) = W2 at *
  rintro e w3 ⟨rfl, F3⟩
  have B3 := F3.keepM B2
  have X3 := F3.keepM X2
  have N3 := F3.keepM N2
  have G3 := G2.trans F3 (fun _ h => h.elim)
  clear F3 B2 X2 N2 G2 hs2 B1 X1 G1
  have C3 := heap_alloc_new w3 (.cells #[.int .i64 0, .int .i64 0, .int .i64 0, .int .i64 0, .int .i64 0, .int .i64 0, .int .i64 0, .int .i64 0, .int .i64 0, .int .i64 0, .int .i64 0, .int .i64 0, .int .i64 0, .int .i64 0, .int .i64 0, .int .i64 0] 78)
  have s1 : (#[.int .i64 0, .int .i64 0, .int .i64 0, .int .i64 0, .int .i64 0, .int .i64 0, .int .i64 0, .int .i64 0, .int .i64 0, .int .i64 0, .int .i64 0, .int .i64 0, .int .i64 0, .int .i64 0, .int .i64 0, .int .i64 0] : Array Value).size = cs.toArray.size := by rw [show cs.toArray.size = 16 by simpa using hcs]; rfl
  have oneA : cs.toArray.all (·.oneCell') = true := by rw [List.all_toArray, List.all_eq_true]; exact oneS
  have F4 : Fr (fun _ => False) w3 ((w3.alloc (.cells #[.int .i64 0, .int .i64 0, .int .i64 0, .int .i64 0, .int .i64 0, .int .i64 0, .int .i64 0, .int .i64 0, .int .i64 0, .int .i64 0, .int .i64 0, .int .i64 0, .int .i64 0, .int .i64 0, .int .i64 0, .int .i64 0] 78)).setRow w3.heap.size cs.toArray) := ((Fr.refl _ w3).alloc _).trans (Fr.setRow (S := fun k => k = w3.heap.size) (Fr.refl _ _) rfl _) (fun i hi => Or.inr (by omega))
  have C4 := setRow_heap _ _ _ cs.toArray _ _ C3
  go_wp2_with (with_reducible refine wpList_store_row rfl 78 (.tmp 7) (.tmp 19) rfl w3.heap.size cs.toArray rfl rfl 78 #[.int .i64 0, .int .i64 0, .int .i64 0, .int .i64 0, .int .i64 0, .int .i64 0, .int .i64 0, .int .i64 0, .int .i64 0, .int .i64 0, .int .i64 0, .int .i64 0, .int .i64 0, .int .i64 0, .int .i64 0, .int .i64 0] C3 sS s1 oneA ?_)
  have B4 := F4.keepM B3
  have X4 := F4.keepM X3
  have N4 := F4.keepM N3
  have G4 := G3.trans F4 (fun _ h => h.elim)
  have hs4 := str1 _ B4
  generalize hV7 : w3.heap.size = V7 at *
  clear F4 C3 B3 X3 N3 G3 s1
  generalize (w3.alloc (.cells #[.int .i64 0, .int .i64 0, .int .i64 0, .int .i64 0, .int .i64 0, .int .i64 0, .int .i64 0, .int .i64 0, .int .i64 0, .int .i64 0, .int .i64 0, .int .i64 0, .int .i64 0, .int .i64 0, .int .i64 0, .int .i64 0] 78)).setRow V7 cs.toArray = W4 at *
  have HB := Lib.hid B4
  have HX := Lib.hid X4
  have HN := Lib.hid N4
  have HC := Lib.hid C4
  have HG := Lib.hid G4
  have HSTR := Lib.hid str1
  have hS : ∀ w' : World, Fr (fun _ => False) W4 w' → (Fr (fun _ => False) W4 w' ∧ (convert 40 9 (.slice (some ⟨Z, 0, none⟩) 32 32)).run Try.prog w' = .ok (.string SL) w' ∧ w'.rangeAt V7 0 cs) := fun w' F =>
    ⟨F, HSTR.out w' (F.keepM HB.out), fun j v hv => by rw [Nat.zero_add, cell_of_block (F.keepM HC.out)]; simpa using hv⟩
  obtain ⟨_, j0, j1⟩ := hS W4 (Fr.refl _ _)
  have hu := Try.underlying78
  have hi : (Try.prog.info? 78).map (·.size) = some cs.length := by rw [hcs]; kernel_rfl
  clear B4 X4 N4 C4 G4 str1 hs4 sS
  go_region_held3 (fun w' => Fr (fun _ => False) W4 w' ∧ (convert 40 9 (.slice (some ⟨Z, 0, none⟩) 32 32)).run Try.prog w' = .ok (.string SL) w' ∧ w'.rangeAt V7 0 cs)
    ((first | (exact hS _ (by assumption)) | (exact hS _ (Fr.refl _ W4).drew) | (exact hS _ (Fr.refl _ W4)) | (exact hS _ (‹Fr (fun _ => False) W4 _ ∧ _›).1) | (exact hS _ (‹Fr (fun _ => False) W4 _ ∧ _›).1.drew)))
    ((go_at_call 67
      with_reducible refine (BY _).mono ?_
      rintro e w5 ⟨rfl, F5⟩
      have S5 : Fr (fun _ => False) W4 w5 := (‹Fr (fun _ => False) W4 _ ∧ _›).1.trans F5 (fun _ h => h.elim)
      clear F5))
  clear j0 j1 hS hu hi BY eqs OF CA
  have B5 := S5.keepM HB.out
  have X5 := S5.keepM HX.out
  have N5 := S5.keepM HN.out
  have C5 := S5.keepM HC.out
  have G5 := HG.out.trans S5 (fun _ h => h.elim)
  clear S5 HB HX HN HC HG
  obtain ⟨i0, i1, i2, i3, i4, i5, i6, i7⟩ := blk4 X5
  clear i4 i5 i6 i7
  go_wp2_with fail
  refine (SY _).mono ?_
  rintro e w6 ⟨rfl, F6⟩
  clear i0 i1 i2 i3
  go_wp2_with fail
  refine (CM _).mono ?_
  rintro e w7 ⟨rfl, F7⟩
  have F7 := F6.trans F7 (fun _ h => h.elim)
  have M8 := heap_alloc_new w7 (.cells #[.int .u64 (m0 : Int), .int .u64 (m1 : Int), .int .u64 (m2 : Int), .int .u64 (m3 : Int)] 77)
  have F8 := F7.alloc (.cells #[.int .u64 (m0 : Int), .int .u64 (m1 : Int), .int .u64 (m2 : Int), .int .u64 (m3 : Int)] 77)
  have B8 := F8.keepM B5
  have X8 := F8.keepM X5
  have N8 := F8.keepM N5
  have C8 := F8.keepM C5
  have G8 := G5.trans F8 (fun _ h => h.elim)
  clear B5 X5 N5 C5 G5 F8 F7 F6 SY CM
  go_wp2_with (with_reducible refine wpList_load_row rfl 36 (.tmp 2) rfl Z rfl 36 VA (0, 0) _ B8 Try.underlying36 rfl sB ?_)
  refine (CL _).mono ?_
  generalize hV9 : w7.heap.size = V9 at *
  generalize w7.alloc (.cells #[.int .u64 (m0 : Int), .int .u64 (m1 : Int), .int .u64 (m2 : Int), .int .u64 (m3 : Int)] 77) = W8 at *
  rintro e w9 ⟨rfl, F9⟩
  have K9 := heap_alloc_new w9 (.cells #[.int .u8 0, .int .u8 0, .int .u8 0, .int .u8 0, .int .u8 0, .int .u8 0, .int .u8 0, .int .u8 0, .int .u8 0, .int .u8 0, .int .u8 0, .int .u8 0, .int .u8 0, .int .u8 0, .int .u8 0, .int .u8 0, .int .u8 0, .int .u8 0, .int .u8 0, .int .u8 0, .int .u8 0, .int .u8 0, .int .u8 0, .int .u8 0, .int .u8 0, .int .u8 0, .int .u8 0, .int .u8 0, .int .u8 0, .int .u8 0, .int .u8 0, .int .u8 0] 36)
  have sC : (Try.prog.info? 36).map (·.size) = some VC.toArray.size := by rw [show VC.toArray.size = 32 by simpa using hc]; kernel_rfl
  have s1 : (#[.int .u8 0, .int .u8 0, .int .u8 0, .int .u8 0, .int .u8 0, .int .u8 0, .int .u8 0, .int .u8 0, .int .u8 0, .int .u8 0, .int .u8 0, .int .u8 0, .int .u8 0, .int .u8 0, .int .u8 0, .int .u8 0, .int .u8 0, .int .u8 0, .int .u8 0, .int .u8 0, .int .u8 0, .int .u8 0, .int .u8 0, .int .u8 0, .int .u8 0, .int .u8 0, .int .u8 0, .int .u8 0, .int .u8 0, .int .u8 0, .int .u8 0, .int .u8 0] : Array Value).size = VC.toArray.size := by rw [show VC.toArray.size = 32 by simpa using hc]; rfl
  have oneA2 : VC.toArray.all (·.oneCell') = true := by rw [List.all_toArray, List.all_eq_true]; exact oneC
  have FA : Fr (fun _ => False) w9 ((w9.alloc (.cells #[.int .u8 0, .int .u8 0, .int .u8 0, .int .u8 0, .int .u8 0, .int .u8 0, .int .u8 0, .int .u8 0, .int .u8 0, .int .u8 0, .int .u8 0, .int .u8 0, .int .u8 0, .int .u8 0, .int .u8 0, .int .u8 0, .int .u8 0, .int .u8 0, .int .u8 0, .int .u8 0, .int .u8 0, .int .u8 0, .int .u8 0, .int .u8 0, .int .u8 0, .int .u8 0, .int .u8 0, .int .u8 0, .int .u8 0, .int .u8 0, .int .u8 0, .int .u8 0] 36)).setRow w9.heap.size VC.toArray) := ((Fr.refl _ w9).alloc _).trans (Fr.setRow (S := fun k => k = w9.heap.size) (Fr.refl _ _) rfl _) (fun i hi => Or.inr (by omega))
  have KA := setRow_heap _ _ _ VC.toArray _ _ K9
  go_wp2_with (with_reducible refine wpList_store_row rfl 36 (.tmp 11) (.tmp 32) rfl w9.heap.size VC.toArray rfl rfl 36 #[.int .u8 0, .int .u8 0, .int .u8 0, .int .u8 0, .int .u8 0, .int .u8 0, .int .u8 0, .int .u8 0, .int .u8 0, .int .u8 0, .int .u8 0, .int .u8 0, .int .u8 0, .int .u8 0, .int .u8 0, .int .u8 0, .int .u8 0, .int .u8 0, .int .u8 0, .int .u8 0, .int .u8 0, .int .u8 0, .int .u8 0, .int .u8 0, .int .u8 0, .int .u8 0, .int .u8 0, .int .u8 0, .int .u8 0, .int .u8 0, .int .u8 0, .int .u8 0] K9 sC s1 oneA2 ?_)
  have FA := F9.trans FA (fun _ h => h.elim)
  have BA := FA.keepM B8
  have XA := FA.keepM X8
  have NA := FA.keepM N8
  have CA := FA.keepM C8
  have MA := FA.keepM M8
  have GA := G8.trans FA (fun _ h => h.elim)
  generalize hVb : w9.heap.size = Vb at *
  clear FA K9 F9 B8 X8 N8 C8 M8 G8 s1 sC oneA2
  generalize (w9.alloc (.cells #[.int .u8 0, .int .u8 0, .int .u8 0, .int .u8 0, .int .u8 0, .int .u8 0, .int .u8 0, .int .u8 0, .int .u8 0, .int .u8 0, .int .u8 0, .int .u8 0, .int .u8 0, .int .u8 0, .int .u8 0, .int .u8 0, .int .u8 0, .int .u8 0, .int .u8 0, .int .u8 0, .int .u8 0, .int .u8 0, .int .u8 0, .int .u8 0, .int .u8 0, .int .u8 0, .int .u8 0, .int .u8 0, .int .u8 0, .int .u8 0, .int .u8 0, .int .u8 0] 36)).setRow Vb VC.toArray = W0 at *
  have hce := HCE.out
  clear HCE
  subst hce
  have HB := Lib.hid BA
  have HX := Lib.hid XA
  have HN := Lib.hid NA
  have HC := Lib.hid CA
  have HM := Lib.hid MA
  have HK := Lib.hid KA
  have HG := Lib.hid GA
  have HSTR2 := Lib.hid str2
  have fn0 : ∀ y : Wd W0, y.w.cell? ⟨V5, 0, none⟩ = some (.int .u64 (n0 : Int)) := fun y => y.cell HN.out 0 rfl
  have fn1 : ∀ y : Wd W0, y.w.cell? ⟨V5, 1, none⟩ = some (.int .u64 (n1 : Int)) := fun y => y.cell HN.out 1 rfl
  have fn2 : ∀ y : Wd W0, y.w.cell? ⟨V5, 2, none⟩ = some (.int .u64 (n2 : Int)) := fun y => y.cell HN.out 2 rfl
  have fn3 : ∀ y : Wd W0, y.w.cell? ⟨V5, 3, none⟩ = some (.int .u64 (n3 : Int)) := fun y => y.cell HN.out 3 rfl
  have fm0 : ∀ y : Wd W0, y.w.cell? ⟨V9, 0, none⟩ = some (.int .u64 (m0 : Int)) := fun y => y.cell HM.out 0 rfl
  have fm1 : ∀ y : Wd W0, y.w.cell? ⟨V9, 1, none⟩ = some (.int .u64 (m1 : Int)) := fun y => y.cell HM.out 1 rfl
  have fm2 : ∀ y : Wd W0, y.w.cell? ⟨V9, 2, none⟩ = some (.int .u64 (m2 : Int)) := fun y => y.cell HM.out 2 rfl
  have fm3 : ∀ y : Wd W0, y.w.cell? ⟨V9, 3, none⟩ = some (.int .u64 (m3 : Int)) := fun y => y.cell HM.out 3 rfl
  have fx0 : ∀ y : Wd W0, y.w.cell? ⟨(Z + 1), 0, none⟩ = some (.int .u64 (x0 : Int)) := fun y => y.cell HX.out 0 rfl
  have fx1 : ∀ y : Wd W0, y.w.cell? ⟨(Z + 1), 1, none⟩ = some (.int .u64 (x1 : Int)) := fun y => y.cell HX.out 1 rfl
  have fx2 : ∀ y : Wd W0, y.w.cell? ⟨(Z + 1), 2, none⟩ = some (.int .u64 (x2 : Int)) := fun y => y.cell HX.out 2 rfl
  have fx3 : ∀ y : Wd W0, y.w.cell? ⟨(Z + 1), 3, none⟩ = some (.int .u64 (x3 : Int)) := fun y => y.cell HX.out 3 rfl
  have fc0 : ∀ y : Wd W0, y.w.cell? ⟨V7, 0, none⟩ = some (.int .i64 c0) := fun y => y.cell HC.out 0 rfl
  have fc1 : ∀ y : Wd W0, y.w.cell? ⟨V7, 1, none⟩ = some (.int .i64 c1) := fun y => y.cell HC.out 1 rfl
  have fc2 : ∀ y : Wd W0, y.w.cell? ⟨V7, 2, none⟩ = some (.int .i64 c2) := fun y => y.cell HC.out 2 rfl
  have fc3 : ∀ y : Wd W0, y.w.cell? ⟨V7, 3, none⟩ = some (.int .i64 c3) := fun y => y.cell HC.out 3 rfl
  have fc4 : ∀ y : Wd W0, y.w.cell? ⟨V7, 4, none⟩ = some (.int .i64 c4) := fun y => y.cell HC.out 4 rfl
  have fc5 : ∀ y : Wd W0, y.w.cell? ⟨V7, 5, none⟩ = some (.int .i64 c5) := fun y => y.cell HC.out 5 rfl
  have fc6 : ∀ y : Wd W0, y.w.cell? ⟨V7, 6, none⟩ = some (.int .i64 c6) := fun y => y.cell HC.out 6 rfl
  have fc7 : ∀ y : Wd W0, y.w.cell? ⟨V7, 7, none⟩ = some (.int .i64 c7) := fun y => y.cell HC.out 7 rfl
  have fc8 : ∀ y : Wd W0, y.w.cell? ⟨V7, 8, none⟩ = some (.int .i64 c8) := fun y => y.cell HC.out 8 rfl
  have fc9 : ∀ y : Wd W0, y.w.cell? ⟨V7, 9, none⟩ = some (.int .i64 c9) := fun y => y.cell HC.out 9 rfl
  have fc10 : ∀ y : Wd W0, y.w.cell? ⟨V7, 10, none⟩ = some (.int .i64 c10) := fun y => y.cell HC.out 10 rfl
  have fc11 : ∀ y : Wd W0, y.w.cell? ⟨V7, 11, none⟩ = some (.int .i64 c11) := fun y => y.cell HC.out 11 rfl
  have fc12 : ∀ y : Wd W0, y.w.cell? ⟨V7, 12, none⟩ = some (.int .i64 c12) := fun y => y.cell HC.out 12 rfl
  have fc13 : ∀ y : Wd W0, y.w.cell? ⟨V7, 13, none⟩ = some (.int .i64 c13) := fun y => y.cell HC.out 13 rfl
  have fc14 : ∀ y : Wd W0, y.w.cell? ⟨V7, 14, none⟩ = some (.int .i64 c14) := fun y => y.cell HC.out 14 rfl
  have fc15 : ∀ y : Wd W0, y.w.cell? ⟨V7, 15, none⟩ = some (.int .i64 c15) := fun y => y.cell HC.out 15 rfl
  have l1 : ∀ y : Wd W0, (convert 40 9 (.slice (some ⟨Z, 0, none⟩) 32 32)).run Try.prog y.w = .ok (.string SL) y.w := fun y => HSTR.out y.w (y.blk HB.out)
  have l2 : ∀ y : Wd W0, (convert 40 9 (.slice (some ⟨Vb, 0, none⟩) 32 32)).run Try.prog y.w = .ok (.string SC) y.w := fun y => HSTR2.out Vb y.w (y.blk HK.out)
  have EQ := fun (W : World) => eql_num_same 0 0 0 0 W
  have EG := Try.guardNum
  clear BA XA NA CA MA KA GA str2 sB CL
  refine wp_region_keep (by kernel_rfl) (by kernel_rfl) ?_
  repeat (any_goals (first | go_big_quiet_step (((first | (go_at_call 59; exact Calls.keep (OR _)) | (go_at_call 60; exact Calls.keep (SM _)) | (go_at_call 60; exact Calls.keep (SA _)) | (go_at_call 57; exact Calls.keep (LO _)) | (go_at_call 73; exact Calls.keep (CR _))))) | quiet_step (((first | (go_at_call 59; exact Calls.keep (OR _)) | (go_at_call 60; exact Calls.keep (SM _)) | (go_at_call 60; exact Calls.keep (SA _)) | (go_at_call 57; exact Calls.keep (LO _)) | (go_at_call 73; exact Calls.keep (CR _)))))))
  refine wpQuiet_nil ?_
  intro _ hw'
  obtain ⟨y, rfl⟩ := hw'
  go_wp2
  go_ret
  exact ⟨rfl, HG.out.trans y.h (fun _ h => h.elim)⟩

end Go.Proofs.Ytokpaejkdkjloaa

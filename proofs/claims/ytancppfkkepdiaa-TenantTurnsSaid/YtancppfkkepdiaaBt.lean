/-
  TenantTurns: a round.
-/
import Derived.Test.YtancppfkkepdiaaBs
import Derived.Test.YtancppfkkepdiaaCome
import Derived.LaidEqlPtr
namespace Go.Proofs.Ytancppfkkepdiaa
open Go.RowKit
set_option linter.unusedVariables false
set_option linter.unusedSimpArgs false
set_option maxRecDepth 100000 in
theorem lit147 (f : Nat → Value) : ((List.range 147).map f).toArray = (f 0 :: f 1 :: f 2 :: f 3 :: f 4 :: f 5 :: f 6 :: f 7 :: f 8 :: f 9 :: f 10 :: f 11 :: f 12 :: f 13 :: f 14 :: f 15 :: f 16 :: f 17 :: f 18 :: f 19 :: f 20 :: f 21 :: f 22 :: f 23 :: f 24 :: f 25 :: f 26 :: f 27 :: f 28 :: f 29 :: f 30 :: f 31 :: f 32 :: f 33 :: f 34 :: f 35 :: f 36 :: f 37 :: f 38 :: f 39 :: f 40 :: f 41 :: f 42 :: f 43 :: f 44 :: f 45 :: f 46 :: f 47 :: f 48 :: f 49 :: f 50 :: f 51 :: f 52 :: f 53 :: f 54 :: f 55 :: f 56 :: f 57 :: f 58 :: f 59 :: f 60 :: f 61 :: f 62 :: f 63 :: f 64 :: f 65 :: f 66 :: f 67 :: f 68 :: f 69 :: f 70 :: f 71 :: f 72 :: f 73 :: f 74 :: f 75 :: f 76 :: f 77 :: f 78 :: f 79 :: f 80 :: f 81 :: f 82 :: f 83 :: f 84 :: f 85 :: f 86 :: f 87 :: f 88 :: f 89 :: f 90 :: f 91 :: f 92 :: f 93 :: f 94 :: f 95 :: f 96 :: f 97 :: f 98 :: f 99 :: f 100 :: f 101 :: f 102 :: f 103 :: f 104 :: f 105 :: f 106 :: f 107 :: f 108 :: f 109 :: f 110 :: f 111 :: f 112 :: f 113 :: f 114 :: f 115 :: f 116 :: f 117 :: f 118 :: f 119 :: f 120 :: f 121 :: f 122 :: f 123 :: f 124 :: f 125 :: f 126 :: f 127 :: f 128 :: f 129 :: f 130 :: f 131 :: f 132 :: f 133 :: f 134 :: f 135 :: f 136 :: f 137 :: f 138 :: f 139 :: f 140 :: f 141 :: f 142 :: f 143 :: f 144 :: f 145 :: f 146 :: []).toArray := by kernel_rfl
set_option maxRecDepth 100000 in
theorem one3 {s : ByteArray} {x : Pl} : ∀ (j : Nat) (y : Pl), [x, nob, nob][j]? = some y → isAt s y = true → j = 0
  | 0, _, _, _ => rfl
  | 1, y, h, h2 => by
    obtain rfl : nob = y := by simpa using h
    rw [nob_not] at h2; cases h2
  | 2, y, h, h2 => by
    obtain rfl : nob = y := by simpa using h
    rw [nob_not] at h2; cases h2
  | k + 3, y, h, _ => by simp at h
set_option maxRecDepth 100000 in
theorem at1 (s : ByteArray) (v : Int) (D : Option Addr) (hv : (v == 0) = false) : isAt s ⟨s, v, D⟩ = true := by simp [isAt, hv]
set_option maxRecDepth 100000 in
theorem run_neq_ptr_same {P : Program} (w : World) {tp te : TypeId} {j : TypeInfo} (a : Addr) (hp : P.underlying tp = some (.pointer te)) (hte : P.info? te = some j) :
    (binOp .neq tp (.pointer (some a)) (.pointer (some a))).run P w = .ok (.bool false) w := by
  have h : ∀ d : Nat, (Op.equalIn (d + 1) tp (.pointer (some a)) (.pointer (some a))).run P w = .ok true w := fun d => by
    simp [Op.equalIn, run_underlying hp, sizeOf, typeInfo, hte, run_sameAddr_same]
  simp only [binOp]
  simp [Op.equal, Op.maxDepth, h 9999]
set_option maxRecDepth 100000 in
theorem iDir : ∃ j, Try.prog.info? 86 = some j := ⟨_, rfl⟩
set_option maxRecDepth 100000 in
theorem dir_neq (D : Addr) (w : World) : (binOp .neq 36 (.pointer (some D)) (.pointer (some D))).run Try.prog w = .ok (.bool false) w := by
  obtain ⟨j, hj⟩ := iDir
  exact run_neq_ptr_same w D Try.underlying36 hj
set_option maxRecDepth 100000 in
theorem dir_eql (D : Addr) (w : World) : (binOp .eql 36 (.pointer (some D)) (.pointer (some D))).run Try.prog w = .ok (.bool true) w := by
  obtain ⟨j, hj⟩ := iDir
  exact run_eql_ptr_same w D Try.underlying36 hj
def Tr (w : World) (tb pb : Nat) (s : ByteArray) (D : Addr) (v : Int) : Prop := TB w tb pb [⟨s, v, some D⟩, nob, nob] (.slice none 0 0)
set_option maxRecDepth 100000 in
set_option maxHeartbeats 6400000 in
theorem hold_ok {tb pb : Nat} {A : Addr} {n c : Nat} {s : ByteArray} {D : Addr} {w : World} (h : Tr w tb pb s D 1) (hcv : Cv w (some A) n c s) : Calls Try.prog 13 #[.pointer (some ⟨tb, 0, none⟩), .slice (some A) n c] w fun e w' => e = .returned (.int .i64 0) ∧ Tr w' tb pb s D 2 ∧ Fr (fun k => k = pb) w w' := by
  have HC := Lib.hid (turn_ok tb pb _ _ (by simp) (some A) n c s w h hcv 0 ⟨s, 1, some D⟩ rfl (at1 s 1 _ rfl) (fun j y h1 h2 => one3 j y h1 h2) (by show (1 : Int) ≠ 3; decide) 1 2 rfl)
  clear h hcv
  go_enter Try.func13, Try.ntmps13
  go_wp2_with fail
  refine HC.out.mono ?_
  rintro e w1 ⟨rfl, hT, F1⟩
  have HT := Lib.hid (show Tr w1 tb pb s D 2 from hT)
  have HF := Lib.hid F1
  clear hT F1
  go_wp2_with fail
  go_ret
  exact ⟨rfl, HT.out, HF.out⟩
set_option maxRecDepth 100000 in
set_option maxHeartbeats 6400000 in
theorem free_ok {tb pb : Nat} {A : Addr} {n c : Nat} {s : ByteArray} {D : Addr} {w : World} (h : Tr w tb pb s D 2) (hcv : Cv w (some A) n c s) : Calls Try.prog 14 #[.pointer (some ⟨tb, 0, none⟩), .slice (some A) n c] w fun e w' => e = .returned (.int .i64 0) ∧ Tr w' tb pb s D 1 ∧ Fr (fun k => k = pb) w w' := by
  have HC := Lib.hid (turn_ok tb pb _ _ (by simp) (some A) n c s w h hcv 0 ⟨s, 2, some D⟩ rfl (at1 s 2 _ rfl) (fun j y h1 h2 => one3 j y h1 h2) (by show (2 : Int) ≠ 3; decide) 2 1 rfl)
  clear h hcv
  go_enter Try.func14, Try.ntmps14
  go_wp2_with fail
  refine HC.out.mono ?_
  rintro e w1 ⟨rfl, hT, F1⟩
  have HT := Lib.hid (show Tr w1 tb pb s D 1 from hT)
  have HF := Lib.hid F1
  clear hT F1
  go_wp2_with fail
  go_ret
  exact ⟨rfl, HT.out, HF.out⟩
set_option maxRecDepth 100000 in
set_option maxHeartbeats 6400000 in
theorem hold_no {tb pb : Nat} {A : Addr} {n c : Nat} {s : ByteArray} {D : Addr} {w : World} (h : Tr w tb pb s D 2) (hcv : Cv w (some A) n c s) : Calls Try.prog 13 #[.pointer (some ⟨tb, 0, none⟩), .slice (some A) n c] w fun e w' => e = .returned (.int .i64 12) ∧ Fr (fun _ => False) w w' := by
  have HC := Lib.hid (turn_held tb pb _ _ (by simp) (some A) n c s w h hcv 0 ⟨s, 2, some D⟩ rfl (at1 s 2 _ rfl) (fun j y h1 h2 => one3 j y h1 h2) (by show (2 : Int) ≠ 3; decide) 1 2 (by show (2 : Int) ≠ 1; decide))
  clear h hcv
  go_enter Try.func13, Try.ntmps13
  go_wp2_with fail
  refine HC.out.mono ?_
  rintro e w1 ⟨rfl, F1⟩
  have HF := Lib.hid F1
  clear F1
  go_wp2_with fail
  go_ret
  exact ⟨rfl, HF.out⟩
set_option maxRecDepth 100000 in
set_option maxHeartbeats 6400000 in
theorem free_no {tb pb : Nat} {A : Addr} {n c : Nat} {s : ByteArray} {D : Addr} {w : World} (h : Tr w tb pb s D 1) (hcv : Cv w (some A) n c s) : Calls Try.prog 14 #[.pointer (some ⟨tb, 0, none⟩), .slice (some A) n c] w fun e w' => e = .returned (.int .i64 12) ∧ Fr (fun _ => False) w w' := by
  have HC := Lib.hid (turn_held tb pb _ _ (by simp) (some A) n c s w h hcv 0 ⟨s, 1, some D⟩ rfl (at1 s 1 _ rfl) (fun j y h1 h2 => one3 j y h1 h2) (by show (1 : Int) ≠ 3; decide) 2 1 (by show (1 : Int) ≠ 2; decide))
  clear h hcv
  go_enter Try.func14, Try.ntmps14
  go_wp2_with fail
  refine HC.out.mono ?_
  rintro e w1 ⟨rfl, F1⟩
  have HF := Lib.hid F1
  clear F1
  go_wp2_with fail
  go_ret
  exact ⟨rfl, HF.out⟩
set_option maxRecDepth 100000 in
theorem st_two {tb pb : Nat} {A : Addr} {n c : Nat} {s : ByteArray} {D : Addr} {w : World} (h : Tr w tb pb s D 2) (hcv : Cv w (some A) n c s) : Calls Try.prog 15 #[.pointer (some ⟨tb, 0, none⟩), .slice (some A) n c] w fun e w' => e = .returned (.int .i64 2) ∧ Fr (fun _ => False) w w' :=
  state_at tb pb _ _ (by simp) (some A) n c s w h hcv 0 ⟨s, 2, some D⟩ rfl (at1 s 2 _ rfl) (fun j y h1 h2 => one3 j y h1 h2)
set_option maxRecDepth 100000 in
theorem get_of {tb pb : Nat} {A : Addr} {n c : Nat} {s : ByteArray} {D : Addr} {w : World} (v : Int) (hv0 : (v == 0) = false) (hv : v ≠ 3) (h : Tr w tb pb s D v) (hcv : Cv w (some A) n c s) (held : Bool) : Calls Try.prog 10 #[.pointer (some ⟨tb, 0, none⟩), .slice (some A) n c, .bool held] w fun e w' => e = .returned (gotV held ⟨s, v, some D⟩) ∧ Fr (fun _ => False) w w' :=
  get_at tb pb _ _ (by simp) (some A) n c s w h hcv 0 ⟨s, v, some D⟩ rfl (at1 s v _ hv0) (fun j y h1 h2 => one3 j y h1 h2) hv held
set_option maxRecDepth 100000 in
theorem pl_of {tb pb : Nat} {A : Addr} {n c : Nat} {s : ByteArray} {D : Addr} {w : World} (h : Tr w tb pb s D 1) (hcv : Cv w (some A) n c s) : Calls Try.prog 11 #[.pointer (some ⟨tb, 0, none⟩), .slice (some A) n c] w fun e w' => e = .returned (.tuple #[.int .i64 0, .int .i64 0]) ∧ Fr (fun _ => False) w w' :=
  place_at tb pb _ _ (by simp) (some A) n c s w h hcv 0 ⟨s, 1, some D⟩ rfl (at1 s 1 _ rfl) (fun j y h1 h2 => one3 j y h1 h2) (by show (1 : Int) ≠ 3; decide)
set_option maxRecDepth 100000 in
theorem Tr.ext {w w' : World} {tb pb : Nat} {s : ByteArray} {D : Addr} {v : Int} (h : Tr w tb pb s D v) (F : Fr (fun _ => False) w w') : Tr w' tb pb s D v := TB.ext h F
set_option maxRecDepth 100000 in
theorem CvB.cv {pb : Nat} {w : World} {a : Option Addr} {n c : Nat} {s : ByteArray} (h : CvB pb w a n c s) {W : World} (F : Fr (fun k => k = pb) w W) : Cv W a n c s := fun V G => h V (F.trans G (fun _ h => h.elim))
set_option maxRecDepth 100000 in
set_option maxHeartbeats 6400000 in
theorem turns_round {K : Act → World → Prop} {Q : Exit → Act → World → Prop} {w0 w : World} {tb pb : Nat} {A D : Addr} {n c : Nat} {s : ByteArray} (hC : CvB pb w0 (some A) n c s) (hF : Fr (fun k => k = pb) w0 w) (hT : Tr w tb pb s D 1) (z : Int) (h0 : 0 ≤ z) (h9 : z < 5) (fr : Array Value) (hn : fr.size = 147) (p0 : fr[0]? = some (.slice (some A) n c)) (p5 : fr[5]? = some (.pointer (some ⟨tb, 0, none⟩))) (p7 : fr[7]? = some (.int .i64 0)) (p9 : fr[9]? = some (.pointer (some D))) (p11 : fr[11]? = some (.int .i64 (z)))
    (hK : ∀ t' w', t'.size = 147 → t'[0]? = some (.slice (some A) n c) → t'[5]? = some (.pointer (some ⟨tb, 0, none⟩)) → t'[7]? = some (.int .i64 0) → t'[9]? = some (.pointer (some D)) → t'[11]? = some (.int .i64 (z - 1)) → Fr (fun k => k = pb) w0 w' → Tr w' tb pb s D 1 → K ⟨t', []⟩ w') :
    Code.wp Try.prog (loopAt Try.f4 0) (Exit.then K Q) ⟨fr, []⟩ w := by
  have W1 := Lib.hid (show wrap64 (z - 1) = z - 1 from IntWalk.wrap64_in _ (by omega))
  have HT0 := Lib.hid hT
  have HF0 := Lib.hid hF
  have HC := Lib.hid hC
  have HK := Lib.hid hK
  have q1 : ¬ (z < 0) := by omega
  have y1 := dir_neq D
  clear hT hF hC hK h9
  obtain ⟨f, hff, rfl⟩ := frame_open hn
  have e0 := hff 0 _ p0
  have e5 := hff 5 _ p5
  have e7 := hff 7 _ p7
  have e9 := hff 9 _ p9
  have e11 := hff 11 _ p11
  clear hff hn p0 p5 p7 p9 p11
  rw [lit147, e0, e5, e7, e9, e11]
  clear e0 e5 e7 e9 e11
  conv => arg 2; whnf
  go_wp2_with fail
  refine (hold_ok HT0.out (HC.out.cv HF0.out)).mono ?_
  rintro e w1 ⟨rfl, hT, F1⟩
  have HT1 := Lib.hid hT
  have HF1 := Lib.hid (HF0.out.trans F1 (fun _ h => .inl h))
  clear hT F1
  go_wp2_with fail
  refine (hold_no HT1.out (HC.out.cv HF1.out)).mono ?_
  rintro e w2 ⟨rfl, F1⟩
  have HT2 := Lib.hid (HT1.out.ext F1)
  have HF2 := Lib.hid (HF1.out.trans F1 (fun _ h => h.elim))
  clear F1
  go_wp2_with fail
  refine (st_two HT2.out (HC.out.cv HF2.out)).mono ?_
  rintro e w3 ⟨rfl, F1⟩
  have HT3 := Lib.hid (HT2.out.ext F1)
  have HF3 := Lib.hid (HF2.out.trans F1 (fun _ h => h.elim))
  clear F1
  go_wp2_with fail
  refine (get_of 2 rfl (by decide) HT3.out (HC.out.cv HF3.out) true).mono ?_
  rintro e w4 ⟨rfl, F1⟩
  have HT4 := Lib.hid (HT3.out.ext F1)
  have HF4 := Lib.hid (HF3.out.trans F1 (fun _ h => h.elim))
  clear F1
  rw [show gotV true ⟨s, 2, some D⟩ = .tuple #[.pointer (some D), .int .i64 0] from rfl]
  go_wp2_with fail
  refine (get_of 2 rfl (by decide) HT4.out (HC.out.cv HF4.out) false).mono ?_
  rintro e w5 ⟨rfl, F1⟩
  have HT5 := Lib.hid (HT4.out.ext F1)
  have HF5 := Lib.hid (HF4.out.trans F1 (fun _ h => h.elim))
  clear F1
  rw [show gotV false ⟨s, 2, some D⟩ = .tuple #[.pointer none, .int .i64 12] from rfl]
  go_wp2_with fail
  refine (free_ok HT5.out (HC.out.cv HF5.out)).mono ?_
  rintro e w6 ⟨rfl, hT, F1⟩
  have HT6 := Lib.hid hT
  have HF6 := Lib.hid (HF5.out.trans F1 (fun _ h => .inl h))
  clear hT F1
  go_wp2_with fail
  refine (free_no HT6.out (HC.out.cv HF6.out)).mono ?_
  rintro e w7 ⟨rfl, F1⟩
  have HT7 := Lib.hid (HT6.out.ext F1)
  have HF7 := Lib.hid (HF6.out.trans F1 (fun _ h => h.elim))
  clear F1
  go_wp2_with fail
  rw [W1.out]
  exact HK.out _ _ (by simp) rfl rfl rfl rfl rfl HF7.out HT7.out
end Go.Proofs.Ytancppfkkepdiaa

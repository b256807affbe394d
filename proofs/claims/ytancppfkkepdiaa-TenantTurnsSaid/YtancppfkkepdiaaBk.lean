/-
  A table of tenants: Create, Room.
-/
import Derived.Test.YtancppfkkepdiaaBj
namespace Go.Proofs.Ytancppfkkepdiaa
open Go.RowKit
set_option linter.unusedVariables false
set_option linter.unusedSimpArgs false
set_option maxRecDepth 100000 in
theorem limits_any (w : World) : Calls Try.prog 7 #[] w fun e w' => e = .returned (.agg #[.int .i64 1, .int .i64 1, .int .i64 1]) ∧ Fr (fun _ => False) w w' := by
  go_enter Try.func7, Try.ntmps7
  go_wp2_with fail
  go_returns
  exact ⟨rfl, (Fr.refl _ w).alloc _⟩
set_option maxRecDepth 100000 in
set_option maxHeartbeats 1600000 in
theorem create_of (tb : Nat) (a : Option Addr) (n c : Nat) (xs : List Value) (n1 : 1 ≤ n) (n16 : n ≤ 16) (R : Array Value) (hR : R.size = 64) (h1 : R.all (·.oneCell') = true) (w : World) (hB : ∀ (a' : Option Addr) (c' m : Nat), ∃ cs : Array Value, Try.prog.built 86 [(0, .slice a' n c'), (1, .agg R), (2, .agg #[.int .i64 1, .int .i64 1, .int .i64 1]), (3, .map (some m))] = some cs ∧ ∀ W : World, (Instr.box 86 (.agg cs)).run Try.prog W = .ok (.pointer (some ⟨W.heap.size, 0, none⟩)) (W.alloc (.cells cs 86))) (hs : ∀ W, Fr (fun _ => False) w W → Src Try.prog 1 51 (.slice a n c) n xs W)
    (p er : Int) (Rr : World → Prop) (hI : ∀ (d : Nat) (W : World), Fr (fun _ => False) w W → Calls Try.prog 8 #[.pointer (some ⟨tb, 0, none⟩), .slice a n c, .pointer (some ⟨d, 0, none⟩)] W fun e w' => e = .returned (.tuple #[.int .i64 p, .int .i64 er]) ∧ Rr w') :
    Calls Try.prog 6 #[.pointer (some ⟨tb, 0, none⟩), .slice a n c, .agg R, .agg #[.int .i64 1, .int .i64 1, .int .i64 1]] w fun e w' => e = .returned (.tuple #[.int .i64 p, .int .i64 er]) ∧ Rr w' := by
  have hb1 := heap_alloc_new w (.cells R 30)
  have A1 := (Fr.refl (fun _ => False) w).alloc (.cells R 30)
  have hb2 := heap_alloc_new (w.alloc (.cells R 30)) (.cells #[.int .i64 1, .int .i64 1, .int .i64 1] 32)
  have A2 := A1.alloc (.cells #[.int .i64 1, .int .i64 1, .int .i64 1] 32)
  have hz : (w.alloc (.cells R 30)).heap.size = w.heap.size + 1 := by simp
  rw [hz] at hb2
  have HB1 := Lib.hid ((((Fr.refl (fun _ => False) (w.alloc (.cells R 30))).alloc (.cells #[.int .i64 1, .int .i64 1, .int .i64 1] 32)).block w.heap.size (lt_of_block hb1) (fun h => h)).trans hb1)
  have HB2 := Lib.hid hb2
  have HA2 := Lib.hid A2
  have HRR := Lib.hid hR
  have HD := Lib.hid (fun W (F : Fr (fun _ => False) w W) => dnew_any a n c xs n1 n16 R hR h1 W hB (fun W' F' => hs W' (F.trans F' (fun _ h => h.elim))))
  have HI := Lib.hid hI
  clear hz hb1 hb2 A1 A2 hs hB hR h1 hI
  go_enter Try.func6, Try.ntmps6
  go_wp2_with (first | (refine wpList_load_row rfl 30 (.tmp 6) rfl w.heap.size rfl 30 R (0, 0) _ HB1.out Try.underlying30 rfl (szK.trans (congrArg some HRR.out.symm)) ?_) | (refine wpList_load_row rfl 32 (.tmp 7) rfl (w.heap.size + 1) rfl 32 #[.int .i64 1, .int .i64 1, .int .i64 1] (0, 0) _ HB2.out Try.underlying32 rfl szL ?_))
  refine (HD.out _ HA2.out).mono ?_
  rintro e w1 ⟨⟨d, rfl⟩, F1⟩
  have HF1 := Lib.hid (HA2.out.trans F1 (fun _ h => h.elim))
  clear F1
  go_wp2_with fail
  refine (HI.out d w1 HF1.out).mono ?_
  rintro e w2 ⟨rfl, hr⟩
  have HR2 := Lib.hid hr
  clear hr
  go_wp2_with fail
  go_returns
  exact ⟨rfl, HR2.out⟩
set_option maxRecDepth 100000 in
set_option maxHeartbeats 1600000 in
theorem room_any (tb pb : Nat) (P : List Pl) (gv : Value) (hl : P.length ≤ 8) (w : World) (h : TB w tb pb P gv) : Calls Try.prog 17 #[.pointer (some ⟨tb, 0, none⟩)] w fun e w' => e = .returned (.int .i64 (frees P : Int)) ∧ Fr (fun _ => False) w w' := by
  obtain ⟨c0, _, _⟩ := h.c
  have HT := Lib.hid h
  have HL := Lib.hid hl
  have HFR := Lib.hid (fun k => show frees (P.take k) ≤ 8 from Nat.le_trans (Nat.le_trans (List.length_filter_le _ _) (by rw [List.length_take]; omega)) hl)
  clear h hl
  go_enter Try.func17, Try.ntmps17
  go_wp2_with fail
  clear c0
  go_loopw [13, 3] (fun i cn wr => ∃ k : Nat, k ≤ P.length ∧ i = .int .i64 (k : Int) ∧ cn = .int .i64 (frees (P.take k) : Int) ∧ Fr (fun _ => False) w wr) (fun i _ _ => P.length - (intOf i).toNat)
  case atStart => exact ⟨0, Nat.zero_le _, by simp, rfl, Fr.refl _ _⟩
  case round =>
    obtain ⟨k, hk, rfl, rfl, F⟩ := hrel
    have HF := Lib.hid F
    by_cases hlt : k < P.length
    · obtain ⟨x, hx⟩ : ∃ x, P[k]? = some x := ⟨_, List.getElem?_eq_getElem hlt⟩
      obtain ⟨c0, c1, c2⟩ := (HT.out.ext F).p hx
      have q1 : (k : Int) < (P.length : Int) := by omega
      have hl := HL.out
      have w1' : wrap64 ((k : Int) + 1) = ((k + 1 : Nat) : Int) := by rw [IntWalk.wrap64_in _ (by omega)]; omega
      have hfr := HFR.out k
      have w2' : wrap64 ((frees (P.take k) : Int) + 1) = ((frees (P.take k) + 1 : Nat) : Int) := by rw [IntWalk.wrap64_in _ (by omega)]; omega
      have W1 := Lib.hid w1'
      have W2 := Lib.hid w2'
      have HX := Lib.hid hx
      have HLT := Lib.hid hlt
      have HAL := Lib.hid ((Fr.refl (fun _ => False) wr).alloc (.cells #[.string x.id, .int .i64 x.st, .pointer x.dir] 70))
      clear F hk hlt hx w1' w2' hl hfr
      go_wp2_with fail
      refine (free_any x _).mono ?_
      rintro e w1 ⟨rfl, F1⟩
      have HF1 := Lib.hid (HF.out.trans (HAL.out.trans F1 (fun _ h => h.elim)) (fun _ h => h.elim))
      clear F1 c0 c1 c2
      by_cases h0 : x.st = 0
      · have hb : (x.st == 0) = true := by rw [h0]; rfl
        have HY := Lib.hid (frees_yes HX.out hb)
        clear h0
        go_wp2_with fail
        (try rw [W1.out])
        (try rw [W2.out])
        exact ⟨⟨k + 1, HLT.out, rfl, by rw [HY.out], HF1.out⟩, by simp [intOf]; have := HLT.out; omega⟩
      · have hb : (x.st == 0) = false := beq_eq_false_iff_ne.2 h0
        have HY := Lib.hid (frees_no HX.out hb)
        clear h0
        go_wp2_with fail
        (try rw [W1.out])
        exact ⟨⟨k + 1, HLT.out, rfl, by rw [HY.out], HF1.out⟩, by simp [intOf]; have := HLT.out; omega⟩
    · obtain rfl : k = P.length := by omega
      have q1 : ¬ ((P.length : Int) < (P.length : Int)) := by omega
      clear F hlt hk
      go_wp2_with fail
      go_ret
      exact ⟨rfl, HF.out⟩
end Go.Proofs.Ytancppfkkepdiaa

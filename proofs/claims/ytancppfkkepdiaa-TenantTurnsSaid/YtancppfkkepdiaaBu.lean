/-
  TenantTurns: the loop, and the law.
-/
import Derived.Test.YtancppfkkepdiaaBt
namespace Go.Proofs.Ytancppfkkepdiaa
open Go.RowKit
set_option linter.unusedVariables false
set_option linter.unusedSimpArgs false
set_option maxRecDepth 100000 in
set_option maxHeartbeats 6400000 in
theorem turns_loop {Q : Exit → Act → World → Prop} {w0 w : World} {tb pb : Nat} {A D : Addr} {n c : Nat} {s : ByteArray} (hC : CvB pb w0 (some A) n c s) (hF : Fr (fun k => k = pb) w0 w) (hT : Tr w tb pb s D 1) (q : Nat) (h9 : q < 5) (fr : Array Value) (hn : fr.size = 147) (p0 : fr[0]? = some (.slice (some A) n c)) (p5 : fr[5]? = some (.pointer (some ⟨tb, 0, none⟩))) (p7 : fr[7]? = some (.int .i64 0)) (p9 : fr[9]? = some (.pointer (some D))) (p11 : fr[11]? = some (.int .i64 (q : Int)))
    (hexit : ∀ t' w', t'.size = 147 → t'[0]? = some (.slice (some A) n c) → t'[5]? = some (.pointer (some ⟨tb, 0, none⟩)) → t'[7]? = some (.int .i64 0) → t'[9]? = some (.pointer (some D)) → t'[11]? = some (.int .i64 (-1)) → Fr (fun k => k = pb) w0 w' → Tr w' tb pb s D 1 → Q (.exit 0) ⟨t', []⟩ w') :
    Code.wp Try.prog (.loop (loopAt Try.f4 0)) Q ⟨fr, []⟩ w := by
  refine wp_loop_up (q + 1) (fun k t w' => t.size = 147 ∧ t[0]? = some (.slice (some A) n c) ∧ t[5]? = some (.pointer (some ⟨tb, 0, none⟩)) ∧ t[7]? = some (.int .i64 0) ∧ t[9]? = some (.pointer (some D)) ∧ t[11]? = some (.int .i64 ((q : Int) - k)) ∧ Fr (fun k => k = pb) w0 w' ∧ Tr w' tb pb s D 1) fr w ⟨hn, p0, p5, p7, p9, by rw [p11]; simp, hF, hT⟩ ?_
  clear hn p0 p5 p7 p9 p11 hF hT fr
  rintro k fr w1 hk ⟨hn, p0, p5, p7, p9, p11, hF, hT⟩ K hK
  by_cases hlt : k < q + 1
  · exact turns_round (K := K) (Q := Q) hC hF hT ((q : Int) - k) (by omega) (by omega) fr hn p0 p5 p7 p9 p11 (fun t' w' b0 b1 b2 b3 b4 b5 b6 b7 => hK t' w' hlt ⟨b0, b1, b2, b3, b4, by rw [b5]; congr 2; omega, b6, b7⟩)
  · obtain rfl : k = q + 1 := by omega
    have e11 : fr[11]? = some (.int .i64 (-1)) := by rw [p11]; congr 2; omega
    have HE := Lib.hid hexit
    have HF := Lib.hid hF
    have HT := Lib.hid hT
    clear hexit hF hT hK hk hlt hC p11 h9
    have p11 := e11
    clear e11
    obtain ⟨f, hff, rfl⟩ := frame_open hn
    have e0 := hff 0 _ p0
    have e5 := hff 5 _ p5
    have e7 := hff 7 _ p7
    have e9 := hff 9 _ p9
    have e11 := hff 11 _ p11
    clear hff hn p0 p5 p7 p9 p11
    rw [lit147, e0, e5, e7, e9, e11]
    clear e0 e5 e7 e9 e11
    conv => arg 2; whnf
    go_wp2_with fail
    exact HE.out _ _ (by simp) rfl rfl rfl rfl rfl HF.out HT.out
def K9 : Array Value := (Value.int .u8 9 :: List.replicate 63 (Value.int .u8 0)).toArray
def V9 : Array Value := (Value.int .u8 9 :: List.replicate 31 (Value.int .u8 0)).toArray
set_option maxRecDepth 100000 in
theorem built9a : Try.prog.built 28 [(0, .int .u8 9)] = some V9 := by kernel_rfl
set_option maxRecDepth 100000 in
theorem built9b : Try.prog.built 30 [(0, .agg V9)] = some K9 := by kernel_rfl
set_option maxRecDepth 100000 in
theorem built9 (n : Nat) (a' : Option Addr) (c' m : Nat) : ∃ cs : Array Value, Try.prog.built 86 [(0, .slice a' n c'), (1, .agg K9), (2, .agg #[.int .i64 1, .int .i64 1, .int .i64 1]), (3, .map (some m))] = some cs ∧ ∀ W : World, (Instr.box 86 (.agg cs)).run Try.prog W = .ok (.pointer (some ⟨W.heap.size, 0, none⟩)) (W.alloc (.cells cs 86)) :=
  ⟨((Try.prog.built 86 [(0, .slice a' n c'), (1, .agg K9), (2, .agg #[.int .i64 1, .int .i64 1, .int .i64 1]), (3, .map (some m))]).getD #[]), by kernel_rfl, fun W => by kernel_rfl⟩
set_option maxRecDepth 100000 in
set_option maxHeartbeats 6400000 in
theorem turns_case (a : Option Addr) (n c m : Nat) (l : List UInt8) (hm : m = min n 15) (z : Int) (w : World) (hc : Came w a n c l) : Calls Try.prog 4 #[.slice a n c, .int .i64 z] w fun e w' => e = .returned (.bool true) ∧ Fr (fun _ => False) w w' := by
  obtain ⟨ti, zv, t1, t2, t3, t4, t5⟩ := bInfo
  have HI := Lib.hid (And.intro t1 (And.intro t2 (And.intro t3 (And.intro t4 t5))))
  have q3 : min (n : Int) 15 = (m : Int) := by omega
  have q4 : m ≤ c := by have := hc.le; omega
  have hlm : (l.take m).length = m := by rw [List.length_take, hc.len]; omega
  have HLM := Lib.hid hlm
  have HM := Lib.hid (show m ≤ 15 by omega)
  obtain ⟨q, hq⟩ : ∃ q : Nat, (q : Int) = (IntKind.u64.wrap z).tmod 5 := ⟨((IntKind.u64.wrap z).tmod 5).toNat, by
    have h0 : 0 ≤ IntKind.u64.wrap z := by have := Int.emod_nonneg z (show (18446744073709551616 : Int) ≠ 0 by decide); exact this
    have := Int.tmod_nonneg 5 h0
    omega⟩
  have hq5 : q < 5 := by
    have h0 : 0 ≤ IntKind.u64.wrap z := by have := Int.emod_nonneg z (show (18446744073709551616 : Int) ≠ 0 by decide); exact this
    have := Int.tmod_lt_of_pos (IntKind.u64.wrap z) (show (0 : Int) < 5 by decide)
    omega
  have HQ := Lib.hid (And.intro hq hq5)
  have A0 := (Fr.refl (fun _ => False) w).alloc (.cells #[.int .u8 105] 5)
  have hb0 := heap_alloc_new w (.cells #[.int .u8 105] 5)
  have hown : (w.alloc (.cells #[.int .u8 105] 5)).ownsRow w.heap.size 5 1 (.slice (some ⟨w.heap.size, 0, none⟩) 1 1) 1 [.int .u8 105] := ⟨rfl, .inr ⟨w.heap.size, 1, #[.int .u8 105], rfl, Nat.le_refl _, hb0, Nat.le_refl _, by unfold maxLen; omega, rfl, rfl⟩⟩
  have hsrc := ((hc.lies.grow A0).take m).src c
  rw [hlm] at hsrc
  have HOWN := Lib.hid (And.intro hown hsrc)
  have HA0 := Lib.hid A0
  clear t1 t2 t3 t4 t5 hm hc hlm hq hq5 A0 hb0 hown hsrc
  go_enter Try.func4, Try.ntmps4
  go_wp2_with (focus ((refine wpList_app _ rfl (.tmp 20) (.tmp 25) 51 51 rfl w.heap.size 5 ti zv 1 1 Try.underlying51 HI.out.1 HI.out.2.1 HI.out.2.2.1 HI.out.2.2.2.1 HI.out.2.2.2.2 (by decide) (.slice (some ⟨w.heap.size, 0, none⟩) 1 1) 1 [.int .u8 105] rfl HOWN.out.1 _ rfl m (bv (l.take m)) HOWN.out.2 (by have := HM.out; unfold maxLen; omega) (by have := HM.out; omega) (by simp) ?_); intro v2 w2 O2 G2 G2x; simp only [Act.put, List.setIfInBounds_toArray, List.set_cons_zero, List.set_cons_succ]))
  obtain ⟨g, cap, cur, rfl, hb, hg, hnc, hcm, hcs, hx⟩ : ∃ g cap cur, v2 = .slice (some ⟨g, 0, none⟩) (1 + m) cap ∧ w.heap.size ≤ g ∧ w2.heap[g]? = some (.cells cur 5 (0, 0)) ∧ 1 + m ≤ cap ∧ cap ≤ maxLen ∧ cur.size = cap * 1 ∧ cur.toList.take ((1 + m) * 1) = [.int .u8 105] ++ bv (l.take m) := by
    rcases O2.2 with ⟨_, h0⟩ | h
    · omega
    · exact h
  have hlie := (lies_own (l := 105 :: l.take m) (show w2.ownsRow w.heap.size 5 1 (.slice (some ⟨g, 0, none⟩) (1 + m) cap) (1 + m) (bv (105 :: l.take m)) from O2)).2.2.2
  have HL := Lib.hid hlie
  have hlen : (105 :: l.take m : List UInt8).length = 1 + m := by rw [List.length_cons, HLM.out]; omega
  have HLEN := Lib.hid hlen
  obtain ⟨s, hs⟩ : ∃ s : ByteArray, s = ⟨(105 :: l.take m).toArray⟩ := ⟨_, rfl⟩
  have HCV := Lib.hid (show ∀ (S : Nat → Prop) (W : World), ¬ S g → Fr S w2 W → (convert 51 9 (.slice (some ⟨g, 0, none⟩) (1 + m) cap)).run Try.prog W = .ok (.string s) W from fun S W hS F => by
    have h1 := run_str (hlie.fr F (fun k hk => by obtain ⟨ad, h1, h2⟩ := hk; cases h1; rw [← h2]; exact hS)) cap 9 Try.underlying9
    rw [hlen] at h1
    rw [hs]
    exact h1)
  have HSRC := Lib.hid (show ∀ W : World, Fr (fun _ => False) w2 W → Src Try.prog 1 51 (.slice (some ⟨g, 0, none⟩) (1 + m) cap) (1 + m) (bv (105 :: l.take m)) W from fun W F => by
    have h1 := (hlie.fr F (fun k _ => fun h => h)).src cap
    rw [hlen] at h1
    exact h1)
  have HF2 := Lib.hid (show Fr (fun _ => False) w w2 from HA0.out.trans ((Fr.ofGrown G2).mono (T := fun k => ¬ k < w.heap.size) (fun k hk e => by
    have : w.heap.size = k := by simpa [Value.ownBlock] using e
    omega)) (fun _ h => .inr (Nat.le_of_not_lt h)))
  have HG := Lib.hid (lt_of_block hg)
  clear hlie hlen hs O2 G2 G2x hb hg hnc hcm hcs hx
  obtain ⟨N, hN⟩ : ∃ N, N = 1 + m := ⟨_, rfl⟩
  rw [← hN] at HCV HSRC ⊢
  have HNN := Lib.hid (show 1 ≤ N ∧ N ≤ 16 by have := HM.out; omega)
  clear hN
  go_wp2_with fail
  refine (new_any 3 (by decide) (by decide) w2).mono ?_
  rintro e w3 ⟨tb, pb, rfl, hT, ht1, hp1, F1⟩
  have HT := Lib.hid (show TB w3 tb pb [nob, nob, nob] (.slice none 0 0) from hT)
  have HF3 := Lib.hid (HF2.out.trans F1 (fun _ h => h.elim))
  have HX3 := Lib.hid F1
  have HPB := Lib.hid (show ¬ (g = pb) by have := HG.out; omega)
  have HPW := Lib.hid (show w.heap.size ≤ pb by have := HF2.out.size; omega)
  clear hT ht1 hp1 F1
  go_wp2_with (first | (refine wpList_build1 rfl 28 0 (.const (.int .u8 9)) (.int .u8 9) rfl V9 built9a rfl ?_; simp only [Act.put, List.setIfInBounds_toArray, List.set_cons_zero, List.set_cons_succ]) | (refine wpList_build1 rfl 30 0 (.tmp 34) (.agg V9) rfl K9 built9b rfl ?_; simp only [Act.put, List.setIfInBounds_toArray, List.set_cons_zero, List.set_cons_succ]))
  refine (limits_any _).mono ?_
  rintro e v1 ⟨rfl, L1⟩
  have HTL := Lib.hid (HT.out.ext L1)
  have HXL := Lib.hid (HX3.out.trans L1 (fun _ h => h.elim))
  have HFL := Lib.hid (HF3.out.trans L1 (fun _ h => h.elim))
  clear L1
  go_wp2_with fail
  refine (create_of tb (some ⟨g, 0, none⟩) N cap (bv (105 :: l.take m)) HNN.out.1 HNN.out.2 K9 (by kernel_rfl) (by kernel_rfl) v1 (built9 N) (fun W F => HSRC.out W (HXL.out.trans F (fun _ h => h.elim))) 0 0 (fun W' => ∃ D, Tr W' tb pb s D 1 ∧ Fr (fun b => b = pb) v1 W') (fun d W F => ((imp_ok tb pb [nob, nob, nob] (.slice none 0 0) (by simp) _ N cap s HNN.out.1 HNN.out.2 ⟨d, 0, none⟩ W (HTL.out.ext F) (state_nob tb pb _ (by simp) _ N cap s W (HTL.out.ext F) (fun W' F' => HCV.out _ W' (fun h => h) ((HXL.out.trans F (fun _ h => h.elim)).trans F' (fun _ h => h.elim))) (fun x hx => by
    have : x = nob := by simpa using hx
    rw [this]; exact nob_not _)) (fun W' F' => HCV.out (fun k => k = pb) W' HPB.out (((HXL.out.trans F (fun _ h => h.elim)).mono (T := fun k => k = pb) (fun _ _ h => h.elim)).trans F' (fun _ h => .inl h))) 0 nob rfl rfl (fun j y hj _ => absurd hj (by omega))).mono (fun e w' h => ⟨h.1, ⟨d, 0, none⟩, h.2.1, (F.mono (fun _ _ h => h.elim)).trans h.2.2 (fun _ h => .inl h)⟩)))).mono ?_
  rintro e w4 ⟨rfl, D, hT4, F4⟩
  have HT4 := Lib.hid hT4
  have HC := Lib.hid (show CvB pb w4 (some ⟨g, 0, none⟩) N cap s from fun W F => HCV.out (fun k => k = pb) W HPB.out (((HXL.out.mono (T := fun k => k = pb) (fun _ _ h => h.elim)).trans F4 (fun _ h => .inl h)).trans F (fun _ h => .inl h)))
  have HF4 := Lib.hid (show Fr (fun _ => False) w w4 from HFL.out.trans F4 (fun k h => .inr (by rw [h]; exact HPW.out)))
  clear hT4 F4
  go_wp2_with fail
  refine (get_of 1 rfl (by decide) HT4.out (HC.out.cv (Fr.refl _ _)) false).mono ?_
  rintro e w5 ⟨rfl, F5⟩
  rw [show gotV false ⟨s, 1, some D⟩ = .tuple #[.pointer (some D), .int .i64 0] from rfl]
  have HX5 := Lib.hid F5
  clear F5
  go_wp2_with fail
  refine (tables_any w5).mono ?_
  rintro e w6 ⟨rfl, F6⟩
  have HX6 := Lib.hid (HX5.out.trans F6 (fun _ h => h.elim))
  clear F6
  have y0 := HQ.out.1.symm
  have y1 : wrap64 (q : Int) = (q : Int) := IntWalk.wrap64_in _ (by have := HQ.out.2; omega)
  go_wp2_with fail
  rw [y1]
  clear y0 y1
  refine turns_loop (w0 := w4) (tb := tb) (pb := pb) (A := ⟨g, 0, none⟩) (D := D) (n := N) (c := cap) (s := s) HC.out (HX6.out.mono (fun _ _ h => h.elim)) (HT4.out.ext HX6.out) q HQ.out.2 _ rfl rfl rfl rfl rfl rfl ?_
  intro t' w7 hn p0 p5 p7 p9 p11 F7 hT7
  have HT7 := Lib.hid hT7
  have HF7 := Lib.hid F7
  clear F7 hT7
  obtain ⟨f, hff, rfl⟩ := frame_open hn
  have e0 := hff 0 _ p0
  have e5 := hff 5 _ p5
  have e7 := hff 7 _ p7
  have e9 := hff 9 _ p9
  clear hff hn p0 p5 p7 p9 p11
  rw [lit147, e0, e5, e7, e9]
  clear e0 e5 e7 e9
  go_wp2_with fail
  refine (pl_of HT7.out (HC.out.cv HF7.out)).mono ?_
  rintro e w8 ⟨rfl, F8⟩
  have HT8 := Lib.hid (HT7.out.ext F8)
  have HF8 := Lib.hid (HF7.out.trans F8 (fun _ h => h.elim))
  clear F8
  go_wp2_with fail
  refine (get_of 1 rfl (by decide) HT8.out (HC.out.cv HF8.out) false).mono ?_
  rintro e w9 ⟨rfl, F9⟩
  rw [show gotV false ⟨s, 1, some D⟩ = .tuple #[.pointer (some D), .int .i64 0] from rfl]
  have HF9 := Lib.hid (show Fr (fun _ => False) w w9 from HF4.out.trans (HF8.out.trans F9 (fun _ h => h.elim)) (fun k h => .inr (by rw [h]; exact HPW.out)))
  clear F9
  have y1 := dir_eql D
  go_wp2_with fail
  go_ret
  exact ⟨rfl, HF9.out⟩
set_option maxRecDepth 100000 in
theorem turns_any (a : Option Addr) (n c : Nat) (l : List UInt8) (z : Int) (w : World) (hc : Came w a n c l) : Calls Try.prog 4 #[.slice a n c, .int .i64 z] w fun e w' => e = .returned (.bool true) ∧ Fr (fun _ => False) w w' := turns_case a n c (min n 15) l rfl z w hc
end Go.Proofs.Ytancppfkkepdiaa

/-
  The law RfclogRoots, whole.
-/
import Derived.Test.YtjndkjgbplpfeaaDoorLga
namespace Go.Proofs.YtjndkjgbplpfeaaDoor
open Go.RowKit
set_option linter.unusedVariables false
set_option linter.unusedSimpArgs false
set_option maxRecDepth 100000 in
theorem run_conv_mark {W : World} {b : Nat} {C : Array Value} (h : W.heap[b]? = some (.cells C 5 (0, 0))) (n c : Nat) : ∃ W', (convert 35 35 (.slice (some ⟨b, 0, none⟩) n c)).run Tryd.prog W = .ok (.slice (some ⟨b, 0, none⟩) n c) W' ∧ W'.heap[b]? = some (.cells C 5 (C.size, C.size + 1)) ∧ Fr (fun k => k = b) W W' := by
  have hsh : W.shape? b = some (5, C.size) := by unfold World.shape?; rw [h]
  have e : W.freeze ⟨b, C.size, none⟩ 1 = { W with heap := W.heap.modify b fun
      | .cells c elem (lo, hi) => .cells c elem (if lo == hi then (C.size, C.size + 1) else (min lo C.size, max hi (C.size + 1)))
      | o => o } := by
    unfold World.freeze
    rw [if_neg (by decide)]
    rfl
  refine ⟨W.freeze ⟨b, C.size, none⟩ 1, ?_, ?_, ?_⟩
  · simp [convert, run_underlying Tryd.underlying35, run_underlying Tryd.underlying5, markStringish, hsh]
  · rw [e]
    show (W.heap.modify b _)[b]? = _
    have hlt := lt_of_block h
    have h' : W.heap[b] = .cells C 5 (0, 0) := by simpa [Array.getElem?_eq_getElem hlt] using h
    rw [Array.getElem?_eq_getElem (by simpa using hlt), Array.getElem_modify_self, h']
    rfl
  · rw [e]
    refine ⟨rfl, rfl, rfl, by simp, fun k hk hs => ?_⟩
    show (W.heap.modify b _)[k]? = _
    rw [Array.getElem?_modify, if_neg (fun e => hs e.symm)]
set_option maxRecDepth 100000 in
theorem wpList_conv_mark {ops : Array Oper} {rest : List Oper} {o : Oper} {a : Act} {w : World} {Q : Exit → Act → World → Prop} (hgd : o.guard = none) (x : Operand) (ho : o.op = .convert 35 35 x) (b n c : Nat) (C : Array Value) (hx : a.eval x = .slice (some ⟨b, 0, none⟩) n c) (hb : w.heap[b]? = some (.cells C 5 (0, 0)))
    (h : ∀ w', w'.heap[b]? = some (.cells C 5 (C.size, C.size + 1)) → Fr (fun k => k = b) w w' → wpList Tryd.prog ops Q rest (a.put o.dst (.slice (some ⟨b, 0, none⟩) n c)) w') : wpList Tryd.prog ops Q (o :: rest) a w := by
  refine wpList_plain hgd fun _ hK => ?_
  obtain ⟨w2, hr, h2, h3⟩ := run_conv_mark hb n c
  unfold Oper.wp execOp
  simp only [ho, Sem.run_bind, Sem.run_pure, Result.andThen_ok, hx, hr]
  exact hK _ _ (h w2 h2 h3)

set_option maxRecDepth 100000 in
theorem none_any (w : World) : Calls Tryd.prog 10 #[] w fun e w' => e = .returned (.pointer none) ∧ w = w' := by
  go_enter Tryd.func10, Tryd.ntmps10
  go_wp2_with fail
  go_ret
  exact ⟨rfl, rfl⟩
set_option maxRecDepth 100000 in
theorem root_z (lb base : Nat) (v : Value) (L : List (List UInt8)) (z : Int) (hL : L.length ≤ 1000) (w : World) (hM : LM w lb base v L) (hE : Env w) : Calls Tryd.prog 13 #[.pointer (some ⟨lb, 0, none⟩), .int .i64 z] w fun e w' => (∃ rt c, e = .returned (.tuple #[.agg (krow rt), .int .i64 c]) ∧ rt.length = 32 ∧ ((c = 0 ∧ 0 ≤ z ∧ z ≤ (L.length : Int)) ∨ (c = 1 ∧ (z < 0 ∨ (0 ≤ z ∧ (L.length : Int) < z))))) ∧ Fr (fun _ => False) w w' := by
  by_cases h0 : z < 0
  · exact (root_low lb base v L z h0 w hM).mono fun e w' h => ⟨⟨z32, 1, h.1, rfl, .inr ⟨rfl, .inl h0⟩⟩, h.2⟩
  · by_cases h1 : (L.length : Int) < z
    · exact (root_high lb base v L z h1 w hM).mono fun e w' h => ⟨⟨z32, 1, h.1, rfl, .inr ⟨rfl, .inr ⟨by omega, h1⟩⟩⟩, h.2⟩
    · obtain ⟨n, rfl⟩ : ∃ n : Nat, z = n := ⟨z.toNat, by omega⟩
      exact (root_m lb base v L n (by omega) hL w hM hE).mono fun e w' h => ⟨⟨_, 0, h.1, Lg.root_len (hM.all.take n), .inl ⟨rfl, by omega, by omega⟩⟩, h.2⟩
set_option maxRecDepth 100000 in
set_option maxHeartbeats 6400000 in
theorem roots_any (a0 : Option Addr) (n0 c0 : Nat) (L0 : List (List UInt8)) (z : Int) (w : World) (h0 : Parts w a0 L0) (hn0 : L0.length = n0) (m0 : n0 ≤ maxLen) (hE : Env w) (hR : REnv w) :
    Calls Tryd.prog 3 #[.slice a0 n0 c0, .int .i64 z] w fun e w' => e = .returned (.bool true) ∧ Fr (fun _ => False) w w' := by
  have HFI := Lib.hid (fill_any a0 L0 n0 c0 hn0 w h0 m0 hE)
  have HE := Lib.hid hE
  have HR := Lib.hid hR
  clear h0 hn0 m0 hE hR
  go_enter Tryd.func3, Tryd.ntmps3
  go_wp2_with fail
  refine HFI.out.mono ?_
  rintro e w1 ⟨lb, Z, v, u, rfl, hd⟩
  clear HFI
  generalize fewL L0 20 60 = LL at hd
  obtain ⟨au, cu, hu, hu1, hu2, hsv, _⟩ := Os.view hd.ss
  have hK20 := hd.len
  have HSM := Lib.hid hd.small
  obtain ⟨K, hK⟩ : ∃ K, K = LL.length := ⟨_, rfl⟩
  rw [← hK] at hu hu1 hK20
  have HD := Lib.hid (And.intro hd.l0 (And.intro hd.lZ hd.hz))
  have HM1 := Lib.hid hd.lm
  have HF1 := Lib.hid hd.fr
  have HK := Lib.hid (And.intro hK.symm (And.intro hK20 (And.intro hu1 hu2)))
  have HSV := Lib.hid hsv
  have HE1 := Lib.hid (HE.out.ext hd.fr)
  have HR1 := Lib.hid (HR.out.ext hd.fr)
  subst hu
  clear hd hK20 hu1 hu2 hsv hK HE HR
  have HS := Lib.hid (show (LL.map Lg.leaf).length = K by rw [List.length_map]; exact HK.out.1)
  go_wp2_with fail
  refine (logs_any w1 HE1.out HR1.out).mono ?_
  rintro e w2 ⟨rfl, F2⟩
  have HF2 := Lib.hid F2
  have HLN := Lib.hid (show Calls Tryd.prog 12 #[.pointer (some ⟨lb, 0, none⟩)] w2 fun e w' => e = .returned (.int .i64 (K : Int)) ∧ w2 = w' from by have := len_m lb Z v _ w2 (HM1.out.ext F2); rw [HS.out] at this; exact this)
  clear F2
  go_wp2_with fail
  refine (none_any w2).mono ?_
  rintro e w' ⟨rfl, rfl⟩
  go_wp2_with fail
  refine (add_nil none 0 0 w2).mono ?_
  rintro e w' ⟨rfl, rfl⟩
  go_wp2_with fail
  refine (none_any w2).mono ?_
  rintro e w' ⟨rfl, rfl⟩
  go_wp2_with fail
  refine (len_nil w2).mono ?_
  rintro e w' ⟨rfl, rfl⟩
  go_wp2_with fail
  refine HLN.out.mono ?_
  rintro e w' ⟨rfl, rfl⟩
  clear HLN
  go_wp2_with fail
  refine roots_loop HK.out.2.1 HK.out.1 HSM.out HK.out.2.2.1 HK.out.2.2.2 (HM1.out.ext HF2.out) (HSV.out.ext HF2.out) (HE1.out.ext HF2.out) (HR1.out.ext HF2.out) _ (by first | rfl | simp) rfl rfl rfl rfl ?_
  intro t' w3 hn p1 p5 p6 F3
  have F13 := HF2.out.trans F3 (fun _ h => h.elim)
  have HF3 := Lib.hid F13
  have HM3 := Lib.hid (HM1.out.ext F13)
  have HE3 := Lib.hid (HE1.out.ext F13)
  clear F13 F3 HF2 HM1 HE1 HR1 HSV
  obtain ⟨f, hff, rfl⟩ := frame_open hn
  have e1 := hff 1 _ p1
  have e5 := hff 5 _ p5
  have e6 := hff 6 _ p6
  clear hff hn p1 p5 p6
  rw [lit103, e1, e5, e6]
  clear e1 e5 e6
  go_wp2_with fail
  refine (root_z lb Z v _ z (by rw [HS.out]; have := HK.out; omega) w3 HM3.out HE3.out).mono ?_
  rintro e w4 ⟨⟨rt, cd, rfl, hrl, hcase⟩, F4⟩
  rw [HS.out] at hcase
  have HCS := Lib.hid hcase
  have HRL := Lib.hid hrl
  have HF4 := Lib.hid F4
  clear hcase hrl F4
  go_wp2_with (rw [zero32]; refine wpList_store_rowA rfl 31 (.tmp 10) (.tmp 64) rfl w4.heap.size (krow rt) rfl rfl 31 _ (heap_alloc_new _ _) (sz32' HRL.out) (by rw [ub_size, krow_size, HRL.out]) (krow_one _) ?_; intro w5 B F; simp only [Act.put, List.setIfInBounds_toArray, List.set_cons_zero, List.set_cons_succ]; refine Hid.out ?_)
  have G5 : Fr (fun _ => False) w3 w5 := (HF4.out.alloc (.cells (ub 32 (fun _ => 0)) 31)).trans F (fun k hk => .inr (by rw [hk]; exact HF4.out.size))
  have HG5 := Lib.hid G5
  clear B F G5
  refine Lib.hid ?_
  go_wp2_with (refine wpList_conv_mark rfl (.tmp 67) rfl w5.heap.size 1 1 #[.int .u8 120] rfl (heap_alloc_new _ _) ?_; intro w6 B6 F6; simp only [Act.put, List.setIfInBounds_toArray, List.set_cons_zero, List.set_cons_succ]; refine Hid.out ?_)
  have G6 : Fr (fun _ => False) w3 w6 := (HG5.out.alloc (.cells #[.int .u8 120] 5)).trans F6 (fun k hk => .inr (by rw [hk]; exact HG5.out.size))
  have C6 : Came w6 (some ⟨w5.heap.size, 0, none⟩) 1 1 [120] := came_cells (l := [120]) B6 rfl (by decide)
  clear B6 F6
  refine Lib.hid ?_
  go_wp2_with fail
  have HG6 := Lib.hid G6
  have HM6 := Lib.hid (HM3.out.ext G6)
  refine (add_any lb Z v _ (some ⟨w5.heap.size, 0, none⟩) 1 1 [120] w6 HM6.out C6 (by decide) (by rw [HS.out]; have := HK.out; omega) (by have h1 := HD.out; have h2 := HF3.out.size; have h3 := G6.size; omega) (HE3.out.ext G6)).mono ?_
  rintro e w7 ⟨rfl, v7, hM7, _, F7⟩
  rw [HS.out]
  have HF7 := Lib.hid ((((HF1.out.trans HF3.out (fun _ h => h.elim)).trans HG6.out (fun _ h => h.elim))).trans F7 (fun k h => .inr (by
    rcases h with h | h
    · have := HD.out; omega
    · have := (ownsRow_lt HM6.out.own k h).1; have := HD.out; omega)))
  have HLN := Lib.hid (show Calls Tryd.prog 12 #[.pointer (some ⟨lb, 0, none⟩)] w7 fun e w' => e = .returned (.int .i64 ((K + 1 : Nat) : Int)) ∧ w7 = w' from by have := len_m lb Z v7 _ w7 hM7; rw [List.length_append, HS.out] at this; exact this)
  have W1 : wrap64 ((K : Int) + 1) = ((K + 1 : Nat) : Int) := by have := HK.out; rw [IntWalk.wrap64_in _ (by omega)]; omega
  clear hM7 F7 G6 C6 HG6 HM6 HG5 HF4 HE3 HM3
  generalize hj : K + 1 = j at *
  clear hj
  rcases HCS.out with ⟨rfl, g1, g2⟩ | ⟨rfl, g1 | ⟨g1, g2⟩⟩
  · clear HCS
    go_wp2_with fail
    refine HLN.out.mono ?_
    rintro e w' ⟨rfl, rfl⟩
    go_wp2_with fail
    go_ret
    exact ⟨rfl, HF7.out⟩
  · clear HCS
    have g3 : ¬ (0 ≤ z) := by omega
    go_wp2_with fail
    refine HLN.out.mono ?_
    rintro e w' ⟨rfl, rfl⟩
    go_wp2_with fail
    go_ret
    exact ⟨rfl, HF7.out⟩
  · clear HCS
    have g3 : ¬ (z ≤ (K : Int)) := by omega
    have g4 : decide (z ≤ (K : Int)) = false := decide_eq_false g3
    go_wp2_with fail
    refine HLN.out.mono ?_
    rintro e w' ⟨rfl, rfl⟩
    go_wp2_with fail
    go_ret
    exact ⟨rfl, HF7.out⟩
end Go.Proofs.YtjndkjgbplpfeaaDoor

/-
  CodecBack.
-/
import Derived.Test.YtdlmfodnookmhaaMm
namespace Go.Proofs.Ytdlmfodnookmhaa
open Go.RowKit
set_option linter.unusedVariables false
set_option linter.unusedSimpArgs false
theorem own_none {w : World} {base : Nat} {e : TypeId} {size n c : Nat} {xs : List Value} (h : w.ownsRow base e size (.slice none n c) n xs) : n = 0 ∧ c = 0 := by
  rcases h.2 with ⟨e, _⟩ | ⟨g, cap, cur, e, _⟩
  · injection e with _ e1 e2; exact ⟨e1, e2⟩
  · injection e with e1; cases e1
theorem src_y (y : UInt8) (W : World) : Src Try.prog 1 26 (.slice (some ⟨W.heap.size, 0, none⟩) 1 1) 1 (bv [y]) (W.alloc (.cells #[.int .u8 (y.toNat : Int)] 5)) :=
  src_block (cs := #[.int .u8 (y.toNat : Int)]) (t := 5) (heap_alloc_new W _) (by simp [Value.oneCell']) 1
theorem bInfo : ∃ ti z, Try.prog.info? 5 = some ti ∧ ti.zero = some z ∧ ti.size = 1 ∧ ti.bytes = 1 ∧ z.cells.size = 1 := ⟨_, .int .u8 0, rfl, by kernel_rfl, by kernel_rfl, by kernel_rfl, by kernel_rfl⟩
set_option maxRecDepth 100000 in
set_option maxHeartbeats 6400000 in
theorem back_any {w : World} {v0 : Value} {ps : List Prt} (more : UInt8) (h0 : PL w v0 ps) : Calls Try.prog 4 #[v0, .int .u8 (more.toNat : Int)] w fun e w' => e = .returned (.bool true) ∧ Fr (fun _ => False) w w' := by
  obtain ⟨a, cap, rfl, hl, hc⟩ := h0
  have HC := Lib.hid hc
  have I0 : Inv w (w.alloc (.cells #[.slice none 0 0, .int .i64 0] 31)) w.heap.size (.slice none 0 0) (.slice none 0 0) [] :=
    ⟨World.ownsRow_nil _ _ _ _, ⟨heap_alloc_new w _, World.ownsRow_nil _ _ _ _, by simp⟩, by simp [Value.ownBlock], by simp [Value.ownBlock], by simp, (Fr.refl _ w).alloc _, Nat.le_refl _, by simp [bts]⟩
  have HI0 := Lib.hid I0
  clear hc I0
  obtain ⟨N, hN⟩ : ∃ N, N = ps.length := ⟨_, rfl⟩
  rw [← hN]
  have HN := Lib.hid hN
  clear hN hl
  go_enter Try.func4, Try.ntmps4
  go_wp2_with fail
  refine back1 (bw := w.heap.size) HN.out HC.out HI0.out _ rfl rfl rfl rfl rfl rfl ?_
  intro t w4 ks v' vin hn p1 p5 p6 hks I4
  obtain ⟨bw, hbw⟩ : ∃ bw, bw = w.heap.size := ⟨_, rfl⟩
  rw [← hbw] at p5 I4
  have HBW := Lib.hid hbw
  have HI4 := Lib.hid I4
  have HKS := Lib.hid hks
  clear I4 hks HC HI0 HN hbw
  obtain ⟨f, hff, rfl⟩ := frame_open hn
  have e1 := hff 1 _ p1
  have e5 := hff 5 _ p5
  have e6 := hff 6 _ p6
  clear hff hn p1 p5 p6
  rw [lit156, e1, e5, e6]
  clear e1 e5 e6
  go_wp2_with fail
  refine (bytes_any bw w.heap.size v' 0 (bv (bts ks)) w4 HI4.out.wr (bv_one _) (by rw [bv_length]; have := HI4.out.len; have := HKS.out; omega)).mono ?_
  rintro e w5 ⟨v2, rfl, hown, F5⟩
  rw [bv_length] at hown
  obtain ⟨acc, hacc⟩ : ∃ acc, acc = bts ks := ⟨_, rfl⟩
  rw [← hacc] at hown
  have HACC := Lib.hid hacc
  obtain ⟨n, hnn⟩ : ∃ n, n = acc.length := ⟨_, rfl⟩
  rw [← hnn] at hown
  have HNN := Lib.hid hnn
  have hn6 : n ≤ 6040 := by have := HI4.out.len; have := HKS.out; rw [hnn, hacc]; omega
  have HN6 := Lib.hid hn6
  obtain ⟨ab, cb, rfl⟩ := own_slice hown
  have HOB := Lib.hid hown
  have HI5 := Lib.hid (HI4.out.fr' F5)
  clear hacc hnn hn6 hown HI4 F5
  go_wp2_with fail
  refine (codes_any w5).mono ?_
  rintro e w6 ⟨rfl, F6⟩
  have HI6 := Lib.hid (HI5.out.fr' F6)
  have HOB6 := Lib.hid (own_fr HOB.out F6 (fun _ _ h => h))
  clear HI5 HOB F6
  go_wp2_with fail
  have hl6 : Lies w6 ab acc := (lies_own HOB6.out).2.2.2
  have HL6 := Lib.hid hl6
  clear hl6
  refine (read_any ab cb acc n HNN.out.symm w6 HL6.out (fun e => by
    subst e
    obtain ⟨e1, e2⟩ := own_none HOB6.out
    exact ⟨List.eq_nil_of_length_eq_zero (by rw [← HNN.out]; exact e1), e2⟩) (by have := HN6.out; omega)).mono ?_
  rintro e w8 ⟨br1, a1, c1, rfl, rd1, hsome1, hb1, hin1, F8⟩
  have HI8 := Lib.hid (HI6.out.fr' F8)
  have HR1 := Lib.hid rd1
  have HB1 := Lib.hid hb1
  have HS6 := Lib.hid HI6.out.fr.size
  have hv6 : ∀ j, vin.ownBlock = some j → j < w6.heap.size := fun j hj => (own_lt HI6.out.own j hj).2
  have HV6 := Lib.hid hv6
  have HS8 := Lib.hid F8.size
  clear hv6
  have hl8 : Lies w8 ab acc := HL6.out.fr F8 (fun _ _ h => h)
  have FE := (Fr.refl (fun _ => False) w8).alloc (.cells #[] 5)
  have hsb := (hl8.fr FE (fun _ _ h => h)).src cb
  rw [← HNN.out] at hsb
  have HSB := Lib.hid hsb
  have HOE := Lib.hid (show (w8.alloc (.cells #[] 5)).ownsRow w.heap.size 5 1 (.slice (some ⟨w8.heap.size, 0, none⟩) 0 0) 0 [] from World.ownsRow_lit w8 #[] 0 HI8.out.fr.size (by unfold maxLen; omega) rfl)
  have HFE := Lib.hid FE
  have HMX := Lib.hid (show 0 + n ≤ maxLen by have := HN6.out; simp only [maxLen]; omega)
  have HBY := Lib.hid (show (0 + n) * 1 ≤ 140737488355328 by have := HN6.out; omega)
  have HMX2 := Lib.hid (show 0 + n + 1 ≤ maxLen by have := HN6.out; simp only [maxLen]; omega)
  have HBY2 := Lib.hid (show (0 + n + 1) * 1 ≤ 140737488355328 by have := HN6.out; omega)
  have HBS := Lib.hid (show w.heap.size ≤ (w8.alloc (.cells #[] 5)).heap.size by have := HI8.out.fr.size; simp; omega)
  obtain ⟨ti, zv, t1, t2, t3', t4, t5⟩ := bInfo
  have HT := Lib.hid (And.intro t1 (And.intro t2 (And.intro t3' (And.intro t4 t5))))
  clear rd1 hsome1 hb1 hin1 F8 hl8 FE hsb t1 t2 t3' t4 t5 HI6 HOB6 HL6
  go_wp2_with (first | (focus ((refine wpList_app _ rfl (.tmp 63) (.tmp 64) 26 26 rfl w.heap.size 5 ti zv 1 1 Try.underlying26 HT.out.1 HT.out.2.1 HT.out.2.2.1 HT.out.2.2.2.1 HT.out.2.2.2.2 (by decide) (.slice (some ⟨w8.heap.size, 0, none⟩) 0 0) 0 [] rfl HOE.out _ rfl n (bv acc) HSB.out HMX.out HBY.out HBS.out ?_); intro v3 w9 O9 G9 G9x; have HOA := Lib.hid (own_fr O9 ((Fr.refl (fun _ => False) w9).alloc (.cells #[.int .u8 (more.toNat : Int)] 5)) (fun _ _ h => h)); have HSA := Lib.hid (src_y more w9); have HG9 := Lib.hid (Fr.ofGrown G9); have HX9 := Lib.hid G9x; clear O9 G9 G9x; simp only [Act.put, List.setIfInBounds_toArray, List.set_cons_zero, List.set_cons_succ])) | (focus ((refine wpList_app _ rfl (.tmp 65) (.tmp 67) 26 26 rfl w.heap.size 5 ti zv 1 1 Try.underlying26 HT.out.1 HT.out.2.1 HT.out.2.2.1 HT.out.2.2.2.1 HT.out.2.2.2.2 (by decide) v3 (0 + n) ([] ++ bv acc) rfl HOA.out _ rfl 1 (bv [more]) HSA.out HMX2.out HBY2.out (Nat.le_trans HBS.out (Nat.le_trans HG9.out.size (by simp))) ?_); intro v4 wa Oa Ga Gax; simp only [Act.put, List.setIfInBounds_toArray, List.set_cons_zero, List.set_cons_succ])))
  have Fa := Fr.ofGrown Ga
  have Oa2 : wa.ownsRow w.heap.size 5 1 v4 (0 + n + 1) (bv (acc ++ [more])) := by
    have e : bv (acc ++ [more]) = [] ++ bv acc ++ bv [more] := by rw [bv_append]; rfl
    rw [e]; exact Oa
  obtain ⟨a4, c4, rfl⟩ := own_slice Oa2
  have HOa := Lib.hid Oa2
  have hlen4 : (acc ++ [more]).length = 0 + n + 1 := by rw [List.length_append, ← HNN.out]; simp
  have hlA : Lies wa a4 (acc ++ [more]) := (lies_own Oa2).2.2.2
  have HLA := Lib.hid hlA
  have HLN := Lib.hid hlen4
  have hv3 : ∀ j, v3.ownBlock = some j → w8.heap.size ≤ j := fun j hj => by
    rcases HX9.out with o | o
    · rw [o] at hj
      have : w8.heap.size = j := by simpa [Value.ownBlock] using hj
      omega
    · rw [o] at hj
      have := Option.some.inj hj
      simp at this
      omega
  have F8a : Fr (fun _ => False) w8 wa := ((HFE.out.trans HG9.out (fun j hj => .inr (by
    have : w8.heap.size = j := by simpa [Value.ownBlock] using hj
    omega))).alloc (.cells #[.int .u8 (more.toNat : Int)] 5)).trans Fa (fun j hj => .inr (hv3 j hj))
  have HFA := Lib.hid F8a
  clear F8a hv3 Oa2 hlen4 hlA Fa Oa Ga Gax HX9 HG9 HFE HOA HSA HSB HOE HT HMX HBY HMX2 HBY2 HBS
  go_wp2_with fail
  refine (read_any a4 c4 (acc ++ [more]) (0 + n + 1) HLN.out wa HLA.out (fun e => by
    subst e
    have := (own_none HOa.out).1
    omega) (by have := HN6.out; omega)).mono ?_
  rintro e wb ⟨br2, a2, c2, rfl, rd2, _, hb2, hin2, Fb⟩
  have F8b := HFA.out.trans Fb (fun _ h => h.elim)
  have hs8a := HFA.out.size
  have hl1 : br1 < w8.heap.size := lt_of_block HR1.out.blk
  have hb1 := HB1.out
  have hs6 := HS6.out
  have hs8 := HS8.out
  have I2 : In2 w wb vin ks br1 br2 more 0 := by
    refine ⟨own_fr HI8.out.own F8b (fun _ _ h => h), HI8.out.fr.trans F8b (fun _ h => h.elim), by omega, by omega, by omega, fun e => by have := HV6.out _ e; omega, fun e => by have := HV6.out _ e; omega, ⟨a1, c1, ?_, fun hne e => ?_⟩, ⟨a2, c2, ?_, fun e => by have := hin2 _ e; omega⟩⟩
    · rw [List.drop_zero, ← HACC.out]
      exact HR1.out.fr F8b (fun h => h) (fun _ _ h => h)
    · rw [List.drop_zero, ← HACC.out] at hne
      obtain ⟨g, o, e1, hg⟩ := HR1.out.some hne
      rw [e1] at e
      obtain ⟨ad, e2, e3⟩ := e
      cases e2
      simp at e3
      omega
    · rw [List.drop_zero, ← HACC.out]
      exact rd2
  have HI2 := Lib.hid I2
  have HOK := Lib.hid HI8.out.ok
  clear I2 F8b hs8a hl1 hb1 hs6 hs8 rd2 hb2 hin2 Fb HLA HLN HOa HR1 HB1 HS6 HS8 HV6 HFA HI8
  go_wp2_with fail
  refine back2 HOK.out HKS.out HI2.out _ rfl rfl rfl rfl rfl ?_
  intro t wc hn p13 p14 I9
  obtain ⟨f, hff, rfl⟩ := frame_open hn
  have e13 := hff 13 _ p13
  have e14 := hff 14 _ p14
  clear hff hn p13 p14
  rw [lit156, e13, e14]
  clear e13 e14
  have HF9 := Lib.hid I9.fr
  obtain ⟨b1, d1, s1, _⟩ := I9.r1
  obtain ⟨b2, d2, s2, _⟩ := I9.r2
  have he : bts (ks.drop ks.length) = [] := by rw [List.drop_length]; rfl
  rw [he] at s1 s2
  have HS1 := Lib.hid s1
  have HS2 := Lib.hid (show Rd wc br2 b2 d2 [more] 0 from s2)
  clear I9 s1 s2 he HI2
  go_wp2_with fail
  refine (end_ok br1 d1 b1 wc HS1.out).mono ?_
  rintro e wd ⟨rfl, rfl⟩
  go_wp2_with fail
  refine (end_tail br2 d2 b2 [more] wc HS2.out (by simp)).mono ?_
  rintro e wd ⟨rfl, rfl⟩
  go_wp2_with fail
  refine (left_any br2 d2 b2 [more] 0 wc HS2.out).mono ?_
  rintro e wd ⟨rfl, rfl⟩
  go_wp2_with fail
  go_ret
  exact ⟨rfl, HF9.out⟩
theorem u8_of_wf {z : Int} (h : (Lit.int .u8 z).wf = true) : ∃ x : UInt8, z = (x.toNat : Int) := by
  have h2 : IntKind.u8.min ≤ z ∧ z ≤ IntKind.u8.max := by simpa [Lit.wf] using h
  have e1 : IntKind.u8.min = 0 := by decide
  have e2 : IntKind.u8.max = 255 := by decide
  rw [e1, e2] at h2
  refine ⟨UInt8.ofNat z.toNat, ?_⟩
  have : (UInt8.ofNat z.toNat).toNat = z.toNat % 256 := rfl
  omega
theorem back_int {w : World} {v0 : Value} {ps : List Prt} {z : Int} (hz : (Lit.int .u8 z).wf = true) (h0 : PL w v0 ps) : Calls Try.prog 4 #[v0, .int .u8 z] w fun e w' => e = .returned (.bool true) ∧ Fr (fun _ => False) w w' := by
  obtain ⟨b, rfl⟩ := u8_of_wf hz
  exact back_any b h0
end Go.Proofs.Ytdlmfodnookmhaa

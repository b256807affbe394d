/-
  DiskJobs: Sync, Arm, Crash.
-/
import Derived.Test.YtgladedjgjhlaaaXc
namespace Go.Proofs.Ytgladedjgjhlaaa
open Go.RowKit
set_option linter.unusedVariables false
set_option linter.unusedSimpArgs false
set_option maxRecDepth 100000 in
set_option maxHeartbeats 6400000 in
theorem job_armneg {w0 w1 : World} {d bn bl e fl m k : Nat} {N L : Nat → Nat → UInt8} {ws : List (Nat × (Nat → UInt8))} {wv wv' v1 : Value} {wr ar : Int} {dn : Bool} {js : List Jb} {x : Jb} {z : Int} (D : DA w1 d bn bl m N L ws wv wr ar dn w0.heap.size) (E : DB w1 e fl m L ws wv' wr ar dn w0.heap.size) (DJ : ∀ j, Tch d bn bl wv j → ¬ TchB e fl wv' j) (hN : ∀ i, i < m → N i = lay L ws i) (hws : ws.length ≤ k) (hr0 : 0 ≤ wr) (hr1 : wr ≤ (k : Int)) (ha : In64 ar) (ha0 : 0 ≤ ar) (F0 : Fr (fun _ => False) w0 w1)
    (hj : JL w0 v1 js) (hx : js[k]? = some x) (h60 : k < 60) (hz : IntKind.u64.wrap x.what = z) (hq : z.tmod 6 = 4) (t : Array Value) (hn : t.size = 179)
    (p0 : t[0]? = some (.int .i64 (m : Int))) (p1 : t[1]? = some v1) (p5 : t[5]? = some (.pointer (some ⟨d, 0, none⟩))) (p7 : t[7]? = some (.pointer (some ⟨e, 0, none⟩))) (p8 : t[8]? = some (.int .i64 (k : Int)))
    (K : Act → World → Prop) (Q : Exit → Act → World → Prop) (hK : ∀ t' w', t'.size = 179 → t'[0]? = some (.int .i64 (m : Int)) → t'[1]? = some v1 → t'[5]? = some (.pointer (some ⟨d, 0, none⟩)) → t'[7]? = some (.pointer (some ⟨e, 0, none⟩)) → t'[8]? = some (.int .i64 ((k + 1 : Nat) : Int)) → Sx w' d bn bl e fl m (k + 1) w0.heap.size → Fr (fun _ => False) w0 w' → K ⟨t', []⟩ w') (hsp : x.spot < 0) :
    Code.wp Try.prog (loopAt Try.f4 0) (Exit.then K Q) ⟨t, []⟩ w1 := by
  have HSP := Lib.hid hsp
  clear hsp
  obtain ⟨a, cap, rfl, hl, hc⟩ := hj
  obtain ⟨wh, sp, xb, ks⟩ := x
  have hkl : k < js.length := (List.getElem?_eq_some_iff.1 hx).1
  obtain ⟨g, o, kv, rfl, hgl, hc0, hc1, hc2, hc3, hkk, hs0, hs1⟩ := hc k _ hx
  simp only at hc0 hc1 hc2 hkk hs0 hs1 hz
  have HZ := Lib.hid hz
  have HQ6 := Lib.hid hq
  clear hz hq
  obtain ⟨ka, kc, ek⟩ : ∃ a c, kv = .slice a ks.length c := by obtain ⟨a2, c2, e2, _⟩ := hkk; exact ⟨a2, c2, e2⟩
  subst ek
  have ql : (k : Int) < (js.length : Int) := by omega
  have q60 : (k : Int) < 60 := by omega
  have q0 : (0 : Int) ≤ (k : Int) := by omega
  have w4 : wrap64 ((k : Int) + 1) = (k : Int) + 1 := IntWalk.wrap64_in _ (by omega)
  have v4 : IntKind.i64.wrap ((k : Int) + 1) = (k : Int) + 1 := IntWalk.i64_in _ (by omega)
  have rg : w1.rangeAt g (o + k * 4) (#[.int .i64 wh, .int .i64 sp, .int .u8 (xb.toNat : Int), .slice ka ks.length kc] : Array Value).toList := fun j u hj => by
    match j, hj with
    | 0, hj => obtain rfl : _ = u := by simpa using hj
               exact (cell_fr F0 hgl (fun h => h)).trans hc0
    | 1, hj => obtain rfl : _ = u := by simpa using hj
               exact (cell_fr F0 hgl (fun h => h)).trans hc1
    | 2, hj => obtain rfl : _ = u := by simpa using hj
               exact (cell_fr F0 hgl (fun h => h)).trans hc2
    | 3, hj => obtain rfl : _ = u := by simpa using hj
               exact (cell_fr F0 hgl (fun h => h)).trans hc3
    | j + 4, hj => simp at hj
  have sR : Sz 4 #[.int .i64 wh, .int .i64 sp, .int .u8 (xb.toNat : Int), .slice ka ks.length kc] := ⟨rfl, by simp [Value.oneCell']⟩
  have hR0 : (#[.int .i64 wh, .int .i64 sp, .int .u8 (xb.toNat : Int), .slice ka ks.length kc] : Array Value)[0]? = some (.int .i64 wh) := rfl
  have hR1 : (#[.int .i64 wh, .int .i64 sp, .int .u8 (xb.toNat : Int), .slice ka ks.length kc] : Array Value)[1]? = some (.int .i64 sp) := rfl
  have hR2 : (#[.int .i64 wh, .int .i64 sp, .int .u8 (xb.toNat : Int), .slice ka ks.length kc] : Array Value)[2]? = some (.int .u8 (xb.toNat : Int)) := rfl
  have hR3 : (#[.int .i64 wh, .int .i64 sp, .int .u8 (xb.toNat : Int), .slice ka ks.length kc] : Array Value)[3]? = some (.slice ka ks.length kc) := rfl
  have szJ : (Try.prog.info? 44).map (·.size) = some 4 := by kernel_rfl
  have szr : (Try.prog.info? 44).map (·.size) = some (#[.int .i64 wh, .int .i64 sp, .int .u8 (xb.toNat : Int), .slice ka ks.length kc] : Array Value).toList.length := by kernel_rfl
  generalize (#[.int .i64 wh, .int .i64 sp, .int .u8 (xb.toNat : Int), .slice ka ks.length kc] : Array Value) = R at *
  have K1 := (Kn.start w1).new (w1.heap.size) 4 #[.int .i64 0, .int .i64 0, .int .u8 0, .slice none 0 0] 44 rfl rfl
  have sZ : Sz 128 Try.zeroCells30 := by rw [Try.zBk]; exact ⟨ub_size _ _, ub_one _ _⟩
  have sZ9 := sZ29
  have g9d : ∀ j, Tch d bn bl wv j → j ≠ w1.heap.size := fun j hj e => by
    have := (da_up D j hj).2; omega
  have g9e : ∀ j, TchB e fl wv' j → j ≠ w1.heap.size := fun j hj e => by
    have := (E.up j hj).2; omega
  obtain ⟨f, hff, rfl⟩ := frame_open hn
  have e0 := hff 0 _ p0
  have e1 := hff 1 _ p1
  have e5 := hff 5 _ p5
  have e7 := hff 7 _ p7
  have e8 := hff 8 _ p8
  clear hff hn p0 p1 p5 p7 p8
  rw [lit179, e0, e1, e5, e7, e8]
  clear e0 e1 e5 e7 e8
  conv => arg 2; whnf
  have HK := Lib.hid hK
  have HD := Lib.hid D
  have HE := Lib.hid E
  have HN := Lib.hid hN
  have HJ := Lib.hid DJ
  have HF := Lib.hid F0
  have HA := Lib.hid ha
  have HA0 := Lib.hid ha0
  have HW := Lib.hid hws
  have HR0 := Lib.hid hr0
  have HR1 := Lib.hid hr1
  have HKK := Lib.hid hkk
  have HKL := Lib.hid hkl
  have HS1 := Lib.hid hs1
  clear hK D E hN DJ F0 ha ha0 hws hr0 hr1 hkk hc hc0 hc1 hc2 hc3 hs0 hs1 hx hkl hgl
  have hz := HZ.out
  have hq := HQ6.out
  go_wp2_with (first | (focus ((with_reducible refine wpList_load_mid ?la 44 (.tmp 50) ?lb g (o + k * 4) ?lc R.toList _ rg Try.underlying44 ?ld szr ?le); (case la => rfl); (case ld => rfl); (case lb => rfl); (case lc => rfl); (simp only [Act.put, List.setIfInBounds_toArray, List.set_cons_zero, List.set_cons_succ]; simp only [Array.toArray_toList]))) | (focus (((with_reducible refine' wpList_store_kn K1 rfl 44 (.tmp 9) _ rfl 0 _ _ _ _ _ rfl rfl szJ _ _ _); rotate_left 2; (focus exact rfl)); (focus (with_reducible assumption)); intro wz Kz; clear K1; have K1 := Kz; clear Kz; simp only [List.set_cons_zero, List.set_cons_succ] at K1; have x0 := K1.cell 0 rfl 0 hR0; have x1 := K1.cell 0 rfl 1 hR1; have x2 := K1.cell 0 rfl 2 hR2; have x3 := K1.cell 0 rfl 3 hR3; try (simp only [Act.put, List.setIfInBounds_toArray, List.set_cons_zero, List.set_cons_succ]))))
  have s1 : decide (sp < 0) = true := by have hsp : sp < 0 := HSP.out; simpa using hsp
  have D1 := HD.out.fr K1.fr (fun _ _ h => h)
  have F01 := HF.out.trans K1.fr (fun _ h => h.elim)
  refine (arm_any d bn bl m wv wr ar dn sp _ D1.blk).mono ?_
  rintro e w2 ⟨rfl, h2, F2⟩
  rw [if_pos (show sp < 0 from HSP.out)] at h2
  have D2 := da_arm D1 h2 F2
  have E2 := (HE.out.fr K1.fr (fun _ _ h => h)).fr F2 (fun j hj hs => HJ.out j (.inl hs) hj)
  have G2 := D1.grow F01 F2 (fun j hs => .inl hs)
  have x1 : w2.cell? ⟨w1.heap.size, 1, none⟩ = some (.int .i64 sp) := (cell_of_block ((F2.block _ (lt_of_block (K1.heap 0 rfl)) (fun hs => g9d _ (.inl hs) rfl)).trans (K1.heap 0 rfl)) 1).trans hR1
  have HD2 := Lib.hid D2
  have HE2 := Lib.hid E2
  have he2 := E2.blk
  have szi : (Try.prog.info? 3).map (·.size) = some 1 := by kernel_rfl
  clear F2 K1 x0 x2 x3 D2 E2 D1 F01 h2
  go_wp2_with (focus ((with_reducible refine wpList_store_one ?p0 3 (.tmp 117) (.tmp 115) ?p1 e 3 ?p2 (.int .i64 0) ?p3 ?p4 ?p5 szi 51 _ he2 ?p6 ?p7); (case p0 => rfl); (case p1 => rfl); (case p2 => rfl); (case p3 => first | rfl | (simp [Act.eval]; done) | (simp [Act.eval]; intro hh; exact absurd hh (Int.not_le.2 (show sp < 0 from HSP.out))) | (simp [Act.eval]; exact HSP.out) | (simp [Act.eval]; intro hh; exact absurd hh (Int.not_lt.2 (show 0 ≤ sp from HSP.out)))); (case p4 => rfl); (case p5 => rfl); (case p6 => simp [rcells]); intro w3 h3 F3; (simp only [Act.put, List.setIfInBounds_toArray, List.set_cons_zero, List.set_cons_succ])))
  have E3 := db_arm HE2.out (ar' := 0) h3 F3
  have D3 := HD2.out.fr F3 (fun j hj hs => HJ.out j hj (.inl hs))
  have G4 := HE2.out.grow G2 F3 (fun j hs => .inl hs)
  have HD3 := Lib.hid D3
  have HE3 := Lib.hid E3
  clear F3 G2 HD2 HE2 x1 h3 he2 D3 E3
  refine jobs_check HD3.out HE3.out _ rfl rfl rfl rfl rfl rfl ?_
  intro t' w9 hn9 p0 p1 p5 p7 p8 p153 F9
  obtain ⟨f, hff, rfl⟩ := frame_open hn9
  have e0 := hff 0 _ p0
  have e1 := hff 1 _ p1
  have e5 := hff 5 _ p5
  have e7 := hff 7 _ p7
  have e8 := hff 8 _ p8
  have e153 := hff 153 _ p153
  clear hff hn9 p0 p1 p5 p7 p8 p153
  rw [lit179, e0, e1, e5, e7, e8, e153]
  clear e0 e1 e5 e7 e8 e153
  go_wp2_with fail
  exact HK.out _ _ rfl rfl rfl rfl rfl (by simp) ⟨N, L, ws, wv, wv', wr, 0, dn, HD3.out.fr F9 (fun _ _ h => h), HE3.out.fr F9 (fun _ _ h => h), HJ.out, HN.out, by have := HW.out; omega, HR0.out, by have := HR1.out; omega, by unfold In64; omega, by omega⟩ (G4.trans F9 (fun _ h => h.elim))
set_option maxRecDepth 100000 in
set_option maxHeartbeats 6400000 in
theorem job_arm {w0 w1 : World} {d bn bl e fl m k : Nat} {N L : Nat → Nat → UInt8} {ws : List (Nat × (Nat → UInt8))} {wv wv' v1 : Value} {wr ar : Int} {dn : Bool} {js : List Jb} {x : Jb} {z : Int} (D : DA w1 d bn bl m N L ws wv wr ar dn w0.heap.size) (E : DB w1 e fl m L ws wv' wr ar dn w0.heap.size) (DJ : ∀ j, Tch d bn bl wv j → ¬ TchB e fl wv' j) (hN : ∀ i, i < m → N i = lay L ws i) (hws : ws.length ≤ k) (hr0 : 0 ≤ wr) (hr1 : wr ≤ (k : Int)) (ha : In64 ar) (ha0 : 0 ≤ ar) (F0 : Fr (fun _ => False) w0 w1)
    (hj : JL w0 v1 js) (hx : js[k]? = some x) (h60 : k < 60) (hz : IntKind.u64.wrap x.what = z) (hq : z.tmod 6 = 4) (t : Array Value) (hn : t.size = 179)
    (p0 : t[0]? = some (.int .i64 (m : Int))) (p1 : t[1]? = some v1) (p5 : t[5]? = some (.pointer (some ⟨d, 0, none⟩))) (p7 : t[7]? = some (.pointer (some ⟨e, 0, none⟩))) (p8 : t[8]? = some (.int .i64 (k : Int)))
    (K : Act → World → Prop) (Q : Exit → Act → World → Prop) (hK : ∀ t' w', t'.size = 179 → t'[0]? = some (.int .i64 (m : Int)) → t'[1]? = some v1 → t'[5]? = some (.pointer (some ⟨d, 0, none⟩)) → t'[7]? = some (.pointer (some ⟨e, 0, none⟩)) → t'[8]? = some (.int .i64 ((k + 1 : Nat) : Int)) → Sx w' d bn bl e fl m (k + 1) w0.heap.size → Fr (fun _ => False) w0 w' → K ⟨t', []⟩ w') (hsp : 0 ≤ x.spot) :
    Code.wp Try.prog (loopAt Try.f4 0) (Exit.then K Q) ⟨t, []⟩ w1 := by
  have HSP := Lib.hid hsp
  clear hsp
  obtain ⟨a, cap, rfl, hl, hc⟩ := hj
  obtain ⟨wh, sp, xb, ks⟩ := x
  have hkl : k < js.length := (List.getElem?_eq_some_iff.1 hx).1
  obtain ⟨g, o, kv, rfl, hgl, hc0, hc1, hc2, hc3, hkk, hs0, hs1⟩ := hc k _ hx
  simp only at hc0 hc1 hc2 hkk hs0 hs1 hz
  have HZ := Lib.hid hz
  have HQ6 := Lib.hid hq
  clear hz hq
  obtain ⟨ka, kc, ek⟩ : ∃ a c, kv = .slice a ks.length c := by obtain ⟨a2, c2, e2, _⟩ := hkk; exact ⟨a2, c2, e2⟩
  subst ek
  have ql : (k : Int) < (js.length : Int) := by omega
  have q60 : (k : Int) < 60 := by omega
  have q0 : (0 : Int) ≤ (k : Int) := by omega
  have w4 : wrap64 ((k : Int) + 1) = (k : Int) + 1 := IntWalk.wrap64_in _ (by omega)
  have v4 : IntKind.i64.wrap ((k : Int) + 1) = (k : Int) + 1 := IntWalk.i64_in _ (by omega)
  have rg : w1.rangeAt g (o + k * 4) (#[.int .i64 wh, .int .i64 sp, .int .u8 (xb.toNat : Int), .slice ka ks.length kc] : Array Value).toList := fun j u hj => by
    match j, hj with
    | 0, hj => obtain rfl : _ = u := by simpa using hj
               exact (cell_fr F0 hgl (fun h => h)).trans hc0
    | 1, hj => obtain rfl : _ = u := by simpa using hj
               exact (cell_fr F0 hgl (fun h => h)).trans hc1
    | 2, hj => obtain rfl : _ = u := by simpa using hj
               exact (cell_fr F0 hgl (fun h => h)).trans hc2
    | 3, hj => obtain rfl : _ = u := by simpa using hj
               exact (cell_fr F0 hgl (fun h => h)).trans hc3
    | j + 4, hj => simp at hj
  have sR : Sz 4 #[.int .i64 wh, .int .i64 sp, .int .u8 (xb.toNat : Int), .slice ka ks.length kc] := ⟨rfl, by simp [Value.oneCell']⟩
  have hR0 : (#[.int .i64 wh, .int .i64 sp, .int .u8 (xb.toNat : Int), .slice ka ks.length kc] : Array Value)[0]? = some (.int .i64 wh) := rfl
  have hR1 : (#[.int .i64 wh, .int .i64 sp, .int .u8 (xb.toNat : Int), .slice ka ks.length kc] : Array Value)[1]? = some (.int .i64 sp) := rfl
  have hR2 : (#[.int .i64 wh, .int .i64 sp, .int .u8 (xb.toNat : Int), .slice ka ks.length kc] : Array Value)[2]? = some (.int .u8 (xb.toNat : Int)) := rfl
  have hR3 : (#[.int .i64 wh, .int .i64 sp, .int .u8 (xb.toNat : Int), .slice ka ks.length kc] : Array Value)[3]? = some (.slice ka ks.length kc) := rfl
  have szJ : (Try.prog.info? 44).map (·.size) = some 4 := by kernel_rfl
  have szr : (Try.prog.info? 44).map (·.size) = some (#[.int .i64 wh, .int .i64 sp, .int .u8 (xb.toNat : Int), .slice ka ks.length kc] : Array Value).toList.length := by kernel_rfl
  generalize (#[.int .i64 wh, .int .i64 sp, .int .u8 (xb.toNat : Int), .slice ka ks.length kc] : Array Value) = R at *
  have K1 := (Kn.start w1).new (w1.heap.size) 4 #[.int .i64 0, .int .i64 0, .int .u8 0, .slice none 0 0] 44 rfl rfl
  have sZ : Sz 128 Try.zeroCells30 := by rw [Try.zBk]; exact ⟨ub_size _ _, ub_one _ _⟩
  have sZ9 := sZ29
  have g9d : ∀ j, Tch d bn bl wv j → j ≠ w1.heap.size := fun j hj e => by
    have := (da_up D j hj).2; omega
  have g9e : ∀ j, TchB e fl wv' j → j ≠ w1.heap.size := fun j hj e => by
    have := (E.up j hj).2; omega
  obtain ⟨f, hff, rfl⟩ := frame_open hn
  have e0 := hff 0 _ p0
  have e1 := hff 1 _ p1
  have e5 := hff 5 _ p5
  have e7 := hff 7 _ p7
  have e8 := hff 8 _ p8
  clear hff hn p0 p1 p5 p7 p8
  rw [lit179, e0, e1, e5, e7, e8]
  clear e0 e1 e5 e7 e8
  conv => arg 2; whnf
  have HK := Lib.hid hK
  have HD := Lib.hid D
  have HE := Lib.hid E
  have HN := Lib.hid hN
  have HJ := Lib.hid DJ
  have HF := Lib.hid F0
  have HA := Lib.hid ha
  have HA0 := Lib.hid ha0
  have HW := Lib.hid hws
  have HR0 := Lib.hid hr0
  have HR1 := Lib.hid hr1
  have HKK := Lib.hid hkk
  have HKL := Lib.hid hkl
  have HS1 := Lib.hid hs1
  clear hK D E hN DJ F0 ha ha0 hws hr0 hr1 hkk hc hc0 hc1 hc2 hc3 hs0 hs1 hx hkl hgl
  have hz := HZ.out
  have hq := HQ6.out
  go_wp2_with (first | (focus ((with_reducible refine wpList_load_mid ?la 44 (.tmp 50) ?lb g (o + k * 4) ?lc R.toList _ rg Try.underlying44 ?ld szr ?le); (case la => rfl); (case ld => rfl); (case lb => rfl); (case lc => rfl); (simp only [Act.put, List.setIfInBounds_toArray, List.set_cons_zero, List.set_cons_succ]; simp only [Array.toArray_toList]))) | (focus (((with_reducible refine' wpList_store_kn K1 rfl 44 (.tmp 9) _ rfl 0 _ _ _ _ _ rfl rfl szJ _ _ _); rotate_left 2; (focus exact rfl)); (focus (with_reducible assumption)); intro wz Kz; clear K1; have K1 := Kz; clear Kz; simp only [List.set_cons_zero, List.set_cons_succ] at K1; have x0 := K1.cell 0 rfl 0 hR0; have x1 := K1.cell 0 rfl 1 hR1; have x2 := K1.cell 0 rfl 2 hR2; have x3 := K1.cell 0 rfl 3 hR3; try (simp only [Act.put, List.setIfInBounds_toArray, List.set_cons_zero, List.set_cons_succ]))))
  have s1 : decide (sp < 0) = false := by have hsp : 0 ≤ sp := HSP.out; simpa using hsp
  have s0 : 0 ≤ sp := HSP.out
  have D1 := HD.out.fr K1.fr (fun _ _ h => h)
  have F01 := HF.out.trans K1.fr (fun _ h => h.elim)
  refine (arm_any d bn bl m wv wr ar dn sp _ D1.blk).mono ?_
  rintro e w2 ⟨rfl, h2, F2⟩
  rw [if_neg (show ¬ (sp < 0) by have h5 : 0 ≤ sp := HSP.out; omega)] at h2
  have D2 := da_arm D1 h2 F2
  have E2 := (HE.out.fr K1.fr (fun _ _ h => h)).fr F2 (fun j hj hs => HJ.out j (.inl hs) hj)
  have G2 := D1.grow F01 F2 (fun j hs => .inl hs)
  have x1 : w2.cell? ⟨w1.heap.size, 1, none⟩ = some (.int .i64 sp) := (cell_of_block ((F2.block _ (lt_of_block (K1.heap 0 rfl)) (fun hs => g9d _ (.inl hs) rfl)).trans (K1.heap 0 rfl)) 1).trans hR1
  have HD2 := Lib.hid D2
  have HE2 := Lib.hid E2
  have he2 := E2.blk
  have szi : (Try.prog.info? 3).map (·.size) = some 1 := by kernel_rfl
  clear F2 K1 x0 x2 x3 D2 E2 D1 F01 h2
  go_wp2_with (focus ((with_reducible refine wpList_store_one ?p0 3 (.tmp 117) (.tmp 115) ?p1 e 3 ?p2 (.int .i64 sp) ?p3 ?p4 ?p5 szi 51 _ he2 ?p6 ?p7); (case p0 => rfl); (case p1 => rfl); (case p2 => rfl); (case p3 => first | rfl | (simp [Act.eval]; done) | (simp [Act.eval]; intro hh; exact absurd hh (Int.not_le.2 (show sp < 0 from HSP.out))) | (simp [Act.eval]; exact HSP.out) | (simp [Act.eval]; intro hh; exact absurd hh (Int.not_lt.2 (show 0 ≤ sp from HSP.out)))); (case p4 => rfl); (case p5 => rfl); (case p6 => simp [rcells]); intro w3 h3 F3; (simp only [Act.put, List.setIfInBounds_toArray, List.set_cons_zero, List.set_cons_succ])))
  have E3 := db_arm HE2.out (ar' := sp) h3 F3
  have D3 := HD2.out.fr F3 (fun j hj hs => HJ.out j hj (.inl hs))
  have G4 := HE2.out.grow G2 F3 (fun j hs => .inl hs)
  have HD3 := Lib.hid D3
  have HE3 := Lib.hid E3
  clear F3 G2 HD2 HE2 x1 h3 he2 D3 E3
  refine jobs_check HD3.out HE3.out _ rfl rfl rfl rfl rfl rfl ?_
  intro t' w9 hn9 p0 p1 p5 p7 p8 p153 F9
  obtain ⟨f, hff, rfl⟩ := frame_open hn9
  have e0 := hff 0 _ p0
  have e1 := hff 1 _ p1
  have e5 := hff 5 _ p5
  have e7 := hff 7 _ p7
  have e8 := hff 8 _ p8
  have e153 := hff 153 _ p153
  clear hff hn9 p0 p1 p5 p7 p8 p153
  rw [lit179, e0, e1, e5, e7, e8, e153]
  clear e0 e1 e5 e7 e8 e153
  go_wp2_with fail
  exact HK.out _ _ rfl rfl rfl rfl rfl (by simp) ⟨N, L, ws, wv, wv', wr, sp, dn, HD3.out.fr F9 (fun _ _ h => h), HE3.out.fr F9 (fun _ _ h => h), HJ.out, HN.out, by have := HW.out; omega, HR0.out, by have := HR1.out; omega, HS1.out, HSP.out⟩ (G4.trans F9 (fun _ h => h.elim))
end Go.Proofs.Ytgladedjgjhlaaa

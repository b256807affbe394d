/-
  DiskJobs: Sync, Arm, Crash.
-/
import Derived.Test.YtgladedjgjhlaaaXb
namespace Go.Proofs.Ytgladedjgjhlaaa
open Go.RowKit
set_option linter.unusedVariables false
set_option linter.unusedSimpArgs false
theorem dj_nil {d bn bl e fl : Nat} {wv wv' : Value} (h : ∀ j, Tch d bn bl wv j → ¬ TchB e fl wv' j) : ∀ j, Tch d bn bl (.slice none 0 0) j → ¬ TchB e fl (.slice none 0 0) j := fun j h1 h2 => by
  have h1' : Tch d bn bl wv j := by
    rcases h1 with c | c | c | c
    · exact .inl c
    · exact .inr (.inl c)
    · exact .inr (.inr (.inl c))
    · exact absurd c (by simp [Value.ownBlock])
  have h2' : TchB e fl wv' j := by
    rcases h2 with c | c | c
    · exact .inl c
    · exact .inr (.inl c)
    · exact absurd c (by simp [Value.ownBlock])
  exact h j h1' h2'
theorem da_arm {w w' : World} {d bn bl n : Nat} {N L : Nat → Nat → UInt8} {ws : List (Nat × (Nat → UInt8))} {wv : Value} {wr ar ar' : Int} {dn : Bool} {base : Nat} (h : DA w d bn bl n N L ws wv wr ar dn base) (hb : w'.heap[d]? = some (.cells (dcells bn bl n wv wr ar' dn) 106 (0, 0))) (hF : Fr (fun k => k = d) w w') : DA w' d bn bl n N L ws wv wr ar' dn base :=
  ⟨hb, (hF.block bn (lt_of_block h.now) (fun e => h.d1 e.symm)).trans h.now, (hF.block bl (lt_of_block h.las) (fun e => h.d2 e.symm)).trans h.las, own_fr h.own hF (fun k hk e => h.o1 (by rw [hk, e])), h.d1, h.d2, h.d3, h.o1, h.o2, h.o3, h.b1, h.b2, h.b3, h.hn, h.hw⟩
theorem db_arm {w w' : World} {d bl n : Nat} {L : Nat → Nat → UInt8} {ws : List (Nat × (Nat → UInt8))} {wv : Value} {wr ar : Int} {dn : Bool} {ar' : Int} {base : Nat} (h : DB w d bl n L ws wv wr ar dn base) (hb : w'.heap[d]? = some (.cells (rcells bl n wv wr ar' dn) 51 (0, 0))) (hF : Fr (fun k => k = d) w w') : DB w' d bl n L ws wv wr ar' dn base :=
  ⟨hb, (hF.block bl (lt_of_block h.las) (fun e => h.d2 e.symm)).trans h.las, own_fr h.own hF (fun k hk e => h.o1 (by rw [hk, e])), h.d2, h.o1, h.o3, h.b1, h.b3, h.hn, h.hw⟩
set_option maxRecDepth 100000 in
set_option maxHeartbeats 6400000 in
theorem job_syncdown {w0 w1 : World} {d bn bl e fl m k : Nat} {N L : Nat → Nat → UInt8} {ws : List (Nat × (Nat → UInt8))} {wv wv' v1 : Value} {wr ar : Int} {dn : Bool} {js : List Jb} {x : Jb} {z : Int} (D : DA w1 d bn bl m N L ws wv wr ar dn w0.heap.size) (E : DB w1 e fl m L ws wv' wr ar dn w0.heap.size) (DJ : ∀ j, Tch d bn bl wv j → ¬ TchB e fl wv' j) (hN : ∀ i, i < m → N i = lay L ws i) (hws : ws.length ≤ k) (hr0 : 0 ≤ wr) (hr1 : wr ≤ (k : Int)) (ha : In64 ar) (ha0 : 0 ≤ ar) (F0 : Fr (fun _ => False) w0 w1)
    (hj : JL w0 v1 js) (hx : js[k]? = some x) (h60 : k < 60) (hz : IntKind.u64.wrap x.what = z) (hq : z.tmod 6 = 3) (t : Array Value) (hn : t.size = 179)
    (p0 : t[0]? = some (.int .i64 (m : Int))) (p1 : t[1]? = some v1) (p5 : t[5]? = some (.pointer (some ⟨d, 0, none⟩))) (p7 : t[7]? = some (.pointer (some ⟨e, 0, none⟩))) (p8 : t[8]? = some (.int .i64 (k : Int)))
    (K : Act → World → Prop) (Q : Exit → Act → World → Prop) (hK : ∀ t' w', t'.size = 179 → t'[0]? = some (.int .i64 (m : Int)) → t'[1]? = some v1 → t'[5]? = some (.pointer (some ⟨d, 0, none⟩)) → t'[7]? = some (.pointer (some ⟨e, 0, none⟩)) → t'[8]? = some (.int .i64 ((k + 1 : Nat) : Int)) → Sx w' d bn bl e fl m (k + 1) w0.heap.size → Fr (fun _ => False) w0 w' → K ⟨t', []⟩ w') (hdn : dn = true) :
    Code.wp Try.prog (loopAt Try.f4 0) (Exit.then K Q) ⟨t, []⟩ w1 := by
  subst hdn
  obtain ⟨a, cap, rfl, hl, hc⟩ := hj
  obtain ⟨wh, sp, xb, ks⟩ := x
  have hkl : k < js.length := (List.getElem?_eq_some_iff.1 hx).1
  obtain ⟨g, o, kv, rfl, hgl, hc0, hc1, hc2, hc3, hkk, hs0, hs1⟩ := hc k _ hx
  simp only at hc0 hc1 hc2 hkk hs0 hs1 hz
  have HZ := Lib.hid hz
  have HQ6 := Lib.hid hq
  clear hz hq
  obtain ⟨ka, kc, ek⟩ : ∃ a c, kv = .slice a ks.length c := by obtain ⟨a2, c2, e2, _⟩ := hkk; exact ⟨a2, c2, e2⟩
  subst ek
  have ql : (k : Int) < (js.length : Int) := by omega
  have q60 : (k : Int) < 60 := by omega
  have q0 : (0 : Int) ≤ (k : Int) := by omega
  have w4 : wrap64 ((k : Int) + 1) = (k : Int) + 1 := IntWalk.wrap64_in _ (by omega)
  have v4 : IntKind.i64.wrap ((k : Int) + 1) = (k : Int) + 1 := IntWalk.i64_in _ (by omega)
  have rg : w1.rangeAt g (o + k * 4) (#[.int .i64 wh, .int .i64 sp, .int .u8 (xb.toNat : Int), .slice ka ks.length kc] : Array Value).toList := fun j u hj => by
    match j, hj with
    | 0, hj => obtain rfl : _ = u := by simpa using hj
               exact (cell_fr F0 hgl (fun h => h)).trans hc0
    | 1, hj => obtain rfl : _ = u := by simpa using hj
               exact (cell_fr F0 hgl (fun h => h)).trans hc1
    | 2, hj => obtain rfl : _ = u := by simpa using hj
               exact (cell_fr F0 hgl (fun h => h)).trans hc2
    | 3, hj => obtain rfl : _ = u := by simpa using hj
               exact (cell_fr F0 hgl (fun h => h)).trans hc3
    | j + 4, hj => simp at hj
  have sR : Sz 4 #[.int .i64 wh, .int .i64 sp, .int .u8 (xb.toNat : Int), .slice ka ks.length kc] := ⟨rfl, by simp [Value.oneCell']⟩
  have hR0 : (#[.int .i64 wh, .int .i64 sp, .int .u8 (xb.toNat : Int), .slice ka ks.length kc] : Array Value)[0]? = some (.int .i64 wh) := rfl
  have hR1 : (#[.int .i64 wh, .int .i64 sp, .int .u8 (xb.toNat : Int), .slice ka ks.length kc] : Array Value)[1]? = some (.int .i64 sp) := rfl
  have hR2 : (#[.int .i64 wh, .int .i64 sp, .int .u8 (xb.toNat : Int), .slice ka ks.length kc] : Array Value)[2]? = some (.int .u8 (xb.toNat : Int)) := rfl
  have hR3 : (#[.int .i64 wh, .int .i64 sp, .int .u8 (xb.toNat : Int), .slice ka ks.length kc] : Array Value)[3]? = some (.slice ka ks.length kc) := rfl
  have szJ : (Try.prog.info? 44).map (·.size) = some 4 := by kernel_rfl
  have szr : (Try.prog.info? 44).map (·.size) = some (#[.int .i64 wh, .int .i64 sp, .int .u8 (xb.toNat : Int), .slice ka ks.length kc] : Array Value).toList.length := by kernel_rfl
  generalize (#[.int .i64 wh, .int .i64 sp, .int .u8 (xb.toNat : Int), .slice ka ks.length kc] : Array Value) = R at *
  have K1 := (Kn.start w1).new (w1.heap.size) 4 #[.int .i64 0, .int .i64 0, .int .u8 0, .slice none 0 0] 44 rfl rfl
  have sZ : Sz 128 Try.zeroCells30 := by rw [Try.zBk]; exact ⟨ub_size _ _, ub_one _ _⟩
  have sZ9 := sZ29
  have g9d : ∀ j, Tch d bn bl wv j → j ≠ w1.heap.size := fun j hj e => by
    have := (da_up D j hj).2; omega
  have g9e : ∀ j, TchB e fl wv' j → j ≠ w1.heap.size := fun j hj e => by
    have := (E.up j hj).2; omega
  obtain ⟨f, hff, rfl⟩ := frame_open hn
  have e0 := hff 0 _ p0
  have e1 := hff 1 _ p1
  have e5 := hff 5 _ p5
  have e7 := hff 7 _ p7
  have e8 := hff 8 _ p8
  clear hff hn p0 p1 p5 p7 p8
  rw [lit179, e0, e1, e5, e7, e8]
  clear e0 e1 e5 e7 e8
  conv => arg 2; whnf
  have HK := Lib.hid hK
  have HD := Lib.hid D
  have HE := Lib.hid E
  have HN := Lib.hid hN
  have HJ := Lib.hid DJ
  have HF := Lib.hid F0
  have HA := Lib.hid ha
  have HA0 := Lib.hid ha0
  have HW := Lib.hid hws
  have HR0 := Lib.hid hr0
  have HR1 := Lib.hid hr1
  have HKK := Lib.hid hkk
  have HKL := Lib.hid hkl
  have HS1 := Lib.hid hs1
  clear hK D E hN DJ F0 ha ha0 hws hr0 hr1 hkk hc hc0 hc1 hc2 hc3 hs0 hs1 hx hkl hgl
  have hz := HZ.out
  have hq := HQ6.out
  go_wp2_with (first | (focus ((with_reducible refine wpList_load_mid ?la 44 (.tmp 50) ?lb g (o + k * 4) ?lc R.toList _ rg Try.underlying44 ?ld szr ?le); (case la => rfl); (case ld => rfl); (case lb => rfl); (case lc => rfl); (simp only [Act.put, List.setIfInBounds_toArray, List.set_cons_zero, List.set_cons_succ]; simp only [Array.toArray_toList]))) | (focus (((with_reducible refine' wpList_store_kn K1 rfl 44 (.tmp 9) _ rfl 0 _ _ _ _ _ rfl rfl szJ _ _ _); rotate_left 2; (focus exact rfl)); (focus (with_reducible assumption)); intro wz Kz; clear K1; have K1 := Kz; clear Kz; simp only [List.set_cons_zero, List.set_cons_succ] at K1; have x0 := K1.cell 0 rfl 0 hR0; have x1 := K1.cell 0 rfl 1 hR1; have x2 := K1.cell 0 rfl 2 hR2; have x3 := K1.cell 0 rfl 3 hR3; try (simp only [Act.put, List.setIfInBounds_toArray, List.set_cons_zero, List.set_cons_succ]))))
  refine (sync_down d _ ((HD.out.fr K1.fr (fun _ _ h => h)).c 5 rfl)).mono ?_
  rintro e w2 ⟨rfl, F2⟩
  have G2 := K1.fr.trans F2 (fun _ h => h.elim)
  clear F2 K1 x0 x1 x2 x3
  go_wp2_with fail
  refine (rsync_down (HE.out.fr G2 (fun _ _ h => h))).mono ?_
  rintro e w3 ⟨rfl, F3⟩
  have G3 := G2.trans F3 (fun _ h => h.elim)
  clear F3 G2
  go_wp2_with fail
  refine jobs_check (HD.out.fr G3 (fun _ _ h => h)) (HE.out.fr G3 (fun _ _ h => h)) _ rfl rfl rfl rfl rfl rfl ?_
  intro t' w9 hn9 p0 p1 p5 p7 p8 p153 F9
  obtain ⟨f, hff, rfl⟩ := frame_open hn9
  have e0 := hff 0 _ p0
  have e1 := hff 1 _ p1
  have e5 := hff 5 _ p5
  have e7 := hff 7 _ p7
  have e8 := hff 8 _ p8
  have e153 := hff 153 _ p153
  clear hff hn9 p0 p1 p5 p7 p8 p153
  rw [lit179, e0, e1, e5, e7, e8, e153]
  clear e0 e1 e5 e7 e8 e153
  go_wp2_with fail
  exact HK.out _ _ rfl rfl rfl rfl rfl (by simp) ⟨N, L, ws, wv, wv', wr, ar, true, (HD.out.fr G3 (fun _ _ h => h)).fr F9 (fun _ _ h => h), (HE.out.fr G3 (fun _ _ h => h)).fr F9 (fun _ _ h => h), HJ.out, HN.out, by have := HW.out; omega, HR0.out, by have := HR1.out; omega, HA.out, HA0.out⟩ ((HF.out.trans G3 (fun _ h => h.elim)).trans F9 (fun _ h => h.elim))
set_option maxRecDepth 100000 in
set_option maxHeartbeats 6400000 in
theorem job_sync {w0 w1 : World} {d bn bl e fl m k : Nat} {N L : Nat → Nat → UInt8} {ws : List (Nat × (Nat → UInt8))} {wv wv' v1 : Value} {wr ar : Int} {dn : Bool} {js : List Jb} {x : Jb} {z : Int} (D : DA w1 d bn bl m N L ws wv wr ar dn w0.heap.size) (E : DB w1 e fl m L ws wv' wr ar dn w0.heap.size) (DJ : ∀ j, Tch d bn bl wv j → ¬ TchB e fl wv' j) (hN : ∀ i, i < m → N i = lay L ws i) (hws : ws.length ≤ k) (hr0 : 0 ≤ wr) (hr1 : wr ≤ (k : Int)) (ha : In64 ar) (ha0 : 0 ≤ ar) (F0 : Fr (fun _ => False) w0 w1)
    (hj : JL w0 v1 js) (hx : js[k]? = some x) (h60 : k < 60) (hz : IntKind.u64.wrap x.what = z) (hq : z.tmod 6 = 3) (t : Array Value) (hn : t.size = 179)
    (p0 : t[0]? = some (.int .i64 (m : Int))) (p1 : t[1]? = some v1) (p5 : t[5]? = some (.pointer (some ⟨d, 0, none⟩))) (p7 : t[7]? = some (.pointer (some ⟨e, 0, none⟩))) (p8 : t[8]? = some (.int .i64 (k : Int)))
    (K : Act → World → Prop) (Q : Exit → Act → World → Prop) (hK : ∀ t' w', t'.size = 179 → t'[0]? = some (.int .i64 (m : Int)) → t'[1]? = some v1 → t'[5]? = some (.pointer (some ⟨d, 0, none⟩)) → t'[7]? = some (.pointer (some ⟨e, 0, none⟩)) → t'[8]? = some (.int .i64 ((k + 1 : Nat) : Int)) → Sx w' d bn bl e fl m (k + 1) w0.heap.size → Fr (fun _ => False) w0 w' → K ⟨t', []⟩ w') (hdn : dn = false) :
    Code.wp Try.prog (loopAt Try.f4 0) (Exit.then K Q) ⟨t, []⟩ w1 := by
  subst hdn
  obtain ⟨a, cap, rfl, hl, hc⟩ := hj
  obtain ⟨wh, sp, xb, ks⟩ := x
  have hkl : k < js.length := (List.getElem?_eq_some_iff.1 hx).1
  obtain ⟨g, o, kv, rfl, hgl, hc0, hc1, hc2, hc3, hkk, hs0, hs1⟩ := hc k _ hx
  simp only at hc0 hc1 hc2 hkk hs0 hs1 hz
  have HZ := Lib.hid hz
  have HQ6 := Lib.hid hq
  clear hz hq
  obtain ⟨ka, kc, ek⟩ : ∃ a c, kv = .slice a ks.length c := by obtain ⟨a2, c2, e2, _⟩ := hkk; exact ⟨a2, c2, e2⟩
  subst ek
  have ql : (k : Int) < (js.length : Int) := by omega
  have q60 : (k : Int) < 60 := by omega
  have q0 : (0 : Int) ≤ (k : Int) := by omega
  have w4 : wrap64 ((k : Int) + 1) = (k : Int) + 1 := IntWalk.wrap64_in _ (by omega)
  have v4 : IntKind.i64.wrap ((k : Int) + 1) = (k : Int) + 1 := IntWalk.i64_in _ (by omega)
  have rg : w1.rangeAt g (o + k * 4) (#[.int .i64 wh, .int .i64 sp, .int .u8 (xb.toNat : Int), .slice ka ks.length kc] : Array Value).toList := fun j u hj => by
    match j, hj with
    | 0, hj => obtain rfl : _ = u := by simpa using hj
               exact (cell_fr F0 hgl (fun h => h)).trans hc0
    | 1, hj => obtain rfl : _ = u := by simpa using hj
               exact (cell_fr F0 hgl (fun h => h)).trans hc1
    | 2, hj => obtain rfl : _ = u := by simpa using hj
               exact (cell_fr F0 hgl (fun h => h)).trans hc2
    | 3, hj => obtain rfl : _ = u := by simpa using hj
               exact (cell_fr F0 hgl (fun h => h)).trans hc3
    | j + 4, hj => simp at hj
  have sR : Sz 4 #[.int .i64 wh, .int .i64 sp, .int .u8 (xb.toNat : Int), .slice ka ks.length kc] := ⟨rfl, by simp [Value.oneCell']⟩
  have hR0 : (#[.int .i64 wh, .int .i64 sp, .int .u8 (xb.toNat : Int), .slice ka ks.length kc] : Array Value)[0]? = some (.int .i64 wh) := rfl
  have hR1 : (#[.int .i64 wh, .int .i64 sp, .int .u8 (xb.toNat : Int), .slice ka ks.length kc] : Array Value)[1]? = some (.int .i64 sp) := rfl
  have hR2 : (#[.int .i64 wh, .int .i64 sp, .int .u8 (xb.toNat : Int), .slice ka ks.length kc] : Array Value)[2]? = some (.int .u8 (xb.toNat : Int)) := rfl
  have hR3 : (#[.int .i64 wh, .int .i64 sp, .int .u8 (xb.toNat : Int), .slice ka ks.length kc] : Array Value)[3]? = some (.slice ka ks.length kc) := rfl
  have szJ : (Try.prog.info? 44).map (·.size) = some 4 := by kernel_rfl
  have szr : (Try.prog.info? 44).map (·.size) = some (#[.int .i64 wh, .int .i64 sp, .int .u8 (xb.toNat : Int), .slice ka ks.length kc] : Array Value).toList.length := by kernel_rfl
  generalize (#[.int .i64 wh, .int .i64 sp, .int .u8 (xb.toNat : Int), .slice ka ks.length kc] : Array Value) = R at *
  have K1 := (Kn.start w1).new (w1.heap.size) 4 #[.int .i64 0, .int .i64 0, .int .u8 0, .slice none 0 0] 44 rfl rfl
  have sZ : Sz 128 Try.zeroCells30 := by rw [Try.zBk]; exact ⟨ub_size _ _, ub_one _ _⟩
  have sZ9 := sZ29
  have g9d : ∀ j, Tch d bn bl wv j → j ≠ w1.heap.size := fun j hj e => by
    have := (da_up D j hj).2; omega
  have g9e : ∀ j, TchB e fl wv' j → j ≠ w1.heap.size := fun j hj e => by
    have := (E.up j hj).2; omega
  obtain ⟨f, hff, rfl⟩ := frame_open hn
  have e0 := hff 0 _ p0
  have e1 := hff 1 _ p1
  have e5 := hff 5 _ p5
  have e7 := hff 7 _ p7
  have e8 := hff 8 _ p8
  clear hff hn p0 p1 p5 p7 p8
  rw [lit179, e0, e1, e5, e7, e8]
  clear e0 e1 e5 e7 e8
  conv => arg 2; whnf
  have HK := Lib.hid hK
  have HD := Lib.hid D
  have HE := Lib.hid E
  have HN := Lib.hid hN
  have HJ := Lib.hid DJ
  have HF := Lib.hid F0
  have HA := Lib.hid ha
  have HA0 := Lib.hid ha0
  have HW := Lib.hid hws
  have HR0 := Lib.hid hr0
  have HR1 := Lib.hid hr1
  have HKK := Lib.hid hkk
  have HKL := Lib.hid hkl
  have HS1 := Lib.hid hs1
  clear hK D E hN DJ F0 ha ha0 hws hr0 hr1 hkk hc hc0 hc1 hc2 hc3 hs0 hs1 hx hkl hgl
  have hz := HZ.out
  have hq := HQ6.out
  go_wp2_with (first | (focus ((with_reducible refine wpList_load_mid ?la 44 (.tmp 50) ?lb g (o + k * 4) ?lc R.toList _ rg Try.underlying44 ?ld szr ?le); (case la => rfl); (case ld => rfl); (case lb => rfl); (case lc => rfl); (simp only [Act.put, List.setIfInBounds_toArray, List.set_cons_zero, List.set_cons_succ]; simp only [Array.toArray_toList]))) | (focus (((with_reducible refine' wpList_store_kn K1 rfl 44 (.tmp 9) _ rfl 0 _ _ _ _ _ rfl rfl szJ _ _ _); rotate_left 2; (focus exact rfl)); (focus (with_reducible assumption)); intro wz Kz; clear K1; have K1 := Kz; clear Kz; simp only [List.set_cons_zero, List.set_cons_succ] at K1; have x0 := K1.cell 0 rfl 0 hR0; have x1 := K1.cell 0 rfl 1 hR1; have x2 := K1.cell 0 rfl 2 hR2; have x3 := K1.cell 0 rfl 3 hR3; try (simp only [Act.put, List.setIfInBounds_toArray, List.set_cons_zero, List.set_cons_succ]))))
  have hl2 : ws.length < 1000000000000 := by have := HW.out; omega
  refine (sync_any (HD.out.fr K1.fr (fun _ _ h => h)) hl2).mono ?_
  rintro e w2 ⟨rfl, D2, F2⟩
  have E2 := (HE.out.fr K1.fr (fun _ _ h => h)).fr F2 (fun j hj hs => HJ.out j (hs.elim .inl (fun c => .inr (.inr (.inl c)))) hj)
  have G2 := HF.out.trans K1.fr (fun _ h => h.elim)
  have G3 := (HD.out.fr K1.fr (fun _ _ h => h)).grow G2 F2 (fun j hs => hs.elim .inl (fun c => .inr (.inr (.inl c))))
  have HD2 := Lib.hid D2
  have HE2 := Lib.hid E2
  clear F2 K1 x0 x1 x2 x3 D2 E2 G2
  go_wp2_with fail
  refine (rsync_any HE2.out hl2).mono ?_
  rintro e w3 ⟨rfl, E3, F3⟩
  have D3 := HD2.out.fr F3 (fun j hj hs => dj_nil HJ.out j hj (hs.elim .inl (fun c => .inr (.inl c))))
  have G4 := HE2.out.grow G3 F3 (fun j hs => hs.elim .inl (fun c => .inr (.inl c)))
  clear F3 G3 HD2 HE2
  have HD3 := Lib.hid D3
  have HE3 := Lib.hid E3
  clear D3 E3
  go_wp2_with fail
  refine jobs_check HD3.out HE3.out _ rfl rfl rfl rfl rfl rfl ?_
  intro t' w9 hn9 p0 p1 p5 p7 p8 p153 F9
  obtain ⟨f, hff, rfl⟩ := frame_open hn9
  have e0 := hff 0 _ p0
  have e1 := hff 1 _ p1
  have e5 := hff 5 _ p5
  have e7 := hff 7 _ p7
  have e8 := hff 8 _ p8
  have e153 := hff 153 _ p153
  clear hff hn9 p0 p1 p5 p7 p8 p153
  rw [lit179, e0, e1, e5, e7, e8, e153]
  clear e0 e1 e5 e7 e8 e153
  go_wp2_with fail
  exact HK.out _ _ rfl rfl rfl rfl rfl (by simp) ⟨N, lay L ws, [], .slice none 0 0, .slice none 0 0, wr, ar, false, HD3.out.fr F9 (fun _ _ h => h), HE3.out.fr F9 (fun _ _ h => h), dj_nil HJ.out, HN.out, Nat.zero_le _, HR0.out, by have := HR1.out; omega, HA.out, HA0.out⟩ (G4.trans F9 (fun _ h => h.elim))
set_option maxRecDepth 100000 in
set_option maxHeartbeats 6400000 in
theorem job_crash {w0 w1 : World} {d bn bl e fl m k : Nat} {N L : Nat → Nat → UInt8} {ws : List (Nat × (Nat → UInt8))} {wv wv' v1 : Value} {wr ar : Int} {dn : Bool} {js : List Jb} {x : Jb} {z : Int} (D : DA w1 d bn bl m N L ws wv wr ar dn w0.heap.size) (E : DB w1 e fl m L ws wv' wr ar dn w0.heap.size) (DJ : ∀ j, Tch d bn bl wv j → ¬ TchB e fl wv' j) (hN : ∀ i, i < m → N i = lay L ws i) (hws : ws.length ≤ k) (hr0 : 0 ≤ wr) (hr1 : wr ≤ (k : Int)) (ha : In64 ar) (ha0 : 0 ≤ ar) (F0 : Fr (fun _ => False) w0 w1)
    (hj : JL w0 v1 js) (hx : js[k]? = some x) (h60 : k < 60) (hz : IntKind.u64.wrap x.what = z) (hq : z.tmod 6 = 5) (t : Array Value) (hn : t.size = 179)
    (p0 : t[0]? = some (.int .i64 (m : Int))) (p1 : t[1]? = some v1) (p5 : t[5]? = some (.pointer (some ⟨d, 0, none⟩))) (p7 : t[7]? = some (.pointer (some ⟨e, 0, none⟩))) (p8 : t[8]? = some (.int .i64 (k : Int)))
    (K : Act → World → Prop) (Q : Exit → Act → World → Prop) (hK : ∀ t' w', t'.size = 179 → t'[0]? = some (.int .i64 (m : Int)) → t'[1]? = some v1 → t'[5]? = some (.pointer (some ⟨d, 0, none⟩)) → t'[7]? = some (.pointer (some ⟨e, 0, none⟩)) → t'[8]? = some (.int .i64 ((k + 1 : Nat) : Int)) → Sx w' d bn bl e fl m (k + 1) w0.heap.size → Fr (fun _ => False) w0 w' → K ⟨t', []⟩ w') :
    Code.wp Try.prog (loopAt Try.f4 0) (Exit.then K Q) ⟨t, []⟩ w1 := by
  obtain ⟨a, cap, rfl, hl, hc⟩ := hj
  obtain ⟨wh, sp, xb, ks⟩ := x
  have hkl : k < js.length := (List.getElem?_eq_some_iff.1 hx).1
  obtain ⟨g, o, kv, rfl, hgl, hc0, hc1, hc2, hc3, hkk, hs0, hs1⟩ := hc k _ hx
  simp only at hc0 hc1 hc2 hkk hs0 hs1 hz
  have HZ := Lib.hid hz
  have HQ6 := Lib.hid hq
  clear hz hq
  obtain ⟨ka, kc, ek⟩ : ∃ a c, kv = .slice a ks.length c := by obtain ⟨a2, c2, e2, _⟩ := hkk; exact ⟨a2, c2, e2⟩
  subst ek
  have ql : (k : Int) < (js.length : Int) := by omega
  have q60 : (k : Int) < 60 := by omega
  have q0 : (0 : Int) ≤ (k : Int) := by omega
  have w4 : wrap64 ((k : Int) + 1) = (k : Int) + 1 := IntWalk.wrap64_in _ (by omega)
  have v4 : IntKind.i64.wrap ((k : Int) + 1) = (k : Int) + 1 := IntWalk.i64_in _ (by omega)
  have rg : w1.rangeAt g (o + k * 4) (#[.int .i64 wh, .int .i64 sp, .int .u8 (xb.toNat : Int), .slice ka ks.length kc] : Array Value).toList := fun j u hj => by
    match j, hj with
    | 0, hj => obtain rfl : _ = u := by simpa using hj
               exact (cell_fr F0 hgl (fun h => h)).trans hc0
    | 1, hj => obtain rfl : _ = u := by simpa using hj
               exact (cell_fr F0 hgl (fun h => h)).trans hc1
    | 2, hj => obtain rfl : _ = u := by simpa using hj
               exact (cell_fr F0 hgl (fun h => h)).trans hc2
    | 3, hj => obtain rfl : _ = u := by simpa using hj
               exact (cell_fr F0 hgl (fun h => h)).trans hc3
    | j + 4, hj => simp at hj
  have sR : Sz 4 #[.int .i64 wh, .int .i64 sp, .int .u8 (xb.toNat : Int), .slice ka ks.length kc] := ⟨rfl, by simp [Value.oneCell']⟩
  have hR0 : (#[.int .i64 wh, .int .i64 sp, .int .u8 (xb.toNat : Int), .slice ka ks.length kc] : Array Value)[0]? = some (.int .i64 wh) := rfl
  have hR1 : (#[.int .i64 wh, .int .i64 sp, .int .u8 (xb.toNat : Int), .slice ka ks.length kc] : Array Value)[1]? = some (.int .i64 sp) := rfl
  have hR2 : (#[.int .i64 wh, .int .i64 sp, .int .u8 (xb.toNat : Int), .slice ka ks.length kc] : Array Value)[2]? = some (.int .u8 (xb.toNat : Int)) := rfl
  have hR3 : (#[.int .i64 wh, .int .i64 sp, .int .u8 (xb.toNat : Int), .slice ka ks.length kc] : Array Value)[3]? = some (.slice ka ks.length kc) := rfl
  have szJ : (Try.prog.info? 44).map (·.size) = some 4 := by kernel_rfl
  have szr : (Try.prog.info? 44).map (·.size) = some (#[.int .i64 wh, .int .i64 sp, .int .u8 (xb.toNat : Int), .slice ka ks.length kc] : Array Value).toList.length := by kernel_rfl
  generalize (#[.int .i64 wh, .int .i64 sp, .int .u8 (xb.toNat : Int), .slice ka ks.length kc] : Array Value) = R at *
  have K1 := (Kn.start w1).new (w1.heap.size) 4 #[.int .i64 0, .int .i64 0, .int .u8 0, .slice none 0 0] 44 rfl rfl
  have sZ : Sz 128 Try.zeroCells30 := by rw [Try.zBk]; exact ⟨ub_size _ _, ub_one _ _⟩
  have sZ9 := sZ29
  have g9d : ∀ j, Tch d bn bl wv j → j ≠ w1.heap.size := fun j hj e => by
    have := (da_up D j hj).2; omega
  have g9e : ∀ j, TchB e fl wv' j → j ≠ w1.heap.size := fun j hj e => by
    have := (E.up j hj).2; omega
  obtain ⟨f, hff, rfl⟩ := frame_open hn
  have e0 := hff 0 _ p0
  have e1 := hff 1 _ p1
  have e5 := hff 5 _ p5
  have e7 := hff 7 _ p7
  have e8 := hff 8 _ p8
  clear hff hn p0 p1 p5 p7 p8
  rw [lit179, e0, e1, e5, e7, e8]
  clear e0 e1 e5 e7 e8
  conv => arg 2; whnf
  have HK := Lib.hid hK
  have HD := Lib.hid D
  have HE := Lib.hid E
  have HN := Lib.hid hN
  have HJ := Lib.hid DJ
  have HF := Lib.hid F0
  have HA := Lib.hid ha
  have HA0 := Lib.hid ha0
  have HW := Lib.hid hws
  have HR0 := Lib.hid hr0
  have HR1 := Lib.hid hr1
  have HKK := Lib.hid hkk
  have HKL := Lib.hid hkl
  have HS1 := Lib.hid hs1
  clear hK D E hN DJ F0 ha ha0 hws hr0 hr1 hkk hc hc0 hc1 hc2 hc3 hs0 hs1 hx hkl hgl
  have hz := HZ.out
  have hq := HQ6.out
  go_wp2_with (first | (focus ((with_reducible refine wpList_load_mid ?la 44 (.tmp 50) ?lb g (o + k * 4) ?lc R.toList _ rg Try.underlying44 ?ld szr ?le); (case la => rfl); (case ld => rfl); (case lb => rfl); (case lc => rfl); (simp only [Act.put, List.setIfInBounds_toArray, List.set_cons_zero, List.set_cons_succ]; simp only [Array.toArray_toList]))) | (focus (((with_reducible refine' wpList_store_kn K1 rfl 44 (.tmp 9) _ rfl 0 _ _ _ _ _ rfl rfl szJ _ _ _); rotate_left 2; (focus exact rfl)); (focus (with_reducible assumption)); intro wz Kz; clear K1; have K1 := Kz; clear Kz; simp only [List.set_cons_zero, List.set_cons_succ] at K1; have x0 := K1.cell 0 rfl 0 hR0; have x1 := K1.cell 0 rfl 1 hR1; have x2 := K1.cell 0 rfl 2 hR2; have x3 := K1.cell 0 rfl 3 hR3; try (simp only [Act.put, List.setIfInBounds_toArray, List.set_cons_zero, List.set_cons_succ]))))
  have hl2 : ws.length < 1000000000000 := by have := HW.out; omega
  have D1 := HD.out.fr K1.fr (fun _ _ h => h)
  have F01 := HF.out.trans K1.fr (fun _ h => h.elim)
  refine (crash_any D1 hl2 (HKK.out.kb F01 (fun j hs => (da_up D1 j (hs.elim .inl (fun c => c.elim (fun c => .inr (.inl c)) (fun c => .inr (.inr (.inl c)))))).1))).mono ?_
  rintro e w2 ⟨rfl, D2, F2⟩
  have hS2 : ∀ j, (j = d ∨ j = bn ∨ j = bl) → Tch d bn bl wv j := fun j hs => hs.elim .inl (fun c => c.elim (fun c => .inr (.inl c)) (fun c => .inr (.inr (.inl c))))
  have E2 := (HE.out.fr K1.fr (fun _ _ h => h)).fr F2 (fun j hj hs => HJ.out j (hS2 j hs) hj)
  have G2 := D1.grow F01 F2 hS2
  have x3 : w2.cell? ⟨w1.heap.size, 3, none⟩ = some (.slice ka ks.length kc) := (cell_of_block ((F2.block _ (lt_of_block (K1.heap 0 rfl)) (fun hs => g9d _ (hS2 _ hs) rfl)).trans (K1.heap 0 rfl)) 3).trans hR3
  have HD2 := Lib.hid D2
  have HE2 := Lib.hid E2
  clear F2 K1 x0 x1 x2 D2 E2 D1 F01 hS2
  go_wp2_with fail
  refine (rcrash_any HE2.out hl2 (HKK.out.kb G2 (fun j hs => (HE2.out.up j (hs.elim .inl (fun c => .inr (.inl c)))).1))).mono ?_
  rintro e w3 ⟨rfl, E3, F3⟩
  have D3 := HD2.out.fr F3 (fun j hj hs => dj_nil HJ.out j hj (hs.elim .inl (fun c => .inr (.inl c))))
  have G4 := HE2.out.grow G2 F3 (fun j hs => hs.elim .inl (fun c => .inr (.inl c)))
  clear F3 G2 HD2 HE2 x3
  have HD3 := Lib.hid D3
  have HE3 := Lib.hid E3
  clear D3 E3
  go_wp2_with fail
  refine jobs_check HD3.out HE3.out _ rfl rfl rfl rfl rfl rfl ?_
  intro t' w9 hn9 p0 p1 p5 p7 p8 p153 F9
  obtain ⟨f, hff, rfl⟩ := frame_open hn9
  have e0 := hff 0 _ p0
  have e1 := hff 1 _ p1
  have e5 := hff 5 _ p5
  have e7 := hff 7 _ p7
  have e8 := hff 8 _ p8
  have e153 := hff 153 _ p153
  clear hff hn9 p0 p1 p5 p7 p8 p153
  rw [lit179, e0, e1, e5, e7, e8, e153]
  clear e0 e1 e5 e7 e8 e153
  go_wp2_with fail
  exact HK.out _ _ rfl rfl rfl rfl rfl (by simp) ⟨lay L (keepOf ws ks), lay L (keepOf ws ks), [], .slice none 0 0, .slice none 0 0, wr, 0, false, HD3.out.fr F9 (fun _ _ h => h), HE3.out.fr F9 (fun _ _ h => h), dj_nil HJ.out, fun _ _ => rfl, Nat.zero_le _, HR0.out, by have := HR1.out; omega, by unfold In64; omega, by omega⟩ (G4.trans F9 (fun _ h => h.elim))
end Go.Proofs.Ytgladedjgjhlaaa

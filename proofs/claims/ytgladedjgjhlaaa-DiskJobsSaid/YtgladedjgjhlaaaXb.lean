/-
  DiskJobs: each job's round.
-/
import Derived.Test.YtgladedjgjhlaaaXa
namespace Go.Proofs.Ytgladedjgjhlaaa
open Go.RowKit
set_option linter.unusedVariables false
set_option linter.unusedSimpArgs false
/-- What holds of both disks between the jobs. -/
def Sx (w : World) (d bn bl e fl m k base : Nat) : Prop := ∃ N L ws wv wv' wr ar dn, DA w d bn bl m N L ws wv wr ar dn base ∧ DB w e fl m L ws wv' wr ar dn base ∧ (∀ j, Tch d bn bl wv j → ¬ TchB e fl wv' j) ∧ (∀ i, i < m → N i = lay L ws i) ∧ ws.length ≤ k ∧ 0 ≤ wr ∧ wr ≤ (k : Int) ∧ In64 ar ∧ 0 ≤ ar
theorem da_up {w : World} {d bn bl n : Nat} {N L : Nat → Nat → UInt8} {ws : List (Nat × (Nat → UInt8))} {wv : Value} {wr ar : Int} {dn : Bool} {base : Nat} (h : DA w d bn bl n N L ws wv wr ar dn base) (k : Nat) (hk : Tch d bn bl wv k) : base ≤ k ∧ k < w.heap.size := by
  rcases hk with e | e | e | e
  · rw [e]; exact ⟨h.b1, lt_of_block h.blk⟩
  · rw [e]; exact ⟨h.b2, lt_of_block h.now⟩
  · rw [e]; exact ⟨h.b3, lt_of_block h.las⟩
  · rcases h.own.2 with ⟨e2, _⟩ | ⟨g, cap, cur, e2, hb, hg, _⟩
    · rw [e2] at e; exact absurd e (by simp [Value.ownBlock])
    · rw [e2] at e
      have : g = k := by simpa [Value.ownBlock] using e
      rw [← this]; exact ⟨hb, lt_of_block hg⟩
set_option maxRecDepth 100000 in
theorem neq_rb (f g : Nat → UInt8) (w : World) : (binOp .neq 29 (.agg (ub 128 f)) (.agg (ub 128 g))).run Try.prog w = .ok (.bool (!(bl128 f == bl128 g))) w := by
  have h : (binOp .eql 29 (.agg (ub 128 f)) (.agg (ub 128 g))).run Try.prog w = .ok (.bool (bl128 f == bl128 g)) w := by
    rw [ub_cells, ub_cells]
    refine run_eql_bytes w 29 5 128 Try.underlying29 Try.underlying5 ?_ (bl128 f) (bl128 g) (bl128_len f) (bl128_len g)
    intro w2
    have : (Try.prog.info? 5).map (·.size) = some 1 := by kernel_rfl
    obtain ⟨i0, hi, hz⟩ := Option.map_eq_some_iff.1 this
    simp [sizeOf, typeInfo, hi, hz]
  rw [run_eql_struct] at h
  rw [run_neq_struct]
  revert h
  cases (Op.equalIn 10000 29 (.agg (ub 128 f)) (.agg (ub 128 g))).run Try.prog w with
  | ok b w2 =>
    intro h
    simp only [Result.andThen_ok] at h ⊢
    injection h with h1 h2
    injection h1 with h1
    rw [h1, h2]
  | halt a b => intro h; cases h
set_option maxRecDepth 100000 in
set_option maxHeartbeats 6400000 in
theorem job_none {w0 w1 : World} {d bn bl e fl m k : Nat} {N L : Nat → Nat → UInt8} {ws : List (Nat × (Nat → UInt8))} {wv wv' v1 : Value} {wr ar : Int} {dn : Bool} {js : List Jb} {x : Jb} {z : Int} (D : DA w1 d bn bl m N L ws wv wr ar dn w0.heap.size) (E : DB w1 e fl m L ws wv' wr ar dn w0.heap.size) (DJ : ∀ j, Tch d bn bl wv j → ¬ TchB e fl wv' j) (hN : ∀ i, i < m → N i = lay L ws i) (hws : ws.length ≤ k) (hr0 : 0 ≤ wr) (hr1 : wr ≤ (k : Int)) (ha : In64 ar) (ha0 : 0 ≤ ar) (F0 : Fr (fun _ => False) w0 w1)
    (hj : JL w0 v1 js) (hx : js[k]? = some x) (h60 : k < 60) (hz : IntKind.u64.wrap x.what = z) (hq : z.tmod 6 = 0) (t : Array Value) (hn : t.size = 179)
    (p0 : t[0]? = some (.int .i64 (m : Int))) (p1 : t[1]? = some v1) (p5 : t[5]? = some (.pointer (some ⟨d, 0, none⟩))) (p7 : t[7]? = some (.pointer (some ⟨e, 0, none⟩))) (p8 : t[8]? = some (.int .i64 (k : Int)))
    (K : Act → World → Prop) (Q : Exit → Act → World → Prop) (hK : ∀ t' w', t'.size = 179 → t'[0]? = some (.int .i64 (m : Int)) → t'[1]? = some v1 → t'[5]? = some (.pointer (some ⟨d, 0, none⟩)) → t'[7]? = some (.pointer (some ⟨e, 0, none⟩)) → t'[8]? = some (.int .i64 ((k + 1 : Nat) : Int)) → Sx w' d bn bl e fl m (k + 1) w0.heap.size → Fr (fun _ => False) w0 w' → K ⟨t', []⟩ w') :
    Code.wp Try.prog (loopAt Try.f4 0) (Exit.then K Q) ⟨t, []⟩ w1 := by
  obtain ⟨a, cap, rfl, hl, hc⟩ := hj
  obtain ⟨wh, sp, xb, ks⟩ := x
  have hkl : k < js.length := (List.getElem?_eq_some_iff.1 hx).1
  obtain ⟨g, o, kv, rfl, hgl, hc0, hc1, hc2, hc3, hkk, hs0, hs1⟩ := hc k _ hx
  simp only at hc0 hc1 hc2 hkk hs0 hs1 hz
  have HZ := Lib.hid hz
  have HQ6 := Lib.hid hq
  clear hz hq
  obtain ⟨ka, kc, ek⟩ : ∃ a c, kv = .slice a ks.length c := by obtain ⟨a2, c2, e2, _⟩ := hkk; exact ⟨a2, c2, e2⟩
  subst ek
  have ql : (k : Int) < (js.length : Int) := by omega
  have q60 : (k : Int) < 60 := by omega
  have q0 : (0 : Int) ≤ (k : Int) := by omega
  have w4 : wrap64 ((k : Int) + 1) = (k : Int) + 1 := IntWalk.wrap64_in _ (by omega)
  have v4 : IntKind.i64.wrap ((k : Int) + 1) = (k : Int) + 1 := IntWalk.i64_in _ (by omega)
  have rg : w1.rangeAt g (o + k * 4) (#[.int .i64 wh, .int .i64 sp, .int .u8 (xb.toNat : Int), .slice ka ks.length kc] : Array Value).toList := fun j u hj => by
    match j, hj with
    | 0, hj => obtain rfl : _ = u := by simpa using hj
               exact (cell_fr F0 hgl (fun h => h)).trans hc0
    | 1, hj => obtain rfl : _ = u := by simpa using hj
               exact (cell_fr F0 hgl (fun h => h)).trans hc1
    | 2, hj => obtain rfl : _ = u := by simpa using hj
               exact (cell_fr F0 hgl (fun h => h)).trans hc2
    | 3, hj => obtain rfl : _ = u := by simpa using hj
               exact (cell_fr F0 hgl (fun h => h)).trans hc3
    | j + 4, hj => simp at hj
  have sR : Sz 4 #[.int .i64 wh, .int .i64 sp, .int .u8 (xb.toNat : Int), .slice ka ks.length kc] := ⟨rfl, by simp [Value.oneCell']⟩
  have hR0 : (#[.int .i64 wh, .int .i64 sp, .int .u8 (xb.toNat : Int), .slice ka ks.length kc] : Array Value)[0]? = some (.int .i64 wh) := rfl
  have hR1 : (#[.int .i64 wh, .int .i64 sp, .int .u8 (xb.toNat : Int), .slice ka ks.length kc] : Array Value)[1]? = some (.int .i64 sp) := rfl
  have hR2 : (#[.int .i64 wh, .int .i64 sp, .int .u8 (xb.toNat : Int), .slice ka ks.length kc] : Array Value)[2]? = some (.int .u8 (xb.toNat : Int)) := rfl
  have hR3 : (#[.int .i64 wh, .int .i64 sp, .int .u8 (xb.toNat : Int), .slice ka ks.length kc] : Array Value)[3]? = some (.slice ka ks.length kc) := rfl
  have szJ : (Try.prog.info? 44).map (·.size) = some 4 := by kernel_rfl
  have szr : (Try.prog.info? 44).map (·.size) = some (#[.int .i64 wh, .int .i64 sp, .int .u8 (xb.toNat : Int), .slice ka ks.length kc] : Array Value).toList.length := by kernel_rfl
  generalize (#[.int .i64 wh, .int .i64 sp, .int .u8 (xb.toNat : Int), .slice ka ks.length kc] : Array Value) = R at *
  have K1 := (Kn.start w1).new (w1.heap.size) 4 #[.int .i64 0, .int .i64 0, .int .u8 0, .slice none 0 0] 44 rfl rfl
  have sZ : Sz 128 Try.zeroCells30 := by rw [Try.zBk]; exact ⟨ub_size _ _, ub_one _ _⟩
  have sZ9 := sZ29
  have g9d : ∀ j, Tch d bn bl wv j → j ≠ w1.heap.size := fun j hj e => by
    have := (da_up D j hj).2; omega
  have g9e : ∀ j, TchB e fl wv' j → j ≠ w1.heap.size := fun j hj e => by
    have := (E.up j hj).2; omega
  obtain ⟨f, hff, rfl⟩ := frame_open hn
  have e0 := hff 0 _ p0
  have e1 := hff 1 _ p1
  have e5 := hff 5 _ p5
  have e7 := hff 7 _ p7
  have e8 := hff 8 _ p8
  clear hff hn p0 p1 p5 p7 p8
  rw [lit179, e0, e1, e5, e7, e8]
  clear e0 e1 e5 e7 e8
  conv => arg 2; whnf
  have HK := Lib.hid hK
  have HD := Lib.hid D
  have HE := Lib.hid E
  have HN := Lib.hid hN
  have HJ := Lib.hid DJ
  have HF := Lib.hid F0
  have HA := Lib.hid ha
  have HA0 := Lib.hid ha0
  have HW := Lib.hid hws
  have HR0 := Lib.hid hr0
  have HR1 := Lib.hid hr1
  have HKK := Lib.hid hkk
  have HKL := Lib.hid hkl
  have HS1 := Lib.hid hs1
  clear hK D E hN DJ F0 ha ha0 hws hr0 hr1 hkk hc hc0 hc1 hc2 hc3 hs0 hs1 hx hkl hgl
  have hz := HZ.out
  have hq := HQ6.out
  go_wp2_with (first | (focus ((with_reducible refine wpList_load_mid ?la 44 (.tmp 50) ?lb g (o + k * 4) ?lc R.toList _ rg Try.underlying44 ?ld szr ?le); (case la => rfl); (case ld => rfl); (case lb => rfl); (case lc => rfl); (simp only [Act.put, List.setIfInBounds_toArray, List.set_cons_zero, List.set_cons_succ]; simp only [Array.toArray_toList]))) | (focus (((with_reducible refine' wpList_store_kn K1 rfl 44 (.tmp 9) _ rfl 0 _ _ _ _ _ rfl rfl szJ _ _ _); rotate_left 2; (focus exact rfl)); (focus (with_reducible assumption)); intro wz Kz; clear K1; have K1 := Kz; clear Kz; simp only [List.set_cons_zero, List.set_cons_succ] at K1; have x0 := K1.cell 0 rfl 0 hR0; have x1 := K1.cell 0 rfl 1 hR1; have x2 := K1.cell 0 rfl 2 hR2; have x3 := K1.cell 0 rfl 3 hR3; try (simp only [Act.put, List.setIfInBounds_toArray, List.set_cons_zero, List.set_cons_succ]))))
  refine jobs_check (HD.out.fr K1.fr (fun _ _ h => h)) (HE.out.fr K1.fr (fun _ _ h => h)) _ rfl rfl rfl rfl rfl rfl ?_
  intro t' w9 hn9 p0 p1 p5 p7 p8 p153 F9
  obtain ⟨f, hff, rfl⟩ := frame_open hn9
  have e0 := hff 0 _ p0
  have e1 := hff 1 _ p1
  have e5 := hff 5 _ p5
  have e7 := hff 7 _ p7
  have e8 := hff 8 _ p8
  have e153 := hff 153 _ p153
  clear hff hn9 p0 p1 p5 p7 p8 p153
  rw [lit179, e0, e1, e5, e7, e8, e153]
  clear e0 e1 e5 e7 e8 e153
  go_wp2_with fail
  exact HK.out _ _ rfl rfl rfl rfl rfl (by simp) ⟨N, L, ws, wv, wv', wr, ar, dn, (HD.out.fr K1.fr (fun _ _ h => h)).fr F9 (fun _ _ h => h), (HE.out.fr K1.fr (fun _ _ h => h)).fr F9 (fun _ _ h => h), HJ.out, HN.out, by have := HW.out; omega, HR0.out, by have := HR1.out; omega, HA.out, HA0.out⟩ ((HF.out.trans K1.fr (fun _ h => h.elim)).trans F9 (fun _ h => h.elim))
set_option maxRecDepth 100000 in
set_option maxHeartbeats 6400000 in
theorem job_read {w0 w1 : World} {d bn bl e fl m k : Nat} {N L : Nat → Nat → UInt8} {ws : List (Nat × (Nat → UInt8))} {wv wv' v1 : Value} {wr ar : Int} {dn : Bool} {js : List Jb} {x : Jb} {z : Int} (D : DA w1 d bn bl m N L ws wv wr ar dn w0.heap.size) (E : DB w1 e fl m L ws wv' wr ar dn w0.heap.size) (DJ : ∀ j, Tch d bn bl wv j → ¬ TchB e fl wv' j) (hN : ∀ i, i < m → N i = lay L ws i) (hws : ws.length ≤ k) (hr0 : 0 ≤ wr) (hr1 : wr ≤ (k : Int)) (ha : In64 ar) (ha0 : 0 ≤ ar) (F0 : Fr (fun _ => False) w0 w1)
    (hj : JL w0 v1 js) (hx : js[k]? = some x) (h60 : k < 60) (hz : IntKind.u64.wrap x.what = z) (hq : z.tmod 6 = 1) (t : Array Value) (hn : t.size = 179)
    (p0 : t[0]? = some (.int .i64 (m : Int))) (p1 : t[1]? = some v1) (p5 : t[5]? = some (.pointer (some ⟨d, 0, none⟩))) (p7 : t[7]? = some (.pointer (some ⟨e, 0, none⟩))) (p8 : t[8]? = some (.int .i64 (k : Int)))
    (K : Act → World → Prop) (Q : Exit → Act → World → Prop) (hK : ∀ t' w', t'.size = 179 → t'[0]? = some (.int .i64 (m : Int)) → t'[1]? = some v1 → t'[5]? = some (.pointer (some ⟨d, 0, none⟩)) → t'[7]? = some (.pointer (some ⟨e, 0, none⟩)) → t'[8]? = some (.int .i64 ((k + 1 : Nat) : Int)) → Sx w' d bn bl e fl m (k + 1) w0.heap.size → Fr (fun _ => False) w0 w' → K ⟨t', []⟩ w') :
    Code.wp Try.prog (loopAt Try.f4 0) (Exit.then K Q) ⟨t, []⟩ w1 := by
  obtain ⟨a, cap, rfl, hl, hc⟩ := hj
  obtain ⟨wh, sp, xb, ks⟩ := x
  have hkl : k < js.length := (List.getElem?_eq_some_iff.1 hx).1
  obtain ⟨g, o, kv, rfl, hgl, hc0, hc1, hc2, hc3, hkk, hs0, hs1⟩ := hc k _ hx
  simp only at hc0 hc1 hc2 hkk hs0 hs1 hz
  have HZ := Lib.hid hz
  have HQ6 := Lib.hid hq
  clear hz hq
  obtain ⟨ka, kc, ek⟩ : ∃ a c, kv = .slice a ks.length c := by obtain ⟨a2, c2, e2, _⟩ := hkk; exact ⟨a2, c2, e2⟩
  subst ek
  have ql : (k : Int) < (js.length : Int) := by omega
  have q60 : (k : Int) < 60 := by omega
  have q0 : (0 : Int) ≤ (k : Int) := by omega
  have w4 : wrap64 ((k : Int) + 1) = (k : Int) + 1 := IntWalk.wrap64_in _ (by omega)
  have v4 : IntKind.i64.wrap ((k : Int) + 1) = (k : Int) + 1 := IntWalk.i64_in _ (by omega)
  have rg : w1.rangeAt g (o + k * 4) (#[.int .i64 wh, .int .i64 sp, .int .u8 (xb.toNat : Int), .slice ka ks.length kc] : Array Value).toList := fun j u hj => by
    match j, hj with
    | 0, hj => obtain rfl : _ = u := by simpa using hj
               exact (cell_fr F0 hgl (fun h => h)).trans hc0
    | 1, hj => obtain rfl : _ = u := by simpa using hj
               exact (cell_fr F0 hgl (fun h => h)).trans hc1
    | 2, hj => obtain rfl : _ = u := by simpa using hj
               exact (cell_fr F0 hgl (fun h => h)).trans hc2
    | 3, hj => obtain rfl : _ = u := by simpa using hj
               exact (cell_fr F0 hgl (fun h => h)).trans hc3
    | j + 4, hj => simp at hj
  have sR : Sz 4 #[.int .i64 wh, .int .i64 sp, .int .u8 (xb.toNat : Int), .slice ka ks.length kc] := ⟨rfl, by simp [Value.oneCell']⟩
  have hR0 : (#[.int .i64 wh, .int .i64 sp, .int .u8 (xb.toNat : Int), .slice ka ks.length kc] : Array Value)[0]? = some (.int .i64 wh) := rfl
  have hR1 : (#[.int .i64 wh, .int .i64 sp, .int .u8 (xb.toNat : Int), .slice ka ks.length kc] : Array Value)[1]? = some (.int .i64 sp) := rfl
  have hR2 : (#[.int .i64 wh, .int .i64 sp, .int .u8 (xb.toNat : Int), .slice ka ks.length kc] : Array Value)[2]? = some (.int .u8 (xb.toNat : Int)) := rfl
  have hR3 : (#[.int .i64 wh, .int .i64 sp, .int .u8 (xb.toNat : Int), .slice ka ks.length kc] : Array Value)[3]? = some (.slice ka ks.length kc) := rfl
  have szJ : (Try.prog.info? 44).map (·.size) = some 4 := by kernel_rfl
  have szr : (Try.prog.info? 44).map (·.size) = some (#[.int .i64 wh, .int .i64 sp, .int .u8 (xb.toNat : Int), .slice ka ks.length kc] : Array Value).toList.length := by kernel_rfl
  generalize (#[.int .i64 wh, .int .i64 sp, .int .u8 (xb.toNat : Int), .slice ka ks.length kc] : Array Value) = R at *
  have K1 := (Kn.start w1).new (w1.heap.size) 4 #[.int .i64 0, .int .i64 0, .int .u8 0, .slice none 0 0] 44 rfl rfl
  have sZ : Sz 128 Try.zeroCells30 := by rw [Try.zBk]; exact ⟨ub_size _ _, ub_one _ _⟩
  have sZ9 := sZ29
  have g9d : ∀ j, Tch d bn bl wv j → j ≠ w1.heap.size := fun j hj e => by
    have := (da_up D j hj).2; omega
  have g9e : ∀ j, TchB e fl wv' j → j ≠ w1.heap.size := fun j hj e => by
    have := (E.up j hj).2; omega
  obtain ⟨f, hff, rfl⟩ := frame_open hn
  have e0 := hff 0 _ p0
  have e1 := hff 1 _ p1
  have e5 := hff 5 _ p5
  have e7 := hff 7 _ p7
  have e8 := hff 8 _ p8
  clear hff hn p0 p1 p5 p7 p8
  rw [lit179, e0, e1, e5, e7, e8]
  clear e0 e1 e5 e7 e8
  conv => arg 2; whnf
  have HK := Lib.hid hK
  have HD := Lib.hid D
  have HE := Lib.hid E
  have HN := Lib.hid hN
  have HJ := Lib.hid DJ
  have HF := Lib.hid F0
  have HA := Lib.hid ha
  have HA0 := Lib.hid ha0
  have HW := Lib.hid hws
  have HR0 := Lib.hid hr0
  have HR1 := Lib.hid hr1
  have HKK := Lib.hid hkk
  have HKL := Lib.hid hkl
  have HS1 := Lib.hid hs1
  clear hK D E hN DJ F0 ha ha0 hws hr0 hr1 hkk hc hc0 hc1 hc2 hc3 hs0 hs1 hx hkl hgl
  have hz := HZ.out
  have hq := HQ6.out
  go_wp2_with (first | (focus ((with_reducible refine wpList_load_mid ?la 44 (.tmp 50) ?lb g (o + k * 4) ?lc R.toList _ rg Try.underlying44 ?ld szr ?le); (case la => rfl); (case ld => rfl); (case lb => rfl); (case lc => rfl); (simp only [Act.put, List.setIfInBounds_toArray, List.set_cons_zero, List.set_cons_succ]; simp only [Array.toArray_toList]))) | (focus (((with_reducible refine' wpList_store_kn K1 rfl 44 (.tmp 9) _ rfl 0 _ _ _ _ _ rfl rfl szJ _ _ _); rotate_left 2; (focus exact rfl)); (focus (with_reducible assumption)); intro wz Kz; clear K1; have K1 := Kz; clear Kz; simp only [List.set_cons_zero, List.set_cons_succ] at K1; have x0 := K1.cell 0 rfl 0 hR0; have x1 := K1.cell 0 rfl 1 hR1; have x2 := K1.cell 0 rfl 2 hR2; have x3 := K1.cell 0 rfl 3 hR3; try (simp only [Act.put, List.setIfInBounds_toArray, List.set_cons_zero, List.set_cons_succ]))))
  refine (read_any (HD.out.fr K1.fr (fun _ _ h => h)) sp).mono ?_
  rintro e w2 ⟨rfl, F2⟩
  have K2 := (K1.call F2).new (w2.heap.size) 128 Try.zeroCells30 30 rfl sZ.1
  clear K1 F2 x0 x1 x2 x3
  have hAB : (if rcode m dn sp = 0 then N sp.toNat else fun _ => 0) = (if rcode m dn sp = 0 then lay L ws sp.toNat else fun _ => 0) := by
    by_cases hc : rcode m dn sp = 0
    · rw [if_pos hc, if_pos hc]
      obtain ⟨_, h0, h1⟩ := rcode_in hc
      exact HN.out _ (by omega)
    · rw [if_neg hc, if_neg hc]
  have sA : Sz 128 (ub 128 (if rcode m dn sp = 0 then N sp.toNat else fun _ => 0)) := ⟨ub_size _ _, ub_one _ _⟩
  have hne : ∀ W : World, (binOp .neq 29 (.agg (ub 128 (if rcode m dn sp = 0 then N sp.toNat else fun _ => 0))) (.agg (ub 128 (if rcode m dn sp = 0 then N sp.toNat else fun _ => 0)))).run Try.prog W = .ok (.bool false) W := fun W => by rw [neq_rb, beq_self_eq_true]; rfl
  have HAB := Lib.hid hAB
  clear hAB
  generalize hAA : ub 128 (if rcode m dn sp = 0 then N sp.toNat else fun _ => 0) = A at sA hne ⊢
  have HAA := Lib.hid hAA
  clear hAA
  go_wp2_with (focus (((with_reducible refine' wpList_store_kn K2 rfl 30 (.tmp 10) _ rfl 0 _ _ _ _ _ rfl rfl Try.szBk _ _ _); rotate_left 2; (focus exact rfl)); (focus (with_reducible assumption)); intro wz Kz; clear K2; have K2 := Kz; clear Kz; simp only [List.set_cons_zero, List.set_cons_succ] at K2; have x1 := K2.cell 1 rfl 1 hR1; try (simp only [Act.put, List.setIfInBounds_toArray, List.set_cons_zero, List.set_cons_succ])))
  have HH := Lib.hid (rread_any (HE.out.fr K2.fr (fun _ _ h => h)) (by have := HW.out; omega) sp)
  refine HH.out.mono ?_
  rintro e w3 ⟨rfl, F3⟩
  rw [← HAB.out, HAA.out]
  have cc : (rcode m dn sp == rcode m dn sp) = true := beq_self_eq_true _
  generalize rcode m dn sp = c at cc ⊢
  have K3 := (K2.call F3).new (w3.heap.size) 128 Try.zeroCells29 29 rfl sZ9.1
  clear K2 F3 HH x1
  go_wp2_with (first | (focus (((with_reducible refine' wpList_store_kn K3 rfl 29 (.tmp 12) _ rfl 0 _ _ _ _ _ rfl rfl Try.szRb _ _ _); rotate_left 2; (focus exact rfl)); (focus (with_reducible assumption)); intro wz Kz; clear K3; have K3 := Kz; clear Kz; simp only [List.set_cons_zero, List.set_cons_succ] at K3; try (simp only [Act.put, List.setIfInBounds_toArray, List.set_cons_zero, List.set_cons_succ]))) | ((with_reducible refine' wpList_load_kn K3 rfl 30 (.tmp 10) rfl 1 _ _ _ _ rfl _ Try.underlying30 rfl Try.szBk _ _); rotate_left 2; (focus exact rfl)) | ((with_reducible refine' wpList_load_kn K3 rfl 29 (.tmp 12) rfl 0 _ _ _ _ rfl _ Try.underlying29 rfl Try.szRb _ _); rotate_left 2; (focus exact rfl)))
  refine jobs_check (HD.out.fr K3.fr (fun _ _ h => h)) (HE.out.fr K3.fr (fun _ _ h => h)) _ rfl rfl rfl rfl rfl rfl ?_
  intro t' w9 hn9 p0 p1 p5 p7 p8 p153 F9
  obtain ⟨f, hff, rfl⟩ := frame_open hn9
  have e0 := hff 0 _ p0
  have e1 := hff 1 _ p1
  have e5 := hff 5 _ p5
  have e7 := hff 7 _ p7
  have e8 := hff 8 _ p8
  have e153 := hff 153 _ p153
  clear hff hn9 p0 p1 p5 p7 p8 p153
  rw [lit179, e0, e1, e5, e7, e8, e153]
  clear e0 e1 e5 e7 e8 e153
  go_wp2_with fail
  exact HK.out _ _ rfl rfl rfl rfl rfl (by simp) ⟨N, L, ws, wv, wv', wr, ar, dn, (HD.out.fr K3.fr (fun _ _ h => h)).fr F9 (fun _ _ h => h), (HE.out.fr K3.fr (fun _ _ h => h)).fr F9 (fun _ _ h => h), HJ.out, HN.out, by have := HW.out; omega, HR0.out, by have := HR1.out; omega, HA.out, HA0.out⟩ ((HF.out.trans K3.fr (fun _ h => h.elim)).trans F9 (fun _ h => h.elim))
end Go.Proofs.Ytgladedjgjhlaaa

/-
  DiskJobs: Write.
-/
import Derived.Test.YtgladedjgjhlaaaXc
namespace Go.Proofs.Ytgladedjgjhlaaa
open Go.RowKit
set_option linter.unusedVariables false
set_option linter.unusedSimpArgs false
theorem wr60 (k : Nat) (h : k < 60) : wrap64 ((k : Int) + 1) = (k : Int) + 1 := IntWalk.wrap64_in _ (by omega)
theorem vr60 (k : Nat) (h : k < 60) : IntKind.i64.wrap ((k : Int) + 1) = (k : Int) + 1 := IntWalk.i64_in _ (by omega)
theorem u8_small (k : Nat) (h : k < 60) : IntKind.u8.wrap (k : Int) = (k : Int) := by
  rw [IntKind.wrap_u8]; omega
/-- What a Write of the law's writes. -/
def b3 (x : UInt8) (k : Nat) : Nat → UInt8 := fun j => if j = 127 then UInt8.ofNat k else b1 x j
theorem bldw (x : UInt8) (k : Nat) (h : k < 60) : ((Try.zeroCells30.setIfInBounds 0 (.int .u8 (x.toNat : Int))).setIfInBounds 127 (.int .u8 (k : Int))) = ub 128 (b3 x k) := by
  have e : ((UInt8.ofNat k).toNat : Int) = (k : Int) := by
    have : (UInt8.ofNat k).toNat = k % 256 := rfl
    omega
  rw [bld, ← e, ub_set 128 _ 127 (UInt8.ofNat k) (by decide)]; rfl
theorem dj_put1 {d bn bl e fl A : Nat} {wv wv' v' : Value} (h : ∀ j, Tch d bn bl wv j → ¬ TchB e fl wv' j) (hE : ∀ j, TchB e fl wv' j → j < A) (O : v'.ownBlock = wv.ownBlock ∨ ∃ k, v'.ownBlock = some k ∧ A ≤ k) : ∀ j, Tch d bn bl v' j → ¬ TchB e fl wv' j := fun j h1 h2 => by
  rcases h1 with c | c | c | c
  · exact h j (.inl c) h2
  · exact h j (.inr (.inl c)) h2
  · exact h j (.inr (.inr (.inl c))) h2
  · rcases O with o | ⟨k, o, hk⟩
    · exact h j (.inr (.inr (.inr (o ▸ c)))) h2
    · rw [o] at c
      have e1 : k = j := by simpa using c
      have := hE j h2
      omega
theorem dj_put2 {d bn bl e fl A : Nat} {wv wv' v' : Value} (h : ∀ j, Tch d bn bl wv j → ¬ TchB e fl wv' j) (hD : ∀ j, Tch d bn bl wv j → j < A) (O : v'.ownBlock = wv'.ownBlock ∨ ∃ k, v'.ownBlock = some k ∧ A ≤ k) : ∀ j, Tch d bn bl wv j → ¬ TchB e fl v' j := fun j h1 h2 => by
  rcases h2 with c | c | c
  · exact h j h1 (.inl c)
  · exact h j h1 (.inr (.inl c))
  · rcases O with o | ⟨k, o, hk⟩
    · exact h j h1 (.inr (.inr (o ▸ c)))
    · rw [o] at c
      have e1 : k = j := by simpa using c
      have := hD j h1
      omega
set_option maxRecDepth 100000 in
set_option maxHeartbeats 6400000 in
theorem job_writebad {w0 w1 : World} {d bn bl e fl m k : Nat} {N L : Nat → Nat → UInt8} {ws : List (Nat × (Nat → UInt8))} {wv wv' v1 : Value} {wr ar : Int} {dn : Bool} {js : List Jb} {x : Jb} {z : Int} (D : DA w1 d bn bl m N L ws wv wr ar dn w0.heap.size) (E : DB w1 e fl m L ws wv' wr ar dn w0.heap.size) (DJ : ∀ j, Tch d bn bl wv j → ¬ TchB e fl wv' j) (hN : ∀ i, i < m → N i = lay L ws i) (hws : ws.length ≤ k) (hr0 : 0 ≤ wr) (hr1 : wr ≤ (k : Int)) (ha : In64 ar) (ha0 : 0 ≤ ar) (F0 : Fr (fun _ => False) w0 w1)
    (hj : JL w0 v1 js) (hx : js[k]? = some x) (h60 : k < 60) (hz : IntKind.u64.wrap x.what = z) (hq : z.tmod 6 = 2) (t : Array Value) (hn : t.size = 179)
    (p0 : t[0]? = some (.int .i64 (m : Int))) (p1 : t[1]? = some v1) (p5 : t[5]? = some (.pointer (some ⟨d, 0, none⟩))) (p7 : t[7]? = some (.pointer (some ⟨e, 0, none⟩))) (p8 : t[8]? = some (.int .i64 (k : Int)))
    (K : Act → World → Prop) (Q : Exit → Act → World → Prop) (hK : ∀ t' w', t'.size = 179 → t'[0]? = some (.int .i64 (m : Int)) → t'[1]? = some v1 → t'[5]? = some (.pointer (some ⟨d, 0, none⟩)) → t'[7]? = some (.pointer (some ⟨e, 0, none⟩)) → t'[8]? = some (.int .i64 ((k + 1 : Nat) : Int)) → Sx w' d bn bl e fl m (k + 1) w0.heap.size → Fr (fun _ => False) w0 w' → K ⟨t', []⟩ w') (hrc : ¬ (rcode m dn x.spot = 0)) :
    Code.wp Try.prog (loopAt Try.f4 0) (Exit.then K Q) ⟨t, []⟩ w1 := by
  have HRC := Lib.hid hrc
  clear hrc
  obtain ⟨a, cap, rfl, hl, hc⟩ := hj
  obtain ⟨wh, sp, xb, ks⟩ := x
  have hkl : k < js.length := (List.getElem?_eq_some_iff.1 hx).1
  obtain ⟨g, o, kv, rfl, hgl, hc0, hc1, hc2, hc3, hkk, hs0, hs1⟩ := hc k _ hx
  simp only at hc0 hc1 hc2 hkk hs0 hs1 hz
  have HZ := Lib.hid hz
  have HQ6 := Lib.hid hq
  clear hz hq
  obtain ⟨ka, kc, ek⟩ : ∃ a c, kv = .slice a ks.length c := by obtain ⟨a2, c2, e2, _⟩ := hkk; exact ⟨a2, c2, e2⟩
  subst ek
  have ql : (k : Int) < (js.length : Int) := by omega
  have q60 : (k : Int) < 60 := by omega
  have q0 : (0 : Int) ≤ (k : Int) := by omega
  have w4 : wrap64 ((k : Int) + 1) = (k : Int) + 1 := wr60 k h60
  have v4 : IntKind.i64.wrap ((k : Int) + 1) = (k : Int) + 1 := vr60 k h60
  have rg : w1.rangeAt g (o + k * 4) (#[.int .i64 wh, .int .i64 sp, .int .u8 (xb.toNat : Int), .slice ka ks.length kc] : Array Value).toList := fun j u hj => by
    match j, hj with
    | 0, hj => obtain rfl : _ = u := by simpa using hj
               exact (cell_fr F0 hgl (fun h => h)).trans hc0
    | 1, hj => obtain rfl : _ = u := by simpa using hj
               exact (cell_fr F0 hgl (fun h => h)).trans hc1
    | 2, hj => obtain rfl : _ = u := by simpa using hj
               exact (cell_fr F0 hgl (fun h => h)).trans hc2
    | 3, hj => obtain rfl : _ = u := by simpa using hj
               exact (cell_fr F0 hgl (fun h => h)).trans hc3
    | j + 4, hj => simp at hj
  have sR : Sz 4 #[.int .i64 wh, .int .i64 sp, .int .u8 (xb.toNat : Int), .slice ka ks.length kc] := ⟨rfl, by simp [Value.oneCell']⟩
  have hR0 : (#[.int .i64 wh, .int .i64 sp, .int .u8 (xb.toNat : Int), .slice ka ks.length kc] : Array Value)[0]? = some (.int .i64 wh) := rfl
  have hR1 : (#[.int .i64 wh, .int .i64 sp, .int .u8 (xb.toNat : Int), .slice ka ks.length kc] : Array Value)[1]? = some (.int .i64 sp) := rfl
  have hR2 : (#[.int .i64 wh, .int .i64 sp, .int .u8 (xb.toNat : Int), .slice ka ks.length kc] : Array Value)[2]? = some (.int .u8 (xb.toNat : Int)) := rfl
  have hR3 : (#[.int .i64 wh, .int .i64 sp, .int .u8 (xb.toNat : Int), .slice ka ks.length kc] : Array Value)[3]? = some (.slice ka ks.length kc) := rfl
  have szJ : (Try.prog.info? 44).map (·.size) = some 4 := by kernel_rfl
  have szr : (Try.prog.info? 44).map (·.size) = some (#[.int .i64 wh, .int .i64 sp, .int .u8 (xb.toNat : Int), .slice ka ks.length kc] : Array Value).toList.length := by kernel_rfl
  generalize (#[.int .i64 wh, .int .i64 sp, .int .u8 (xb.toNat : Int), .slice ka ks.length kc] : Array Value) = R at *
  have K1 := (Kn.start w1).new (w1.heap.size) 4 #[.int .i64 0, .int .i64 0, .int .u8 0, .slice none 0 0] 44 rfl rfl
  have sZ : Sz 128 Try.zeroCells30 := by rw [Try.zBk]; exact ⟨ub_size _ _, ub_one _ _⟩
  have sZ9 := sZ29
  have g9d : ∀ j, Tch d bn bl wv j → j ≠ w1.heap.size := fun j hj e => by
    have := (da_up D j hj).2; omega
  have g9e : ∀ j, TchB e fl wv' j → j ≠ w1.heap.size := fun j hj e => by
    have := (E.up j hj).2; omega
  obtain ⟨f, hff, rfl⟩ := frame_open hn
  have e0 := hff 0 _ p0
  have e1 := hff 1 _ p1
  have e5 := hff 5 _ p5
  have e7 := hff 7 _ p7
  have e8 := hff 8 _ p8
  clear hff hn p0 p1 p5 p7 p8
  rw [lit179, e0, e1, e5, e7, e8]
  clear e0 e1 e5 e7 e8
  conv => arg 2; whnf
  have HK := Lib.hid hK
  have HD := Lib.hid D
  have HE := Lib.hid E
  have HN := Lib.hid hN
  have HJ := Lib.hid DJ
  have HF := Lib.hid F0
  have HA := Lib.hid ha
  have HA0 := Lib.hid ha0
  have HW := Lib.hid hws
  have HR0 := Lib.hid hr0
  have HR1 := Lib.hid hr1
  have HKK := Lib.hid hkk
  have HKL := Lib.hid hkl
  have HS1 := Lib.hid hs1
  clear hK D E hN DJ F0 ha ha0 hws hr0 hr1 hkk hc hc0 hc1 hc2 hc3 hs0 hs1 hx hkl hgl
  have hu8 : IntKind.u8.wrap (k : Int) = (k : Int) := u8_small k h60
  have sW : Sz 128 ((Try.zeroCells30.setIfInBounds 0 (.int .u8 (xb.toNat : Int))).setIfInBounds 127 (.int .u8 (k : Int))) := by rw [bldw xb k h60]; exact ⟨ub_size _ _, ub_one _ _⟩
  have hz := HZ.out
  have hq := HQ6.out
  go_wp2_with (first | (focus ((with_reducible refine wpList_load_mid ?la 44 (.tmp 50) ?lb g (o + k * 4) ?lc R.toList _ rg Try.underlying44 ?ld szr ?le); (case la => rfl); (case ld => rfl); (case lb => rfl); (case lc => rfl); (simp only [Act.put, List.setIfInBounds_toArray, List.set_cons_zero, List.set_cons_succ]; simp only [Array.toArray_toList]))) | (focus (((with_reducible refine' wpList_store_kn K1 rfl 44 (.tmp 9) _ rfl 0 _ _ _ _ _ rfl rfl szJ _ _ _); rotate_left 2; (focus exact rfl)); (focus (with_reducible assumption)); intro wz Kz; clear K1; have K1 := Kz; clear Kz; simp only [List.set_cons_zero, List.set_cons_succ] at K1; have x0 := K1.cell 0 rfl 0 hR0; have x1 := K1.cell 0 rfl 1 hR1; have x2 := K1.cell 0 rfl 2 hR2; have x3 := K1.cell 0 rfl 3 hR3; obtain ⟨g14, hg14⟩ : ∃ g14, wz.heap.size = g14 := ⟨_, rfl⟩; have K2 := K1.new g14 128 Try.zeroCells30 30 hg14.symm sZ.1; try (simp only [Act.put, List.setIfInBounds_toArray, List.set_cons_zero, List.set_cons_succ]))) | (focus (((with_reducible refine' wpList_store_kn K2 rfl 30 (.tmp 14) _ rfl 0 _ _ _ _ _ rfl rfl Try.szBk _ _ _); rotate_left 2; (focus exact rfl)); (focus (with_reducible assumption)); intro wz Kz; clear K2; have K2 := Kz; clear Kz; simp only [List.set_cons_zero, List.set_cons_succ] at K2; try (simp only [Act.put, List.setIfInBounds_toArray, List.set_cons_zero, List.set_cons_succ]))))
  rw [bldw xb k h60] at K2
  have sB : Sz 128 (ub 128 (b3 xb k)) := ⟨ub_size _ _, ub_one _ _⟩
  generalize hBB : ub 128 (b3 xb k) = B at *
  have HBB := Lib.hid hBB
  clear hBB sW
  have h14 := K2.heap 0 rfl
  have h9 := K2.heap 1 rfl
  have e14 : w1.heap.size ≤ g14 := (K2.blk 0 _ rfl).1
  have n9 : ¬ False := fun h => h
  have n14 : ¬ False := fun h => h
  have KF := K2.fr
  clear x0 x1 x2 x3 K1 K2
  refine Ks.wp_region_mono (fun _ => False) (sg 0 4 ++ (sg 5 4 ++ ((4, true) :: (9, true) :: (sg 10 1 ++ [])))) (by kernel_rfl) (by kernel_rfl) ?_
  refine Ks.Wk.seg 0 4 (by kernel_rfl) (by kernel_rfl) ?_
  apply Exists.intro
  refine ⟨?wk0, ?fin0⟩
  case wk0 =>
    intro γ
    have c1 : ∀ y : Ks.Ws γ, y.w.cell? ⟨w1.heap.size, 1, none⟩ = some (.int .i64 sp) := fun y => by rw [cell_of_block (y.blk h9 n9)]; exact hR1
    simp only [List.drop_succ_cons, List.drop_zero, List.take_succ_cons, List.take_zero]
    repeat (any_goals (first | (focus (go_big_quiet_want; (refine' Ks.quiet_load_rows 30 (.tmp 14) rfl g14 rfl _ _ _ _ h14 n14 Try.underlying30 rfl (by rw [sB.1]; exact Try.szBk) _); simp only [Act.put, List.setIfInBounds_toArray, List.set_cons_zero, List.set_cons_succ]; go_big_quiet_on)) | go_big_quiet_step (fail) | quiet_step (fail)))
    exact wpQuiet_nil rfl
  case fin0 =>
  (try simp only [Act.put, List.setIfInBounds_toArray, List.set_cons_zero, List.set_cons_succ])
  refine Ks.Wk.seg 5 4 (by kernel_rfl) (by kernel_rfl) ?_
  apply Exists.intro
  refine ⟨?wk1, ?fin1⟩
  case wk1 =>
    intro γ
    have c1 : ∀ y : Ks.Ws γ, y.w.cell? ⟨w1.heap.size, 1, none⟩ = some (.int .i64 sp) := fun y => by rw [cell_of_block (y.blk h9 n9)]; exact hR1
    simp only [List.drop_succ_cons, List.drop_zero, List.take_succ_cons, List.take_zero]
    repeat (any_goals (first | (focus (go_big_quiet_want; (refine' Ks.quiet_load_rows 30 (.tmp 14) rfl g14 rfl _ _ _ _ h14 n14 Try.underlying30 rfl (by rw [sB.1]; exact Try.szBk) _); simp only [Act.put, List.setIfInBounds_toArray, List.set_cons_zero, List.set_cons_succ]; go_big_quiet_on)) | go_big_quiet_step (fail) | quiet_step (fail)))
    exact wpQuiet_nil rfl
  case fin1 =>
  (try simp only [Act.put, List.setIfInBounds_toArray, List.set_cons_zero, List.set_cons_succ])
  refine Ks.Wk.one rfl (fun w3 X3 => ?_)
  go_wp2_with fail
  rw [← HBB.out]
  refine (write_bad _ sp (rcode m dn sp) HRC.out (b3 xb k) w3 ((HD.out.fr (KF.trans X3 (fun _ h => h.elim)) (fun _ _ h => h)).reach sp)).mono ?_
  rintro e w4 ⟨rfl, F4⟩
  have SF4 := Lib.hid F4
  clear F4
  go_wp2_with fail
  refine ⟨SF4.out, ?_⟩
  refine Ks.Wk.one rfl (fun w5 X5 => ?_)
  go_wp2_with fail
  refine (rwrite_bad (HE.out.fr (((KF.trans X3 (fun _ h => h.elim)).trans SF4.out (fun _ h => h.elim)).trans X5 (fun _ h => h.elim)) (fun _ _ h => h)) sp HRC.out (b3 xb k)).mono ?_
  rintro e w6 ⟨rfl, F6⟩
  have SF6 := Lib.hid F6
  clear F6
  have cc : (rcode m dn sp == rcode m dn sp) = true := beq_self_eq_true _
  generalize rcode m dn sp = c at cc ⊢
  go_wp2_with fail
  refine ⟨SF6.out, ?_⟩
  refine Ks.Wk.seg 10 1 (by kernel_rfl) (by kernel_rfl) ?_
  apply Exists.intro
  refine ⟨?wk2, ?fin2⟩
  case wk2 =>
    intro γ
    simp only [List.drop_succ_cons, List.drop_zero, List.take_succ_cons, List.take_zero]
    repeat (any_goals (first | go_big_quiet_step (fail) | quiet_step (fail)))
    exact wpQuiet_nil rfl
  case fin2 =>
  (try simp only [Act.put, List.setIfInBounds_toArray, List.set_cons_zero, List.set_cons_succ])
  intro w7 X7
  have G7 := ((((KF.trans X3 (fun _ h => h.elim)).trans SF4.out (fun _ h => h.elim)).trans X5 (fun _ h => h.elim)).trans SF6.out (fun _ h => h.elim)).trans X7 (fun _ h => h.elim)
  clear KF X3 X5 X7 SF4 SF6 h9 h14
  go_wp2_with fail
  refine jobs_check (HD.out.fr G7 (fun _ _ h => h)) (HE.out.fr G7 (fun _ _ h => h)) _ rfl rfl rfl rfl rfl rfl ?_
  intro t' w9 hn9 p0 p1 p5 p7 p8 p153 F9
  obtain ⟨f, hff, rfl⟩ := frame_open hn9
  have e0 := hff 0 _ p0
  have e1 := hff 1 _ p1
  have e5 := hff 5 _ p5
  have e7 := hff 7 _ p7
  have e8 := hff 8 _ p8
  have e153 := hff 153 _ p153
  clear hff hn9 p0 p1 p5 p7 p8 p153
  rw [lit179, e0, e1, e5, e7, e8, e153]
  clear e0 e1 e5 e7 e8 e153
  go_wp2_with fail
  exact HK.out _ _ rfl rfl rfl rfl rfl (by simp) ⟨N, L, ws, wv, wv', wr, ar, dn, (HD.out.fr G7 (fun _ _ h => h)).fr F9 (fun _ _ h => h), (HE.out.fr G7 (fun _ _ h => h)).fr F9 (fun _ _ h => h), HJ.out, HN.out, by have := HW.out; omega, HR0.out, by have := HR1.out; omega, HA.out, HA0.out⟩ ((HF.out.trans G7 (fun _ h => h.elim)).trans F9 (fun _ h => h.elim))
theorem arm_in {ar : Int} (h : In64 ar) (h0 : 0 ≤ ar) : In64 (if 0 < ar then ar - 1 else ar) := by
  unfold In64 at *
  split <;> omega
theorem arm_ge {ar : Int} (h0 : 0 ≤ ar) : 0 ≤ (if 0 < ar then ar - 1 else ar) := by
  split <;> omega
theorem n_put {N L : Nat → Nat → UInt8} {ws : List (Nat × (Nat → UInt8))} {m i : Nat} {b : Nat → UInt8} (h : ∀ j, j < m → N j = lay L ws j) : ∀ j, j < m → bset N i b j = lay L (ws ++ [(i, b)]) j := fun j hj => by
  rw [lay_app]
  unfold bset
  by_cases hji : j = i
  · rw [if_pos hji, if_pos hji]
  · rw [if_neg hji, if_neg hji]; exact h j hj
set_option maxRecDepth 100000 in
set_option maxHeartbeats 6400000 in
theorem job_write {w0 w1 : World} {d bn bl e fl m k : Nat} {N L : Nat → Nat → UInt8} {ws : List (Nat × (Nat → UInt8))} {wv wv' v1 : Value} {wr ar : Int} {dn : Bool} {js : List Jb} {x : Jb} {z : Int} (D : DA w1 d bn bl m N L ws wv wr ar dn w0.heap.size) (E : DB w1 e fl m L ws wv' wr ar dn w0.heap.size) (DJ : ∀ j, Tch d bn bl wv j → ¬ TchB e fl wv' j) (hN : ∀ i, i < m → N i = lay L ws i) (hws : ws.length ≤ k) (hr0 : 0 ≤ wr) (hr1 : wr ≤ (k : Int)) (ha : In64 ar) (ha0 : 0 ≤ ar) (F0 : Fr (fun _ => False) w0 w1)
    (hj : JL w0 v1 js) (hx : js[k]? = some x) (h60 : k < 60) (hz : IntKind.u64.wrap x.what = z) (hq : z.tmod 6 = 2) (t : Array Value) (hn : t.size = 179)
    (p0 : t[0]? = some (.int .i64 (m : Int))) (p1 : t[1]? = some v1) (p5 : t[5]? = some (.pointer (some ⟨d, 0, none⟩))) (p7 : t[7]? = some (.pointer (some ⟨e, 0, none⟩))) (p8 : t[8]? = some (.int .i64 (k : Int)))
    (K : Act → World → Prop) (Q : Exit → Act → World → Prop) (hK : ∀ t' w', t'.size = 179 → t'[0]? = some (.int .i64 (m : Int)) → t'[1]? = some v1 → t'[5]? = some (.pointer (some ⟨d, 0, none⟩)) → t'[7]? = some (.pointer (some ⟨e, 0, none⟩)) → t'[8]? = some (.int .i64 ((k + 1 : Nat) : Int)) → Sx w' d bn bl e fl m (k + 1) w0.heap.size → Fr (fun _ => False) w0 w' → K ⟨t', []⟩ w') (i : Nat) (hi : x.spot = (i : Int)) (him : i < m) (hdn : dn = false) :
    Code.wp Try.prog (loopAt Try.f4 0) (Exit.then K Q) ⟨t, []⟩ w1 := by
  subst hdn
  have HI := Lib.hid hi
  clear hi
  obtain ⟨a, cap, rfl, hl, hc⟩ := hj
  obtain ⟨wh, sp, xb, ks⟩ := x
  have hspi : sp = (i : Int) := HI.out
  subst hspi
  have hkl : k < js.length := (List.getElem?_eq_some_iff.1 hx).1
  obtain ⟨g, o, kv, rfl, hgl, hc0, hc1, hc2, hc3, hkk, hs0, hs1⟩ := hc k _ hx
  simp only at hc0 hc1 hc2 hkk hs0 hs1 hz
  have HZ := Lib.hid hz
  have HQ6 := Lib.hid hq
  clear hz hq
  obtain ⟨ka, kc, ek⟩ : ∃ a c, kv = .slice a ks.length c := by obtain ⟨a2, c2, e2, _⟩ := hkk; exact ⟨a2, c2, e2⟩
  subst ek
  have ql : (k : Int) < (js.length : Int) := by omega
  have q60 : (k : Int) < 60 := by omega
  have q0 : (0 : Int) ≤ (k : Int) := by omega
  have w4 : wrap64 ((k : Int) + 1) = (k : Int) + 1 := wr60 k h60
  have v4 : IntKind.i64.wrap ((k : Int) + 1) = (k : Int) + 1 := vr60 k h60
  have rg : w1.rangeAt g (o + k * 4) (#[.int .i64 wh, .int .i64 (i : Int), .int .u8 (xb.toNat : Int), .slice ka ks.length kc] : Array Value).toList := fun j u hj => by
    match j, hj with
    | 0, hj => obtain rfl : _ = u := by simpa using hj
               exact (cell_fr F0 hgl (fun h => h)).trans hc0
    | 1, hj => obtain rfl : _ = u := by simpa using hj
               exact (cell_fr F0 hgl (fun h => h)).trans hc1
    | 2, hj => obtain rfl : _ = u := by simpa using hj
               exact (cell_fr F0 hgl (fun h => h)).trans hc2
    | 3, hj => obtain rfl : _ = u := by simpa using hj
               exact (cell_fr F0 hgl (fun h => h)).trans hc3
    | j + 4, hj => simp at hj
  have sR : Sz 4 #[.int .i64 wh, .int .i64 (i : Int), .int .u8 (xb.toNat : Int), .slice ka ks.length kc] := ⟨rfl, by simp [Value.oneCell']⟩
  have hR0 : (#[.int .i64 wh, .int .i64 (i : Int), .int .u8 (xb.toNat : Int), .slice ka ks.length kc] : Array Value)[0]? = some (.int .i64 wh) := rfl
  have hR1 : (#[.int .i64 wh, .int .i64 (i : Int), .int .u8 (xb.toNat : Int), .slice ka ks.length kc] : Array Value)[1]? = some (.int .i64 (i : Int)) := rfl
  have hR2 : (#[.int .i64 wh, .int .i64 (i : Int), .int .u8 (xb.toNat : Int), .slice ka ks.length kc] : Array Value)[2]? = some (.int .u8 (xb.toNat : Int)) := rfl
  have hR3 : (#[.int .i64 wh, .int .i64 (i : Int), .int .u8 (xb.toNat : Int), .slice ka ks.length kc] : Array Value)[3]? = some (.slice ka ks.length kc) := rfl
  have szJ : (Try.prog.info? 44).map (·.size) = some 4 := by kernel_rfl
  have szr : (Try.prog.info? 44).map (·.size) = some (#[.int .i64 wh, .int .i64 (i : Int), .int .u8 (xb.toNat : Int), .slice ka ks.length kc] : Array Value).toList.length := by kernel_rfl
  generalize (#[.int .i64 wh, .int .i64 (i : Int), .int .u8 (xb.toNat : Int), .slice ka ks.length kc] : Array Value) = R at *
  have K1 := (Kn.start w1).new (w1.heap.size) 4 #[.int .i64 0, .int .i64 0, .int .u8 0, .slice none 0 0] 44 rfl rfl
  have sZ : Sz 128 Try.zeroCells30 := by rw [Try.zBk]; exact ⟨ub_size _ _, ub_one _ _⟩
  have sZ9 := sZ29
  have g9d : ∀ j, Tch d bn bl wv j → j ≠ w1.heap.size := fun j hj e => by
    have := (da_up D j hj).2; omega
  have g9e : ∀ j, TchB e fl wv' j → j ≠ w1.heap.size := fun j hj e => by
    have := (E.up j hj).2; omega
  obtain ⟨f, hff, rfl⟩ := frame_open hn
  have e0 := hff 0 _ p0
  have e1 := hff 1 _ p1
  have e5 := hff 5 _ p5
  have e7 := hff 7 _ p7
  have e8 := hff 8 _ p8
  clear hff hn p0 p1 p5 p7 p8
  rw [lit179, e0, e1, e5, e7, e8]
  clear e0 e1 e5 e7 e8
  conv => arg 2; whnf
  have HK := Lib.hid hK
  have HD := Lib.hid D
  have HE := Lib.hid E
  have HN := Lib.hid hN
  have HJ := Lib.hid DJ
  have HF := Lib.hid F0
  have HA := Lib.hid ha
  have HA0 := Lib.hid ha0
  have HW := Lib.hid hws
  have HR0 := Lib.hid hr0
  have HR1 := Lib.hid hr1
  have HKK := Lib.hid hkk
  have HKL := Lib.hid hkl
  have HS1 := Lib.hid hs1
  clear hK D E hN DJ F0 ha ha0 hws hr0 hr1 hkk hc hc0 hc1 hc2 hc3 hs0 hs1 hx hkl hgl
  have hu8 : IntKind.u8.wrap (k : Int) = (k : Int) := u8_small k h60
  have sW : Sz 128 ((Try.zeroCells30.setIfInBounds 0 (.int .u8 (xb.toNat : Int))).setIfInBounds 127 (.int .u8 (k : Int))) := by rw [bldw xb k h60]; exact ⟨ub_size _ _, ub_one _ _⟩
  have hz := HZ.out
  have hq := HQ6.out
  go_wp2_with (first | (focus ((with_reducible refine wpList_load_mid ?la 44 (.tmp 50) ?lb g (o + k * 4) ?lc R.toList _ rg Try.underlying44 ?ld szr ?le); (case la => rfl); (case ld => rfl); (case lb => rfl); (case lc => rfl); (simp only [Act.put, List.setIfInBounds_toArray, List.set_cons_zero, List.set_cons_succ]; simp only [Array.toArray_toList]))) | (focus (((with_reducible refine' wpList_store_kn K1 rfl 44 (.tmp 9) _ rfl 0 _ _ _ _ _ rfl rfl szJ _ _ _); rotate_left 2; (focus exact rfl)); (focus (with_reducible assumption)); intro wz Kz; clear K1; have K1 := Kz; clear Kz; simp only [List.set_cons_zero, List.set_cons_succ] at K1; have x0 := K1.cell 0 rfl 0 hR0; have x1 := K1.cell 0 rfl 1 hR1; have x2 := K1.cell 0 rfl 2 hR2; have x3 := K1.cell 0 rfl 3 hR3; obtain ⟨g14, hg14⟩ : ∃ g14, wz.heap.size = g14 := ⟨_, rfl⟩; have K2 := K1.new g14 128 Try.zeroCells30 30 hg14.symm sZ.1; try (simp only [Act.put, List.setIfInBounds_toArray, List.set_cons_zero, List.set_cons_succ]))) | (focus (((with_reducible refine' wpList_store_kn K2 rfl 30 (.tmp 14) _ rfl 0 _ _ _ _ _ rfl rfl Try.szBk _ _ _); rotate_left 2; (focus exact rfl)); (focus (with_reducible assumption)); intro wz Kz; clear K2; have K2 := Kz; clear Kz; simp only [List.set_cons_zero, List.set_cons_succ] at K2; try (simp only [Act.put, List.setIfInBounds_toArray, List.set_cons_zero, List.set_cons_succ]))))
  rw [bldw xb k h60] at K2
  have sB : Sz 128 (ub 128 (b3 xb k)) := ⟨ub_size _ _, ub_one _ _⟩
  generalize hBB : ub 128 (b3 xb k) = B at *
  have HBB := Lib.hid hBB
  clear hBB sW
  have h14 := K2.heap 0 rfl
  have h9 := K2.heap 1 rfl
  have e14 : w1.heap.size ≤ g14 := (K2.blk 0 _ rfl).1
  have hSd : ∀ j, Wt d bn wv j → j < w1.heap.size := fun j hj => (da_up HD.out j (wt_tch j hj)).2
  have hSe : ∀ j, (j = e ∨ wv'.ownBlock = some j) → j < w1.heap.size := fun j hj => (HE.out.up j (hj.elim .inl (fun c => .inr (.inr c)))).2
  have n9 : ¬ (Wt d bn wv w1.heap.size ∨ (w1.heap.size = e ∨ wv'.ownBlock = some w1.heap.size)) := fun h => h.elim (fun c => by have := hSd _ c; omega) (fun c => by have := hSe _ c; omega)
  have n14 : ¬ (Wt d bn wv g14 ∨ (g14 = e ∨ wv'.ownBlock = some g14)) := fun h => h.elim (fun c => by have := hSd _ c; omega) (fun c => by have := hSe _ c; omega)
  have hl2 : ws.length < 1000000000000 := by have := HW.out; omega
  have hin : In64 (wr + 1) := by have a1 := HR0.out; have a2 := HR1.out; unfold In64; omega
  have KF := K2.fr
  clear x0 x1 x2 x3 K1 K2
  refine Ks.wp_region_mono (fun j => Wt d bn wv j ∨ (j = e ∨ wv'.ownBlock = some j)) (sg 0 4 ++ (sg 5 4 ++ ((4, true) :: (9, true) :: (sg 10 1 ++ [])))) (by kernel_rfl) (by kernel_rfl) ?_
  refine Ks.Wk.seg 0 4 (by kernel_rfl) (by kernel_rfl) ?_
  apply Exists.intro
  refine ⟨?wk0, ?fin0⟩
  case wk0 =>
    intro γ
    have c1 : ∀ y : Ks.Ws γ, y.w.cell? ⟨w1.heap.size, 1, none⟩ = some (.int .i64 (i : Int)) := fun y => by rw [cell_of_block (y.blk h9 n9)]; exact hR1
    simp only [List.drop_succ_cons, List.drop_zero, List.take_succ_cons, List.take_zero]
    repeat (any_goals (first | (focus (go_big_quiet_want; (refine' Ks.quiet_load_rows 30 (.tmp 14) rfl g14 rfl _ _ _ _ h14 n14 Try.underlying30 rfl (by rw [sB.1]; exact Try.szBk) _); simp only [Act.put, List.setIfInBounds_toArray, List.set_cons_zero, List.set_cons_succ]; go_big_quiet_on)) | go_big_quiet_step (fail) | quiet_step (fail)))
    exact wpQuiet_nil rfl
  case fin0 =>
  (try simp only [Act.put, List.setIfInBounds_toArray, List.set_cons_zero, List.set_cons_succ])
  refine Ks.Wk.seg 5 4 (by kernel_rfl) (by kernel_rfl) ?_
  apply Exists.intro
  refine ⟨?wk1, ?fin1⟩
  case wk1 =>
    intro γ
    have c1 : ∀ y : Ks.Ws γ, y.w.cell? ⟨w1.heap.size, 1, none⟩ = some (.int .i64 (i : Int)) := fun y => by rw [cell_of_block (y.blk h9 n9)]; exact hR1
    simp only [List.drop_succ_cons, List.drop_zero, List.take_succ_cons, List.take_zero]
    repeat (any_goals (first | (focus (go_big_quiet_want; (refine' Ks.quiet_load_rows 30 (.tmp 14) rfl g14 rfl _ _ _ _ h14 n14 Try.underlying30 rfl (by rw [sB.1]; exact Try.szBk) _); simp only [Act.put, List.setIfInBounds_toArray, List.set_cons_zero, List.set_cons_succ]; go_big_quiet_on)) | go_big_quiet_step (fail) | quiet_step (fail)))
    exact wpQuiet_nil rfl
  case fin1 =>
  (try simp only [Act.put, List.setIfInBounds_toArray, List.set_cons_zero, List.set_cons_succ])
  refine Ks.Wk.one rfl (fun w3 X3 => ?_)
  go_wp2_with fail
  rw [← HBB.out]
  refine (write_any (HD.out.fr (KF.trans X3 (fun _ h => h.elim)) (fun _ _ h => h)) hl2 hin HA.out HA0.out i him (b3 xb k)).mono ?_
  rintro e w4 ⟨rfl, v4, D4, O4, F4⟩
  obtain ⟨c, hcc⟩ : ∃ c : Int, (if ar = 1 then (13 : Int) else 0) = c := ⟨_, rfl⟩
  rw [hcc]
  have HCC := Lib.hid hcc
  clear hcc
  have G3 := HF.out.trans (KF.trans X3 (fun _ h => h.elim)) (fun _ h => h.elim)
  have D3 := HD.out.fr (KF.trans X3 (fun _ h => h.elim)) (fun _ _ h => h)
  have E3 := HE.out.fr (KF.trans X3 (fun _ h => h.elim)) (fun _ _ h => h)
  have E4 := E3.fr F4 (fun j hj hs => HJ.out j (wt_tch j hs) hj)
  have G4 := D3.grow G3 F4 wt_tch
  have HD4 := Lib.hid D4
  have J4 := dj_put1 HJ.out (fun j hj => (E3.up j hj).2) O4
  have SF4 := Lib.hid (show Fr (fun j => Wt d bn wv j ∨ (j = e ∨ wv'.ownBlock = some j)) w3 w4 from F4.mono (fun _ _ h => .inl h))
  clear D4 F4 D3 E3 G3
  go_wp2_with fail
  refine ⟨SF4.out, ?_⟩
  refine Ks.Wk.one rfl (fun w5 X5 => ?_)
  have D5 := HD4.out.fr X5 (fun _ _ h => h)
  have E5 := E4.fr X5 (fun _ _ h => h)
  have G5 := G4.trans X5 (fun _ h => h.elim)
  go_wp2_with fail
  refine (rwrite_any E5 hl2 hin HA.out HA0.out i him (b3 xb k)).mono ?_
  rintro e w6 ⟨rfl, v6, E6, O6, F6⟩
  have D6 := D5.fr F6 (fun j hj hs => J4 j hj (hs.elim .inl (fun c => .inr (.inr c))))
  have G6 := E5.grow G5 F6 (fun j hs => hs.elim .inl (fun c => .inr (.inr c)))
  have J6 := dj_put2 J4 (fun j hj => (da_up D5 j hj).2) O6
  have SF6 := Lib.hid (show Fr (fun j => Wt d bn wv j ∨ (j = e ∨ wv'.ownBlock = some j)) w5 w6 from F6.mono (fun _ _ h => .inr h))
  rw [HCC.out]
  have cc : (c == c) = true := beq_self_eq_true _
  clear E5 D5 F6 G5
  have HD6 := Lib.hid D6
  have HE6 := Lib.hid E6
  clear D6 E6
  go_wp2_with fail
  refine ⟨SF6.out, ?_⟩
  refine Ks.Wk.seg 10 1 (by kernel_rfl) (by kernel_rfl) ?_
  apply Exists.intro
  refine ⟨?wk2, ?fin2⟩
  case wk2 =>
    intro γ
    simp only [List.drop_succ_cons, List.drop_zero, List.take_succ_cons, List.take_zero]
    repeat (any_goals (first | go_big_quiet_step (fail) | quiet_step (fail)))
    exact wpQuiet_nil rfl
  case fin2 =>
  (try simp only [Act.put, List.setIfInBounds_toArray, List.set_cons_zero, List.set_cons_succ])
  intro w7 X7
  have D7 := HD6.out.fr X7 (fun _ _ h => h)
  have E7 := HE6.out.fr X7 (fun _ _ h => h)
  have G7 := G6.trans X7 (fun _ h => h.elim)
  have HD7 := Lib.hid D7
  have HE7 := Lib.hid E7
  clear D7 E7 G6 X7 SF4 SF6 h9 h14 HD6 HE6 X3 X5 KF E4
  go_wp2_with fail
  refine jobs_check HD7.out HE7.out _ rfl rfl rfl rfl rfl rfl ?_
  intro t' w9 hn9 p0 p1 p5 p7 p8 p153 F9
  obtain ⟨f, hff, rfl⟩ := frame_open hn9
  have e0 := hff 0 _ p0
  have e1 := hff 1 _ p1
  have e5 := hff 5 _ p5
  have e7 := hff 7 _ p7
  have e8 := hff 8 _ p8
  have e153 := hff 153 _ p153
  clear hff hn9 p0 p1 p5 p7 p8 p153
  rw [lit179, e0, e1, e5, e7, e8, e153]
  clear e0 e1 e5 e7 e8 e153
  go_wp2_with fail
  exact HK.out _ _ rfl rfl rfl rfl rfl (by simp) ⟨bset N i (b3 xb k), L, ws ++ [(i, b3 xb k)], v4, v6, wr + 1, (if 0 < ar then ar - 1 else ar), decide (ar = 1), HD7.out.fr F9 (fun _ _ h => h), HE7.out.fr F9 (fun _ _ h => h), J6, n_put HN.out, by have := HW.out; simp; omega, by have := HR0.out; omega, by have := HR1.out; omega, arm_in HA.out HA0.out, arm_ge HA0.out⟩ (G7.trans F9 (fun _ h => h.elim))
end Go.Proofs.Ytgladedjgjhlaaa

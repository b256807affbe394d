/-
  Zero of an extent: its loop.
-/
import Derived.Test.YtgladedjgjhlaaaXh
import Derived.Test.YtgladedjgjhlaaaOb
namespace Go.Proofs.Ytgladedjgjhlaaa
open Go.RowKit
set_option linter.unusedVariables false
set_option linter.unusedSimpArgs false
/-- What a Zero has written so far. -/
structure Zs (b0 sz : Nat) (us : List (Nat × (Nat → UInt8))) : Prop where
  all : ∀ p ∈ us, b0 ≤ p.1 ∧ p.1 < b0 + sz ∧ p.2 = fun _ => 0
  len : us.length ≤ sz
theorem Zs.put {b0 sz k : Nat} {us : List (Nat × (Nat → UInt8))} (h : ∀ p ∈ us, b0 ≤ p.1 ∧ p.1 < b0 + sz ∧ p.2 = fun _ => 0) (hk : k < sz) : ∀ p ∈ us ++ [(b0 + k, fun _ => 0)], b0 ≤ p.1 ∧ p.1 < b0 + sz ∧ p.2 = fun _ => 0 := fun p hp => by
  rcases List.mem_append.1 hp with hp | hp
  · exact h p hp
  · have : p = (b0 + k, fun _ => 0) := by simpa using hp
    rw [this]; exact ⟨Nat.le_add_right _ _, by simp; omega, rfl⟩
theorem zr_zero : zr (fun _ => 0) = true := (zr_iff _).2 fun _ _ => rfl
theorem zr_put {N : Nat → Nat → UInt8} {us : List (Nat × (Nat → UInt8))} {b0 k : Nat} (h : ∀ j, b0 ≤ j → j < b0 + k → zr (lay N us j) = true) : ∀ j, b0 ≤ j → j < b0 + (k + 1) → zr (lay N (us ++ [(b0 + k, fun _ => 0)]) j) = true := fun j h1 h2 => by
  rw [lay_app]
  unfold bset
  by_cases e : j = b0 + k
  · rw [if_pos e]; exact zr_zero
  · rw [if_neg e]; exact h j h1 (by omega)
theorem zr_keep {N : Nat → Nat → UInt8} {us : List (Nat × (Nat → UInt8))} {b0 k : Nat} (h : ∀ j, b0 ≤ j → j < b0 + k → zr (lay N us j) = true) (hz : zr (lay N us (b0 + k)) = true) : ∀ j, b0 ≤ j → j < b0 + (k + 1) → zr (lay N us j) = true := fun j h1 h2 => by
  by_cases e : j = b0 + k
  · rw [e]; exact hz
  · exact h j h1 (by omega)
theorem own_tr {w w1 : World} {a b c : Value} (h1 : b.ownBlock = a.ownBlock ∨ ∃ k, b.ownBlock = some k ∧ w.heap.size ≤ k) (h2 : c.ownBlock = b.ownBlock ∨ ∃ k, c.ownBlock = some k ∧ w1.heap.size ≤ k) (hs : w.heap.size ≤ w1.heap.size) : c.ownBlock = a.ownBlock ∨ ∃ k, c.ownBlock = some k ∧ w.heap.size ≤ k := by
  rcases h2 with e | ⟨k, e, hk⟩
  · rw [e]; exact h1
  · exact .inr ⟨k, e, Nat.le_trans hs hk⟩
theorem tch_tr {w : World} {d bn bl : Nat} {wv v : Value} (h : v.ownBlock = wv.ownBlock ∨ ∃ k, v.ownBlock = some k ∧ w.heap.size ≤ k) (k : Nat) (hk : Tch d bn bl v k) : Tch d bn bl wv k ∨ w.heap.size ≤ k := by
  rcases hk with e | e | e | e
  · exact .inl (.inl e)
  · exact .inl (.inr (.inl e))
  · exact .inl (.inr (.inr (.inl e)))
  · rcases h with o | ⟨k2, o, hk2⟩
    · exact .inl (.inr (.inr (.inr (o ▸ e))))
    · rw [o] at e
      have : k2 = k := by simpa using e
      exact .inr (by omega)
theorem wleft_in {ar : Int} (h : In64 ar) (h0 : 0 ≤ ar) : In64 (wleft ar) ∧ 0 ≤ wleft ar ∧ (ar = 0 → wleft ar = 0) := by
  unfold wleft In64 at *
  split
  · refine ⟨by omega, by omega, by omega⟩
  · exact ⟨h, h0, fun e => e⟩
theorem wrk (a b : Nat) (h : a + b ≤ 8192) : IntKind.i64.wrap ((a : Int) + (b : Int)) = (a : Int) + (b : Int) := IntWalk.i64_in _ (by omega)
theorem wrk2 (a b : Nat) (h : a + b ≤ 8192) : wrap64 ((a : Int) + (b : Int)) = (a : Int) + (b : Int) := IntWalk.wrap64_in _ (by omega)
theorem wrk3 (a : Nat) (h : a ≤ 8192) : IntKind.i64.wrap ((a : Int) + 1) = (a : Int) + 1 := IntWalk.i64_in _ (by omega)
theorem wrk4 (a : Nat) (h : a ≤ 8192) : wrap64 ((a : Int) + 1) = (a : Int) + 1 := IntWalk.wrap64_in _ (by omega)
set_option maxRecDepth 100000 in
theorem lit39 (f : Nat → Value) : ((List.range 39).map f).toArray = (f 0 :: f 1 :: f 2 :: f 3 :: f 4 :: f 5 :: f 6 :: f 7 :: f 8 :: f 9 :: f 10 :: f 11 :: f 12 :: f 13 :: f 14 :: f 15 :: f 16 :: f 17 :: f 18 :: f 19 :: f 20 :: f 21 :: f 22 :: f 23 :: f 24 :: f 25 :: f 26 :: f 27 :: f 28 :: f 29 :: f 30 :: f 31 :: f 32 :: f 33 :: f 34 :: f 35 :: f 36 :: f 37 :: f 38 :: []).toArray := by kernel_rfl
set_option maxRecDepth 100000 in
set_option maxHeartbeats 6400000 in
theorem zero_loop {Q : Exit → Act → World → Prop} {w : World} {x d bn bl n : Nat} {xf xc xs : Int} {N L : Nat → Nat → UInt8} {ws : List (Nat × (Nat → UInt8))} {wv : Value} {wr ar : Int} {base : Nat} (hx : Ext w x (.pointer (some ⟨d, 0, none⟩)) xf xc xs) (hxd : ∀ j, Tch d bn bl wv j → j ≠ x) (D : DA w d bn bl n N L ws wv wr ar false base) (b0 sz : Nat) (hb : b0 + sz ≤ n) (hm : ws.length ≤ 1000) (h0 : 0 ≤ wr) (h1 : wr ≤ 1000000) (ha : In64 ar) (ha0 : 0 ≤ ar) (t : Array Value) (hn : t.size = 39)
    (p0 : t[0]? = some (.pointer (some ⟨x, 0, none⟩))) (p4 : t[4]? = some (.int .i64 0)) (p5 : t[5]? = some (.int .i64 (b0 : Int))) (p6 : t[6]? = some (.int .i64 (sz : Int))) (p8 : t[8]? = some (.int .i64 (b0 : Int)))
    (hexit : ∀ t' w' us v' wr' ar', t'.size = 39 → t'[0]? = some (.pointer (some ⟨x, 0, none⟩)) → DA w' d bn bl n (lay N us) L (ws ++ us) v' wr' ar' false base → (∀ p ∈ us, b0 ≤ p.1 ∧ p.1 < b0 + sz ∧ p.2 = fun _ => 0) → us.length ≤ sz → (∀ j, b0 ≤ j → j < b0 + sz → zr (lay N us j) = true) → 0 ≤ wr' → wr' ≤ wr + (sz : Int) → (ar = 0 → ar' = 0) → (v'.ownBlock = wv.ownBlock ∨ ∃ k, v'.ownBlock = some k ∧ w.heap.size ≤ k) → Fr (Tch d bn bl wv) w w' → Q (.exit 0) ⟨t', []⟩ w')
    (hret : ∀ t' w' us v' wr' ar', t'.size = 39 → t'[4]? = some (.int .i64 13) → DA w' d bn bl n (lay N us) L (ws ++ us) v' wr' ar' true base → (∀ p ∈ us, b0 ≤ p.1 ∧ p.1 < b0 + sz ∧ p.2 = fun _ => 0) → us.length ≤ sz → ¬ (ar = 0) → 0 ≤ wr' → wr' ≤ wr + (sz : Int) → (v'.ownBlock = wv.ownBlock ∨ ∃ k, v'.ownBlock = some k ∧ w.heap.size ≤ k) → Fr (Tch d bn bl wv) w w' → Q .ret ⟨t', []⟩ w') :
    Code.wp Try.prog (.loop (loopAt Try.f45 0)) Q ⟨t, []⟩ w := by
  have hn8 := D.hn
  refine wp_loop_up sz (fun k t w' => t.size = 39 ∧ t[0]? = some (.pointer (some ⟨x, 0, none⟩)) ∧ t[4]? = some (.int .i64 0) ∧ t[5]? = some (.int .i64 (b0 : Int)) ∧ t[6]? = some (.int .i64 (sz : Int)) ∧ t[8]? = some (.int .i64 ((b0 + k : Nat) : Int)) ∧ (∃ us v' wr' ar', DA w' d bn bl n (lay N us) L (ws ++ us) v' wr' ar' false base ∧ (∀ p ∈ us, b0 ≤ p.1 ∧ p.1 < b0 + sz ∧ p.2 = fun _ => 0) ∧ us.length ≤ k ∧ (∀ j, b0 ≤ j → j < b0 + k → zr (lay N us j) = true) ∧ 0 ≤ wr' ∧ wr' ≤ wr + (k : Int) ∧ In64 ar' ∧ 0 ≤ ar' ∧ (ar = 0 → ar' = 0) ∧ (v'.ownBlock = wv.ownBlock ∨ ∃ k, v'.ownBlock = some k ∧ w.heap.size ≤ k)) ∧ Fr (Tch d bn bl wv) w w') t w ⟨hn, p0, p4, p5, p6, p8, ⟨[], wv, wr, ar, by rw [List.append_nil]; exact D, fun p hp => by simp at hp, Nat.le_refl _, fun j h1 h2 => by omega, h0, by omega, ha, ha0, fun e => e, .inl rfl⟩, Fr.refl _ _⟩ ?_
  clear hn p0 p4 p5 p6 p8 t ha ha0
  rintro k t w1 hk ⟨hn, p0, p4, p5, p6, p8, ⟨us, v, wr1, ar1, D1, hus, hul, hzr, hw0, hw1, ha, ha0, haz, hO⟩, F1⟩ K hK
  obtain ⟨f, hff, rfl⟩ := frame_open hn
  have e0 := hff 0 _ p0
  have e4 := hff 4 _ p4
  have e5 := hff 5 _ p5
  have e6 := hff 6 _ p6
  have e8 := hff 8 _ p8
  clear hff hn p0 p4 p5 p6 p8
  rw [lit39, e0, e4, e5, e6, e8]
  clear e0 e4 e5 e6 e8
  conv => arg 2; whnf
  have HE := Lib.hid hexit
  have HT := Lib.hid hret
  have HK := Lib.hid hK
  have HX1 : Ext w1 x (.pointer (some ⟨d, 0, none⟩)) xf xc xs := (F1.block _ (lt_of_block hx) (fun h => hxd _ h rfl)).trans hx
  have HX := Lib.hid HX1
  have HD := Lib.hid D1
  have HU := Lib.hid hus
  have HZ := Lib.hid hzr
  have HF := Lib.hid F1
  have HO := Lib.hid hO
  have HA := Lib.hid ha
  have HA0 := Lib.hid ha0
  have HAZ := Lib.hid haz
  have HXD := Lib.hid hxd
  clear hexit hret hK HX1 D1 hus hzr F1 hO ha ha0 haz hx D hxd
  have hbn : b0 + sz ≤ 8192 := Nat.le_trans hb hn8
  obtain ⟨i, hi⟩ : ∃ i, b0 + k = i := ⟨_, rfl⟩
  rw [hi]
  have hin8 : i ≤ 8192 := by rw [← hi]; exact Nat.le_trans (Nat.add_le_add_left hk b0) hbn
  have hsz : sz ≤ 8192 := Nat.le_trans (Nat.le_add_left sz b0) hbn
  have HI := Lib.hid hi
  have lim : ws.length ≤ 1000 ∧ us.length ≤ 8192 ∧ 0 ≤ wr1 ∧ wr1 ≤ 2000000 := ⟨hm, by omega, hw0, by omega⟩
  have HL := Lib.hid lim
  have HW1 := Lib.hid hw1
  have HUL := Lib.hid hul
  by_cases hlt : k < sz
  · have q1 : (i : Int) < (b0 : Int) + (sz : Int) := by omega
    have hin : i < n := by omega
    have hwl1 : (ws ++ us).length < 1000000000000 := by rw [List.length_append]; omega
    have hwi : In64 (wr1 + 1) := by unfold In64; omega
    clear hi lim hw0 hw1 hul h0 h1 hm
    have r1 := wrk b0 sz hbn
    have r2 := wrk2 b0 sz hbn
    have r3 := wrk3 i hin8
    have r4 := wrk4 i hin8
    go_wp2_with fail
    cases hz : zr (lay N us i) with
    | true =>
      refine (wipe_none HX.out HD.out i hin hz).mono ?_
      rintro e w2 ⟨rfl, F2⟩
      have D2 := HD.out.fr F2 (fun _ _ h => h)
      have G2 := HF.out.trans F2 (fun _ h => h.elim)
      have HZZ := Lib.hid hz
      clear hz
      go_wp2_with fail
      clear r1 r2 r3 r4
      refine HK.out _ _ hlt ⟨rfl, rfl, rfl, rfl, rfl, ?_, ⟨us, v, wr1, ar1, D2, HU.out, by have := HUL.out; omega, ?_, HL.out.2.2.1, by have := HW1.out; omega, HA.out, HA0.out, HAZ.out, HO.out⟩, G2⟩
      · have := HI.out; subst this; simp [Int.add_assoc]
      · have e := HI.out; subst e; exact zr_keep HZ.out HZZ.out
    | false =>
      refine (wipe_write HX.out HD.out hwl1 hwi HA.out HA0.out i hin hz).mono ?_
      rintro e w2 ⟨rfl, v2, D2, O2, F2⟩
      have O02 := own_tr HO.out O2 HF.out.size
      have G2 := HF.out.trans F2 (fun k hk => tch_tr HO.out k (wt_tch k hk))
      have hlay : bset (lay N us) i (fun _ => 0) = lay N (us ++ [(i, fun _ => 0)]) := (lay_app N us (i, fun _ => 0)).symm
      rw [hlay, List.append_assoc] at D2
      have HD2 := Lib.hid D2
      clear D2 F2 O2 hlay
      by_cases h1r : ar1 = 1
      · have hc : wcode ar1 = 13 := by rw [h1r]; rfl
        have hf : woff ar1 = true := by rw [h1r]; rfl
        rw [hc]
        have HC1 := Lib.hid h1r
        have HF1 := Lib.hid hf
        clear hc h1r hf hz
        go_wp2_with fail
        clear r1 r2 r3 r4
        refine HT.out _ _ (us ++ [(i, fun _ => 0)]) v2 _ _ rfl rfl (by have := HD2.out; rw [HF1.out] at this; exact this) ?_ (by have := HUL.out; simp; omega) (fun e0 => by have a1 := HAZ.out e0; have a2 := HC1.out; omega) (by have := HL.out; omega) (by have := HW1.out; omega) O02 G2
        have e := HI.out; subst e; exact Zs.put HU.out hlt
      · have hc : wcode ar1 = 0 := by unfold wcode; rw [if_neg h1r]
        have hf : woff ar1 = false := by unfold woff; simpa using h1r
        rw [hc]
        have HF1 := Lib.hid hf
        have hwl := wleft_in HA.out HA0.out
        have HWL := Lib.hid hwl
        clear hc h1r hf hz hwl
        go_wp2_with fail
        clear r1 r2 r3 r4
        refine HK.out _ _ hlt ⟨rfl, rfl, rfl, rfl, rfl, ?_, ⟨us ++ [(i, fun _ => 0)], v2, wr1 + 1, wleft ar1, by have := HD2.out; rw [HF1.out] at this; exact this, ?_, by have := HUL.out; simp; omega, ?_, by have := HL.out; omega, by have := HW1.out; omega, HWL.out.1, HWL.out.2.1, fun e0 => HWL.out.2.2 (HAZ.out e0), O02⟩, G2⟩
        · have := HI.out; subst this; simp [Int.add_assoc]
        · have e := HI.out; subst e; exact Zs.put HU.out hlt
        · have e := HI.out; subst e; exact zr_put HZ.out
  · obtain rfl : k = sz := by omega
    have q1 : ¬ ((i : Int) < (b0 : Int) + (k : Int)) := by omega
    have q2 : decide ((i : Int) < (b0 : Int) + (k : Int)) = false := by simpa using q1
    have HL2 := Lib.hid hw1
    clear hi lim hw0 hw1 hul h0 h1 hm
    have r1 := wrk b0 k hbn
    have r2 := wrk2 b0 k hbn
    go_wp2_with fail
    exact HE.out _ _ us v wr1 ar1 rfl rfl HD.out HU.out HUL.out HZ.out HL.out.2.2.1 HL2.out HAZ.out HO.out HF.out
end Go.Proofs.Ytgladedjgjhlaaa

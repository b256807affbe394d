/-
  ExtentCuts: its loops.
-/
import Derived.Test.YtgladedjgjhlaaaXk
import Derived.Test.YtgladedjgjhlaaaOb
namespace Go.Proofs.Ytgladedjgjhlaaa
open Go.RowKit
set_option linter.unusedVariables false
set_option linter.unusedSimpArgs false
theorem wr12 (k : Nat) (h : k < 12) : wrap64 ((k : Int) + 1) = (k : Int) + 1 := IntWalk.wrap64_in _ (by omega)
theorem vr12 (k : Nat) (h : k < 12) : IntKind.i64.wrap ((k : Int) + 1) = (k : Int) + 1 := IntWalk.i64_in _ (by omega)
theorem ur12 (k : Nat) (h : k < 12) : IntKind.u8.wrap ((k : Int) + 1) = (k : Int) + 1 := by
  rw [IntKind.wrap_u8]; omega
theorem bldk (k : Nat) (h : k < 12) : Try.zeroCells30.setIfInBounds 0 (.int .u8 ((k : Int) + 1)) = ub 128 (b1 (UInt8.ofNat (k + 1))) := by
  have e : ((UInt8.ofNat (k + 1)).toNat : Int) = (k : Int) + 1 := by
    have : (UInt8.ofNat (k + 1)).toNat = (k + 1) % 256 := rfl
    omega
  rw [← e]; exact bld _
/-- Each block's first byte. -/
def fb (first : List UInt8) (i : Nat) : UInt8 := first.getD i (UInt8.ofNat (i + 1))
def gws (first : List UInt8) (k : Nat) : List (Nat × (Nat → UInt8)) := (List.range k).map fun i => (i, b1 (fb first i))
theorem gws_succ (first : List UInt8) (k : Nat) : gws first (k + 1) = gws first k ++ [(k, b1 (fb first k))] := by simp [gws, List.range_succ]
theorem gws_len (first : List UInt8) (k : Nat) : (gws first k).length = k := by simp [gws]
theorem lay_gws (first : List UInt8) : ∀ (m j : Nat), j < m → lay (fun _ _ => 0) (gws first m) j = b1 (fb first j)
  | m + 1, j, h => by
    rw [gws_succ, lay_app]
    unfold bset
    by_cases e : j = m
    · rw [if_pos e, e]
    · rw [if_neg e]; exact lay_gws first m j (by omega)
theorem lay_zeros : ∀ (us : List (Nat × (Nat → UInt8))) (A : Nat → Nat → UInt8) (m : Nat), (∀ p ∈ us, p.1 < m ∧ p.2 = fun _ => 0) → ∀ j, lay A us j = A j ∨ (j < m ∧ lay A us j = fun _ => 0)
  | [], A, m, _, j => .inl rfl
  | p :: us, A, m, h, j => by
    have e : lay A (p :: us) = lay (bset A p.1 p.2) us := rfl
    have hp := h p List.mem_cons_self
    rw [e]
    rcases lay_zeros us (bset A p.1 p.2) m (fun q hq => h q (List.mem_cons_of_mem _ hq)) j with c | c
    · rw [c]
      unfold bset
      by_cases hj : j = p.1
      · rw [if_pos hj]; exact .inr ⟨by omega, hp.2⟩
      · rw [if_neg hj]; exact .inl rfl
    · exact .inr c
set_option maxRecDepth 100000 in
theorem lit151 (f : Nat → Value) : ((List.range 151).map f).toArray = (f 0 :: f 1 :: f 2 :: f 3 :: f 4 :: f 5 :: f 6 :: f 7 :: f 8 :: f 9 :: f 10 :: f 11 :: f 12 :: f 13 :: f 14 :: f 15 :: f 16 :: f 17 :: f 18 :: f 19 :: f 20 :: f 21 :: f 22 :: f 23 :: f 24 :: f 25 :: f 26 :: f 27 :: f 28 :: f 29 :: f 30 :: f 31 :: f 32 :: f 33 :: f 34 :: f 35 :: f 36 :: f 37 :: f 38 :: f 39 :: f 40 :: f 41 :: f 42 :: f 43 :: f 44 :: f 45 :: f 46 :: f 47 :: f 48 :: f 49 :: f 50 :: f 51 :: f 52 :: f 53 :: f 54 :: f 55 :: f 56 :: f 57 :: f 58 :: f 59 :: f 60 :: f 61 :: f 62 :: f 63 :: f 64 :: f 65 :: f 66 :: f 67 :: f 68 :: f 69 :: f 70 :: f 71 :: f 72 :: f 73 :: f 74 :: f 75 :: f 76 :: f 77 :: f 78 :: f 79 :: f 80 :: f 81 :: f 82 :: f 83 :: f 84 :: f 85 :: f 86 :: f 87 :: f 88 :: f 89 :: f 90 :: f 91 :: f 92 :: f 93 :: f 94 :: f 95 :: f 96 :: f 97 :: f 98 :: f 99 :: f 100 :: f 101 :: f 102 :: f 103 :: f 104 :: f 105 :: f 106 :: f 107 :: f 108 :: f 109 :: f 110 :: f 111 :: f 112 :: f 113 :: f 114 :: f 115 :: f 116 :: f 117 :: f 118 :: f 119 :: f 120 :: f 121 :: f 122 :: f 123 :: f 124 :: f 125 :: f 126 :: f 127 :: f 128 :: f 129 :: f 130 :: f 131 :: f 132 :: f 133 :: f 134 :: f 135 :: f 136 :: f 137 :: f 138 :: f 139 :: f 140 :: f 141 :: f 142 :: f 143 :: f 144 :: f 145 :: f 146 :: f 147 :: f 148 :: f 149 :: f 150 :: []).toArray := by kernel_rfl
set_option maxRecDepth 100000 in
set_option maxHeartbeats 6400000 in
theorem cuts1 {Q : Exit → Act → World → Prop} {w0 w : World} {d bn bl x : Nat} {v0 v1 v2 : Value} {first : List UInt8} {xf xc xs : Int} (hb : BL w0 v0 first) (D : DA w d bn bl 12 (fun _ _ => 0) (fun _ _ => 0) [] (.slice none 0 0) 0 0 false w0.heap.size) (F : Fr (fun _ => False) w0 w) (X : Ext w x (.pointer (some ⟨d, 0, none⟩)) xf xc xs) (hg1 : x ≠ d) (hg2 : x ≠ bn) (hg3 : x ≠ bl) (t : Array Value) (hn : t.size = 151)
    (p0 : t[0]? = some v0) (p1 : t[1]? = some v1) (p2 : t[2]? = some v2) (p7 : t[7]? = some (.pointer (some ⟨d, 0, none⟩))) (p9 : t[9]? = some (.pointer (some ⟨x, 0, none⟩))) (p11 : t[11]? = some (.int .i64 0))
    (hexit : ∀ t' w' v', t'.size = 151 → t'[0]? = some v0 → t'[1]? = some v1 → t'[2]? = some v2 → t'[7]? = some (.pointer (some ⟨d, 0, none⟩)) → t'[9]? = some (.pointer (some ⟨x, 0, none⟩)) → DA w' d bn bl 12 (lay (fun _ _ => 0) (gws first 12)) (fun _ _ => 0) (gws first 12) v' 12 0 false w0.heap.size → Fr (fun _ => False) w0 w' → Ext w' x (.pointer (some ⟨d, 0, none⟩)) xf xc xs → v'.ownBlock ≠ some x → Q (.exit 0) ⟨t', []⟩ w') :
    Code.wp Try.prog (.loop (loopAt Try.f9 0)) Q ⟨t, []⟩ w := by
  obtain ⟨a, cap, rfl, hl, hc⟩ := hb
  refine wp_loop_up 12 (fun k t w' => t.size = 151 ∧ t[0]? = some (.slice a first.length cap) ∧ t[1]? = some v1 ∧ t[2]? = some v2 ∧ t[7]? = some (.pointer (some ⟨d, 0, none⟩)) ∧ t[9]? = some (.pointer (some ⟨x, 0, none⟩)) ∧ t[11]? = some (.int .i64 (k : Int)) ∧ (∃ v, DA w' d bn bl 12 (lay (fun _ _ => 0) (gws first k)) (fun _ _ => 0) (gws first k) v (k : Int) 0 false w0.heap.size ∧ v.ownBlock ≠ some x) ∧ Fr (fun _ => False) w0 w' ∧ Ext w' x (.pointer (some ⟨d, 0, none⟩)) xf xc xs) t w ⟨hn, p0, p1, p2, p7, p9, p11, ⟨_, D, by simp [Value.ownBlock]⟩, F, X⟩ ?_
  clear hn p0 p1 p2 p7 p9 p11 t D F X
  rintro k t w1 hk ⟨hn, p0, p1, p2, p7, p9, p11, ⟨v, D, hv⟩, F1, X1⟩ K hK
  obtain ⟨f, hff, rfl⟩ := frame_open hn
  have e0 := hff 0 _ p0
  have e1 := hff 1 _ p1
  have e2 := hff 2 _ p2
  have e7 := hff 7 _ p7
  have e9 := hff 9 _ p9
  have e11 := hff 11 _ p11
  clear hff hn p0 p1 p2 p7 p9 p11
  rw [lit151, e0, e1, e2, e7, e9, e11]
  clear e0 e1 e2 e7 e9 e11
  conv => arg 2; whnf
  have HE := Lib.hid hexit
  have HK := Lib.hid hK
  have HD := Lib.hid D
  have HF := Lib.hid F1
  have HC := Lib.hid hc
  have HX := Lib.hid X1
  clear hexit hK D hc X1
  by_cases hlt : k < 12
  · have q8 : (k : Int) < 12 := by omega
    have q0 : (0 : Int) ≤ (k : Int) := by omega
    have hl1 : (gws first k).length < 1000000000000 := by rw [gws_len]; omega
    have hi1 : In64 ((k : Int) + 1) := by unfold In64; omega
    by_cases hlen : k < first.length
    · have ql : (k : Int) < (first.length : Int) := by omega
      obtain ⟨y, hy⟩ : ∃ y, first[k]? = some y := ⟨_, List.getElem?_eq_getElem hlen⟩
      obtain ⟨g, o, rfl, hgl, hcell⟩ := HC.out k y hy
      have c1 : w1.cell? ⟨g, o + k, none⟩ = some (.int .u8 (y.toNat : Int)) := by rw [cell_fr F1 hgl (fun h => h)]; exact hcell
      have hfb : fb first k = y := by unfold fb; rw [List.getD_eq_getElem?_getD, hy]; rfl
      have HFB := Lib.hid hfb
      clear hcell F1 hy hfb hl
      have w4 := wr12 k hlt
      have v4 := vr12 k hlt
      have u4 := ur12 k hlt
      go_wp2_with fail
      rw [bld y]
      refine (write_def HD.out hl1 hi1 (by unfold In64; omega) (by decide) k hlt (b1 y)).mono ?_
      rintro e w2 ⟨rfl, v', D2, O2, F2⟩
      have F02 := HD.out.grow HF.out F2 wt_tch
      have X2 : Ext w2 x (.pointer (some ⟨d, 0, none⟩)) xf xc xs := (F2.block x (lt_of_block HX.out) (wt_not hg1 hg2 hv)).trans HX.out
      have hv2 := own_not O2 hv (lt_of_block HX.out)
      have hs : lay (fun _ _ => 0) (gws first (k + 1)) = bset (lay (fun _ _ => 0) (gws first k)) k (b1 (fb first k)) := by rw [gws_succ, lay_app]
      rw [← HFB.out, ← hs, ← gws_succ] at D2
      have HD2 := Lib.hid D2
      clear F2 O2 D2 hs
      go_wp2_with fail
      exact HK.out _ _ hlt ⟨rfl, rfl, rfl, rfl, rfl, rfl, by simp, ⟨v', HD2.out, hv2⟩, F02, X2⟩
    · have ql : ¬ ((k : Int) < (first.length : Int)) := by omega
      have t2 : decide ((k : Int) < (first.length : Int)) = false := by simpa using ql
      have hfb : fb first k = UInt8.ofNat (k + 1) := by unfold fb; rw [List.getD_eq_getElem?_getD, List.getElem?_eq_none (by omega)]; rfl
      have HFB := Lib.hid hfb
      clear F1 hfb hl
      have w4 := wr12 k hlt
      have v4 := vr12 k hlt
      have u4 := ur12 k hlt
      go_wp2_with fail
      rw [bldk k hlt]
      refine (write_def HD.out hl1 hi1 (by unfold In64; omega) (by decide) k hlt (b1 (UInt8.ofNat (k + 1)))).mono ?_
      rintro e w2 ⟨rfl, v', D2, O2, F2⟩
      have F02 := HD.out.grow HF.out F2 wt_tch
      have X2 : Ext w2 x (.pointer (some ⟨d, 0, none⟩)) xf xc xs := (F2.block x (lt_of_block HX.out) (wt_not hg1 hg2 hv)).trans HX.out
      have hv2 := own_not O2 hv (lt_of_block HX.out)
      have hs : lay (fun _ _ => 0) (gws first (k + 1)) = bset (lay (fun _ _ => 0) (gws first k)) k (b1 (fb first k)) := by rw [gws_succ, lay_app]
      rw [← HFB.out, ← hs, ← gws_succ] at D2
      have HD2 := Lib.hid D2
      clear F2 O2 D2 hs
      go_wp2_with fail
      exact HK.out _ _ hlt ⟨rfl, rfl, rfl, rfl, rfl, rfl, by simp, ⟨v', HD2.out, hv2⟩, F02, X2⟩
  · obtain rfl : k = 12 := by omega
    go_wp2_with fail
    exact HE.out _ _ v rfl rfl rfl rfl rfl rfl HD.out HF.out HX.out hv
set_option maxRecDepth 100000 in
set_option maxHeartbeats 6400000 in
theorem cuts2 {Q : Exit → Act → World → Prop} {w0 w : World} {d bn bl x : Nat} {v0 vw vg : Value} {first : List UInt8} {M : Nat → Nat → UInt8} {wr : Int} (hM : ∀ j, j < 12 → M j = b1 (fb first j) ∨ (j < 6 ∧ M j = fun _ => 0)) (hb : BL w0 v0 first) (F0 : Fr (fun _ => False) w0 w) (D : DA w d bn bl 12 M M [] vw wr 0 false w0.heap.size) (t : Array Value) (hn : t.size = 151)
    (p0 : t[0]? = some v0) (p7 : t[7]? = some (.pointer (some ⟨d, 0, none⟩))) (p9 : t[9]? = some (.pointer (some ⟨x, 0, none⟩))) (p13 : t[13]? = some vg) (p14 : t[14]? = some (.int .i64 0))
    (hexit : ∀ t' w', t'.size = 151 → t'[7]? = some (.pointer (some ⟨d, 0, none⟩)) → t'[9]? = some (.pointer (some ⟨x, 0, none⟩)) → t'[13]? = some vg → Fr (fun _ => False) w w' → Q (.exit 2) ⟨t', []⟩ w') :
    Code.wp Try.prog (.loop (loopAt Try.f9 1)) Q ⟨t, []⟩ w := by
  obtain ⟨a, cap, rfl, hl, hc⟩ := hb
  refine wp_loop_up 12 (fun k t w' => t.size = 151 ∧ t[0]? = some (.slice a first.length cap) ∧ t[7]? = some (.pointer (some ⟨d, 0, none⟩)) ∧ t[9]? = some (.pointer (some ⟨x, 0, none⟩)) ∧ t[13]? = some vg ∧ t[14]? = some (.int .i64 (k : Int)) ∧ True ∧ Fr (fun _ => False) w w') t w ⟨hn, p0, p7, p9, p13, p14, trivial, Fr.refl _ _⟩ ?_
  clear hn p0 p7 p9 p13 p14 t
  rintro k t w1 hk ⟨hn, p0, p7, p9, p13, p14, _, F1⟩ K hK
  obtain ⟨f, hff, rfl⟩ := frame_open hn
  have e0 := hff 0 _ p0
  have e7 := hff 7 _ p7
  have e9 := hff 9 _ p9
  have e13 := hff 13 _ p13
  have e14 := hff 14 _ p14
  clear hff hn p0 p7 p9 p13 p14
  rw [lit151, e0, e7, e9, e13, e14]
  clear e0 e7 e9 e13 e14
  conv => arg 2; whnf
  have HE := Lib.hid hexit
  have HK := Lib.hid hK
  have HD := Lib.hid (D.fr F1 (fun _ _ h => h))
  have HF := Lib.hid F1
  have HC := Lib.hid hc
  have HM := Lib.hid hM
  have HF0 := Lib.hid (F0.trans F1 (fun _ h => h.elim))
  clear hexit hK D hc F1 hM F0
  have sZ : Sz 128 Try.zeroCells30 := by rw [Try.zBk]; exact ⟨ub_size _ _, ub_one _ _⟩
  by_cases hlt : k < 12
  · have q8 : (k : Int) < 12 := by omega
    have q0 : (0 : Int) ≤ (k : Int) := by omega
    have w4 := wr12 k hlt
    have v4 := vr12 k hlt
    have u4 := ur12 k hlt
    go_wp2_with fail
    refine (read_in HD.out k hlt (M k) rfl).mono ?_
    rintro e w2 ⟨rfl, F2⟩
    have K1 := (Kn.start w2).new (w2.heap.size) 128 Try.zeroCells30 30 rfl sZ.1
    have sB : Sz 128 (ub 128 (M k)) := ⟨ub_size _ _, ub_one _ _⟩
    by_cases hlen : k < first.length
    · have ql : (k : Int) < (first.length : Int) := Int.ofNat_lt.2 hlen
      obtain ⟨y, hy⟩ : ∃ y, first[k]? = some y := ⟨_, List.getElem?_eq_getElem hlen⟩
      obtain ⟨g, o, rfl, hgl, hcell⟩ := HC.out k y hy
      have HB := Lib.hid (show ∀ W : World, Fr (fun _ => False) w2 W → W.cell? ⟨g, o + k, none⟩ = some (.int .u8 (y.toNat : Int)) from fun W hF => by rw [cell_fr ((HF0.out.trans F2 (fun _ h => h.elim)).trans hF (fun _ h => h.elim)) hgl (fun h => h)]; exact hcell)
      have hfb : fb first k = y := by unfold fb; rw [List.getD_eq_getElem?_getD, hy]; rfl
      have HFB := Lib.hid hfb
      clear hcell hy hfb hl hgl
      have hM := HM.out k hlt
      rw [HFB.out] at hM
      cases hv : (bl128 (M k) == bl128 (b1 y)) with
      | true =>
        have hne : ∀ W : World, (binOp .neq 30 (.agg (ub 128 (M k))) (.agg (Try.zeroCells30.setIfInBounds 0 (.int .u8 (y.toNat : Int))))).run Try.prog W = .ok (.bool false) W := fun W => by rw [bld y, neq_blk, hv]; rfl
        clear hM hv
        generalize ub 128 (M k) = B at sB hne ⊢
        go_wp2_with (first | (focus (((with_reducible refine' wpList_store_kn K1 rfl 30 (.tmp 15) _ rfl 0 _ _ _ _ _ rfl rfl Try.szBk _ _ _); rotate_left 2; (focus exact rfl)); (focus (with_reducible assumption)); intro wz Kz; clear K1; have K1 := Kz; clear Kz; simp only [List.set_cons_zero, List.set_cons_succ] at K1; have cf := HB.out _ K1.fr; try (simp only [Act.put, List.setIfInBounds_toArray, List.set_cons_zero, List.set_cons_succ]))) | (focus (refine' wpList_load_pt_gd K1 rfl 30 (.tmp 15) rfl 0 _ _ 0 128 _ _ _ rfl _ Try.underlying30 rfl Try.szBk rfl (Part.whole _) sB.1 _)))
        exact HK.out _ _ hlt ⟨rfl, rfl, rfl, rfl, rfl, rfl, by simp, (HF.out.trans F2 (fun _ h => h.elim)).trans K1.fr (fun _ h => h.elim)⟩
      | false =>
        have hne : ∀ W : World, (binOp .neq 30 (.agg (ub 128 (M k))) (.agg (Try.zeroCells30.setIfInBounds 0 (.int .u8 (y.toNat : Int))))).run Try.prog W = .ok (.bool true) W := fun W => by rw [bld y, neq_blk, hv]; rfl
        have h6 : k < 6 ∧ M k = fun _ => 0 := by
          rcases hM with c | c
          · rw [c, beq_self_eq_true] at hv; cases hv
          · exact c
        have hne2 : ∀ W : World, (binOp .neq 30 (.agg (ub 128 (M k))) (.agg Try.zeroCells30)).run Try.prog W = .ok (.bool false) W := fun W => by rw [neq_zero, h6.2, zr_zero]; rfl
        have q6 : ¬ ((6 : Int) ≤ (k : Int)) := by have := h6.1; omega
        have t6 : decide ((6 : Int) ≤ (k : Int)) = false := by simpa using q6
        clear hM hv h6
        generalize ub 128 (M k) = B at sB hne hne2 ⊢
        go_wp2_with (first | (focus (((with_reducible refine' wpList_store_kn K1 rfl 30 (.tmp 15) _ rfl 0 _ _ _ _ _ rfl rfl Try.szBk _ _ _); rotate_left 2; (focus exact rfl)); (focus (with_reducible assumption)); intro wz Kz; clear K1; have K1 := Kz; clear Kz; simp only [List.set_cons_zero, List.set_cons_succ] at K1; have cf := HB.out _ K1.fr; try (simp only [Act.put, List.setIfInBounds_toArray, List.set_cons_zero, List.set_cons_succ]))) | (focus (refine' wpList_load_pt_gd K1 rfl 30 (.tmp 15) rfl 0 _ _ 0 128 _ _ _ rfl _ Try.underlying30 rfl Try.szBk rfl (Part.whole _) sB.1 _)))
        exact HK.out _ _ hlt ⟨rfl, rfl, rfl, rfl, rfl, rfl, by simp, (HF.out.trans F2 (fun _ h => h.elim)).trans K1.fr (fun _ h => h.elim)⟩
    · have ql : ¬ ((k : Int) < (first.length : Int)) := fun h => hlen (Int.ofNat_lt.1 h)
      have t2 : decide ((k : Int) < (first.length : Int)) = false := by simpa using ql
      have hfb : fb first k = UInt8.ofNat (k + 1) := by unfold fb; rw [List.getD_eq_getElem?_getD, List.getElem?_eq_none (Nat.le_of_not_lt hlen)]; rfl
      have HFB := Lib.hid hfb
      clear hfb hl
      have hM := HM.out k hlt
      rw [HFB.out] at hM
      cases hv : (bl128 (M k) == bl128 (b1 (UInt8.ofNat (k + 1)))) with
      | true =>
        have hne : ∀ W : World, (binOp .neq 30 (.agg (ub 128 (M k))) (.agg (Try.zeroCells30.setIfInBounds 0 (.int .u8 ((k : Int) + 1))))).run Try.prog W = .ok (.bool false) W := fun W => by rw [bldk k hlt, neq_blk, hv]; rfl
        clear hM hv
        generalize ub 128 (M k) = B at sB hne ⊢
        go_wp2_with (first | (focus (((with_reducible refine' wpList_store_kn K1 rfl 30 (.tmp 15) _ rfl 0 _ _ _ _ _ rfl rfl Try.szBk _ _ _); rotate_left 2; (focus exact rfl)); (focus (with_reducible assumption)); intro wz Kz; clear K1; have K1 := Kz; clear Kz; simp only [List.set_cons_zero, List.set_cons_succ] at K1; try (simp only [Act.put, List.setIfInBounds_toArray, List.set_cons_zero, List.set_cons_succ]))) | (focus (refine' wpList_load_pt_gd K1 rfl 30 (.tmp 15) rfl 0 _ _ 0 128 _ _ _ rfl _ Try.underlying30 rfl Try.szBk rfl (Part.whole _) sB.1 _)))
        exact HK.out _ _ hlt ⟨rfl, rfl, rfl, rfl, rfl, rfl, by simp, (HF.out.trans F2 (fun _ h => h.elim)).trans K1.fr (fun _ h => h.elim)⟩
      | false =>
        have hne : ∀ W : World, (binOp .neq 30 (.agg (ub 128 (M k))) (.agg (Try.zeroCells30.setIfInBounds 0 (.int .u8 ((k : Int) + 1))))).run Try.prog W = .ok (.bool true) W := fun W => by rw [bldk k hlt, neq_blk, hv]; rfl
        have h6 : k < 6 ∧ M k = fun _ => 0 := by
          rcases hM with c | c
          · rw [c, beq_self_eq_true] at hv; cases hv
          · exact c
        have hne2 : ∀ W : World, (binOp .neq 30 (.agg (ub 128 (M k))) (.agg Try.zeroCells30)).run Try.prog W = .ok (.bool false) W := fun W => by rw [neq_zero, h6.2, zr_zero]; rfl
        have q6 : ¬ ((6 : Int) ≤ (k : Int)) := by have := h6.1; omega
        have t6 : decide ((6 : Int) ≤ (k : Int)) = false := by simpa using q6
        clear hM hv h6
        generalize ub 128 (M k) = B at sB hne hne2 ⊢
        go_wp2_with (first | (focus (((with_reducible refine' wpList_store_kn K1 rfl 30 (.tmp 15) _ rfl 0 _ _ _ _ _ rfl rfl Try.szBk _ _ _); rotate_left 2; (focus exact rfl)); (focus (with_reducible assumption)); intro wz Kz; clear K1; have K1 := Kz; clear Kz; simp only [List.set_cons_zero, List.set_cons_succ] at K1; try (simp only [Act.put, List.setIfInBounds_toArray, List.set_cons_zero, List.set_cons_succ]))) | (focus (refine' wpList_load_pt_gd K1 rfl 30 (.tmp 15) rfl 0 _ _ 0 128 _ _ _ rfl _ Try.underlying30 rfl Try.szBk rfl (Part.whole _) sB.1 _)))
        exact HK.out _ _ hlt ⟨rfl, rfl, rfl, rfl, rfl, rfl, by simp, (HF.out.trans F2 (fun _ h => h.elim)).trans K1.fr (fun _ h => h.elim)⟩
  · obtain rfl : k = 12 := by omega
    go_wp2_with fail
    exact HE.out _ _ rfl rfl rfl rfl HF.out
end Go.Proofs.Ytgladedjgjhlaaa

/-
  CodecBack: the second loop.
-/
import Derived.Test.YtdlmfodnookmhaaMl
namespace Go.Proofs.Ytdlmfodnookmhaa
open Go.RowKit
set_option linter.unusedVariables false
set_option linter.unusedSimpArgs false
theorem wpList_load_row_gd {P : Program} {ops : Array Oper} {rest : List Oper} {o : Oper} {a : Act} {w : World} {Q : Exit → Act → World → Prop} (hw : Region.wanted o (yielded ops a.tmps) = true) (ty : TypeId) (x : Operand) (ho : o.op = .load ty x) (g : Nat) (hx : a.eval x = .pointer (some ⟨g, 0, none⟩)) (T : TypeId) (cs : Array Value) (fr : Nat × Nat)
    (d : TypeDesc) (hg : w.heap[g]? = some (.cells cs T fr)) (hu : P.underlying ty = some d) (hd : (match d with | .struct _ | .array _ _ => true | _ => false) = true) (hty : (P.info? ty).map (·.size) = some cs.size)
    (h : wpList P ops Q rest (a.put o.dst (.agg cs)) w) : wpList P ops Q (o :: rest) a w :=
  wpList_step fun Kk hK => by simp only [hw, if_true]; exact wp_load_row ty x ho g hx T cs fr d hg hu hd hty (hK _ _ h)
theorem enc_ne {q : Nat} {z : Int} {f : Nat → UInt8} {t l : List UInt8} (h : enc q z f t = some l) : l ≠ [] := by
  unfold enc at h
  split at h
  · split at h
    · rw [← Option.some.inj h]; simp
    · cases h
  · rw [← Option.some.inj h]; simp
  · rw [← Option.some.inj h]; simp [be8]
  · rw [← Option.some.inj h]; simp
  · rw [← Option.some.inj h]; simp [txt]
theorem wnt_sz (q : Nat) (hq : q < 5) (z : Int) (f : Nat → UInt8) (t : List UInt8) : Sz 35 (wnt q z f t) := by
  match q, hq with
  | 0, _ => exact pt_sz _ _ _ _
  | 1, _ => exact pt_sz _ _ _ _
  | 2, _ => exact pt_sz _ _ _ _
  | 3, _ => exact pt_sz _ _ _ _
  | 4, _ => exact pt_sz _ _ _ _
structure In2 (w0 w : World) (vin : Value) (ks : List Rp) (br1 br2 : Nat) (more : UInt8) (k : Nat) : Prop where
  own : w.ownsRow w0.heap.size 34 35 vin ks.length (flat ks)
  fr : Fr (fun _ => False) w0 w
  b1 : w0.heap.size ≤ br1
  b2 : w0.heap.size ≤ br2
  ne : br1 ≠ br2
  i1 : vin.ownBlock ≠ some br1
  i2 : vin.ownBlock ≠ some br2
  r1 : ∃ a c, Rd w br1 a c (bts (ks.drop k)) 0 ∧ (bts (ks.drop k) ≠ [] → ¬ inBlk a br2)
  r2 : ∃ a c, Rd w br2 a c (bts (ks.drop k) ++ [more]) 0 ∧ ¬ inBlk a br1
theorem In2.fr' {w0 w w' : World} {vin : Value} {ks : List Rp} {br1 br2 : Nat} {more : UInt8} {k : Nat} (h : In2 w0 w vin ks br1 br2 more k) (F : Fr (fun _ => False) w w') : In2 w0 w' vin ks br1 br2 more k := by
  obtain ⟨a, c, r, n⟩ := h.r1
  obtain ⟨a2, c2, r2, n2⟩ := h.r2
  exact ⟨own_fr h.own F (fun _ _ h => h), h.fr.trans F (fun _ h => h.elim), h.b1, h.b2, h.ne, h.i1, h.i2, ⟨a, c, r.fr F (fun h => h) (fun _ _ h => h), n⟩, ⟨a2, c2, r2.fr F (fun h => h) (fun _ _ h => h), n2⟩⟩
theorem Rd.some {w : World} {br c : Nat} {a : Option Addr} {l : List UInt8} {er : Int} (h : Rd w br a c l er) (hl : l ≠ []) : ∃ g o, a = some ⟨g, o, none⟩ ∧ g < w.heap.size := by
  rcases h.lies with e | ⟨g, o, e, hc⟩
  · exact absurd e hl
  · exact ⟨g, o, e, World.block_lt_of_cell? _ _ (hc 0 (List.length_pos_iff.2 hl))⟩
theorem bts_drop (ks : List Rp) (k : Nat) (x : Rp) (l : List UInt8) (hx : ks[k]? = some x) (hl : x.bytes = some l) : bts (ks.drop k) = l ++ bts (ks.drop (k + 1)) := by
  have hk := (List.getElem?_eq_some_iff.1 hx).1
  have e : ks[k] = x := (List.getElem?_eq_some_iff.1 hx).2
  rw [List.drop_eq_getElem_cons hk, e]
  show encd x.bytes ++ bts (ks.drop (k + 1)) = _
  rw [hl]; rfl
set_option maxRecDepth 100000 in
set_option maxHeartbeats 6400000 in
theorem back2 {Q : Exit → Act → World → Prop} {w0 w : World} {vin : Value} {ks : List Rp} {br1 br2 : Nat} {more : UInt8} (hok : ∀ x ∈ ks, x.ok) (hks : ks.length ≤ 20) (I0 : In2 w0 w vin ks br1 br2 more 0) (t : Array Value) (hn : t.size = 156)
    (p6 : t[6]? = some vin) (p13 : t[13]? = some (.pointer (some ⟨br1, 0, none⟩))) (p14 : t[14]? = some (.pointer (some ⟨br2, 0, none⟩))) (p15 : t[15]? = some (.int .i64 0))
    (hexit : ∀ t' w', t'.size = 156 → t'[13]? = some (.pointer (some ⟨br1, 0, none⟩)) → t'[14]? = some (.pointer (some ⟨br2, 0, none⟩)) → In2 w0 w' vin ks br1 br2 more ks.length → Q (.exit 2) ⟨t', []⟩ w') :
    Code.wp Try.prog (.loop (loopAt Try.f4 1)) Q ⟨t, []⟩ w := by
  obtain ⟨ai, capi, rfl⟩ := own_slice I0.own
  obtain ⟨n, hnn⟩ : ∃ n, n = ks.length := ⟨_, rfl⟩
  rw [← hnn] at p6 hks
  refine wp_loop_up n (fun k t w' => t.size = 156 ∧ t[6]? = some (.slice ai n capi) ∧ t[13]? = some (.pointer (some ⟨br1, 0, none⟩)) ∧ t[14]? = some (.pointer (some ⟨br2, 0, none⟩)) ∧ t[15]? = some (.int .i64 (k : Int)) ∧ In2 w0 w' (.slice ai ks.length capi) ks br1 br2 more k) t w ⟨hn, p6, p13, p14, p15, I0⟩ ?_
  clear hn p6 p13 p14 p15 t
  rintro k t w1 hk ⟨hn, p6, p13, p14, p15, I1⟩ K hK
  obtain ⟨f, hff, rfl⟩ := frame_open hn
  have e6 := hff 6 _ p6
  have e13 := hff 13 _ p13
  have e14 := hff 14 _ p14
  have e15 := hff 15 _ p15
  clear hff hn p6 p13 p14 p15
  rw [lit156, e6, e13, e14, e15]
  clear e6 e13 e14 e15
  conv => arg 2; whnf
  have HE := Lib.hid hexit
  have HK := Lib.hid hK
  have HI := Lib.hid I1
  have HOK := Lib.hid hok
  have HNN := Lib.hid hnn
  have HKS := Lib.hid hks
  clear hexit hK I1 hok hnn hks I0
  by_cases hkn : k < n
  · have q1 : (k : Int) < (n : Int) := by omega
    have q0 : (0 : Int) ≤ (k : Int) := by omega
    have HKN := Lib.hid hkn
    have m1 : wrap64 ((k : Int) + 1) = (k : Int) + 1 := IntWalk.wrap64_in _ (by have := HKS.out; omega)
    obtain ⟨x, hx⟩ : ∃ x, ks[k]? = some x := ⟨_, List.getElem?_eq_getElem (by rw [← HNN.out]; exact hkn)⟩
    obtain ⟨hq5, hz, ht3, l, hl⟩ := HOK.out x (List.mem_of_getElem? hx)
    obtain ⟨gi, cap, cur, e1, hgi0, hgi, hcur⟩ := own_cells HI.out.own k x hx
    have hai : ai = some ⟨gi, 0, none⟩ := by injection e1
    subst hai
    have hd := bts_drop ks k x l hx hl
    obtain ⟨q, z, f, t⟩ := x
    have hl' : enc q z f t = some l := hl
    have hlne := enc_ne hl'
    obtain ⟨a1, c1, r1, n1'⟩ := HI.out.r1
    have n1 := n1' (by rw [hd]; simp [hlne])
    clear n1'
    obtain ⟨a2, c2, r2, n2⟩ := HI.out.r2
    rw [hd] at r1 r2
    rw [List.append_assoc] at r2
    obtain ⟨g1, o1, rfl, hg1⟩ := r1.some (by simp [hlne])
    obtain ⟨g2, o2, rfl, hg2⟩ := r2.some (by simp [hlne])
    have hcells : ∀ i u, (pt (1 + (q : Int)) z f t)[i]? = some u → cur[k * 35 + i]? = some u := hcur
    have HN := fun (br c g off : Nat) (rest : List UInt8) (w : World) => next_any q hq5 br c g off z hz f t ht3 l rest hl' w
    have hkind : cur[k * 35]? = some (.int .i64 (1 + (q : Int))) := hcells 0 _ (pt_0 _ _ _ _)
    have sR := wnt_sz q hq5 z f t
    have hi1 : gi ≠ br1 := fun e => HI.out.i1 (by rw [e]; rfl)
    have hi2 : gi ≠ br2 := fun e => HI.out.i2 (by rw [e]; rfl)
    have HCE := Lib.hid hcells
    have HGI := Lib.hid hgi
    have HL0 := Lib.hid hlne
    clear hcur hx hl hl' hlne e1 hgi0 hd hcells
    go_wp2_with fail
    refine back18 (k := k) (kz := 1 + (q : Int)) (R := wnt q z f t) (l := l) (g1 := g1) (o1 := o1) (c1 := c1) (g2 := g2) (o2 := o2) (c2 := c2) (gi := gi) (cur := cur) (n := n) (rest1 := bts (ks.drop (k + 1))) (rest2 := bts (ks.drop (k + 1)) ++ [more]) (lt_of_block r1.blk) (lt_of_block r2.blk) HI.out.ne (fun e => n1 ⟨_, rfl, e⟩) (fun e => n2 ⟨_, rfl, e⟩) hg1 hg2 sR HN HGI.out hkind hi1 hi2 hkn HKS.out r1 r2 _ rfl rfl rfl rfl rfl ?_
    clear hkind sR HN
    intro t3 w3 gx gy hn3 p6 p13 p14 p15 p16 p17 hX hY F3 rr1 rr2
    obtain ⟨oo1, rd1⟩ := rr1
    obtain ⟨oo2, rd2⟩ := rr2
    have I3 : In2 w0 w3 (.slice (some ⟨gi, 0, none⟩) ks.length capi) ks br1 br2 more (k + 1) :=
      ⟨own_fr HI.out.own F3 (fun j hj e => by
        have : gi = j := by simpa [Value.ownBlock] using hj
        rcases e with e | e
        · exact hi1 (this.trans e)
        · exact hi2 (this.trans e)), HI.out.fr.trans F3 (fun j e => .inr (by rcases e with e | e; rw [e]; exact HI.out.b1; rw [e]; exact HI.out.b2)), HI.out.b1, HI.out.b2, HI.out.ne, HI.out.i1, HI.out.i2, ⟨_, _, rd1, fun _ e => n1 (by obtain ⟨ad, e1, e2⟩ := e; cases e1; exact ⟨_, rfl, e2⟩)⟩, ⟨_, _, rd2, fun e => n2 (by obtain ⟨ad, e1, e2⟩ := e; cases e1; exact ⟨_, rfl, e2⟩)⟩⟩
    have hgi3 := (F3.block gi (lt_of_block HGI.out) (fun e => e.elim hi1 hi2)).trans HGI.out
    have H0 := Lib.hid (fun (W : World) (F : Fr (fun _ => False) w3 W) => (cell_of_block (F.kp hgi3) (k * 35)).trans (HCE.out 0 _ (pt_0 _ _ _ _)))
    have H1 := Lib.hid (fun (W : World) (F : Fr (fun _ => False) w3 W) => (cell_of_block (F.kp hgi3) (k * 35 + 1)).trans (HCE.out 1 _ (pt_1 _ _ _ _)))
    have H34 := Lib.hid (fun (W : World) (F : Fr (fun _ => False) w3 W) => (cell_of_block (F.kp hgi3) (k * 35 + 34)).trans (HCE.out 34 _ (pt_34 _ _ _ _)))
    have HROW := Lib.hid (show ∀ W : World, Fr (fun _ => False) w3 W → ∀ i u, (ub 32 f)[i]? = some u → W.cell? ⟨gi, k * 35 + 2 + i, none⟩ = some u from fun W F i u hu => by
      rw [cell_of_block (F.kp hgi3), Nat.add_assoc]
      exact HCE.out (2 + i) u (pt_sum _ _ _ _ i u hu))
    have HI3 := Lib.hid I3
    clear I3 F3 rd1 rd2 n1 n2 r1 r2 hg1 hg2 hgi HGI HCE hgi3 HI hi1 hi2 hz ht3
    obtain ⟨fz, hff, rfl⟩ := frame_open hn3
    have e6 := hff 6 _ p6
    have e13 := hff 13 _ p13
    have e14 := hff 14 _ p14
    have e15 := hff 15 _ p15
    have e16 := hff 16 _ p16
    have e17 := hff 17 _ p17
    clear hff hn3 p6 p13 p14 p15 p16 p17
    rw [lit156, e6, e13, e14, e15, e16, e17]
    clear e6 e13 e14 e15 e16 e17
    have hqs : q = 0 ∨ q = 1 ∨ q = 2 ∨ q = 3 ∨ q = 4 := by omega
    rcases hqs with rfl | rfl | rfl | rfl | rfl
    · have hw : wnt 0 z f t = pt 1 z (fun _ => 0) [] := rfl
      rw [hw] at hX hY
      have hne := fun W : World => neq_pt 1 z (fun _ => 0) [] W
      have HX := Lib.hid hX
      have HY := Lib.hid hY
      skip
      clear hX hY hw
      have K1 := (Kn.start w3).new w3.heap.size 35 #[.int .i64 0, .int .i64 0, .int .u8 0, .int .u8 0, .int .u8 0, .int .u8 0, .int .u8 0, .int .u8 0, .int .u8 0, .int .u8 0, .int .u8 0, .int .u8 0, .int .u8 0, .int .u8 0, .int .u8 0, .int .u8 0, .int .u8 0, .int .u8 0, .int .u8 0, .int .u8 0, .int .u8 0, .int .u8 0, .int .u8 0, .int .u8 0, .int .u8 0, .int .u8 0, .int .u8 0, .int .u8 0, .int .u8 0, .int .u8 0, .int .u8 0, .int .u8 0, .int .u8 0, .int .u8 0, .string ⟨#[]⟩] 34 rfl zPt2
      have H0 := Lib.hid (show ∀ W : World, Fr (fun _ => False) w3 W → W.cell? ⟨gi, k * 35, none⟩ = some (.int .i64 1) from H0.out)
      have c0 := H0.out _ (Fr.refl _ w3)
      go_wp2_with (first | (focus (((with_reducible refine' wpList_store_kn K1 rfl 34 (.tmp 18) (.tmp 95) rfl 0 _ _ _ _ _ rfl rfl szPt _ _ _); rotate_left 2; (focus exact rfl)); (focus exact pt_sz 1 0 (fun _ => 0) []); intro wz Kz; clear K1; have K2 : Kn w3 [⟨w3.heap.size, 35, pt 1 0 (fun _ => 0) [], 34⟩] wz := Kz; clear Kz; have c0 := H0.out _ K2.fr; have c1 := H1.out _ K2.fr; have c34 := H34.out _ K2.fr; have hgx := K2.fr.kp HX.out; have hgy := K2.fr.kp HY.out; try (simp only [Act.put, List.setIfInBounds_toArray, List.set_cons_zero, List.set_cons_succ]))) | (focus (refine' wpList_store1_kn K2 rfl 3 (.tmp 109) (.tmp 108) rfl 0 _ 35 1 _ _ .i64 (z) rfl rfl szI rfl (by decide) ?_; intro wz Kz; simp only [List.set_cons_zero, List.set_cons_succ, pt_set1] at Kz; clear K2 hgx hgy c0 c1 c34; have K3 := Kz; clear Kz; have hgx := K3.fr.kp HX.out; have hgy := K3.fr.kp HY.out; have c0 := H0.out _ K3.fr; try (simp only [Act.put, List.setIfInBounds_toArray, List.set_cons_zero, List.set_cons_succ]))) | (focus (((with_reducible refine' wpList_load_row rfl 34 (.tmp 16) rfl gx rfl 34 _ (0, 0) _ hgx Try.underlying34 rfl (by rw [szPt, pt_size]) _)); try (simp only [Act.put, List.setIfInBounds_toArray, List.set_cons_zero, List.set_cons_succ]))) | (focus (((with_reducible refine' wpList_load_kn K3 rfl 34 (.tmp 18) rfl 0 _ _ _ _ rfl _ Try.underlying34 rfl szPt _ _); rotate_left 2; (focus exact rfl)); try (simp only [Act.put, List.setIfInBounds_toArray, List.set_cons_zero, List.set_cons_succ]))) | (focus ((refine' wpList_load_row_gd rfl 34 (.tmp 17) rfl gy rfl 34 _ (0, 0) _ hgy Try.underlying34 rfl (by rw [szPt, pt_size]) _); try (simp only [Act.put, List.setIfInBounds_toArray, List.set_cons_zero, List.set_cons_succ]))) | (focus ((refine' wpList_load_row_gd rfl 34 (.tmp 18) rfl _ rfl 34 _ (0, 0) _ (K3.heap 0 rfl) Try.underlying34 rfl (by rw [szPt, pt_size]) _); try (simp only [Act.put, List.setIfInBounds_toArray, List.set_cons_zero, List.set_cons_succ]))))
      exact HK.out _ _ hkn ⟨rfl, rfl, rfl, rfl, by simp [m1], HI3.out.fr' K3.fr⟩
    · have hw : wnt 1 z f t = pt 2 (low z : Int) (fun _ => 0) [] := rfl
      rw [hw] at hX hY
      have hne := fun W : World => neq_pt 2 (low z : Int) (fun _ => 0) [] W
      have HX := Lib.hid hX
      have HY := Lib.hid hY
      obtain ⟨hb, _⟩ := low_eq z
      clear hX hY hw
      have K1 := (Kn.start w3).new w3.heap.size 35 #[.int .i64 0, .int .i64 0, .int .u8 0, .int .u8 0, .int .u8 0, .int .u8 0, .int .u8 0, .int .u8 0, .int .u8 0, .int .u8 0, .int .u8 0, .int .u8 0, .int .u8 0, .int .u8 0, .int .u8 0, .int .u8 0, .int .u8 0, .int .u8 0, .int .u8 0, .int .u8 0, .int .u8 0, .int .u8 0, .int .u8 0, .int .u8 0, .int .u8 0, .int .u8 0, .int .u8 0, .int .u8 0, .int .u8 0, .int .u8 0, .int .u8 0, .int .u8 0, .int .u8 0, .int .u8 0, .string ⟨#[]⟩] 34 rfl zPt2
      have H0 := Lib.hid (show ∀ W : World, Fr (fun _ => False) w3 W → W.cell? ⟨gi, k * 35, none⟩ = some (.int .i64 2) from H0.out)
      have c0 := H0.out _ (Fr.refl _ w3)
      go_wp2_with (first | (focus (((with_reducible refine' wpList_store_kn K1 rfl 34 (.tmp 18) (.tmp 95) rfl 0 _ _ _ _ _ rfl rfl szPt _ _ _); rotate_left 2; (focus exact rfl)); (focus exact pt_sz 2 0 (fun _ => 0) []); intro wz Kz; clear K1; have K2 : Kn w3 [⟨w3.heap.size, 35, pt 2 0 (fun _ => 0) [], 34⟩] wz := Kz; clear Kz; have c0 := H0.out _ K2.fr; have c1 := H1.out _ K2.fr; have c34 := H34.out _ K2.fr; have hgx := K2.fr.kp HX.out; have hgy := K2.fr.kp HY.out; try (simp only [Act.put, List.setIfInBounds_toArray, List.set_cons_zero, List.set_cons_succ]))) | (focus (refine' wpList_store1_kn K2 rfl 3 (.tmp 118) (.tmp 117) rfl 0 _ 35 1 _ _ .i64 ((low z : Int)) rfl rfl szI rfl (by decide) ?_; intro wz Kz; simp only [List.set_cons_zero, List.set_cons_succ, pt_set1] at Kz; clear K2 hgx hgy c0 c1 c34; have K3 := Kz; clear Kz; have hgx := K3.fr.kp HX.out; have hgy := K3.fr.kp HY.out; have c0 := H0.out _ K3.fr; try (simp only [Act.put, List.setIfInBounds_toArray, List.set_cons_zero, List.set_cons_succ]))) | (focus (((with_reducible refine' wpList_load_row rfl 34 (.tmp 16) rfl gx rfl 34 _ (0, 0) _ hgx Try.underlying34 rfl (by rw [szPt, pt_size]) _)); try (simp only [Act.put, List.setIfInBounds_toArray, List.set_cons_zero, List.set_cons_succ]))) | (focus (((with_reducible refine' wpList_load_kn K3 rfl 34 (.tmp 18) rfl 0 _ _ _ _ rfl _ Try.underlying34 rfl szPt _ _); rotate_left 2; (focus exact rfl)); try (simp only [Act.put, List.setIfInBounds_toArray, List.set_cons_zero, List.set_cons_succ]))) | (focus ((refine' wpList_load_row_gd rfl 34 (.tmp 17) rfl gy rfl 34 _ (0, 0) _ hgy Try.underlying34 rfl (by rw [szPt, pt_size]) _); try (simp only [Act.put, List.setIfInBounds_toArray, List.set_cons_zero, List.set_cons_succ]))) | (focus ((refine' wpList_load_row_gd rfl 34 (.tmp 18) rfl _ rfl 34 _ (0, 0) _ (K3.heap 0 rfl) Try.underlying34 rfl (by rw [szPt, pt_size]) _); try (simp only [Act.put, List.setIfInBounds_toArray, List.set_cons_zero, List.set_cons_succ]))))
      exact HK.out _ _ hkn ⟨rfl, rfl, rfl, rfl, by simp [m1], HI3.out.fr' K3.fr⟩
    · have hw : wnt 2 z f t = pt 3 z (fun _ => 0) [] := rfl
      rw [hw] at hX hY
      have hne := fun W : World => neq_pt 3 z (fun _ => 0) [] W
      have HX := Lib.hid hX
      have HY := Lib.hid hY
      skip
      clear hX hY hw
      have K1 := (Kn.start w3).new w3.heap.size 35 #[.int .i64 0, .int .i64 0, .int .u8 0, .int .u8 0, .int .u8 0, .int .u8 0, .int .u8 0, .int .u8 0, .int .u8 0, .int .u8 0, .int .u8 0, .int .u8 0, .int .u8 0, .int .u8 0, .int .u8 0, .int .u8 0, .int .u8 0, .int .u8 0, .int .u8 0, .int .u8 0, .int .u8 0, .int .u8 0, .int .u8 0, .int .u8 0, .int .u8 0, .int .u8 0, .int .u8 0, .int .u8 0, .int .u8 0, .int .u8 0, .int .u8 0, .int .u8 0, .int .u8 0, .int .u8 0, .string ⟨#[]⟩] 34 rfl zPt2
      have H0 := Lib.hid (show ∀ W : World, Fr (fun _ => False) w3 W → W.cell? ⟨gi, k * 35, none⟩ = some (.int .i64 3) from H0.out)
      have c0 := H0.out _ (Fr.refl _ w3)
      go_wp2_with (first | (focus (((with_reducible refine' wpList_store_kn K1 rfl 34 (.tmp 18) (.tmp 95) rfl 0 _ _ _ _ _ rfl rfl szPt _ _ _); rotate_left 2; (focus exact rfl)); (focus exact pt_sz 3 0 (fun _ => 0) []); intro wz Kz; clear K1; have K2 : Kn w3 [⟨w3.heap.size, 35, pt 3 0 (fun _ => 0) [], 34⟩] wz := Kz; clear Kz; have c0 := H0.out _ K2.fr; have c1 := H1.out _ K2.fr; have c34 := H34.out _ K2.fr; have hgx := K2.fr.kp HX.out; have hgy := K2.fr.kp HY.out; try (simp only [Act.put, List.setIfInBounds_toArray, List.set_cons_zero, List.set_cons_succ]))) | (focus (refine' wpList_store1_kn K2 rfl 3 (.tmp 109) (.tmp 108) rfl 0 _ 35 1 _ _ .i64 (z) rfl rfl szI rfl (by decide) ?_; intro wz Kz; simp only [List.set_cons_zero, List.set_cons_succ, pt_set1] at Kz; clear K2 hgx hgy c0 c1 c34; have K3 := Kz; clear Kz; have hgx := K3.fr.kp HX.out; have hgy := K3.fr.kp HY.out; have c0 := H0.out _ K3.fr; try (simp only [Act.put, List.setIfInBounds_toArray, List.set_cons_zero, List.set_cons_succ]))) | (focus (((with_reducible refine' wpList_load_row rfl 34 (.tmp 16) rfl gx rfl 34 _ (0, 0) _ hgx Try.underlying34 rfl (by rw [szPt, pt_size]) _)); try (simp only [Act.put, List.setIfInBounds_toArray, List.set_cons_zero, List.set_cons_succ]))) | (focus (((with_reducible refine' wpList_load_kn K3 rfl 34 (.tmp 18) rfl 0 _ _ _ _ rfl _ Try.underlying34 rfl szPt _ _); rotate_left 2; (focus exact rfl)); try (simp only [Act.put, List.setIfInBounds_toArray, List.set_cons_zero, List.set_cons_succ]))) | (focus ((refine' wpList_load_row_gd rfl 34 (.tmp 17) rfl gy rfl 34 _ (0, 0) _ hgy Try.underlying34 rfl (by rw [szPt, pt_size]) _); try (simp only [Act.put, List.setIfInBounds_toArray, List.set_cons_zero, List.set_cons_succ]))) | (focus ((refine' wpList_load_row_gd rfl 34 (.tmp 18) rfl _ rfl 34 _ (0, 0) _ (K3.heap 0 rfl) Try.underlying34 rfl (by rw [szPt, pt_size]) _); try (simp only [Act.put, List.setIfInBounds_toArray, List.set_cons_zero, List.set_cons_succ]))))
      exact HK.out _ _ hkn ⟨rfl, rfl, rfl, rfl, by simp [m1], HI3.out.fr' K3.fr⟩
    · have hw : wnt 3 z f t = pt 4 0 f [] := rfl
      rw [hw] at hX hY
      have hne := fun W : World => neq_pt 4 0 f [] W
      have HX := Lib.hid hX
      have HY := Lib.hid hY
      skip
      clear hX hY hw
      have K1 := (Kn.start w3).new w3.heap.size 35 #[.int .i64 0, .int .i64 0, .int .u8 0, .int .u8 0, .int .u8 0, .int .u8 0, .int .u8 0, .int .u8 0, .int .u8 0, .int .u8 0, .int .u8 0, .int .u8 0, .int .u8 0, .int .u8 0, .int .u8 0, .int .u8 0, .int .u8 0, .int .u8 0, .int .u8 0, .int .u8 0, .int .u8 0, .int .u8 0, .int .u8 0, .int .u8 0, .int .u8 0, .int .u8 0, .int .u8 0, .int .u8 0, .int .u8 0, .int .u8 0, .int .u8 0, .int .u8 0, .int .u8 0, .int .u8 0, .string ⟨#[]⟩] 34 rfl zPt2
      have H0 := Lib.hid (show ∀ W : World, Fr (fun _ => False) w3 W → W.cell? ⟨gi, k * 35, none⟩ = some (.int .i64 4) from H0.out)
      have c0 := H0.out _ (Fr.refl _ w3)
      go_wp2_with (first | (focus (((with_reducible refine' wpList_store_kn K1 rfl 34 (.tmp 18) (.tmp 95) rfl 0 _ _ _ _ _ rfl rfl szPt _ _ _); rotate_left 2; (focus exact rfl)); (focus exact pt_sz 4 0 (fun _ => 0) []); intro wz Kz; clear K1; have K2 : Kn w3 [⟨w3.heap.size, 35, pt 4 0 (fun _ => 0) [], 34⟩] wz := Kz; clear Kz; have c0 := H0.out _ K2.fr; have c1 := H1.out _ K2.fr; have c34 := H34.out _ K2.fr; have hgx := K2.fr.kp HX.out; have hgy := K2.fr.kp HY.out; try (simp only [Act.put, List.setIfInBounds_toArray, List.set_cons_zero, List.set_cons_succ]))) | (focus (((with_reducible refine' wpList_load_cells rfl 32 (.tmp 124) rfl gi (k * 35 + 2) rfl (ub 32 f) _ _ Try.underlying32 rfl szR _ _ _); (focus exact HROW.out _ K2.fr); (focus exact ub_size _ _)); try (simp only [Act.put, List.setIfInBounds_toArray, List.set_cons_zero, List.set_cons_succ]))) | (focus (((with_reducible refine' wpList_store_part rfl 32 (.tmp 126) (.tmp 125) rfl _ 2 (ub 32 f) rfl rfl _ (ub_one _ _) 34 _ (K2.heap 0 rfl) _ _); (focus (rw [ub_size]; exact szR)); (focus (rw [ub_size, pt_size]; decide)); intro wz hz Fz; rw [ub_size, pt_put] at hz; have Kz := K2.set 0 _ rfl _ (pt_size _ _ _ _) Fz hz; simp only [List.set_cons_zero, List.set_cons_succ] at Kz; clear K2 hgx hgy c0 c1 c34 hz Fz; have K3 := Kz; clear Kz; have hgx := K3.fr.kp HX.out; have hgy := K3.fr.kp HY.out; have c0 := H0.out _ K3.fr; try (simp only [Act.put, List.setIfInBounds_toArray, List.set_cons_zero, List.set_cons_succ])))) | (focus (((with_reducible refine' wpList_load_row rfl 34 (.tmp 16) rfl gx rfl 34 _ (0, 0) _ hgx Try.underlying34 rfl (by rw [szPt, pt_size]) _)); try (simp only [Act.put, List.setIfInBounds_toArray, List.set_cons_zero, List.set_cons_succ]))) | (focus (((with_reducible refine' wpList_load_kn K3 rfl 34 (.tmp 18) rfl 0 _ _ _ _ rfl _ Try.underlying34 rfl szPt _ _); rotate_left 2; (focus exact rfl)); try (simp only [Act.put, List.setIfInBounds_toArray, List.set_cons_zero, List.set_cons_succ]))) | (focus ((refine' wpList_load_row_gd rfl 34 (.tmp 17) rfl gy rfl 34 _ (0, 0) _ hgy Try.underlying34 rfl (by rw [szPt, pt_size]) _); try (simp only [Act.put, List.setIfInBounds_toArray, List.set_cons_zero, List.set_cons_succ]))) | (focus ((refine' wpList_load_row_gd rfl 34 (.tmp 18) rfl _ rfl 34 _ (0, 0) _ (K3.heap 0 rfl) Try.underlying34 rfl (by rw [szPt, pt_size]) _); try (simp only [Act.put, List.setIfInBounds_toArray, List.set_cons_zero, List.set_cons_succ]))))
      exact HK.out _ _ hkn ⟨rfl, rfl, rfl, rfl, by simp [m1], HI3.out.fr' K3.fr⟩
    · have hw : wnt 4 z f t = pt 5 0 (fun _ => 0) t := rfl
      rw [hw] at hX hY
      have hne := fun W : World => neq_pt 5 0 (fun _ => 0) t W
      have HX := Lib.hid hX
      have HY := Lib.hid hY
      skip
      clear hX hY hw
      have K1 := (Kn.start w3).new w3.heap.size 35 #[.int .i64 0, .int .i64 0, .int .u8 0, .int .u8 0, .int .u8 0, .int .u8 0, .int .u8 0, .int .u8 0, .int .u8 0, .int .u8 0, .int .u8 0, .int .u8 0, .int .u8 0, .int .u8 0, .int .u8 0, .int .u8 0, .int .u8 0, .int .u8 0, .int .u8 0, .int .u8 0, .int .u8 0, .int .u8 0, .int .u8 0, .int .u8 0, .int .u8 0, .int .u8 0, .int .u8 0, .int .u8 0, .int .u8 0, .int .u8 0, .int .u8 0, .int .u8 0, .int .u8 0, .int .u8 0, .string ⟨#[]⟩] 34 rfl zPt2
      have H0 := Lib.hid (show ∀ W : World, Fr (fun _ => False) w3 W → W.cell? ⟨gi, k * 35, none⟩ = some (.int .i64 5) from H0.out)
      have c0 := H0.out _ (Fr.refl _ w3)
      go_wp2_with (first | (focus (((with_reducible refine' wpList_store_kn K1 rfl 34 (.tmp 18) (.tmp 95) rfl 0 _ _ _ _ _ rfl rfl szPt _ _ _); rotate_left 2; (focus exact rfl)); (focus exact pt_sz 5 0 (fun _ => 0) []); intro wz Kz; clear K1; have K2 : Kn w3 [⟨w3.heap.size, 35, pt 5 0 (fun _ => 0) [], 34⟩] wz := Kz; clear Kz; have c0 := H0.out _ K2.fr; have c1 := H1.out _ K2.fr; have c34 := H34.out _ K2.fr; have hgx := K2.fr.kp HX.out; have hgy := K2.fr.kp HY.out; try (simp only [Act.put, List.setIfInBounds_toArray, List.set_cons_zero, List.set_cons_succ]))) | (focus (((with_reducible refine' wpList_store_one rfl 9 (.tmp 134) (.tmp 133) rfl _ 34 rfl (.string ⟨t.toArray⟩) rfl rfl rfl szS 34 _ (K2.heap 0 rfl) _ _); (focus (rw [pt_size]; decide)); intro wz hz Fz; have Kz := K2.set 0 _ rfl _ (by rw [Array.size_setIfInBounds]; exact pt_size _ _ _ _) Fz hz; simp only [List.set_cons_zero, List.set_cons_succ, pt_set34] at Kz; clear K2 hgx hgy c0 c1 c34 hz Fz; have K3 := Kz; clear Kz; have hgx := K3.fr.kp HX.out; have hgy := K3.fr.kp HY.out; have c0 := H0.out _ K3.fr; try (simp only [Act.put, List.setIfInBounds_toArray, List.set_cons_zero, List.set_cons_succ])))) | (focus (((with_reducible refine' wpList_load_row rfl 34 (.tmp 16) rfl gx rfl 34 _ (0, 0) _ hgx Try.underlying34 rfl (by rw [szPt, pt_size]) _)); try (simp only [Act.put, List.setIfInBounds_toArray, List.set_cons_zero, List.set_cons_succ]))) | (focus (((with_reducible refine' wpList_load_kn K3 rfl 34 (.tmp 18) rfl 0 _ _ _ _ rfl _ Try.underlying34 rfl szPt _ _); rotate_left 2; (focus exact rfl)); try (simp only [Act.put, List.setIfInBounds_toArray, List.set_cons_zero, List.set_cons_succ]))) | (focus ((refine' wpList_load_row_gd rfl 34 (.tmp 17) rfl gy rfl 34 _ (0, 0) _ hgy Try.underlying34 rfl (by rw [szPt, pt_size]) _); try (simp only [Act.put, List.setIfInBounds_toArray, List.set_cons_zero, List.set_cons_succ]))) | (focus ((refine' wpList_load_row_gd rfl 34 (.tmp 18) rfl _ rfl 34 _ (0, 0) _ (K3.heap 0 rfl) Try.underlying34 rfl (by rw [szPt, pt_size]) _); try (simp only [Act.put, List.setIfInBounds_toArray, List.set_cons_zero, List.set_cons_succ]))))
      exact HK.out _ _ hkn ⟨rfl, rfl, rfl, rfl, by simp [m1], HI3.out.fr' K3.fr⟩
  · obtain rfl : k = n := by omega
    have q1 : ¬ ((k : Int) < (k : Int)) := by omega
    have h9 : In2 w0 w1 (.slice ai ks.length capi) ks br1 br2 more ks.length := Eq.subst (motive := fun j => In2 w0 w1 (.slice ai ks.length capi) ks br1 br2 more j) HNN.out HI.out
    have H9 := Lib.hid h9
    clear hk hkn h9
    go_wp2_with fail
    exact HE.out _ _ rfl rfl rfl H9.out
end Go.Proofs.Ytdlmfodnookmhaa

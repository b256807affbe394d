/-
  ExtentZeros: its row of writes, opened; its first loop.
-/
import Derived.Test.YtgladedjgjhlaaaXn
namespace Go.Proofs.Ytgladedjgjhlaaa
open Go.ChangeShapes Go.WideShapes Go.ChangeAt Go.RowKit Go.Deep
set_option linter.unusedVariables false
set_option linter.unusedSimpArgs false
structure Jc where
  spot : Int
  by1 : UInt8
def JM (w : World) (v : Value) (js : List Jc) : Prop := ∃ a cap, v = .slice a js.length cap ∧ js.length ≤ maxLen ∧ ∀ j x, js[j]? = some x → ∃ g o, a = some ⟨g, o, none⟩ ∧ g < w.heap.size ∧ w.cell? ⟨g, o + j * 2, none⟩ = some (.int .i64 x.spot) ∧ w.cell? ⟨g, o + j * 2 + 1, none⟩ = some (.int .u8 (x.by1.toNat : Int)) ∧ In64 x.spot
section
variable {H : Type} {enc : TypeId × Value → H} {W : World} {base : Nat}
theorem trod_struct2 {P : Program} {w : World} {b : Nat} {spare : Nat → Bool} {held : Bool} {t : TypeId} {f0 f1 : Field} {fuel : Nat} {cs : List Value} {x : DataW H × List MemPlace} (ht : P.underlying t = some (.struct #[f0, f1])) (h : DataW.trod enc P w b spare held fuel t cs = some x) :
    ∃ y0 y1 n, cs.length = P.cellsOf t ∧ DataW.trod enc P w b spare held n f0.type ((cs.drop f0.offset).take (P.cellsOf f0.type)) = some y0 ∧ DataW.trod enc P w b spare held n f1.type ((cs.drop f1.offset).take (P.cellsOf f1.type)) = some y1 := by
  obtain ⟨xs, n, _, rfl, hl, hlen, hf⟩ := DataW.trod_struct ht h
  match xs, hlen with
  | [y0, y1], _ => exact ⟨y0, y1, n, hl, by simpa using hf 0 f0 rfl, by simpa using hf 1 f1 rfl⟩
set_option maxRecDepth 100000 in
theorem cells_jc {n : Nat} {cs : List Value} {y : DataW H × List MemPlace} (hf : DataW.trod enc Try.prog W 0 (fun _ => true) true n 84 cs = some y) : ∃ x : Jc, cs = [.int .i64 x.spot, .int .u8 (x.by1.toNat : Int)] ∧ In64 x.spot := by
  obtain ⟨y0, y1, n, hl, t0, t1⟩ := trod_struct2 Try.underlying84 hf
  obtain ⟨z0, e0, _, w0⟩ := DataW.trod_int Try.underlying3 t0
  obtain ⟨z1, e1, _, w1⟩ := DataW.trod_int Try.underlying5 t1
  obtain ⟨b, rfl⟩ := u8_of_wf w1
  have c2 : Try.prog.cellsOf 84 = 2 := by kernel_rfl
  have ci : Try.prog.cellsOf 3 = 1 := by kernel_rfl
  have cu : Try.prog.cellsOf 5 = 1 := by kernel_rfl
  rw [c2] at hl
  simp only [ci, cu] at e0 e1
  refine ⟨⟨z0, b⟩, ?_, in64_of_wf w0⟩
  match cs, hl with
  | [x0, x1], _ =>
    simp at e0 e1
    subst e0 e1
    rfl
set_option maxRecDepth 100000 in
theorem open_jcs {v : Value} {d : DataW H} {p : List MemPlace} (hval : Value.okWide Try.prog W .any base 81 v) (h1 : DataW.Trod enc Try.prog W 0 (fun _ => true) true 81 v d p) : ∃ js, JM W v js := by
  obtain ⟨a0, len0, cap0, rfl⟩ := okWide_slice Try.underlying81 hval
  obtain ⟨fuel, hf⟩ := h1
  have c2 : Try.prog.cellsOf 84 = 2 := by kernel_rfl
  rcases Deep.open_slice Try.underlying81 hf with ⟨hcs, hx⟩ | ⟨a, len, cap, m, n, D, Pl, hcs, hb, hl, hm, hmm, hx, hc⟩
  · have : Value.slice a0 len0 cap0 = .slice none 0 0 := by simpa [Value.cells] using hcs
    exact ⟨[], none, 0, by rw [this]; rfl, by simp, fun j x hj => by simp at hj⟩
  · have e0 : Value.slice a0 len0 cap0 = .slice (some a) len cap := by simpa [Value.cells] using hcs
    rw [e0]
    simp only [if_true] at hmm
    rw [c2] at hc
    have each : ∀ i, ∃ x : Jc, i < len → W.cells? 0 (a.add (i * 2)) 2 = some [.int .i64 x.spot, .int .u8 (x.by1.toNat : Int)] ∧ In64 x.spot := fun i => by
      by_cases hi : i < len
      · obtain ⟨cs', h1, h2⟩ := hc i (by omega)
        obtain ⟨x, e, hk⟩ := cells_jc h2
        exact ⟨x, fun _ => ⟨by rw [h1, e], hk⟩⟩
      · exact ⟨⟨0, 0⟩, fun h => absurd h hi⟩
    obtain ⟨B, hB⟩ := Classical.axiomOfChoice each
    refine ⟨(List.range len).map B, some a, cap, by simp, by simp; omega, fun j x hj => ?_⟩
    have hj2 : j < len := by have := (List.getElem?_eq_some_iff.1 hj).1; simpa using this
    have e : B j = x := by simpa [hj2] using hj
    obtain ⟨h4, hk⟩ := hB j hj2
    rw [e] at h4 hk
    have hs := (World.cells?_some h4).2.2
    have q0 := hs 0 (by decide)
    have q1 := hs 1 (by decide)
    obtain ⟨h40, _⟩ := hB 0 (by omega)
    have q00 := (World.cells?_some h40).2.2 0 (by decide)
    have q01 : W.cell? (a.add 0) = some (.int .i64 (B 0).spot) := by simpa [Addr.add] using q00
    obtain ⟨g, o, rfl⟩ := spot_none q01
    simp only [add_none] at q0 q1
    exact ⟨g, o, rfl, lt_of_cell (s := none) q0, q0, q1, hk⟩
end
/-- A block of noughts, but for its last byte. -/
def b127 (x : UInt8) : Nat → UInt8 := fun j => if j = 127 then x else 0
theorem bld127 (x : UInt8) : Try.zeroCells30.setIfInBounds 127 (.int .u8 (x.toNat : Int)) = ub 128 (b127 x) := by
  rw [Try.zBk, ub_set 128 _ 127 x (by decide)]; rfl
theorem b127_zero : b127 0 = fun _ => 0 := by funext j; simp [b127]
theorem spot20 (s : Int) : ∃ z : Int, ∃ q : Nat, IntKind.u64.wrap s = z ∧ z.tmod 20 = (q : Int) ∧ q < 20 := by
  have e : IntKind.u64.wrap s = s % 18446744073709551616 := by
    unfold IntKind.wrap
    first | rfl | simp
  refine ⟨s % 18446744073709551616, ((s % 18446744073709551616) % 20).toNat, e, ?_, ?_⟩
  · rw [Int.tmod_eq_emod_of_nonneg (by omega)]; omega
  · omega
theorem qr1 (q : Nat) (h : q < 20) : IntKind.u64.wrap (q : Int) = (q : Int) := IntWalk.u64_in _ (by omega)
theorem qr2 (q : Nat) (h : q < 20) : IntKind.i64.wrap (q : Int) = (q : Int) := IntWalk.i64_in _ (by omega)
theorem qr3 (q : Nat) (h : q < 20) : wrap64 (q : Int) = (q : Int) := IntWalk.wrap64_in _ (by omega)
set_option maxRecDepth 100000 in
theorem lit211 (f : Nat → Value) : ((List.range 211).map f).toArray = (f 0 :: f 1 :: f 2 :: f 3 :: f 4 :: f 5 :: f 6 :: f 7 :: f 8 :: f 9 :: f 10 :: f 11 :: f 12 :: f 13 :: f 14 :: f 15 :: f 16 :: f 17 :: f 18 :: f 19 :: f 20 :: f 21 :: f 22 :: f 23 :: f 24 :: f 25 :: f 26 :: f 27 :: f 28 :: f 29 :: f 30 :: f 31 :: f 32 :: f 33 :: f 34 :: f 35 :: f 36 :: f 37 :: f 38 :: f 39 :: f 40 :: f 41 :: f 42 :: f 43 :: f 44 :: f 45 :: f 46 :: f 47 :: f 48 :: f 49 :: f 50 :: f 51 :: f 52 :: f 53 :: f 54 :: f 55 :: f 56 :: f 57 :: f 58 :: f 59 :: f 60 :: f 61 :: f 62 :: f 63 :: f 64 :: f 65 :: f 66 :: f 67 :: f 68 :: f 69 :: f 70 :: f 71 :: f 72 :: f 73 :: f 74 :: f 75 :: f 76 :: f 77 :: f 78 :: f 79 :: f 80 :: f 81 :: f 82 :: f 83 :: f 84 :: f 85 :: f 86 :: f 87 :: f 88 :: f 89 :: f 90 :: f 91 :: f 92 :: f 93 :: f 94 :: f 95 :: f 96 :: f 97 :: f 98 :: f 99 :: f 100 :: f 101 :: f 102 :: f 103 :: f 104 :: f 105 :: f 106 :: f 107 :: f 108 :: f 109 :: f 110 :: f 111 :: f 112 :: f 113 :: f 114 :: f 115 :: f 116 :: f 117 :: f 118 :: f 119 :: f 120 :: f 121 :: f 122 :: f 123 :: f 124 :: f 125 :: f 126 :: f 127 :: f 128 :: f 129 :: f 130 :: f 131 :: f 132 :: f 133 :: f 134 :: f 135 :: f 136 :: f 137 :: f 138 :: f 139 :: f 140 :: f 141 :: f 142 :: f 143 :: f 144 :: f 145 :: f 146 :: f 147 :: f 148 :: f 149 :: f 150 :: f 151 :: f 152 :: f 153 :: f 154 :: f 155 :: f 156 :: f 157 :: f 158 :: f 159 :: f 160 :: f 161 :: f 162 :: f 163 :: f 164 :: f 165 :: f 166 :: f 167 :: f 168 :: f 169 :: f 170 :: f 171 :: f 172 :: f 173 :: f 174 :: f 175 :: f 176 :: f 177 :: f 178 :: f 179 :: f 180 :: f 181 :: f 182 :: f 183 :: f 184 :: f 185 :: f 186 :: f 187 :: f 188 :: f 189 :: f 190 :: f 191 :: f 192 :: f 193 :: f 194 :: f 195 :: f 196 :: f 197 :: f 198 :: f 199 :: f 200 :: f 201 :: f 202 :: f 203 :: f 204 :: f 205 :: f 206 :: f 207 :: f 208 :: f 209 :: f 210 :: []).toArray := by kernel_rfl
set_option maxRecDepth 100000 in
set_option maxHeartbeats 6400000 in
theorem zeros1 {Q : Exit → Act → World → Prop} {w0 w : World} {d bn bl x gt : Nat} {v0 v1 v2 : Value} {js : List Jc} {xf xc xs : Int} (hb : JM w0 v0 js) (D : DA w d bn bl 20 (fun _ _ => 0) (fun _ _ => 0) [] (.slice none 0 0) 0 0 false w0.heap.size) (F : Fr (fun _ => False) w0 w) (X : Ext w x (.pointer (some ⟨d, 0, none⟩)) xf xc xs) (G : w.heap[gt]? = some (.cells (ub 20 fun _ => 0) 82 (0, 0))) (hx1 : x ≠ d) (hx2 : x ≠ bn) (hx3 : x ≠ bl) (hg0 : w0.heap.size ≤ gt) (hg1 : gt ≠ d) (hg2 : gt ≠ bn) (hg3 : gt ≠ bl) (hg4 : gt ≠ x) (t : Array Value) (hn : t.size = 211)
    (p0 : t[0]? = some v0) (p1 : t[1]? = some v1) (p2 : t[2]? = some v2) (p7 : t[7]? = some (.pointer (some ⟨d, 0, none⟩))) (p9 : t[9]? = some (.pointer (some ⟨x, 0, none⟩))) (p11 : t[11]? = some (.pointer (some ⟨gt, 0, none⟩))) (p12 : t[12]? = some (.int .i64 0))
    (hexit : ∀ t' w' N ws v' wr Wf, t'.size = 211 → t'[1]? = some v1 → t'[2]? = some v2 → t'[7]? = some (.pointer (some ⟨d, 0, none⟩)) → t'[9]? = some (.pointer (some ⟨x, 0, none⟩)) → t'[11]? = some (.pointer (some ⟨gt, 0, none⟩)) → DA w' d bn bl 20 N (fun _ _ => 0) ws v' wr 0 false w0.heap.size → ws.length ≤ 30 → 0 ≤ wr → wr ≤ 30 → (∀ j, j < 20 → N j = b127 (Wf j)) → (∀ j, lay (fun _ _ => 0) ws j = N j) → v'.ownBlock ≠ some gt → v'.ownBlock ≠ some x → Fr (fun _ => False) w0 w' → Ext w' x (.pointer (some ⟨d, 0, none⟩)) xf xc xs → w'.heap[gt]? = some (.cells (ub 20 Wf) 82 (0, 0)) → Q (.exit 0) ⟨t', []⟩ w') :
    Code.wp Try.prog (.loop (loopAt Try.f8 0)) Q ⟨t, []⟩ w := by
  obtain ⟨a, cap, rfl, hl, hc⟩ := hb
  refine wp_loop_up (min js.length 30) (fun k t w' => t.size = 211 ∧ t[0]? = some (.slice a js.length cap) ∧ t[1]? = some v1 ∧ t[2]? = some v2 ∧ t[7]? = some (.pointer (some ⟨d, 0, none⟩)) ∧ t[9]? = some (.pointer (some ⟨x, 0, none⟩)) ∧ t[11]? = some (.pointer (some ⟨gt, 0, none⟩)) ∧ t[12]? = some (.int .i64 (k : Int)) ∧ (∃ N ws v wr Wf, DA w' d bn bl 20 N (fun _ _ => 0) ws v wr 0 false w0.heap.size ∧ ws.length ≤ k ∧ 0 ≤ wr ∧ wr ≤ (k : Int) ∧ (∀ j, j < 20 → N j = b127 (Wf j)) ∧ (∀ j, lay (fun _ _ => 0) ws j = N j) ∧ v.ownBlock ≠ some gt ∧ v.ownBlock ≠ some x ∧ w'.heap[gt]? = some (.cells (ub 20 Wf) 82 (0, 0))) ∧ Fr (fun _ => False) w0 w' ∧ Ext w' x (.pointer (some ⟨d, 0, none⟩)) xf xc xs) t w ⟨hn, p0, p1, p2, p7, p9, p11, p12, ⟨_, [], _, 0, fun _ => 0, D, Nat.zero_le _, Int.le_refl _, by omega, fun j _ => b127_zero.symm, fun j => rfl, by simp [Value.ownBlock], by simp [Value.ownBlock], G⟩, F, X⟩ ?_
  clear hn p0 p1 p2 p7 p9 p11 p12 t D F X G
  rintro k t w1 hk ⟨hn, p0, p1, p2, p7, p9, p11, p12, ⟨N, ws, v, wr, Wf, D, hws, hr0, hr1, hNW, hLN, hv1, hv2, G1⟩, F1, X1⟩ K hK
  obtain ⟨f, hff, rfl⟩ := frame_open hn
  have e0 := hff 0 _ p0
  have e1 := hff 1 _ p1
  have e2 := hff 2 _ p2
  have e7 := hff 7 _ p7
  have e9 := hff 9 _ p9
  have e11 := hff 11 _ p11
  have e12 := hff 12 _ p12
  clear hff hn p0 p1 p2 p7 p9 p11 p12
  rw [lit211, e0, e1, e2, e7, e9, e11, e12]
  clear e0 e1 e2 e7 e9 e11 e12
  conv => arg 2; whnf
  have HE := Lib.hid hexit
  have HK := Lib.hid hK
  have HD := Lib.hid D
  have HF := Lib.hid F1
  have HC := Lib.hid hc
  have HX := Lib.hid X1
  have HNW := Lib.hid hNW
  have HLN := Lib.hid hLN
  clear hexit hK D hc X1 hNW hLN
  by_cases hlt : k < min js.length 30
  · have ql : (k : Int) < (js.length : Int) := by omega
    have q8 : (k : Int) < 30 := by omega
    have q0 : (0 : Int) ≤ (k : Int) := by omega
    have hk30 : k < 30 := by omega
    obtain ⟨y, hy⟩ : ∃ y, js[k]? = some y := ⟨_, List.getElem?_eq_getElem (by omega)⟩
    obtain ⟨g, o, rfl, hgl, hc0, hc1, hs1⟩ := HC.out k y hy
    obtain ⟨z, q, hz, hq, hq20⟩ := spot20 y.spot
    obtain ⟨sp, yb⟩ := y
    have c0 : w1.cell? ⟨g, o + k * 2, none⟩ = some (.int .i64 sp) := by rw [cell_fr F1 hgl (fun h => h)]; exact hc0
    have c1 : w1.cell? ⟨g, o + k * 2 + 1, none⟩ = some (.int .u8 (yb.toNat : Int)) := by rw [cell_fr F1 hgl (fun h => h)]; exact hc1
    have hc1' : w0.cell? ⟨g, o + k * 2 + 1, none⟩ = some (.int .u8 (yb.toNat : Int)) := hc1
    have HC1 := Lib.hid hc1'
    have hl1 : ws.length < 1000000000000 := by omega
    have hi1 : In64 (wr + 1) := by unfold In64; omega
    have HWS := Lib.hid hws
    have HR0 := Lib.hid hr0
    have HR1 := Lib.hid hr1
    have HGL := Lib.hid hgl
    have qi0 : (0 : Int) ≤ (q : Int) := Int.natCast_nonneg q
    have qi20 : (q : Int) < 20 := Int.ofNat_lt.2 hq20
    clear hc0 hc1 hc1' F1 hs1 hy hws hr0 hr1 hgl hl
    have w4 := wrs k (by omega)
    have v4 := wrs2 k (by omega)
    have r1 := qr1 q hq20
    have r2 := qr2 q hq20
    have r3 := qr3 q hq20
    simp only at hz
    go_wp2_with fail
    rw [bld127 yb]
    refine (write_def HD.out hl1 hi1 (by unfold In64; omega) (by decide) q hq20 (b127 yb)).mono ?_
    rintro e w2 ⟨rfl, v', D2, O2, F2⟩
    have F02 := HD.out.grow HF.out F2 wt_tch
    have X2 : Ext w2 x (.pointer (some ⟨d, 0, none⟩)) xf xc xs := (F2.block x (lt_of_block HX.out) (wt_not hx1 hx2 hv2)).trans HX.out
    have G2 := (F2.block gt (lt_of_block G1) (wt_not hg1 hg2 hv1)).trans G1
    have hv21 := own_not O2 hv1 (lt_of_block G1)
    have hv22 := own_not O2 hv2 (lt_of_block HX.out)
    have c1 : w2.cell? ⟨g, o + k * 2 + 1, none⟩ = some (.int .u8 (yb.toNat : Int)) := by rw [cell_fr F02 HGL.out (fun h => h)]; exact HC1.out
    have HD2 := Lib.hid D2
    have HF02 := Lib.hid F02
    have HX2 := Lib.hid X2
    have szb : (Try.prog.info? 5).map (·.size) = some 1 := by kernel_rfl
    clear F2 O2 D2 c0 X2 F02
    go_wp2_with (focus ((with_reducible refine wpList_store_one ?p0 5 (.tmp 81) (.tmp 80) ?p1 gt q ?p2 (.int .u8 (yb.toNat : Int)) ?p3 ?p4 ?p5 szb 82 _ G2 ?p6 ?p7); (case p0 => rfl); (case p1 => rfl); (case p2 => rfl); (case p3 => rfl); (case p4 => rfl); (case p5 => rfl); (case p6 => rw [ub_size]; exact hq20); intro w3 G3 F3; (simp only [Act.put, List.setIfInBounds_toArray, List.set_cons_zero, List.set_cons_succ])))
    clear r1 r2 r3 w4 v4 hz hq
    rw [ub_set 20 Wf q yb hq20] at G3
    have D3 := HD2.out.fr F3 (fun j hj e => by
      have e : j = gt := e
      subst e
      rcases hj with e | e | e | e
      · exact hg1 e
      · exact hg2 e
      · exact hg3 e
      · exact hv21 e)
    have X3 : Ext w3 x (.pointer (some ⟨d, 0, none⟩)) xf xc xs := (F3.block x (lt_of_block HX2.out) (fun e => hg4 (show gt = x from (show x = gt from e).symm))).trans HX2.out
    refine HK.out _ _ hlt ⟨rfl, rfl, rfl, rfl, rfl, rfl, rfl, by simp, ⟨_, ws ++ [(q, b127 yb)], v', wr + 1, _, D3, by have := HWS.out; simp; omega, by have := HR0.out; omega, by have := HR1.out; omega, ?_, ?_, hv21, hv22, G3⟩, HF02.out.trans F3 (fun j e => Or.inr (by have e : j = gt := e; omega)), X3⟩
    · intro j hj
      unfold bset
      by_cases e : j = q
      · rw [if_pos e, if_pos e]
      · rw [if_neg e, if_neg e]; exact HNW.out j hj
    · intro j
      rw [lay_app]
      unfold bset
      by_cases e : j = q
      · rw [if_pos e, if_pos e]
      · rw [if_neg e, if_neg e]; exact HLN.out j
  · have hw30 : ws.length ≤ 30 := by omega
    have hr30 : wr ≤ 30 := by omega
    by_cases h8 : k < js.length
    · have ql : (k : Int) < (js.length : Int) := by omega
      have q8 : ¬ ((k : Int) < 30) := by omega
      have t2 : decide ((k : Int) < 30) = false := by simpa using q8
      go_wp2_with fail
      exact HE.out _ _ N ws v wr Wf rfl rfl rfl rfl rfl rfl HD.out hw30 hr0 hr30 HNW.out HLN.out hv1 hv2 HF.out HX.out G1
    · have ql : ¬ ((k : Int) < (js.length : Int)) := by omega
      have t2 : decide ((k : Int) < (js.length : Int)) = false := by simpa using ql
      go_wp2_with fail
      exact HE.out _ _ N ws v wr Wf rfl rfl rfl rfl rfl rfl HD.out hw30 hr0 hr30 HNW.out HLN.out hv1 hv2 HF.out HX.out G1
end Go.Proofs.Ytgladedjgjhlaaa

/-
  The loops that lay the words out of Sum of package custumalref02.
-/
import Derived.Test.YtmoepalhoaekgaaDoorUf
import Derived.Test.YtmoepalhoaekgaaDoorOw
namespace Go.Proofs.YtmoepalhoaekgaaDoor
open Go.RowKit
set_option linter.unusedVariables false

theorem flat_take5 (s : S5.St) (k : Nat) (hk : k < 8) : (s.list.take (k + 1)).flatMap S5.be8 = (s.list.take k).flatMap S5.be8 ++ S5.be8 (sx5 s k) := by
  have hl : k < s.list.length := hk
  rw [List.take_succ_eq_append_getElem hl, List.flatMap_append]
  congr 1
  simp [sx5, List.getD, List.getElem?_eq_getElem hl]
theorem be8_len (x : Nat) : (S5.be8 x).length = 8 := rfl
theorem flat_len5 (s : S5.St) (k : Nat) (hk : k ≤ 8) : ((s.list.take k).flatMap S5.be8).length = 8 * k := by
  match k, hk with
  | 0, _ => rfl
  | 1, _ => rfl
  | 2, _ => rfl
  | 3, _ => rfl
  | 4, _ => rfl
  | 5, _ => rfl
  | 6, _ => rfl
  | 7, _ => rfl
  | 8, _ => rfl
theorem be8_same (n : Nat) : S5.be8 n = S2.be8 n := rfl
theorem byte_shift5 (z j : Nat) : ((z : Int) / 2 ^ (56 - 8 * j)) % 256 = ((UInt8.ofNat (z / 2 ^ (56 - 8 * j))).toNat : Int) := by
  rw [UInt8.toNat_ofNat']
  simp

set_option maxRecDepth 100000 in
set_option maxHeartbeats 1600000 in
theorem us_loop8 {Q : Exit → Act → World → Prop} (s : S5.St) (hs : s.ok) (k : Nat) (hk : k < 8) (x0 : List UInt8) (hx0 : x0.length = 8 * k) (B B6 : Nat) (w : World) (hB6 : w.heap[B6]? = some (.cells (stv5 s) 65 (0, 0))) (hBw : B ≤ w.heap.size) (v0 : Value) (hO : Own w B v0 x0) (hne : ∀ b, v0.ownBlock = some b → b ≠ B6)
    (t : Array Value) (hn : t.size = 244) (p6 : t[6]? = some (.pointer (some ⟨B6, 0, none⟩))) (p18 : t[18]? = some v0) (p19 : t[19]? = some (.int .i64 (k : Int))) (p20 : t[20]? = some (.int .i64 56))
    (hexit : ∀ t' w' v, t'.size = 244 → t'[6]? = some (.pointer (some ⟨B6, 0, none⟩)) → t'[18]? = some v → t'[19]? = some (.int .i64 (k : Int)) → Own w' B v (x0 ++ S5.be8 (sx5 s k)) → (∀ b, v.ownBlock = some b → b ≠ B6) → w'.heap[B6]? = some (.cells (stv5 s) 65 (0, 0)) → Fr (fun k => B ≤ k) w w' → Q (.exit 16) ⟨t', []⟩ w') :
    Code.wp Tryd.prog (.loop (loopAt Tryd.f16 8)) Q ⟨t, []⟩ w := by
  refine wp_loop_up 8 (fun j t w' => t.size = 244 ∧ t[6]? = some (.pointer (some ⟨B6, 0, none⟩)) ∧ t[19]? = some (.int .i64 (k : Int)) ∧ t[20]? = some (.int .i64 (56 - 8 * (j : Int))) ∧ ∃ v, t[18]? = some v ∧ Own w' B v (x0 ++ (S5.be8 (sx5 s k)).take j) ∧ (∀ b, v.ownBlock = some b → b ≠ B6) ∧ w'.heap[B6]? = some (.cells (stv5 s) 65 (0, 0)) ∧ Fr (fun k => B ≤ k) w w') t w ⟨hn, p6, p19, p20, v0, p18, by simpa using hO, hne, hB6, Fr.refl _ _⟩ ?_
  clear hB6 hO hne hn p6 p18 p19 p20 t v0
  rintro j t wr hj ⟨hn, p6, p19, p20, v, p18, hO, hne, hB6, hF⟩ K hK
  obtain ⟨f, hf, rfl⟩ := frame_open hn
  have e6 := hf 6 _ p6
  have e18 := hf 18 _ p18
  have e19 := hf 19 _ p19
  have e20 := hf 20 _ p20
  clear hf hn p6 p18 p19 p20
  rw [lit244, e6, e18, e19, e20]
  clear e6 e18 e19 e20
  conv => arg 2; whnf
  by_cases hj8 : j < 8
  · have c0 := cell_of_block hB6 k
    rw [← stu_uv5, uv_get5 8 _ k hk] at c0
    have y0 := sx5_lt s hs k hk
    have hbt := be8_take (sx5 s k) j hj8
    rw [← be8_same] at hbt
    have hv := byte_shift5 (sx5 s k) j
    have hbl := be8_len (sx5 s k)
    generalize hz : sx5 s k = z at *
    generalize UInt8.ofNat (z / 2 ^ (56 - 8 * j)) = y at hbt hv
    have q1 : (0 : Int) ≤ 56 - 8 * (j : Int) := by omega
    have q2 : (0 : Int) ≤ (k : Int) := by omega
    have q3 : (k : Int) < 8 := by omega
    obtain ⟨a2, c2, rfl⟩ := hO.slice
    have hL2 : (x0 ++ (S5.be8 z).take j).length = 8 * k + j := by rw [List.length_append, hx0, List.length_take, hbl]; omega
    rw [hL2] at hO hne ⊢
    have hsrc := src_b1 y (heap_alloc_new wr (.cells #[.int .u8 (y.toNat : Int)] 5)) rfl
    have own1 := hO.fr ((Fr.refl (fun _ => False) wr).alloc (.cells #[.int .u8 (y.toNat : Int)] 5)) (fun _ _ h => h)
    have F1 := hF.alloc (.cells #[.int .u8 (y.toNat : Int)] 5)
    have hz1 : B ≤ (wr.alloc (.cells #[.int .u8 (y.toNat : Int)] 5)).heap.size := Nat.le_trans hBw F1.size
    have hb1 : (x0 ++ (S5.be8 z).take j).length + [y].length ≤ 140737488355328 := by rw [hL2]; simp; omega
    have hnext : (x0 ++ (S5.be8 z).take j) ++ [y] = x0 ++ (S5.be8 z).take (j + 1) := by rw [hbt, List.append_assoc]
    clear hbt
    have HN := Lib.hid hnext
    have z6 := lt_of_block hB6
    have HB6 := Lib.hid hB6
    have HX := Lib.hid hx0
    have HL := Lib.hid hbl
    have HK := Lib.hid hK
    clear hnext hB6 hx0 hbl hK
    generalize hxx : x0 ++ (S5.be8 z).take j = xx at *
    generalize hLx : 8 * k + j = Lx at *
    have hLb : (Lx : Int) ≤ 9223372036854775807 := by omega
    have HXX := Lib.hid hxx
    have HLX := Lib.hid hLx
    clear hxx hLx
    go_wp2_with (at_builtin; refine wpList_own _ rfl (.tmp 233) (.tmp 240) 22 rfl B (.slice a2 Lx c2) xx [y] rfl own1 (.slice (some ⟨wr.heap.size, 0, none⟩) 1 1) rfl hsrc hb1 hz1 ?k)
    case k =>
    intro v3 w3 own3 hg3 hb3
    have F3 : Fr (fun k => B ≤ k) w w3 := F1.trans (Fr.ofGrown hg3) (fun i hi => Or.inl (hO.lt i hi).1)
    have hne3 : ∀ b, v3.ownBlock = some b → b ≠ B6 := by
      intro b hb e
      rcases hb3 with h | h
      · exact hne b (h.symm.trans hb) e
      · rw [h] at hb
        have := Option.some.inj hb
        try simp at this
        omega
    have hne2 : ¬ (Value.ownBlock (.slice a2 Lx c2) = some B6) := fun e => hne _ e rfl
    have B3 : w3.heap[B6]? = some (.cells (stv5 s) 65 (0, 0)) := ((Fr.ofGrown hg3).block B6 (by simp; omega) hne2).trans ((Below.heap_alloc wr _ B6 z6).trans HB6.out)
    have H3 := Lib.hid B3
    rw [HN.out] at own3
    clear hsrc own1 F1 hz1 hb1 hg3 hb3 hv hne hne2 B3 c0 hO hF
    go_wp2
    exact HK.out _ _ hj8 ⟨rfl, rfl, rfl, by go_num, v3, rfl, own3, hne3, H3.out, F3⟩
  · obtain rfl : j = 8 := by omega
    have HE := Lib.hid hexit
    have ht : (S5.be8 (sx5 s k)).take 8 = S5.be8 (sx5 s k) := List.take_of_length_le (by rw [be8_len]; omega)
    rw [ht] at hO
    clear hexit
    go_wp2_with fail
    exact HE.out _ _ _ rfl rfl rfl rfl hO hne hB6 hF

set_option maxRecDepth 100000 in
set_option maxHeartbeats 1600000 in
theorem us_loop7 {Q : Exit → Act → World → Prop} (s : S5.St) (hs : s.ok) (B B6 : Nat) (w : World) (hB6 : w.heap[B6]? = some (.cells (stv5 s) 65 (0, 0))) (hBw : B ≤ w.heap.size) (v0 : Value) (hO : Own w B v0 []) (hne : ∀ b, v0.ownBlock = some b → b ≠ B6)
    (t : Array Value) (hn : t.size = 244) (p6 : t[6]? = some (.pointer (some ⟨B6, 0, none⟩))) (p18 : t[18]? = some v0) (p19 : t[19]? = some (.int .i64 0))
    (hexit : ∀ t' w' v, t'.size = 244 → t'[18]? = some v → Own w' B v (S5.out s) → Fr (fun k => B ≤ k) w w' → Q (.exit 14) ⟨t', []⟩ w') :
    Code.wp Tryd.prog (.loop (loopAt Tryd.f16 7)) Q ⟨t, []⟩ w := by
  refine wp_loop_up 8 (fun k t w' => t.size = 244 ∧ t[6]? = some (.pointer (some ⟨B6, 0, none⟩)) ∧ t[19]? = some (.int .i64 (k : Int)) ∧ ∃ v, t[18]? = some v ∧ Own w' B v ((s.list.take k).flatMap S5.be8) ∧ (∀ b, v.ownBlock = some b → b ≠ B6) ∧ w'.heap[B6]? = some (.cells (stv5 s) 65 (0, 0)) ∧ Fr (fun k => B ≤ k) w w') t w ⟨hn, p6, p19, v0, p18, hO, hne, hB6, Fr.refl _ _⟩ ?_
  clear hB6 hO hne hn p6 p18 p19 t v0
  rintro k t wr hk ⟨hn, p6, p19, v, p18, hO, hne, hB6, hF⟩ K hK
  obtain ⟨f, hf, rfl⟩ := frame_open hn
  have e6 := hf 6 _ p6
  have e18 := hf 18 _ p18
  have e19 := hf 19 _ p19
  clear hf hn p6 p18 p19
  rw [lit244, e6, e18, e19]
  clear e6 e18 e19
  conv => arg 2; whnf
  by_cases hk8 : k < 8
  · have hft := flat_take5 s k hk8
    have hfl := flat_len5 s k (by omega)
    have q1 : (k : Int) < 8 := by omega
    have HK := Lib.hid hK
    have HT := Lib.hid hft
    have HFl := Lib.hid hfl
    have HB6 := Lib.hid hB6
    clear hK hft hfl hB6
    have hz := Nat.le_trans hBw hF.size
    go_wp2_with fail
    refine us_loop8 s hs k hk8 _ HFl.out B B6 wr HB6.out hz v hO hne _ rfl rfl rfl rfl rfl ?_
    intro t1 w1 v1 hn1 p61 p181 p191 hO1 hne1 hB61 hF1
    obtain ⟨f1, hf1, rfl⟩ := frame_open hn1
    have e6 := hf1 6 _ p61
    have e18 := hf1 18 _ p181
    have e19 := hf1 19 _ p191
    clear hf1 hn1 p61 p181 p191
    rw [lit244, e6, e18, e19]
    clear e6 e18 e19
    rw [← HT.out] at hO1
    have F2 : Fr (fun k => B ≤ k) w w1 := hF.trans hF1 (fun i hi => Or.inl hi)
    have H61 := Lib.hid hB61
    clear hB61 hF1 hF hO HB6 HT
    go_wp2_with fail
    exact HK.out _ _ hk8 ⟨rfl, rfl, rfl, v1, rfl, hO1, hne1, H61.out, F2⟩
  · obtain rfl : k = 8 := by omega
    have HE := Lib.hid hexit
    clear hexit
    go_wp2_with fail
    exact HE.out _ _ _ rfl rfl hO hF
end Go.Proofs.YtmoepalhoaekgaaDoor

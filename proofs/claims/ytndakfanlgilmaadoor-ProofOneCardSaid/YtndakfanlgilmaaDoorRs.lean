/-
  The contract of Sum of package custumalref01: it is SHA-256 of the string's bytes.
-/
import Derived.Test.YtndakfanlgilmaaDoorR7
namespace Go.Proofs.YtndakfanlgilmaaDoor
open Go.RowKit
set_option linter.unusedVariables false

set_option maxRecDepth 100000 in
set_option maxHeartbeats 1600000 in
theorem rsum_any (s : ByteArray) (hs : s.size ≤ 1000000000000) (w : World) (hE : REnv w) :
    Calls Tryd.prog 9 #[.string s] w fun e w' => e = .returned (.string ⟨(S2.sum (sb s)).toArray⟩) ∧ Fr (fun _ => False) w w' := by
  have kc := fun w : World => Lib.run_convert_string_bytes (P := Tryd.prog) w 9 39 5 s Tryd.underlying9 Tryd.underlying39 Tryd.underlying5
  have hl : (sb s).length = s.size := sb_length s
  go_enter Tryd.func9, Tryd.ntmps9
  have own0 := own_str w s w.heap.size (Nat.le_refl _) (by omega)
  have F0 := own_str_fr w s
  have z0 : (Lib.bytesWorld w 5 s).heap.size = w.heap.size + 1 := Lib.bytesWorld_size _ _ _
  have hn0 := heap_alloc_new (Lib.bytesWorld w 5 s) (.cells #[.int .u8 128] 5)
  rw [z0] at hn0
  have hsrc := src_b1 (0x80 : UInt8) hn0 rfl
  have own1 := own0.fr ((Fr.refl (fun _ => False) (Lib.bytesWorld w 5 s)).alloc (.cells #[.int .u8 128] 5)) (fun _ _ h => h)
  have F1 := F0.alloc (.cells #[.int .u8 128] 5)
  have hz1 : w.heap.size ≤ ((Lib.bytesWorld w 5 s).alloc (.cells #[.int .u8 128] 5)).heap.size := F1.size
  have hb1 : (sb s).length + [(0x80 : UInt8)].length ≤ 140737488355328 := by simp; omega
  go_wp2_with (at_builtin; refine wpList_own _ rfl (.tmp 23) (.tmp 24) 39 rfl w.heap.size (.slice (some ⟨w.heap.size, 0, none⟩) s.size (grownCap w s.size 0 5)) (sb s) [0x80] rfl own1 (.slice (some ⟨w.heap.size + 1, 0, none⟩) 1 1) rfl hsrc hb1 hz1 ?k)
  case k =>
  intro v2 w2 own2 hg2 hb2
  have F2 : Fr (fun _ => False) w w2 := F1.trans (Fr.ofGrown hg2) (fun k hk => Or.inr (by
    have : w.heap.size = k := by simpa [Value.ownBlock] using hk
    omega))
  clear own0 F0 z0 hn0 hsrc own1 F1 hg2 hb2 kc
  obtain ⟨l, hsl⟩ : ∃ l, l = sb s := ⟨_, rfl⟩
  rw [← hsl] at own2 hl
  have Hsl := Lib.hid hsl
  clear hsl
  obtain ⟨p1, p2, p3⟩ := pad_mod s.size
  obtain ⟨K, hK⟩ : ∃ K, K = S2.padLen s.size := ⟨_, rfl⟩
  rw [← hK] at p1 p2 p3
  have HK := Lib.hid hK
  clear hK
  go_wp2_with fail
  go_loopw [4] (fun v wr => ∃ q : Nat, q ≤ K - 9 ∧ Own wr w.heap.size v (l ++ 0x80 :: List.replicate q 0) ∧ Fr (fun _ => False) w wr) (fun v _ => s.size + 100 - lenR v)
  case atStart => exact ⟨0, by omega, own2, F2⟩
  case round =>
    clear own2 F2
    obtain ⟨q, hq, own, F⟩ := hrel
    obtain ⟨a, c, rfl⟩ := own.slice
    have hL : (l ++ 0x80 :: List.replicate q 0).length = s.size + 1 + q := by simp [hl]; omega
    rw [hL] at own ⊢
    have hm : (((s.size + 1 + q : Nat) : Int)).tmod 64 = ((s.size + 1 + q : Nat) : Int) % 64 := Int.tmod_eq_emod_of_nonneg (by omega)
    generalize hLL : s.size + 1 + q = L at *
    have hL2 : (L : Int) ≤ 9223372036854775807 := by omega
    by_cases hlt : q < K - 9
    · have ht : ((L : Int) % 64 != 56) = true := by simp; omega
      have hsrc := src_b1 (0 : UInt8) (heap_alloc_new wr (.cells #[.int .u8 0] 5)) rfl
      have own1 := own.fr ((Fr.refl (fun _ => False) wr).alloc (.cells #[.int .u8 0] 5)) (fun _ _ h => h)
      have F1 := F.alloc (.cells #[.int .u8 0] 5)
      have hz1 : w.heap.size ≤ (wr.alloc (.cells #[.int .u8 0] 5)).heap.size := F1.size
      have hb1 : (l ++ 0x80 :: List.replicate q 0).length + [(0 : UInt8)].length ≤ 140737488355328 := by rw [hL]; simp; omega
      generalize hx0 : (l ++ 0x80 :: List.replicate q 0) = x0 at *
      go_wp2_with (at_builtin; refine wpList_own _ rfl (.tmp 30) (.tmp 31) 39 rfl w.heap.size (.slice a L c) x0 [0] rfl own1 (.slice (some ⟨wr.heap.size, 0, none⟩) 1 1) rfl hsrc hb1 hz1 ?k)
      case k =>
      intro v3 w3 own3 hg3 hb3
      have F3 : Fr (fun _ => False) w w3 := F1.trans (Fr.ofGrown hg3) (fun k hk => Or.inr (own1.lt k hk).1)
      have hx1 : x0 ++ [0] = l ++ 0x80 :: List.replicate (q + 1) 0 := by rw [← hx0, List.replicate_succ']; simp
      rw [hx1] at own3
      obtain ⟨a3, c3, rfl⟩ := own3.slice
      have hL3 : (l ++ 0x80 :: List.replicate (q + 1) 0).length = L + 1 := by simp [hl]; omega
      rw [hL3] at own3 ⊢
      clear hsrc own own1 F1 hz1 hb1 hg3 hb3 hx1 hx0 hm ht
      go_wp2
      go_roundw
      case rel => exact ⟨q + 1, by omega, own3, F3⟩
      case measure => simp [lenR]; omega
    · obtain rfl : q = K - 9 := by omega
      have ht : ((L : Int) % 64 != 56) = false := by simp; omega
      have hP : (l ++ 0x80 :: List.replicate (K - 9) 0) ++ S2.be8 (8 * s.size) = S2.full l := by
        have := HK.out
        unfold S2.full S2.pad
        rw [hl, ← this]
        simp
      generalize hPP : l ++ 0x80 :: List.replicate (K - 9) 0 = P at *
      have HP := Lib.hid hP
      clear hP
      go_wp2_with fail
      go_loopw [4, 5] (fun v i wx => ∃ j : Nat, j ≤ 8 ∧ i = .int .i64 (56 - 8 * (j : Int)) ∧ Own wx w.heap.size v (P ++ (S2.be8 (8 * s.size)).take j) ∧ Fr (fun _ => False) w wx) (fun _ i _ => (intOf i + 8).toNat)
      case atStart => exact ⟨0, by omega, by simp, by simpa using own, F⟩
      case round =>
        clear own F hm ht
        obtain ⟨j, hj, rfl, own, F⟩ := hrel
        by_cases hlt : j < 8
        · have q1 : (0 : Int) ≤ 56 - 8 * (j : Int) := by omega
          have hbt := be8_take (8 * s.size) j hlt
          have hv : (8 * (s.size : Int) / 2 ^ (56 - 8 * j) % 256) = ((UInt8.ofNat (8 * s.size / 2 ^ (56 - 8 * j))).toNat : Int) := by
            have := byte_shift (8 * s.size) j hlt
            rw [← this]
            simp
          generalize UInt8.ofNat (8 * s.size / 2 ^ (56 - 8 * j)) = y at hbt hv
          obtain ⟨a2, c2, rfl⟩ := own.slice
          have hPl : P.length = s.size + K - 8 := by rw [← hPP]; simp [hl]; omega
          have hL2 : (P ++ (S2.be8 (8 * s.size)).take j).length = s.size + K - 8 + j := by rw [List.length_append, hPl]; simp [S2.be8]; omega
          rw [hL2] at own ⊢
          have hsrc := src_b1 y (heap_alloc_new wr (.cells #[.int .u8 (y.toNat : Int)] 5)) rfl
          have own1 := own.fr ((Fr.refl (fun _ => False) wr).alloc (.cells #[.int .u8 (y.toNat : Int)] 5)) (fun _ _ h => h)
          have F1 := F.alloc (.cells #[.int .u8 (y.toNat : Int)] 5)
          have hz1 : w.heap.size ≤ (wr.alloc (.cells #[.int .u8 (y.toNat : Int)] 5)).heap.size := F1.size
          have hb1 : (P ++ (S2.be8 (8 * s.size)).take j).length + [y].length ≤ 140737488355328 := by rw [hL2]; simp; omega
          have hnext : (P ++ (S2.be8 (8 * s.size)).take j) ++ [y] = P ++ (S2.be8 (8 * s.size)).take (j + 1) := by rw [hbt, List.append_assoc]
          clear hbt
          generalize hx0 : P ++ (S2.be8 (8 * s.size)).take j = x0 at *
          generalize hLx : s.size + K - 8 + j = Lx at *
          have hLb : (Lx : Int) ≤ 9223372036854775807 := by omega
          go_wp2_with (at_builtin; refine wpList_own _ rfl (.tmp 37) (.tmp 43) 39 rfl w.heap.size (.slice a2 Lx c2) x0 [y] rfl own1 (.slice (some ⟨wr.heap.size, 0, none⟩) 1 1) rfl hsrc hb1 hz1 ?k)
          case k =>
          intro v3 w3 own3 hg3 hb3
          have F3 : Fr (fun _ => False) w w3 := F1.trans (Fr.ofGrown hg3) (fun k hk => Or.inr (own1.lt k hk).1)
          clear hsrc own own1 F1 hz1 hb1 hg3 hb3 hnext hx0 hv
          go_wp2
          go_roundw
          case rel => exact ⟨j + 1, by omega, by go_num, own3, F3⟩
          case measure => simp [intOf]; omega
        · obtain rfl : j = 8 := by omega
          have hfull : P ++ (S2.be8 (8 * s.size)).take 8 = S2.full l := by rw [← HP.out]; rfl
          rw [hfull] at own
          have hF1 := hE.fr F (fun h => h) (fun h => h)
          obtain ⟨tH, frH, hbH⟩ := hF1.tabH
          obtain ⟨a4, c4, rfl⟩ := own.slice
          have hN : (S2.full l).length = s.size + K := by have := HK.out; unfold S2.full S2.pad; rw [hl]; simp [S2.be8]; omega
          rw [hN] at own ⊢
          obtain ⟨nb, hnb⟩ : ∃ nb, s.size + K = 64 * nb := ⟨(s.size + K) / 64, by omega⟩
          rw [hnb] at own hN ⊢
          have hnbb : (nb : Int) ≤ 100000000000 := by omega
          have hnew := heap_alloc_new wr (.cells (iu 8 (fun _ => 0)) 62)
          have hsz : (iu 8 (fun _ => 0)).size = (iu 8 (swi S2.H0)).size := (iu_size _ _).trans (iu_size _ _).symm
          have hone : (iu 8 (swi S2.H0)).all (·.oneCell') = true := iu_one _ _
          rw [← zero8i] at hnew hsz
          clear hfull HP hPP
          go_wp2_with (first
            | (with_reducible refine wpList_load_row rfl 62 (.global 0) rfl 0 rfl tH (iu 8 (swi S2.H0)) frH _ hbH Tryd.underlying62 rfl Tryd.size8i ?_)
            | (with_reducible refine wpList_store_rowR rfl 62 (.tmp 6) (.tmp 45) rfl wr.heap.size (iu 8 (swi S2.H0)) rfl rfl 62 _ hnew Tryd.size8i hsz hone ?k))
          case k =>
          intro w5 b5 hG5
          have F5 : Fr (fun _ => False) w w5 := (F.alloc _).trans hG5 (fun i hi => Or.inr (by have := F.size; omega))
          have own5 : Own w5 w.heap.size (.slice a4 (64 * nb) c4) (S2.full l) := own.fr (((Fr.refl (fun _ => False) wr).alloc _).trans hG5 (fun i hi => Or.inr (by omega))) (fun _ _ h => h)
          have hB6 := F.size
          have hgB := fun k (hk : (Value.slice a4 (64 * nb) c4).ownBlock = some k) => (own.lt k hk).2
          generalize hB6e : wr.heap.size = B6 at *
          clear own F hF1 hbH hnew hsz hone hG5 hB6e
          obtain ⟨g, hg4, rfl⟩ : ∃ g, w.heap.size ≤ g ∧ a4 = some ⟨g, 0, none⟩ := by
            rcases own5 with ⟨e, h0⟩ | ⟨g, cap, cur, fz, e, h1, _⟩
            · rw [h0] at hN; simp at hN; omega
            · injection e with e1 e2 e3; exact ⟨g, h1, e1⟩
          have hT5 : Txt w5 g (S2.full l) := by
            obtain ⟨_, _, _, hl5⟩ := own5.lies
            intro j hj
            rcases hl5 with e | ⟨g2, off2, e, hc⟩
            · rw [e] at hj; simp at hj
            · cases e
              have := hc j hj
              rw [Nat.zero_add] at this
              rw [this, List.getD_eq_getElem?_getD, List.getElem?_eq_getElem hj]; rfl
          have hgl := own5.lt g rfl
          have hd5 : g ≠ B6 := by have := hgB g rfl; omega
          have z5 : B6 < w5.heap.size := lt_of_block b5
          have hE5 := hE.fr F5 (fun h => h) (fun h => h)
          have hg0 : 0 < w.heap.size := by obtain ⟨_, _, h⟩ := hE.tabH; exact lt_of_block h
          have hg1 : 1 < w.heap.size := World.block_lt_of_cell? _ _ (hE.tabK 0 (by decide))
          have hNN : 64 * nb ≤ 1000000000100 := by omega
          have B5 := Lib.hid b5
          have HN := Lib.hid hN
          have HnB := Lib.hid hnb
          clear own5 hgB b5 hN hnb
          go_wp2_with fail
          refine rs_loop3 (S2.full l) g (64 * nb) c4 B6 nb HN.out rfl hNN w5 hT5 hgl.2 hE5 B5.out hd5 (by omega) (by omega) _ ⟨rfl, rfl, rfl, rfl⟩ ?_
          intro t6 w6 hp6 hB6' hF6
          obtain ⟨f, hf, rfl⟩ := hp6.open
          clear hf hp6
          have H6 := Lib.hid hB6'
          have G6 : Fr (fun _ => False) w w6 := F5.trans hF6 (fun i hi => Or.inr (by omega))
          clear hB6' hF6 hT5
          go_wp2_with fail
          have hsz6 := G6.size
          have n6 := heap_alloc_new w6 (.cells #[] 5)
          have O6 : Own (w6.alloc (.cells #[] 5)) w.heap.size (.slice (some ⟨w6.heap.size, 0, none⟩) 0 0) [] :=
            Or.inr ⟨w6.heap.size, 0, #[], (0, 0), rfl, hsz6, n6, Or.inl rfl, Nat.le_refl _, Nat.zero_le _, rfl, rfl⟩
          have z66 := lt_of_block H6.out
          have B6' := Lib.hid ((Below.heap_alloc w6 (.cells #[] 5) B6 z66).trans H6.out)
          clear n6
          refine rs_loop7 (S2.hwN (S2.full l) nb) (S2.hwN_ok _ _) w.heap.size B6 _ B6'.out (by simp; omega) _ O6 (fun b hb => by have := Option.some.inj hb; simp at this; omega) _ rfl rfl rfl rfl ?_
          intro t7 w7 v7 hn7 p18 O7 F7
          obtain ⟨f7, hf7, rfl⟩ := frame_open hn7
          have e18 := hf7 18 _ p18
          clear hf7 hn7 p18
          rw [lit265, e18]
          clear e18
          have G7 : Fr (fun _ => False) w w7 := (G6.alloc _).trans F7 (fun i hi => Or.inr hi)
          obtain ⟨a7, c7, rfl⟩ := O7.slice
          obtain ⟨_, _, _, hl7⟩ := O7.lies
          have hs7 := run_str hl7 c7 9 Tryd.underlying9
          have hfin : S2.out (S2.hwN (S2.full l) nb) = S2.sum (sb s) := by
            rw [← Hsl.out]
            unfold S2.sum S2.hw
            have := HN.out
            rw [show (l ++ S2.pad l.length) = S2.full l from rfl, this, Nat.mul_div_cancel_left _ (by decide)]
          have Hfin := Lib.hid hfin
          clear hfin
          generalize S2.out (S2.hwN (S2.full l) nb) = x7 at *
          go_wp2_with fail
          go_ret
          exact ⟨by rw [Hfin.out]; rfl, G7⟩
end Go.Proofs.YtndakfanlgilmaaDoor



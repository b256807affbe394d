/-
  take: what is kept by a name, out of what is kept.
-/
import Derived.Test.YtkigdgkklninoaaWb
import Derived.Test.YtkigdgkklninoaaLp
namespace Go.Proofs.Ytkigdgkklninoaa
open Go.RowKit
set_option linter.unusedVariables false
set_option linter.unusedSimpArgs false
def nm (s : ByteArray) (x : ByteArray × ByteArray) : Bool := x.1.toList == s.toList
theorem szE : (Try.prog.info? 54).map (·.size) = some 2 := by kernel_rfl
theorem oneE (x : ByteArray × ByteArray) : (#[Value.string x.1, .string x.2] : Array Value).all (·.oneCell') = true := by simp [Value.oneCell']
theorem ent_cells {w : World} {g n cap : Nat} {L : List (ByteArray × ByteArray)} {cur : Array Value} (hg : w.heap[g]? = some (.cells cur 54 (0, 0))) (hn : L.length = n) (hnc : n ≤ cap) (hcs : cur.size = cap * 2) (ht : cur.toList.take (n * 2) = ec L) {k : Nat} {x : ByteArray × ByteArray} (hx : L[k]? = some x) : w.cell? ⟨g, k * 2, none⟩ = some (.string x.1) ∧ w.cell? ⟨g, k * 2 + 1, none⟩ = some (.string x.2) := by
  have hk := (List.getElem?_eq_some_iff.1 hx).1
  obtain ⟨h1, h2⟩ := ec_get L k x hx
  rw [← ht, List.getElem?_take_of_lt (by omega), Array.getElem?_toList] at h1 h2
  exact ⟨(cell_of_block hg _).trans h1, (cell_of_block hg _).trans h2⟩
set_option maxRecDepth 100000 in
theorem lit36 (f : Nat → Value) : ((List.range 36).map f).toArray = (f 0 :: f 1 :: f 2 :: f 3 :: f 4 :: f 5 :: f 6 :: f 7 :: f 8 :: f 9 :: f 10 :: f 11 :: f 12 :: f 13 :: f 14 :: f 15 :: f 16 :: f 17 :: f 18 :: f 19 :: f 20 :: f 21 :: f 22 :: f 23 :: f 24 :: f 25 :: f 26 :: f 27 :: f 28 :: f 29 :: f 30 :: f 31 :: f 32 :: f 33 :: f 34 :: f 35 :: []).toArray := by kernel_rfl
set_option maxRecDepth 100000 in
set_option maxHeartbeats 6400000 in
theorem take_on {K : Act → World → Prop} {Q : Exit → Act → World → Prop} {w : World} {pb off fb g n cap k : Nat} {s : ByteArray} {L : List (ByteArray × ByteArray)} {cur : Array Value} {x : ByteArray × ByteArray} (hg : w.heap[g]? = some (.cells cur 54 (0, 0))) (hn0 : L.length = n) (hnc : n ≤ cap) (hcm : cap ≤ maxLen) (hcs : cur.size = cap * 2) (ht0 : cur.toList.take (n * 2) = ec L) (hk : L[k]? = some x) (hx : nm s x = false) (fr : Array Value) (hn : fr.size = 36) (p0 : fr[0]? = some (.pointer (some ⟨pb, off, none⟩))) (p1 : fr[1]? = some (.string s)) (p4 : fr[4]? = some (.pointer (some ⟨fb, 0, none⟩))) (p5 : fr[5]? = some (.bool false)) (p11 : fr[11]? = some (.slice (some ⟨g, 0, none⟩) n cap)) (p12 : fr[12]? = some (.int .i64 (n : Int))) (p13 : fr[13]? = some (.int .i64 (k : Int)))
    (hK : ∀ t' w', t'.size = 36 → t'[0]? = some (.pointer (some ⟨pb, off, none⟩)) → t'[1]? = some (.string s) → t'[4]? = some (.pointer (some ⟨fb, 0, none⟩)) → t'[5]? = some (.bool false) → t'[11]? = some (.slice (some ⟨g, 0, none⟩) n cap) → t'[12]? = some (.int .i64 (n : Int)) → t'[13]? = some (.int .i64 ((k + 1 : Nat) : Int)) → Fr (fun _ => False) w w' → K ⟨t', []⟩ w') :
    Code.wp Try.prog (loopAt Try.f18 0) (Exit.then K Q) ⟨fr, []⟩ w := by
  obtain ⟨c0, c1⟩ := ent_cells hg hn0 hnc hcs ht0 hk
  have hkl := (List.getElem?_eq_some_iff.1 hk).1
  have q1 : (k : Int) < (n : Int) := by omega
  have q0 : (0 : Int) ≤ (k : Int) := Int.natCast_nonneg k
  have w1 : wrap64 ((k : Int) + 1) = ((k + 1 : Nat) : Int) := by rw [IntWalk.wrap64_in _ (by simp only [maxLen] at hcm; omega)]; omega
  have W1 := Lib.hid w1
  have hb : (x.1.toList == s.toList) = false := hx
  have hal := heap_alloc_new w (.cells #[.string ⟨#[]⟩, .string ⟨#[]⟩] 54)
  have F1 := (Fr.refl (fun _ => False) w).alloc (.cells #[.string ⟨#[]⟩, .string ⟨#[]⟩] 54)
  have HK := Lib.hid hK
  have HF1 := Lib.hid F1
  have HA := Lib.hid hal
  clear hK hg hn0 hnc hcm hcs ht0 hk hx hkl w1 F1 hal
  obtain ⟨f, hff, rfl⟩ := frame_open hn
  have e0 := hff 0 _ p0
  have e1 := hff 1 _ p1
  have e4 := hff 4 _ p4
  have e5 := hff 5 _ p5
  have e11 := hff 11 _ p11
  have e12 := hff 12 _ p12
  have e13 := hff 13 _ p13
  clear hff hn p0 p1 p4 p5 p11 p12 p13
  rw [lit36, e0, e1, e4, e5, e11, e12, e13]
  clear e0 e1 e4 e5 e11 e12 e13
  conv => arg 2; whnf
  go_wp2_with fail
  rw [W1.out]
  exact HK.out _ _ (by simp) rfl rfl rfl rfl rfl rfl rfl ((Fr.refl _ w).alloc _)
set_option maxRecDepth 100000 in
set_option maxHeartbeats 6400000 in
theorem take_hit {K : Act → World → Prop} {Q : Exit → Act → World → Prop} {w : World} {pb off fb g n cap k : Nat} {s : ByteArray} {L : List (ByteArray × ByteArray)} {cur pc : Array Value} {x : ByteArray × ByteArray} (hg : w.heap[g]? = some (.cells cur 54 (0, 0))) (hn0 : L.length = n) (hnc : n ≤ cap) (hcm : cap ≤ maxLen) (hcs : cur.size = cap * 2) (ht0 : cur.toList.take (n * 2) = ec L) (hpb : w.heap[pb]? = some (.cells pc 59 (0, 0))) (hkv : pc[off]? = some (.slice (some ⟨g, 0, none⟩) n cap)) (hpg : pb ≠ g) (hfb : w.heap[fb]? = some (.cells #[.string ⟨#[]⟩, .string ⟨#[]⟩] 54 (0, 0))) (hfg : fb ≠ g) (hfp : fb ≠ pb) (hk : L[k]? = some x) (hx : nm s x = true) (fr : Array Value) (hn : fr.size = 36) (p0 : fr[0]? = some (.pointer (some ⟨pb, off, none⟩))) (p1 : fr[1]? = some (.string s)) (p4 : fr[4]? = some (.pointer (some ⟨fb, 0, none⟩))) (p5 : fr[5]? = some (.bool false)) (p11 : fr[11]? = some (.slice (some ⟨g, 0, none⟩) n cap)) (p12 : fr[12]? = some (.int .i64 (n : Int))) (p13 : fr[13]? = some (.int .i64 (k : Int)))
    (hQ : ∀ t' w' cur', t'.size = 36 → t'[4]? = some (.pointer (some ⟨fb, 0, none⟩)) → t'[5]? = some (.bool true) → w'.heap[fb]? = some (.cells #[.string x.1, .string x.2] 54 (0, 0)) → w'.heap[pb]? = some (.cells (pc.setIfInBounds off (.slice (some ⟨g, 0, none⟩) (n - 1) cap)) 59 (0, 0)) → w'.heap[g]? = some (.cells cur' 54 (0, 0)) → cur'.size = cap * 2 → cur'.toList.take ((n - 1) * 2) = ec (L.eraseIdx k) → Fr (fun b => b = g ∨ b = pb ∨ b = fb) w w' → Q .ret ⟨t', []⟩ w') :
    Code.wp Try.prog (loopAt Try.f18 0) (Exit.then K Q) ⟨fr, []⟩ w := by
  obtain ⟨c0, c1⟩ := ent_cells hg hn0 hnc hcs ht0 hk
  have hkl := (List.getElem?_eq_some_iff.1 hk).1
  have q1 : (k : Int) < (n : Int) := by omega
  have q0 : (0 : Int) ≤ (k : Int) := Int.natCast_nonneg k
  have w1 : wrap64 ((k : Int) + 1) = (k : Int) + 1 := IntWalk.wrap64_in _ (by simp only [maxLen] at hcm; omega)
  have W1 := Lib.hid w1
  have hb : (x.1.toList == s.toList) = true := hx
  obtain ⟨E, hE⟩ : ∃ E, E = w.heap.size := ⟨_, rfl⟩
  have hal := heap_alloc_new w (.cells #[.string x.1, .string x.2] 54)
  rw [← hE] at hal
  have F1 := (Fr.refl (fun _ => False) w).alloc (.cells #[.string x.1, .string x.2] 54)
  have hgl := lt_of_block hg
  have hpl := lt_of_block hpb
  have hfl := lt_of_block hfb
  have HD := Lib.hid (delete_any g n cap k (k : Int) (wrap64 ((k : Int) + 1)) rfl w1 L hn0 cur (by omega) hnc hcm hcs ht0 _ ((F1.block g hgl (fun h => h)).trans hg))
  have HQ := Lib.hid hQ
  have HF1 := Lib.hid F1
  have HA := Lib.hid hal
  have HPB := Lib.hid ((F1.block pb hpl (fun h => h)).trans hpb)
  have HKV := Lib.hid hkv
  have HFB := Lib.hid ((F1.block fb hfl (fun h => h)).trans hfb)
  have HEl := Lib.hid (show g ≠ E ∧ pb ≠ E ∧ fb ≠ E from ⟨by omega, by omega, by omega⟩)
  have HNE := Lib.hid (And.intro hpg (And.intro hfg hfp))
  have gp1 := ((F1.block pb hpl (fun h => h)).trans hpb)
  have y0 : (w.alloc (.cells #[.string x.1, .string x.2] 54)).cell? ⟨pb, off, none⟩ = some (.slice (some ⟨g, 0, none⟩) n cap) := (cell_of_block gp1 off).trans hkv
  have hEw := Lib.hid hE
  clear hQ hg hn0 hnc hcm hcs ht0 hk hx hkl F1 hal hgl hpl hfl hpb hfb hpg hfg hfp w1 gp1 hkv hE
  obtain ⟨f, hff, rfl⟩ := frame_open hn
  have e0 := hff 0 _ p0
  have e1 := hff 1 _ p1
  have e4 := hff 4 _ p4
  have e5 := hff 5 _ p5
  have e11 := hff 11 _ p11
  have e12 := hff 12 _ p12
  have e13 := hff 13 _ p13
  clear hff hn p0 p1 p4 p5 p11 p12 p13
  rw [lit36, e0, e1, e4, e5, e11, e12, e13]
  clear e0 e1 e4 e5 e11 e12 e13
  conv => arg 2; whnf
  go_wp2_with fail
  refine HD.out.mono ?_
  rintro e w2 ⟨rfl, cur', hg2, hs2, ht2, F2⟩
  have hb2 := (F2.block pb (lt_of_block HPB.out) (fun e => HNE.out.1 e)).trans HPB.out
  have hf2 := (F2.block fb (lt_of_block HFB.out) (fun e => HNE.out.2.1 e)).trans HFB.out
  have hE2 := (F2.block E (lt_of_block HA.out) (fun e => HEl.out.1 e.symm)).trans HA.out
  have k1 : w2.cell? ⟨pb, off, none⟩ = some _ := (cell_of_block hb2 off).trans HKV.out
  have k2 := free_of_block hb2 off
  have S3 := Fr.setCell (S := fun b => b = pb) (Fr.refl _ w2) (p := ⟨pb, off, none⟩) (Or.inl rfl) (.slice (some ⟨g, 0, none⟩) (n - 1) cap)
  have hb3 := block_setCell hb2 off (.slice (some ⟨g, 0, none⟩) (n - 1) cap)
  have hE3 := (S3.block E (lt_of_block hE2) (fun e => HEl.out.2.1 e.symm)).trans hE2
  have hf3 := (S3.block fb (lt_of_block hf2) (fun e => HNE.out.2.2 e)).trans hf2
  have hg3 := (S3.block g (lt_of_block hg2) (fun e => HNE.out.1 e.symm)).trans hg2
  have r0 : (w2.setCell ⟨pb, off, none⟩ (.slice (some ⟨g, 0, none⟩) (n - 1) cap)).cell? ⟨E, 0, none⟩ = some (.string x.1) := (cell_of_block hE3 0).trans rfl
  have r1 : (w2.setCell ⟨pb, off, none⟩ (.slice (some ⟨g, 0, none⟩) (n - 1) cap)).cell? ⟨E, 1, none⟩ = some (.string x.2) := (cell_of_block hE3 1).trans rfl
  have H3 := Lib.hid (And.intro hb3 (And.intro hg3 (And.intro hf3 (And.intro F2 S3))))
  have HS := Lib.hid (And.intro hs2 ht2)
  obtain ⟨W3, hW3⟩ : ∃ W3, W3 = w2.setCell ⟨pb, off, none⟩ (.slice (some ⟨g, 0, none⟩) (n - 1) cap) := ⟨_, rfl⟩
  rw [← hW3] at r0 r1 H3
  have HW3 := Lib.hid hW3
  have hEe := hEw.out
  rw [← hEe]
  clear hb2 hf2 hE2 S3 hb3 hE3 hf3 hg3 F2 hg2 hs2 ht2 hW3 y0 c0 c1 q1 q0 hEe
  go_wp2_with (first | (rw [← HW3.out]) | (focus (refine wpList_store_row rfl 54 (.tmp 4) (.tmp 33) rfl fb #[.string x.1, .string x.2] rfl rfl 54 _ H3.out.2.2.1 (by rw [szE]; rfl) rfl (oneE x) ?_; try (simp only [Act.put, List.setIfInBounds_toArray, List.set_cons_zero, List.set_cons_succ]))))
  have G := H3.out
  have G4 := Fr.sr (S := fun b => b = fb) (Fr.refl _ W3) rfl #[.string x.1, .string x.2]
  refine HQ.out _ _ cur' rfl rfl rfl (setRow_heap W3 fb _ _ _ _ G.2.2.1) ?_ ?_ HS.out.1 HS.out.2 ?_
  · exact (G4.block pb (lt_of_block G.1) (fun e => HNE.out.2.2 e.symm)).trans G.1
  · exact (G4.block g (lt_of_block G.2.1) (fun e => HNE.out.2.1 e.symm)).trans G.2.1
  · have S3 := G.2.2.2.2
    have A1 : Fr (fun b => b = g ∨ b = pb ∨ b = fb) w _ := HF1.out.mono (fun _ _ h => h.elim)
    have A2 : Fr (fun b => b = g ∨ b = pb ∨ b = fb) _ w2 := G.2.2.2.1.mono (fun _ _ h => .inl h)
    have A3 : Fr (fun b => b = g ∨ b = pb ∨ b = fb) w2 W3 := S3.mono (fun _ _ h => .inr (.inl h))
    have A4 : Fr (fun b => b = g ∨ b = pb ∨ b = fb) W3 _ := G4.mono (fun _ _ h => .inr (.inr h))
    exact A1.trans (A2.trans (A3.trans A4 (fun _ h => .inl h)) (fun _ h => .inl h)) (fun _ h => .inl h)
set_option maxRecDepth 100000 in
set_option maxHeartbeats 6400000 in
theorem take_loop {Q : Exit → Act → World → Prop} {w : World} {pb off fb g n cap m : Nat} {s : ByteArray} {L : List (ByteArray × ByteArray)} {cur pc : Array Value} (hg : w.heap[g]? = some (.cells cur 54 (0, 0))) (hn0 : L.length = n) (hnc : n ≤ cap) (hcm : cap ≤ maxLen) (hcs : cur.size = cap * 2) (ht0 : cur.toList.take (n * 2) = ec L) (hpb : w.heap[pb]? = some (.cells pc 59 (0, 0))) (hkv : pc[off]? = some (.slice (some ⟨g, 0, none⟩) n cap)) (hpg : pb ≠ g) (hfb : w.heap[fb]? = some (.cells #[.string ⟨#[]⟩, .string ⟨#[]⟩] 54 (0, 0))) (hfg : fb ≠ g) (hfp : fb ≠ pb) (hm : m ≤ n) (hno : ∀ j x, j < m → L[j]? = some x → nm s x = false) (hyes : ∀ x, L[m]? = some x → nm s x = true) (fr : Array Value) (hn : fr.size = 36) (p0 : fr[0]? = some (.pointer (some ⟨pb, off, none⟩))) (p1 : fr[1]? = some (.string s)) (p4 : fr[4]? = some (.pointer (some ⟨fb, 0, none⟩))) (p5 : fr[5]? = some (.bool false)) (p11 : fr[11]? = some (.slice (some ⟨g, 0, none⟩) n cap)) (p12 : fr[12]? = some (.int .i64 (n : Int))) (p13 : fr[13]? = some (.int .i64 (0)))
    (hexit : ∀ t' w', m = n → t'.size = 36 → t'[0]? = some (.pointer (some ⟨pb, off, none⟩)) → t'[1]? = some (.string s) → t'[4]? = some (.pointer (some ⟨fb, 0, none⟩)) → t'[5]? = some (.bool false) → t'[11]? = some (.slice (some ⟨g, 0, none⟩) n cap) → t'[12]? = some (.int .i64 (n : Int)) → t'[13]? = some (.int .i64 (n : Int)) → Fr (fun _ => False) w w' → Q (.exit 0) ⟨t', []⟩ w')
    (hQ : ∀ t' w' cur' x, L[m]? = some x → t'.size = 36 → t'[4]? = some (.pointer (some ⟨fb, 0, none⟩)) → t'[5]? = some (.bool true) → w'.heap[fb]? = some (.cells #[.string x.1, .string x.2] 54 (0, 0)) → w'.heap[pb]? = some (.cells (pc.setIfInBounds off (.slice (some ⟨g, 0, none⟩) (n - 1) cap)) 59 (0, 0)) → w'.heap[g]? = some (.cells cur' 54 (0, 0)) → cur'.size = cap * 2 → cur'.toList.take ((n - 1) * 2) = ec (L.eraseIdx m) → Fr (fun b => b = g ∨ b = pb ∨ b = fb) w w' → Q .ret ⟨t', []⟩ w') :
    Code.wp Try.prog (.loop (loopAt Try.f18 0)) Q ⟨fr, []⟩ w := by
  refine wp_loop_up m (fun k t w' => t.size = 36 ∧ t[0]? = some (.pointer (some ⟨pb, off, none⟩)) ∧ t[1]? = some (.string s) ∧ t[4]? = some (.pointer (some ⟨fb, 0, none⟩)) ∧ t[5]? = some (.bool false) ∧ t[11]? = some (.slice (some ⟨g, 0, none⟩) n cap) ∧ t[12]? = some (.int .i64 (n : Int)) ∧ t[13]? = some (.int .i64 (k : Int)) ∧ Fr (fun _ => False) w w') fr w ⟨hn, p0, p1, p4, p5, p11, p12, p13, Fr.refl _ w⟩ ?_
  clear hn p0 p1 p4 p5 p11 p12 p13 fr
  rintro k fr w1 hk ⟨hn, p0, p1, p4, p5, p11, p12, p13, F⟩ K hK
  have hg1 := (F.block g (lt_of_block hg) (fun h => h)).trans hg
  have hpb1 := (F.block pb (lt_of_block hpb) (fun h => h)).trans hpb
  have hfb1 := (F.block fb (lt_of_block hfb) (fun h => h)).trans hfb
  by_cases hkm : k < m
  · obtain ⟨x, hx⟩ : ∃ x, L[k]? = some x := ⟨_, List.getElem?_eq_getElem (by omega)⟩
    exact take_on (K := K) (Q := Q) (pb := pb) (off := off) (fb := fb) (k := k) hg1 hn0 hnc hcm hcs ht0 hx (hno k x hkm hx) fr hn p0 p1 p4 p5 p11 p12 p13 (fun t' w' a0 a1 a2 a3 a4 a5 a6 a7 F' => hK t' w' hkm ⟨a0, a1, a2, a3, a4, a5, a6, a7, F.trans F' (fun _ h => .inl h)⟩)
  · obtain rfl : k = m := by omega
    by_cases hmn : k < n
    · obtain ⟨x, hx⟩ : ∃ x, L[k]? = some x := ⟨_, List.getElem?_eq_getElem (by omega)⟩
      exact take_hit (K := K) (Q := Q) (pb := pb) (off := off) (fb := fb) (k := k) hg1 hn0 hnc hcm hcs ht0 hpb1 hkv hpg hfb1 hfg hfp hx (hyes x hx) fr hn p0 p1 p4 p5 p11 p12 p13 (fun t' w' cur' b0 b1 b2 b3 b4 b5 b6 b7 F' => hQ t' w' cur' x hx b0 b1 b2 b3 b4 b5 b6 b7 ((F.mono (fun _ _ h => h.elim)).trans F' (fun _ h => .inl h)))
    · obtain rfl : k = n := by omega
      have q1 : ¬ ((k : Int) < (k : Int)) := by omega
      have HE := Lib.hid (hexit · · rfl)
      have HF := Lib.hid F
      clear hexit hQ hK F hg1 hpb1 hfb1 hkm hmn hk hm hno hyes hg hn0 hnc hcm hcs ht0 hpb hkv hpg hfb hfg hfp
      obtain ⟨f, hff, rfl⟩ := frame_open hn
      have e0 := hff 0 _ p0
      have e1 := hff 1 _ p1
      have e4 := hff 4 _ p4
      have e5 := hff 5 _ p5
      have e11 := hff 11 _ p11
      have e12 := hff 12 _ p12
      have e13 := hff 13 _ p13
      clear hff hn p0 p1 p4 p5 p11 p12 p13
      rw [lit36, e0, e1, e4, e5, e11, e12, e13]
      clear e0 e1 e4 e5 e11 e12 e13
      conv => arg 2; whnf
      go_wp2_with fail
      exact HE.out _ _ (by simp) rfl rfl rfl rfl rfl rfl rfl HF.out
theorem results_row_tmp {P : Program} {w : World} {fn : Func} {p t : Tmp} {ty : TypeId} {g : Nat} {cs : Array Value} {T : TypeId} (hg : w.heap[g]? = some (.cells cs T (0, 0))) (h : fn.results = #[.cell p ty, .tmp t]) (tmps : Array Value) (hp : tmps[p]? = some (.pointer (some ⟨g, 0, none⟩))) {v2 : Value} (hv2 : tmps[t]? = some v2)
    (d : TypeDesc) (hu : P.underlying ty = some d) (hd : (match d with | .struct _ | .array _ _ => true | _ => false) = true) (hty : (P.info? ty).map (·.size) = some cs.size) :
    (results fn tmps).run P w = .ok (.tuple #[.agg cs, v2]) w := by
  have hp' : tmps[p]?.getD undef = .pointer (some ⟨g, 0, none⟩) := by rw [hp]; rfl
  have hv' : tmps[t]?.getD undef = v2 := by rw [hv2]; rfl
  simp [results, h, hp', hv', asAddr, run_loadVar_row w g T ty cs (0, 0) d hg hu hd hty]
end Go.Proofs.Ytkigdgkklninoaa

/-
  The loops of the law Sha2Goes.
-/
import Derived.Test.YtebmbhlhfojpeaaDoorNi
namespace Go.Proofs.YtebmbhlhfojpeaaDoor
open Go.RowKit
set_option linter.unusedVariables false

set_option maxRecDepth 100000 in
theorem lit87 (f : Nat → Value) : ((List.range 87).map f).toArray = #[f 0, f 1, f 2, f 3, f 4, f 5, f 6, f 7, f 8, f 9, f 10, f 11, f 12, f 13, f 14, f 15, f 16, f 17, f 18, f 19, f 20, f 21, f 22, f 23, f 24, f 25, f 26, f 27, f 28, f 29, f 30, f 31, f 32, f 33, f 34, f 35, f 36, f 37, f 38, f 39, f 40, f 41, f 42, f 43, f 44, f 45, f 46, f 47, f 48, f 49, f 50, f 51, f 52, f 53, f 54, f 55, f 56, f 57, f 58, f 59, f 60, f 61, f 62, f 63, f 64, f 65, f 66, f 67, f 68, f 69, f 70, f 71, f 72, f 73, f 74, f 75, f 76, f 77, f 78, f 79, f 80, f 81, f 82, f 83, f 84, f 85, f 86] := by kernel_rfl

theorem Own.set {w : World} {B c g : Nat} {l : List UInt8} (h : Own w B (.slice (some ⟨g, 0, none⟩) l.length c) l) (i : Nat) (hi : i < l.length) (b : UInt8) :
    Own (w.setCell ⟨g, i, none⟩ (.int .u8 (b.toNat : Int))) B (.slice (some ⟨g, 0, none⟩) l.length c) (l.set i b) ∧ w.cell? ⟨g, i, none⟩ = some (.int .u8 (l[i].toNat : Int)) ∧ w.frozen? ⟨g, i, none⟩ = false := by
  have hL := h.lies.2.2.2
  rcases h with ⟨e, rfl⟩ | ⟨g2, cap, cur, fz, e, h1, h2, h3, h4, h5, h6, h7⟩
  · simp at hi
  · obtain ⟨rfl, rfl⟩ : g = g2 ∧ c = cap := by injection e with e1 e2 e3; injection e1 with e1; injection e1 with e1 e4; exact ⟨e1, e3⟩
    refine ⟨Or.inr ⟨g, c, _, fz, by rw [List.length_set], h1, block_setCellF h2 i _, ?_, by rw [List.length_set]; exact h4, h5, by simpa using h6, ?_⟩, ?_, ?_⟩
    · rcases h3 with h3 | h3
      · exact Or.inl h3
      · exact Or.inr (by simpa using h3)
    · rw [List.length_set]
      have : (cur.setIfInBounds i (.int .u8 (b.toNat : Int))).toList = cur.toList.set i (.int .u8 (b.toNat : Int)) := by simp
      rw [this, List.take_set, h7]
      simp [bv, List.map_set]
    · rcases hL with e | ⟨g3, off, e, hc⟩
      · rw [e] at hi; simp at hi
      · injection e with e; injection e with e1 e2
        subst e1; subst e2
        have := hc i hi
        rwa [Nat.zero_add] at this
    · rcases h3 with e | e
      · subst e; simp [World.frozen?, h2]
      · simp [World.frozen?, h2]; omega
/-- A byte of a part is written. -/
theorem FewR.set {w : World} {B k n g : Nat} {v : Value} {A : Nat → Option Addr} {C : Nat → Nat} {L : List (List UInt8)} (h : FewR w B v A C L n) (hL : L.length = n) (hk : k < n) (hA : A k = some ⟨g, 0, none⟩) (i : Nat) (hi : i < (L.getD k []).length) (b : UInt8) :
    FewR (w.setCell ⟨g, i, none⟩ (.int .u8 (b.toNat : Int))) B v A C (L.set k ((L.getD k []).set i b)) n := by
  have hlen : ∀ j, ((L.set k ((L.getD k []).set i b)).getD j []).length = (L.getD j []).length := by
    intro j
    simp only [List.getD_eq_getElem?_getD, List.getElem?_set]
    by_cases e : k = j
    · subst e; simp [hL, hk]
    · simp [e]
  have hoth : ∀ j, j ≠ k → (L.set k ((L.getD k []).set i b)).getD j [] = L.getD j [] := by
    intro j hj
    simp only [List.getD_eq_getElem?_getD, List.getElem?_set]
    rw [if_neg (fun e => hj e.symm)]
  have hself : (L.set k ((L.getD k []).set i b)).getD k [] = (L.getD k []).set i b := by
    rw [List.getD_eq_getElem?_getD, List.getElem?_set]; simp [hL, hk]
  have hsl : sls A C (L.set k ((L.getD k []).set i b)) n = sls A C L n := by
    unfold sls
    apply List.map_congr_left
    intro j _
    rw [hlen j]
  have hob : ob (A k) = some g := by rw [hA]; rfl
  have hF : Fr (fun x => x = g) w (w.setCell ⟨g, i, none⟩ (.int .u8 (b.toNat : Int))) := (Fr.refl (fun x => x = g) w).setCell (Or.inl rfl) _
  refine ⟨?_, ?_, h.off, h.apart⟩
  · rw [hsl]
    exact hF.own h.row (fun x hx e => h.off k hk g hob (by rw [← e]; exact hx))
  · intro j hj
    rw [hlen j]
    by_cases e : j = k
    · subst e
      rw [hself]
      have hp := h.part j hk
      rw [hA] at hp ⊢
      exact (hp.set i hi b).1
    · rw [hoth j e]
      refine (h.part j hj).fr hF (fun x hx e2 => ?_)
      rw [ob_own] at hx
      subst e2
      rcases Nat.lt_or_ge j k with h2 | h2
      · exact h.apart j k h2 hk x hx hob
      · exact h.apart k j (by omega) hj x hob hx
/-- The cell of the row of slices. -/
theorem FewR.slot {w : World} {B k n : Nat} {a : Option Addr} {c : Nat} {A : Nat → Option Addr} {C : Nat → Nat} {L : List (List UInt8)} (h : FewR w B (.slice a n c) A C L n) (hk : k < n) : ∃ g, a = some ⟨g, 0, none⟩ ∧ w.cell? ⟨g, k, none⟩ = some (.slice (A k) (L.getD k []).length (C k)) := by
  rcases h.row.2 with ⟨_, h0⟩ | ⟨g, cap, cur, e, _, hg, hc, hm, _, ht⟩
  · omega
  · injection e with e1 e2 e3
    subst e1
    refine ⟨g, rfl, ?_⟩
    rw [cell_of_block hg, ← Array.getElem?_toList]
    have : (cur.toList.take (n * 1))[k]? = (sls A C L n)[k]? := by rw [ht]
    rw [List.getElem?_take, if_pos (by omega)] at this
    rw [this]
    unfold sls
    rw [List.getElem?_map, List.getElem?_range hk]; rfl
theorem xor33 (x : UInt8) : bits .xor .u8 (x.toNat : Int) 51 = ((x ^^^ 51).toNat : Int) := by
  have h1 := x.toNat_lt
  have x3 : x.toNat ^^^ 51 < 2 ^ 8 := Nat.xor_lt_two_pow (by omega) (by omega)
  have e1 : (BitVec.ofInt 8 (x.toNat : Int)).toNat = x.toNat := by
    rw [BitVec.ofInt_natCast, BitVec.toNat_ofNat]; exact Nat.mod_eq_of_lt (by omega)
  show IntKind.u8.wrap ((BitVec.ofInt 8 (x.toNat : Int) ^^^ BitVec.ofInt 8 51).toNat : Int) = _
  rw [BitVec.toNat_xor, e1, show (BitVec.ofInt 8 51).toNat = 51 from rfl, UInt8.toNat_xor, IntKind.wrap_u8, show (51 : UInt8).toNat = 51 from rfl]
  omega

/-- The frame's pins through the inner loop. -/
structure GPin (t : Array Value) (bh : Nat) (a : Option Addr) (n c k : Nat) (s : List UInt8) : Prop where
  sz : t.size = 87
  p4 : t[4]? = some (.pointer (some ⟨bh, 0, none⟩))
  p5 : t[5]? = some (.string ⟨s.toArray⟩)
  p6 : t[6]? = some (.slice a n c)
  p7 : t[7]? = some (.int .i64 (k : Int))
set_option maxRecDepth 100000 in
theorem GPin.open {t : Array Value} {bh : Nat} {a : Option Addr} {n c k : Nat} {s : List UInt8} (h : GPin t bh a n c k s) : ∃ f : Nat → Value, (∀ i v, t[i]? = some v → f i = v) ∧ t = #[f 0, f 1, f 2, f 3, .pointer (some ⟨bh, 0, none⟩), .string ⟨s.toArray⟩, .slice a n c, .int .i64 (k : Int), f 8, f 9, f 10, f 11, f 12, f 13, f 14, f 15, f 16, f 17, f 18, f 19, f 20, f 21, f 22, f 23, f 24, f 25, f 26, f 27, f 28, f 29, f 30, f 31, f 32, f 33, f 34, f 35, f 36, f 37, f 38, f 39, f 40, f 41, f 42, f 43, f 44, f 45, f 46, f 47, f 48, f 49, f 50, f 51, f 52, f 53, f 54, f 55, f 56, f 57, f 58, f 59, f 60, f 61, f 62, f 63, f 64, f 65, f 66, f 67, f 68, f 69, f 70, f 71, f 72, f 73, f 74, f 75, f 76, f 77, f 78, f 79, f 80, f 81, f 82, f 83, f 84, f 85, f 86] := by
  obtain ⟨f, hf, ht⟩ := frame_open h.sz
  rw [lit87] at ht
  refine ⟨f, hf, ?_⟩
  rw [ht, hf 4 _ h.p4, hf 5 _ h.p5, hf 6 _ h.p6, hf 7 _ h.p7]

set_option maxRecDepth 100000 in
set_option maxHeartbeats 1600000 in
theorem goes_inner {Q : Exit → Act → World → Prop} (bh n c k B m : Nat) (a : Option Addr) (s : List UInt8) (A : Nat → Option Addr) (C : Nat → Nat) (X : List (List UInt8)) (hk : k < n) (hn : n ≤ 100) (w : World) (hX : X.length = n) (hm : (X.getD k []).length = m) (hm2 : m ≤ 10000) (hf : FewR w B (.slice a n c) A C X n)
    (t : Array Value) (hp : GPin t bh a n c k s) (p8 : t[8]? = some (.int .i64 0))
    (hexit : ∀ t' w' Y, GPin t' bh a n c k s → Y.length = n → (∀ j, k < j → Y.getD j [] = X.getD j []) → FewR w' B (.slice a n c) A C Y n → Fr (fun x => B ≤ x) w w' → Q (.exit 2) ⟨t', []⟩ w') :
    Code.wp Tryd.prog (.loop (loopAt Tryd.f4 1)) Q ⟨t, []⟩ w := by
  refine wp_loop_up m (fun i t w' => GPin t bh a n c k s ∧ t[8]? = some (.int .i64 (i : Int)) ∧ ∃ Y : List (List UInt8), Y.length = n ∧ (Y.getD k []).length = m ∧ (∀ j, k < j → Y.getD j [] = X.getD j []) ∧ FewR w' B (.slice a n c) A C Y n ∧ Fr (fun x => B ≤ x) w w') t w ⟨hp, p8, X, hX, hm, fun _ _ => rfl, hf, Fr.refl _ _⟩ ?_
  clear hf hp p8 t hm hX
  rintro i t wr hi ⟨hp, p8, Y, hY, hm, hsuf, hf, hF⟩ K hK
  obtain ⟨f, hff, rfl⟩ := hp.open
  have e8 := hff 8 _ p8
  clear hff hp p8
  rw [e8]
  clear e8
  conv => arg 2; whnf
  obtain ⟨g, rfl, hcell⟩ := hf.slot hk
  rw [hm] at hcell
  have q0 : (0 : Int) ≤ (k : Int) := by omega
  have q1 : (k : Int) < (n : Int) := by omega
  by_cases hlt : i < m
  · obtain ⟨b, hb⟩ : ∃ b, A k = some ⟨b, 0, none⟩ := by
      rcases hf.part k hk with ⟨e, h0⟩ | ⟨b, cap, cur, fz, e, _⟩
      · rw [h0] at hm; simp at hm; omega
      · injection e with e; exact ⟨b, e⟩
    have hi2 : i < (Y.getD k []).length := by omega
    have hp := hf.part k hk
    rw [hb] at hp hcell
    have hBb : B ≤ b := (hp.lt b rfl).1
    obtain ⟨hdr, hc2, hfz⟩ := hp.set i hi2 ((Y.getD k [])[i] ^^^ 51)
    clear hdr
    have hset := hf.set hY hk hb i hi2 ((Y.getD k [])[i] ^^^ 51)
    have hx := xor33 (Y.getD k [])[i]
    have hl3 : (((Y.getD k []).set i ((Y.getD k [])[i] ^^^ 51))).length = m := by rw [List.length_set, hm]
    have hY2 : (Y.set k ((Y.getD k []).set i ((Y.getD k [])[i] ^^^ 51))).length = n := by rw [List.length_set, hY]
    have hm3 : ((Y.set k ((Y.getD k []).set i ((Y.getD k [])[i] ^^^ 51))).getD k []).length = m := by
      have e : ∀ z, (Y.set k z).getD k [] = z := fun z => by rw [List.getD_eq_getElem?_getD, List.getElem?_set]; simp [hY, hk]
      rw [e, hl3]
    have hs3 : ∀ j, k < j → (Y.set k ((Y.getD k []).set i ((Y.getD k [])[i] ^^^ 51))).getD j [] = X.getD j [] := by
      intro j hj
      rw [← hsuf j hj]
      simp only [List.getD_eq_getElem?_getD, List.getElem?_set]
      rw [if_neg (by omega)]
    generalize (Y.set k ((Y.getD k []).set i ((Y.getD k [])[i] ^^^ 51))) = Y2 at hset hY2 hm3 hs3
    generalize (Y.getD k [])[i] = y at hc2 hset hx
    rw [← hx] at hset
    have HK := Lib.hid hK
    have HS := Lib.hid hset
    have HY := Lib.hid hY2
    have HM := Lib.hid hm3
    have H3 := Lib.hid hs3
    have F2 : Fr (fun x => B ≤ x) w (wr.setCell ⟨b, i, none⟩ (.int .u8 (bits .xor .u8 (y.toNat : Int) 51))) := hF.setCell (Or.inl hBb) _
    have q2 : (0 : Int) ≤ (i : Int) := by omega
    have q3 : (i : Int) < (m : Int) := by omega
    clear hK hset hY2 hm3 hs3 hf hp hx hl3 hsuf hm hY hi2 hexit hb
    go_wp2_with fail
    exact HK.out _ _ hlt ⟨⟨rfl, rfl, rfl, rfl, rfl⟩, rfl, Y2, HY.out, HM.out, H3.out, HS.out, F2⟩
  · obtain rfl : i = m := by omega
    have HE := Lib.hid hexit
    have HS := Lib.hid hsuf
    have HY := Lib.hid hY
    have HM := Lib.hid hm
    clear hexit hsuf hY hm
    go_wp2_with fail
    exact HE.out _ _ Y ⟨rfl, rfl, rfl, rfl, rfl⟩ HY.out HS.out hf hF

theorem FewR.fr {w w2 : World} {B n : Nat} {v : Value} {A : Nat → Option Addr} {C : Nat → Nat} {L : List (List UInt8)} {S : Nat → Prop} (h : FewR w B v A C L n) (hF : Fr S w w2) (hS : ∀ x, B ≤ x → ¬ S x) : FewR w2 B v A C L n :=
  ⟨hF.own h.row (fun x hx => hS x (ownsRow_lt h.row x hx).1), fun j hj => (h.part j hj).fr hF (fun x hx => hS x ((h.part j hj).lt x hx).1), h.off, h.apart⟩
theorem take_flat (X : List (List UInt8)) (k : Nat) : (X.take k).flatten.length ≤ X.flatten.length := by
  conv => rhs; rw [← List.take_append_drop k X]
  rw [List.flatten_append, List.length_append]; omega
theorem flat_succ (X : List (List UInt8)) (k : Nat) (hk : k < X.length) : (X.take (k + 1)).flatten = (X.take k).flatten ++ X.getD k [] := by
  rw [List.take_succ_eq_append_getElem hk, List.flatten_append, List.getD_eq_getElem?_getD, List.getElem?_eq_getElem hk]; simp

set_option maxRecDepth 100000 in
set_option maxHeartbeats 1600000 in
theorem goes_outer {Q : Exit → Act → World → Prop} (bh n c B : Nat) (a : Option Addr) (A : Nat → Option Addr) (C : Nat → Nat) (X : List (List UInt8)) (hn : n ≤ 100) (w : World) (hX : X.length = n) (hXl : X.flatten.length ≤ 2000) (hf : FewR w B (.slice a n c) A C X n)
    (hH : HIs w bh []) (hbB : bh < B) (hBw : B ≤ w.heap.size) (hE : Env w) (hR : REnv w) (hb1 : 4 < bh) (hb2 : 0 < bh) (hb3 : 1 < bh)
    (t : Array Value) (hp : GPin t bh a n c 0 [])
    (hexit : ∀ t' w', t'.size = 87 → Fr (fun x => bh ≤ x) w w' → Q (.exit 0) ⟨t', []⟩ w') :
    Code.wp Tryd.prog (.loop (loopAt Tryd.f4 0)) Q ⟨t, []⟩ w := by
  refine wp_loop_up n (fun k t w' => GPin t bh a n c k (X.take k).flatten ∧ HIs w' bh (X.take k).flatten ∧ ∃ Y : List (List UInt8), Y.length = n ∧ (∀ j, k ≤ j → Y.getD j [] = X.getD j []) ∧ FewR w' B (.slice a n c) A C Y n ∧ Fr (fun x => bh ≤ x) w w') t w ⟨hp, hH, X, hX, fun _ _ => rfl, hf, Fr.refl _ _⟩ ?_
  clear hf hp hH t
  rintro k t wr hk ⟨hp, hH, Y, hY, hsuf, hf, hF⟩ K hK
  obtain ⟨f, hff, rfl⟩ := hp.open
  clear hff hp
  conv => arg 2; whnf
  have q0 : (0 : Int) ≤ (k : Int) := by omega
  by_cases hlt : k < n
  · have q1 : (k : Int) < (n : Int) := by omega
    obtain ⟨g, rfl, hcell⟩ := hf.slot hlt
    have hXk := hsuf k (Nat.le_refl _)
    have hpart := hf.part k hlt
    have hfs := flat_succ X k (by omega)
    have htf := take_flat X k
    have htf2 := take_flat X (k + 1)
    rw [hXk] at hcell hpart
    obtain ⟨p, hp⟩ : ∃ p, p = X.getD k [] := ⟨_, rfl⟩
    rw [← hp] at hcell hpart hfs hXk
    generalize hx0 : (X.take k).flatten = x0 at *
    obtain ⟨l, hl⟩ : ∃ l, l = x0 ++ p := ⟨_, rfl⟩
    rw [← hl] at hfs
    rw [hfs] at htf2
    have hlp : x0.length + p.length = l.length := by rw [hl, List.length_append]
    have hl2 : l.length ≤ 2000 := by omega
    obtain ⟨_, pl1, pl2, pl3⟩ := hpart.lies
    have hcv := run_str pl3 (C k) 9 Tryd.underlying9
    have hcat : ∀ W : World, (Op.stringOp .add ⟨x0.toArray⟩ ⟨p.toArray⟩).run Tryd.prog W = .ok (.string ⟨l.toArray⟩) W := fun W => by
      rw [hl]; exact run_string_add_lists W x0 p (by omega) (by omega)
    have hpn : p.length ≤ 9223372036854775807 := by omega
    have hE1 := hE.fr hF (fun h => by omega)
    have hz := hF.size
    have hap : p = [] ∨ ¬ inBlk (A k) bh := Or.inr (fun ⟨ad, e, hb⟩ => by
      have := (hpart.lt bh (by rw [ob_own]; rw [e]; simp [ob, hb])).1
      omega)
    have HK := Lib.hid hK
    have HX := Lib.hid hX
    have HY := Lib.hid hY
    have Hsuf := Lib.hid hsuf
    have HXk := Lib.hid hXk
    have Hfs := Lib.hid hfs
    have Hl := Lib.hid hl
    have Hlp := Lib.hid hlp
    have Hhf := Lib.hid hf
    clear hK hX hY hsuf hXk hfs hl hp hx0 htf hXl hlp hf hexit hpart
    go_wp2_with fail
    refine (write_any' bh x0 p (A k) (C k) p.length rfl wr hH pl3 pl1 pl2 hap (by have := Hlp.out; omega) hE1.tab hE1.lt (by omega)).mono ?_
    rintro e w2 ⟨rfl, H2, G2⟩
    rw [← Hl.out] at H2
    have hf2 := Hhf.out.fr G2 (fun x hx => by omega)
    have F2 : Fr (fun x => bh ≤ x) w w2 := hF.trans G2 (fun i hi => Or.inl (by omega))
    clear hcv hcat hcell G2 hH Hhf hE1 pl3
    go_wp2_with fail
    refine goes_inner bh n c k B p.length (some ⟨g, 0, none⟩) l A C Y hlt hn w2 HY.out (by rw [HXk.out]) (by have := Hlp.out; omega) hf2 _ ⟨rfl, rfl, rfl, rfl, rfl⟩ rfl ?_
    intro t3 w3 Y3 hp3 hY3 hs3 hf3 F3
    obtain ⟨f3, hff3, rfl⟩ := hp3.open
    clear hff3 hp3
    have H3 := H2.fr F3 (by omega)
    have G3 : Fr (fun x => bh ≤ x) w w3 := F2.trans F3 (fun i hi => Or.inl (by omega))
    have hsuf3 : ∀ j, k + 1 ≤ j → Y3.getD j [] = X.getD j [] := fun j hj => by rw [hs3 j (by omega)]; exact Hsuf.out j (by omega)
    have HY3 := Lib.hid hY3
    have Hs3 := Lib.hid hsuf3
    have hf3' := Lib.hid hf3
    clear hY3 hs3 hsuf3 hf3 H2 F2 F3 hf2
    go_wp2_with fail
    refine (hsum_any bh l w3 H3 (by omega) (hE.fr G3 (fun h => by omega))).mono ?_
    rintro e w4 ⟨rfl, F4⟩
    have hone : (sumc l).all (·.oneCell') = true := sumv_one _
    have hsz : (#[.int .u8 0, .int .u8 0, .int .u8 0, .int .u8 0, .int .u8 0, .int .u8 0, .int .u8 0, .int .u8 0, .int .u8 0, .int .u8 0, .int .u8 0, .int .u8 0, .int .u8 0, .int .u8 0, .int .u8 0, .int .u8 0, .int .u8 0, .int .u8 0, .int .u8 0, .int .u8 0, .int .u8 0, .int .u8 0, .int .u8 0, .int .u8 0, .int .u8 0, .int .u8 0, .int .u8 0, .int .u8 0, .int .u8 0, .int .u8 0, .int .u8 0, .int .u8 0] : Array Value).size = (sumc l).size := (sumv_size _).symm
    go_wp2_with (with_reducible refine wpList_store_rowA rfl 25 (.tmp 9) (.tmp 74) rfl w4.heap.size (sumc l) rfl rfl 25 _ (heap_alloc_new w4 _) Tryd.sizeC hsz hone ?k)
    case k =>
    intro w5 h5 hG5
    have F35 : Fr (fun _ => False) w3 w5 := (F4.alloc _).trans hG5 (fun i hi => Or.inr (by have := F4.size; omega))
    have G5 : Fr (fun x => bh ≤ x) w w5 := G3.trans F35 (fun _ h => h.elim)
    have H5 := H3.fr F35 (fun h => h)
    have R5 := hR.fr G5 (fun h => by omega) (fun h => by omega)
    have L5 := sumc_lies h5
    have FF := Lib.hid (hf3'.out.fr F35 (fun _ _ h => h))
    have HL := Lib.hid (show (sb ⟨l.toArray⟩) = l by simp [sb])
    have hls : (⟨l.toArray⟩ : ByteArray).size ≤ 1000000000000 := by show l.toArray.size ≤ _; simp; omega
    clear hone hsz hG5 F35 F4 h5 H3 G3 hf3'
    generalize w4.heap.size = b5 at *
    have hS : ∀ w' : World, Fr (fun _ => False) w5 w' → (Fr (fun _ => False) w5 w' ∧ (convert 28 9 (.slice (some ⟨b5, 0, none⟩) 32 32)).run Tryd.prog w' = .ok (.string ⟨(S2.sum l).toArray⟩) w') :=
      fun w' hF => ⟨hF, run_str (L5.grow hF) 32 9 Tryd.underlying9⟩
    go_wp2_with fail
    go_region_held3 (fun w' => Fr (fun _ => False) w5 w' ∧ (convert 28 9 (.slice (some ⟨b5, 0, none⟩) 32 32)).run Tryd.prog w' = .ok (.string ⟨(S2.sum l).toArray⟩) w')
      (first
        | (exact hS _ (by assumption))
        | (exact hS _ (Fr.refl _ w5).drew))
      (first
        | (go_at_call 19; refine (rsum_any ⟨l.toArray⟩ hls _ (R5.fr (‹Fr (fun _ => False) w5 _ ∧ _›).1 (fun h => h) (fun h => h))).mono ?_; rw [HL.out]; rintro e w6 ⟨rfl, F6⟩; have F66 := (‹Fr (fun _ => False) w5 _ ∧ _›).1.trans F6 (fun _ h => h.elim))
        | (go_at_call 23; refine (len_any bh l _ (H5.fr (‹Fr (fun _ => False) w5 _ ∧ _›).1 (fun h => h))).mono ?_; rintro e w7 ⟨rfl, rfl⟩))
    all_goals
      have H7 := H5.fr F66 (fun h => h)
      have F7 := Lib.hid (FF.out.fr F66 (fun _ _ h => h))
      have G7 : Fr (fun x => bh ≤ x) w w7 := G5.trans F66 (fun _ h => h.elim)
      have R := HK.out
      rw [Hfs.out] at R
      have HR2 := Lib.hid R
      clear R HK Hfs F66 H5 G5 R5 L5 FF hS
      go_wp2_with fail
      exact HR2.out _ _ hlt ⟨⟨rfl, rfl, rfl, rfl, rfl⟩, H7, Y3, HY3.out, Hs3.out, F7.out, G7⟩
  · obtain rfl : k = n := by omega
    have HE := Lib.hid hexit
    clear hexit
    go_wp2_with fail
    exact HE.out _ _ rfl hF
end Go.Proofs.YtebmbhlhfojpeaaDoor

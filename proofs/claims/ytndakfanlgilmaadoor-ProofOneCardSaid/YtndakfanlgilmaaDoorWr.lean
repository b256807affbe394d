/-
  The contract of (*Hash).Write of package sha2.
-/
import Derived.Test.YtndakfanlgilmaaDoorHash
import Derived.Deep.DeepCutAuto
import Derived.StillTailTactics
namespace Go.Proofs.YtndakfanlgilmaaDoor
open Go.RowKit
set_option linter.unusedVariables false

set_option maxRecDepth 100000 in
set_option maxHeartbeats 400000 in
theorem first_any (w : World) : Calls Tryd.prog 36 #[] w fun e w' => e = .returned (.agg (stv S2.H0)) ∧ Fr (fun _ => False) w w' := by
  go_enter Tryd.func36, Tryd.ntmps36
  have hr := heap_alloc_new w (.cells #[.int .u32 0, .int .u32 0, .int .u32 0, .int .u32 0, .int .u32 0, .int .u32 0, .int .u32 0, .int .u32 0] 72)
  go_wp2_with (with_reducible refine wpList_store_row rfl 72 (.tmp 0) (.tmp 1) rfl w.heap.size (stv S2.H0) rfl rfl 72 _ hr Tryd.size8 rfl (stv_one _) ?_)
  refine bodyPost_ret (results_cell_row rfl _ _ w.heap.size 72 (stv S2.H0) (0, 0) _ rfl (setRow_heap _ _ _ _ _ _ hr) Tryd.underlying72 rfl Tryd.size8) rfl ?_
  exact ⟨rfl, ((Fr.refl _ w).alloc _).trans (Fr.setRow (S := fun k => k = w.heap.size) (Fr.refl _ _) rfl _) (fun i hi => Or.inr (by omega))⟩

/-- A Hash that has taken l (and perhaps nothing yet). -/
def HIs (w : World) (bh : Nat) (l : List UInt8) : Prop := ∃ tl, (l = [] ∧ ∃ wl, HB w bh wl tl 0) ∨ (l ≠ [] ∧ HInv w bh l tl)

set_option maxRecDepth 100000 in
theorem Tryd.sizeB : (Tryd.prog.info? 5).map (·.size) = some 1 := by kernel_rfl
set_option maxRecDepth 100000 in
theorem lies_src {w : World} {ad : Addr} {l : List UInt8} (h : Lies w (some ad) l) : ∀ j v, (bv l)[j]? = some v → w.cell? (ad.add j) = some v := by
  intro j v hv
  rcases h with rfl | ⟨g, off, e, hc⟩
  · simp [bv] at hv
  · obtain rfl := Option.some.inj e
    have hlt : j < l.length := by have := (List.getElem?_eq_some_iff.1 hv).1; simpa using this
    rw [addr_add, hc j hlt]
    rw [bv_get' l j hlt] at hv
    exact hv
set_option maxRecDepth 100000 in
theorem HInv.is {w : World} {bh : Nat} {l tl : List UInt8} (h : HInv w bh l tl) : HIs w bh l := by
  by_cases e : l = []
  · subst e
    exact ⟨tl, Or.inl ⟨rfl, _, h.hb⟩⟩
  · exact ⟨tl, Or.inr ⟨e, h⟩⟩
/-- What the loop's head says of the rest that is still to be taken. -/
def Rest (w wr : World) (bh : Nat) (l m : List UInt8) (vb : Value) : Prop := ∃ (q : Nat) (a2 : Option Addr) (c2 : Nat) (tl2 : List UInt8), q ≤ m.length ∧ vb = .slice a2 (m.length - q) c2 ∧ m.length - q ≤ c2 ∧ c2 ≤ maxLen ∧ Lies wr a2 (m.drop q) ∧ (m.drop q = [] ∨ ¬ inBlk a2 bh) ∧ HInv wr bh (l ++ m.take q) tl2 ∧ Fr (fun k => k = bh) w wr
set_option maxRecDepth 100000 in
theorem rel_end {w w4 : World} {bh q k g o c2 : Nat} {l m tl3 : List UInt8} (hI : HInv w4 bh (l ++ m.take (q + k)) tl3) (hl : Lies w4 (some ⟨g, o, none⟩) (m.drop q)) (hne : ¬ inBlk (some ⟨g, o, none⟩) bh)
    (hk : k ≤ m.length - q) (hc : m.length - q ≤ c2) (hm : c2 ≤ maxLen) (hF : Fr (fun k => k = bh) w w4) (hq : q ≤ m.length := by assumption) :
    Rest w w4 bh l m (.slice (if c2 = k then some ⟨g, o, none⟩ else some ⟨g, o + k, none⟩) (m.length - q - k) (c2 - k)) := by
  refine ⟨q + k, _, c2 - k, tl3, by omega, by rw [Nat.sub_sub], by omega, by omega, ?_, ?_, hI, hF⟩
  · split
    · exact Or.inl (List.drop_eq_nil_of_le (by omega))
    · have := hl.drop k
      rwa [List.drop_drop] at this
  · split
    · exact Or.inl (List.drop_eq_nil_of_le (by omega))
    · refine Or.inr ?_
      rintro ⟨ad, e, hb⟩
      cases e
      exact hne ⟨_, rfl, hb⟩
set_option maxRecDepth 100000 in
theorem HInv.small {w w3 : World} {bh q k r : Nat} {l m x tl2 : List UInt8} {v : Int} {n : Nat} (h : HInv w bh (l ++ m.take q) tl2) (hB : HB w3 bh (stv (S2.hw (l ++ m.take q))).toList (tl2.take r ++ (x ++ tl2.drop (r + x.length))) n)
    (hr : r = (l.length + q) % 64) (hL : (l ++ m.take q).length = l.length + q) (hxl : x.length = k) (hx : x = (m.drop q).take k) (hs : r + k < 64) (hv : v = ↑l.length + ↑q + ↑k) :
    HInv (w3.setCell ⟨bh, 72, none⟩ (.int .i64 v)) bh (l ++ m.take (q + k)) (tl2.take r ++ (x ++ tl2.drop (r + x.length))) := by
  have e1 : l ++ m.take (q + k) = (l ++ m.take q) ++ x := by rw [hx, List.append_assoc, List.take_add]
  have ht := h.tail
  rw [hL, ← hr] at ht
  rw [e1]
  clear e1 hx
  subst hxl
  refine ⟨?_, ?_⟩
  · rw [S2.hw_small _ _ (by rw [hL, ← hr]; omega), List.length_append, hL]
    exact hB.setCount (l.length + q + x.length) v (by rw [hv]; omega)
  · rw [List.length_append, hL, show (l.length + q + x.length) % 64 = r + x.length by omega, show (l.length + q + x.length) / 64 = (l.length + q) / 64 by omega,
      List.drop_append_of_le_length (by rw [hL]; omega), ← ht]
    have hl1 : (tl2.take r).length = r := by rw [ht, List.length_drop, hL]; omega
    rw [← List.append_assoc, List.take_left' (by rw [List.length_append, hl1])]

set_option maxRecDepth 100000 in
theorem HB.store {w : World} {bh n : Nat} {wl : List Value} {tl : List UInt8} (h : HB w bh wl tl n) (s : S2.St) : (storeCells ⟨bh, 0, none⟩ (stv s).toList).run Tryd.prog w = .ok () (w.setCells bh 0 (stv s).toList) := by
  have := run_storeCells_cells (P := Tryd.prog) bh 0 (stv s).toList 0 w (fun j hj => by have := (h.there j (by simpa [stv] using hj)).1; simpa using this) (fun j hj => by have := (h.there j (by simpa [stv] using hj)).2; simpa using this)
    (fun v hv => (Array.all_eq_true_iff_forall_mem.1 (stv_one s)) v (by simpa using hv))
  simpa using this
set_option maxRecDepth 100000 in
theorem HInv.full {w w6 : World} {bh q k r : Nat} {l m x tl2 : List UInt8} {s : S2.St} {n : Nat} (h : HInv w bh (l ++ m.take q) tl2) (hB : HB w6 bh (stv (S2.mix s (tl2.take r ++ (x ++ tl2.drop (r + x.length))))).toList (tl2.take r ++ (x ++ tl2.drop (r + x.length))) n)
    (hs : s = S2.hw (l ++ m.take q)) (hr : r = (l.length + q) % 64) (hL : (l ++ m.take q).length = l.length + q) (hxl : x.length = k) (hx : x = (m.drop q).take k) (hf : r + k = 64) (hn : n = l.length + q + k) :
    HInv w6 bh (l ++ m.take (q + k)) (tl2.take r ++ (x ++ tl2.drop (r + x.length))) := by
  have e1 : l ++ m.take (q + k) = (l ++ m.take q) ++ x := by rw [hx, List.append_assoc, List.take_add]
  have ht := h.tail
  rw [hL, ← hr] at ht
  rw [e1]
  clear e1 hx
  subst hxl
  have h64 := h.hb.t64
  have e2 : tl2.drop (r + x.length) = [] := List.drop_eq_nil_of_le (by omega)
  refine ⟨?_, ?_⟩
  · have e3 : S2.hw (l ++ m.take q ++ x) = S2.mix s (tl2.take r ++ (x ++ tl2.drop (r + x.length))) := by
      rw [S2.hw_full _ _ (by rw [hL, ← hr]; omega), hL, ← ht, e2, List.append_nil, hs]
    rw [e3, List.length_append, hL, ← hn]
    exact hB
  · rw [List.length_append, hL, show (l.length + q + x.length) % 64 = 0 by omega, List.take_zero]
    exact (List.drop_eq_nil_of_le (by simp; omega)).symm

/-- A slice's length, for a measure. -/
def lenV : Value → Nat | .slice _ n _ => n | _ => 0

set_option maxRecDepth 100000 in
set_option maxHeartbeats 1600000 in
theorem write_any (bh : Nat) (l m : List UInt8) (a : Option Addr) (c : Nat) (w : World) (h : HIs w bh l) (hm : Lies w a m) (hc : m.length ≤ c) (hc2 : c ≤ maxLen) (hne : m = [] ∨ ¬ inBlk a bh) (hsum : l.length + m.length ≤ 9223372036854775807) (hT : Tab w) (hTs : 2 < w.heap.size) (hTb : bh ≠ 2) :
    Calls Tryd.prog 29 #[.pointer (some ⟨bh, 0, none⟩), .slice a m.length c] w fun e w' => e = .returned (.tuple #[]) ∧ HIs w' bh (l ++ m) ∧ Fr (fun k => k = bh) w w' := by
  obtain ⟨tl, h⟩ := h
  go_enter Tryd.func29, Tryd.ntmps29
  have hcnt : w.cell? ⟨bh, 72, none⟩ = some (.int .i64 (l.length : Int)) := by
    rcases h with ⟨rfl, wl, hb⟩ | ⟨_, hi⟩
    · exact hb.count
    · exact hi.hb.count
  go_upto_if 11 with fail
  go_cut [5] (fun _ wx => HInv wx bh l tl ∧ Fr (fun k => k = bh) w wx)
  case first =>
    rcases h with ⟨rfl, wl, hb⟩ | ⟨hl, hi⟩
    · have t0 : (((([] : List UInt8).length : Nat) : Int) == 0) = true := rfl
      go_wp2_with fail
      refine (first_any _).mono ?_
      rintro e w1 ⟨rfl, F1⟩
      have hb1 := hb.fr F1 (fun h => h)
      have hth : w1.there bh 0 (stv S2.H0).size := hb1.there
      go_wp2_with (with_reducible refine wpList_store_mid rfl 72 (.tmp 15) (.tmp 13) rfl bh 0 (stv S2.H0) rfl rfl hth Tryd.size8 (stv_one _) ?_)
      go_meet
      exact ⟨⟨hb1.setWords S2.H0, rfl⟩, (F1.mono (fun _ _ h => h.elim)).trans (Fr.setCells (S := fun k => k = bh) rfl _ _ (Fr.refl _ w1)) (fun i hi => Or.inl hi)⟩
    · have t0 : ((l.length : Int) == 0) = false := by simp; exact hl
      go_wp2
      go_meet
      exact ⟨hi, Fr.refl _ _⟩
  case rest =>
    obtain ⟨hI, hF0⟩ := hcut
    have hm0 : Lies wc a m := by
      rcases hne with rfl | hne
      · exact Or.inl rfl
      · exact hm.fr hF0 (fun k hk e => hne (e ▸ hk))
    clear h hcnt
    go_wp2_with fail
    go_loopw [1] (fun vb wr => Rest w wr bh l m vb) (fun vb _ => lenV vb)
    case atStart => exact ⟨0, a, c, tl, by omega, rfl, by omega, hc2, by simpa using hm0, by simpa using hne, by simpa using hI, hF0⟩
    case round =>
      obtain ⟨q, a2, c2, tl2, hq, rfl, hc3, hc4, hl2, hne2, hI2, hF2⟩ := hrel
      by_cases hlt : q < m.length
      · have t1 : decide (0 < m.length - q) = true := by simp; omega
        replace hne2 := hne2.resolve_left (fun e => by have := congrArg List.length e; simp at this; omega)
        obtain ⟨g, o, rfl⟩ : ∃ g o, a2 = some ⟨g, o, none⟩ := by
          rcases hl2 with e | ⟨g, o, e, _⟩
          · have := congrArg List.length e; simp at this; omega
          · exact ⟨g, o, e⟩
        have hcn := hI2.hb.count
        have hL : (l ++ m.take q).length = l.length + q := by simp; omega
        rw [hL] at hcn
        have hLb : l.length + q ≤ 9223372036854775807 := by omega
        obtain ⟨r, hr⟩ : ∃ r, r = (l.length + q) % 64 := ⟨_, rfl⟩
        have hr64 : r < 64 := by omega
        have hmod : ((l.length : Int) + (q : Int)).tmod 64 = (r : Int) := by rw [Int.tmod_eq_emod_of_nonneg (by omega)]; omega
        have hr0 : (0 : Int) ≤ (r : Int) := by omega
        have hr1 : (r : Int) ≤ 64 := by omega
        have hr2 : ¬ 64 = r := by omega
        have hr3 : r ≤ 64 := by omega
        have Hr := Lib.hid hr
        have HL := Lib.hid hL
        clear hr hL
        go_wp2_with fail
        go_still_tail 10, (by kernel_rfl)
        change wpList _ _ _ _ _ wr.drew
        obtain ⟨k, hk⟩ : ∃ k, k = Nat.min (m.length - q) (64 - r) := ⟨_, rfl⟩
        obtain ⟨x, hx⟩ : ∃ x, x = (m.drop q).take k := ⟨_, rfl⟩
        have hkm : k ≤ m.length - q ∧ k ≤ 64 - r ∧ (k = m.length - q ∨ k = 64 - r) ∧ 1 ≤ k := by
          have e : Nat.min (m.length - q) (64 - r) = min (m.length - q) (64 - r) := rfl
          rw [e] at hk; omega
        have hxl : x.length = k := by rw [hx]; simp; omega
        have hB2 := hI2.hb.fr ((Fr.refl (fun _ => False) wr).drew) (fun h => h)
        have hlx : Lies wr.drew (some ⟨g, o, none⟩) x := by rw [hx]; exact (hl2.fr ((Fr.refl (fun _ => False) wr).drew) (fun _ _ h => h)).take k
        refine wpList_copy_own rfl (.tmp 27) (.tmp 28) 39 39 rfl 5 Tryd.underlying39 Tryd.sizeB bh (8 + r) (64 - r) (64 - r) ⟨g, o, none⟩ (m.length - q) c2 rfl rfl _ 75 hB2.blk (bv x) (by rw [bv_length, hxl, hk]) (lies_src hlx) (by rw [List.size_toArray, hB2.length, bv_length, hxl]; omega) (bv_one x) ?_
        have hB3 := hB2.setTail r x (by rw [hxl]; omega)
        have hG3 : Fr (fun k => k = bh) wr (World.setRow wr.drew bh ((((hcells (stv (S2.hw (l ++ List.take q m))).toList tl2 (l ++ List.take q m).length).toArray.toList.take (8 + r) ++ (bv x ++ (hcells (stv (S2.hw (l ++ List.take q m))).toList tl2 (l ++ List.take q m).length).toArray.toList.drop (8 + r + (bv x).length))).toArray))) := Fr.setRow ((Fr.refl (fun k => k = bh) wr).drew) rfl _
        generalize World.setRow _ _ _ = w3 at hB3 hG3 ⊢
        have hF3 : Fr (fun k => k = bh) w w3 := hF2.trans hG3 (fun _ h => Or.inl h)
        rw [bv_length, hxl]
        have hc73 := hB3.count
        rw [HL.out] at hc73
        have hf73 := free_of_block hB3.blk 72
        have hl3 : Lies w3 (some ⟨g, o, none⟩) (m.drop q) := hl2.fr hG3 (fun k hk e => hne2 (e ▸ hk))
        have hs3 : l.length + q + k ≤ 9223372036854775807 := by omega
        have Hk := Lib.hid hkm
        have Hx := Lib.hid hx
        have Hxl := Lib.hid hxl
        have hk1 : k ≤ c2 := by omega
        have hk2 : k ≤ m.length - q := by omega
        clear hk hkm hx hxl hB2 hlx hmod
        by_cases hfull : r + k = 64
        · have hmod : ((l.length : Int) + (q : Int) + (k : Int)).tmod 64 = 0 := by
            have := Hr.out; have := Hk.out
            rw [Int.tmod_eq_emod_of_nonneg (by omega)]; omega
          have hB4 := hB3.setCount (l.length + q + k) (↑l.length + ↑q + ↑k) (by omega)
          have hG4 : Fr (fun k => k = bh) wr (w3.setCell ⟨bh, 72, none⟩ (.int .i64 (↑l.length + ↑q + ↑k))) := hG3.setCell (Or.inl rfl) _
          have hT4 := (hT.fr (hF2.trans hG4 (fun _ h => Or.inl h)) (fun e => hTb e.symm))
          have hS4 := hF2.trans hG4 (fun _ h => Or.inl h)
          go_wp2_with fail
          all_goals
            generalize World.setCell w3 _ _ = w4 at hB4 hG4 hT4 hS4 ⊢
            have ok := S2.hw_ok (l ++ m.take q)
            obtain ⟨s, hs⟩ : ∃ s, s = S2.hw (l ++ m.take q) := ⟨_, rfl⟩
            rw [← hs] at hB4 ok
            have Hs := Lib.hid hs
            clear hs
            have k0 := hB4.words 0 (.int .u32 s.a) rfl
            have k1 := hB4.words 1 (.int .u32 s.b) rfl
            have k2 := hB4.words 2 (.int .u32 s.c) rfl
            have k3 := hB4.words 3 (.int .u32 s.d) rfl
            have k4 := hB4.words 4 (.int .u32 s.e) rfl
            have k5 := hB4.words 5 (.int .u32 s.f) rfl
            have k6 := hB4.words 6 (.int .u32 s.g) rfl
            have k7 := hB4.words 7 (.int .u32 s.h) rfl
            simp only [Nat.zero_add] at k0 k1 k2 k3 k4 k5 k6 k7
            have hB4d := hB4.fr ((Fr.refl (fun _ => False) w4).drew) (fun h => h)
            have hT4d := hT4.fr ((Fr.refl (fun _ => False) w4).drew) (fun h => h)
            have hz4 : bh < w4.drew.heap.size := lt_of_block hB4d.blk
            have hz5 : 2 < w4.drew.heap.size := by have := hS4.size; show _ < w4.heap.size; omega
            have call := mix_any s ok bh 8 _ _ hB4d.tail hz4 hT4d hz5
            have Hcall := Lib.hid call
            clear call hz4 hz5
            go_region_with ((refine Hcall.out.mono ?_; rintro e w5 ⟨rfl, F5⟩; have hB5 := hB4d.fr F5 (fun h => h); have hst := hB5.store (S2.mix s (List.take r tl2 ++ (x ++ List.drop (r + x.length) tl2)))))
            have hI6 := HInv.full (m := m) hI2 (hB5.setWords (S2.mix s (List.take r tl2 ++ (x ++ List.drop (r + x.length) tl2)))) Hs.out Hr.out HL.out Hxl.out Hx.out hfull rfl
            have hF6 : Fr (fun k => k = bh) w4 (w5.setCells bh 0 (stv (S2.mix s (List.take r tl2 ++ (x ++ List.drop (r + x.length) tl2)))).toList) := Fr.setCells (S := fun k => k = bh) rfl _ _ ((((Fr.refl (fun k => k = bh) w4).drew).trans F5 (fun _ h => h.elim)))
            have hl6 := (hl2.fr hG4 (fun k hk e => hne2 (e ▸ hk))).fr hF6 (fun k hk e => hne2 (e ▸ hk))
            have hE := rel_end hI6 hl6 hne2 hk2 hc3 hc4 (hS4.trans hF6 (fun _ h => Or.inl h))
            have HE := Lib.hid hE
            clear hE hI6 hl6 hF6 hst
            go_roundw
            case rel =>
              first
                | (have hck : c2 = k := by assumption
                   simpa [hck] using HE.out)
                | (have hck : ¬ c2 = k := by assumption
                   simpa [hck] using HE.out)
            case measure => have := Hk.out; simp [lenV]; omega
        · have hmod : ((l.length : Int) + (q : Int) + (k : Int)).tmod 64 = (r : Int) + (k : Int) := by
            have := Hr.out; have := Hk.out
            rw [Int.tmod_eq_emod_of_nonneg (by omega)]; omega
          have hz : ((r : Int) + (k : Int) == 0) = false := by have := Hk.out; simp; omega
          have hI4 := HInv.small (q := q) (m := m) hI2 hB3 Hr.out HL.out Hxl.out Hx.out (by have := Hk.out; omega) (v := ↑l.length + ↑q + ↑k) rfl
          have hF4 : Fr (fun k => k = bh) w3 (w3.setCell ⟨bh, 72, none⟩ (.int .i64 (↑l.length + ↑q + ↑k))) := (Fr.refl (fun k => k = bh) _).setCell (Or.inl rfl) _
          have hl4 := hl3.fr hF4 (fun k hk e => hne2 (e ▸ hk))
          have hE := rel_end hI4 hl4 hne2 hk2 hc3 hc4 (hF3.trans hF4 (fun _ h => Or.inl h))
          have HE := Lib.hid hE
          clear hE hI4 hl4 hF4
          go_wp2
          go_roundw
          case rel => exact HE.out
          case measure => have := Hk.out; simp [lenV]; omega
      · have e0 : m.length - q = 0 := by omega
        have e1 : m.take q = m := List.take_of_length_le (by omega)
        rw [e1] at hI2
        have E0 := Lib.hid e0
        have E1 := Lib.hid e1
        clear e0 e1
        have t1 : decide (0 < m.length - q) = false := by simp; omega
        go_wp2
        go_end0
        exact ⟨rfl, HInv.is hI2, hF2⟩
end Go.Proofs.YtndakfanlgilmaaDoor


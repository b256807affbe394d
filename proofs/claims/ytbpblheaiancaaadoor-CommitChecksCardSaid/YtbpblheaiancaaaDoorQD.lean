/-
  The contract of (*Hash).Write of package sha2.
  The contract of mix of package sha5.
  The block of a run of package sha5, and what is done to it.
-/
import Derived.Test.YtbpblheaiancaaaDoorQC
import Derived.Deep.DeepCutAuto
import Derived.StillTailTactics
import Derived.Test.YtbpblheaiancaaaDoorSch5
namespace Go.Proofs.YtbpblheaiancaaaDoor
open Go.RowKit
set_option linter.unusedVariables false

set_option maxRecDepth 100000 in
set_option maxHeartbeats 400000 in
theorem first_any (w : World) : Calls Tryd.prog 70 #[] w fun e w' => e = .returned (.agg (stv S2.H0)) ∧ Fr (fun _ => False) w w' := by
  go_enter Tryd.func70, Tryd.ntmps70
  have hr := heap_alloc_new w (.cells #[.int .u32 0, .int .u32 0, .int .u32 0, .int .u32 0, .int .u32 0, .int .u32 0, .int .u32 0, .int .u32 0] 91)
  go_wp2_with (with_reducible refine wpList_store_row rfl 91 (.tmp 0) (.tmp 1) rfl w.heap.size (stv S2.H0) rfl rfl 91 _ hr Tryd.size8 rfl (stv_one _) ?_)
  refine bodyPost_ret (results_cell_row rfl _ _ w.heap.size 91 (stv S2.H0) (0, 0) _ rfl (setRow_heap _ _ _ _ _ _ hr) Tryd.underlying91 rfl Tryd.size8) rfl ?_
  exact ⟨rfl, ((Fr.refl _ w).alloc _).trans (Fr.setRow (S := fun k => k = w.heap.size) (Fr.refl _ _) rfl _) (fun i hi => Or.inr (by omega))⟩

/-- A Hash that has taken l (and perhaps nothing yet). -/
def HIs (w : World) (bh : Nat) (l : List UInt8) : Prop := ∃ tl, (l = [] ∧ ∃ wl, HB w bh wl tl 0) ∨ (l ≠ [] ∧ HInv w bh l tl)

theorem Tryd.sizeB : (Tryd.prog.info? 5).map (·.size) = some 1 := by kernel_rfl
theorem lies_src {w : World} {ad : Addr} {l : List UInt8} (h : Lies w (some ad) l) : ∀ j v, (bv l)[j]? = some v → w.cell? (ad.add j) = some v := by
  intro j v hv
  rcases h with rfl | ⟨g, off, e, hc⟩
  · simp [bv] at hv
  · obtain rfl := Option.some.inj e
    have hlt : j < l.length := by have := (List.getElem?_eq_some_iff.1 hv).1; simpa using this
    rw [addr_add, hc j hlt]
    rw [bv_get' l j hlt] at hv
    exact hv
theorem HInv.is {w : World} {bh : Nat} {l tl : List UInt8} (h : HInv w bh l tl) : HIs w bh l := by
  by_cases e : l = []
  · subst e
    exact ⟨tl, Or.inl ⟨rfl, _, h.hb⟩⟩
  · exact ⟨tl, Or.inr ⟨e, h⟩⟩
/-- What the loop's head says of the rest that is still to be taken. -/
def Rest (w wr : World) (bh : Nat) (l m : List UInt8) (vb : Value) : Prop := ∃ (q : Nat) (a2 : Option Addr) (c2 : Nat) (tl2 : List UInt8), q ≤ m.length ∧ vb = .slice a2 (m.length - q) c2 ∧ m.length - q ≤ c2 ∧ c2 ≤ maxLen ∧ Lies wr a2 (m.drop q) ∧ (m.drop q = [] ∨ ¬ inBlk a2 bh) ∧ HInv wr bh (l ++ m.take q) tl2 ∧ Fr (fun k => k = bh) w wr
theorem rel_end {w w4 : World} {bh q k g o c2 : Nat} {l m tl3 : List UInt8} (hI : HInv w4 bh (l ++ m.take (q + k)) tl3) (hl : Lies w4 (some ⟨g, o, none⟩) (m.drop q)) (hne : ¬ inBlk (some ⟨g, o, none⟩) bh)
    (hk : k ≤ m.length - q) (hc : m.length - q ≤ c2) (hm : c2 ≤ maxLen) (hF : Fr (fun k => k = bh) w w4) (hq : q ≤ m.length := by assumption) :
    Rest w w4 bh l m (.slice (if c2 = k then some ⟨g, o, none⟩ else some ⟨g, o + k, none⟩) (m.length - q - k) (c2 - k)) := by
  refine ⟨q + k, _, c2 - k, tl3, by omega, by rw [Nat.sub_sub], by omega, by omega, ?_, ?_, hI, hF⟩
  · split
    · exact Or.inl (List.drop_eq_nil_of_le (by omega))
    · have := hl.drop k
      rwa [List.drop_drop] at this
  · split
    · exact Or.inl (List.drop_eq_nil_of_le (by omega))
    · refine Or.inr ?_
      rintro ⟨ad, e, hb⟩
      cases e
      exact hne ⟨_, rfl, hb⟩
theorem HInv.small {w w3 : World} {bh q k r : Nat} {l m x tl2 : List UInt8} {v : Int} {n : Nat} (h : HInv w bh (l ++ m.take q) tl2) (hB : HB w3 bh (stv (S2.hw (l ++ m.take q))).toList (tl2.take r ++ (x ++ tl2.drop (r + x.length))) n)
    (hr : r = (l.length + q) % 64) (hL : (l ++ m.take q).length = l.length + q) (hxl : x.length = k) (hx : x = (m.drop q).take k) (hs : r + k < 64) (hv : v = ↑l.length + ↑q + ↑k) :
    HInv (w3.setCell ⟨bh, 72, none⟩ (.int .i64 v)) bh (l ++ m.take (q + k)) (tl2.take r ++ (x ++ tl2.drop (r + x.length))) := by
  have e1 : l ++ m.take (q + k) = (l ++ m.take q) ++ x := by rw [hx, List.append_assoc, List.take_add]
  have ht := h.tail
  rw [hL, ← hr] at ht
  rw [e1]
  clear e1 hx
  subst hxl
  refine ⟨?_, ?_⟩
  · rw [S2.hw_small _ _ (by rw [hL, ← hr]; omega), List.length_append, hL]
    exact hB.setCount (l.length + q + x.length) v (by rw [hv]; omega)
  · rw [List.length_append, hL, show (l.length + q + x.length) % 64 = r + x.length by omega, show (l.length + q + x.length) / 64 = (l.length + q) / 64 by omega,
      List.drop_append_of_le_length (by rw [hL]; omega), ← ht]
    have hl1 : (tl2.take r).length = r := by rw [ht, List.length_drop, hL]; omega
    rw [← List.append_assoc, List.take_left' (by rw [List.length_append, hl1])]

theorem HB.store {w : World} {bh n : Nat} {wl : List Value} {tl : List UInt8} (h : HB w bh wl tl n) (s : S2.St) : (storeCells ⟨bh, 0, none⟩ (stv s).toList).run Tryd.prog w = .ok () (w.setCells bh 0 (stv s).toList) := by
  have := run_storeCells_cells (P := Tryd.prog) bh 0 (stv s).toList 0 w (fun j hj => by have := (h.there j (by simpa [stv] using hj)).1; simpa using this) (fun j hj => by have := (h.there j (by simpa [stv] using hj)).2; simpa using this)
    (fun v hv => (Array.all_eq_true_iff_forall_mem.1 (stv_one s)) v (by simpa using hv))
  simpa using this
theorem HInv.full {w w6 : World} {bh q k r : Nat} {l m x tl2 : List UInt8} {s : S2.St} {n : Nat} (h : HInv w bh (l ++ m.take q) tl2) (hB : HB w6 bh (stv (S2.mix s (tl2.take r ++ (x ++ tl2.drop (r + x.length))))).toList (tl2.take r ++ (x ++ tl2.drop (r + x.length))) n)
    (hs : s = S2.hw (l ++ m.take q)) (hr : r = (l.length + q) % 64) (hL : (l ++ m.take q).length = l.length + q) (hxl : x.length = k) (hx : x = (m.drop q).take k) (hf : r + k = 64) (hn : n = l.length + q + k) :
    HInv w6 bh (l ++ m.take (q + k)) (tl2.take r ++ (x ++ tl2.drop (r + x.length))) := by
  have e1 : l ++ m.take (q + k) = (l ++ m.take q) ++ x := by rw [hx, List.append_assoc, List.take_add]
  have ht := h.tail
  rw [hL, ← hr] at ht
  rw [e1]
  clear e1 hx
  subst hxl
  have h64 := h.hb.t64
  have e2 : tl2.drop (r + x.length) = [] := List.drop_eq_nil_of_le (by omega)
  refine ⟨?_, ?_⟩
  · have e3 : S2.hw (l ++ m.take q ++ x) = S2.mix s (tl2.take r ++ (x ++ tl2.drop (r + x.length))) := by
      rw [S2.hw_full _ _ (by rw [hL, ← hr]; omega), hL, ← ht, e2, List.append_nil, hs]
    rw [e3, List.length_append, hL, ← hn]
    exact hB
  · rw [List.length_append, hL, show (l.length + q + x.length) % 64 = 0 by omega, List.take_zero]
    exact (List.drop_eq_nil_of_le (by simp; omega)).symm

/-- A slice's length, for a measure. -/
def lenV : Value → Nat | .slice _ n _ => n | _ => 0

set_option maxRecDepth 100000 in
set_option maxHeartbeats 1600000 in
theorem write_any (bh : Nat) (l m : List UInt8) (a : Option Addr) (c : Nat) (w : World) (h : HIs w bh l) (hm : Lies w a m) (hc : m.length ≤ c) (hc2 : c ≤ maxLen) (hne : m = [] ∨ ¬ inBlk a bh) (hsum : l.length + m.length ≤ 9223372036854775807) (hT : Tab w) (hTs : 2 < w.heap.size) (hTb : bh ≠ 2) :
    Calls Tryd.prog 57 #[.pointer (some ⟨bh, 0, none⟩), .slice a m.length c] w fun e w' => e = .returned (.tuple #[]) ∧ HIs w' bh (l ++ m) ∧ Fr (fun k => k = bh) w w' := by
  obtain ⟨tl, h⟩ := h
  go_enter Tryd.func57, Tryd.ntmps57
  have hcnt : w.cell? ⟨bh, 72, none⟩ = some (.int .i64 (l.length : Int)) := by
    rcases h with ⟨rfl, wl, hb⟩ | ⟨_, hi⟩
    · exact hb.count
    · exact hi.hb.count
  go_upto_if 11 with fail
  go_cut [5] (fun _ wx => HInv wx bh l tl ∧ Fr (fun k => k = bh) w wx)
  case first =>
    rcases h with ⟨rfl, wl, hb⟩ | ⟨hl, hi⟩
    · have t0 : (((([] : List UInt8).length : Nat) : Int) == 0) = true := rfl
      go_wp2_with fail
      refine (first_any _).mono ?_
      rintro e w1 ⟨rfl, F1⟩
      have hb1 := hb.fr F1 (fun h => h)
      have hth : w1.there bh 0 (stv S2.H0).size := hb1.there
      go_wp2_with (with_reducible refine wpList_store_mid rfl 91 (.tmp 15) (.tmp 13) rfl bh 0 (stv S2.H0) rfl rfl hth Tryd.size8 (stv_one _) ?_)
      go_meet
      exact ⟨⟨hb1.setWords S2.H0, rfl⟩, (F1.mono (fun _ _ h => h.elim)).trans (Fr.setCells (S := fun k => k = bh) rfl _ _ (Fr.refl _ w1)) (fun i hi => Or.inl hi)⟩
    · have t0 : ((l.length : Int) == 0) = false := by simp; exact hl
      go_wp2
      go_meet
      exact ⟨hi, Fr.refl _ _⟩
  case rest =>
    obtain ⟨hI, hF0⟩ := hcut
    have hm0 : Lies wc a m := by
      rcases hne with rfl | hne
      · exact Or.inl rfl
      · exact hm.fr hF0 (fun k hk e => hne (e ▸ hk))
    clear h hcnt
    go_wp2_with fail
    go_loopw [1] (fun vb wr => Rest w wr bh l m vb) (fun vb _ => lenV vb)
    case atStart => exact ⟨0, a, c, tl, by omega, rfl, by omega, hc2, by simpa using hm0, by simpa using hne, by simpa using hI, hF0⟩
    case round =>
      obtain ⟨q, a2, c2, tl2, hq, rfl, hc3, hc4, hl2, hne2, hI2, hF2⟩ := hrel
      by_cases hlt : q < m.length
      · have t1 : decide (0 < m.length - q) = true := by simp; omega
        replace hne2 := hne2.resolve_left (fun e => by have := congrArg List.length e; simp at this; omega)
        obtain ⟨g, o, rfl⟩ : ∃ g o, a2 = some ⟨g, o, none⟩ := by
          rcases hl2 with e | ⟨g, o, e, _⟩
          · have := congrArg List.length e; simp at this; omega
          · exact ⟨g, o, e⟩
        have hcn := hI2.hb.count
        have hL : (l ++ m.take q).length = l.length + q := by simp; omega
        rw [hL] at hcn
        have hLb : l.length + q ≤ 9223372036854775807 := by omega
        obtain ⟨r, hr⟩ : ∃ r, r = (l.length + q) % 64 := ⟨_, rfl⟩
        have hr64 : r < 64 := by omega
        have hmod : ((l.length : Int) + (q : Int)).tmod 64 = (r : Int) := by rw [Int.tmod_eq_emod_of_nonneg (by omega)]; omega
        have hr0 : (0 : Int) ≤ (r : Int) := by omega
        have hr1 : (r : Int) ≤ 64 := by omega
        have hr2 : ¬ 64 = r := by omega
        have hr3 : r ≤ 64 := by omega
        have Hr := Lib.hid hr
        have HL := Lib.hid hL
        clear hr hL
        go_wp2_with fail
        go_still_tail 10, (by kernel_rfl)
        change wpList _ _ _ _ _ wr.drew
        obtain ⟨k, hk⟩ : ∃ k, k = Nat.min (m.length - q) (64 - r) := ⟨_, rfl⟩
        obtain ⟨x, hx⟩ : ∃ x, x = (m.drop q).take k := ⟨_, rfl⟩
        have hkm : k ≤ m.length - q ∧ k ≤ 64 - r ∧ (k = m.length - q ∨ k = 64 - r) ∧ 1 ≤ k := by
          have e : Nat.min (m.length - q) (64 - r) = min (m.length - q) (64 - r) := rfl
          rw [e] at hk; omega
        have hxl : x.length = k := by rw [hx]; simp; omega
        have hB2 := hI2.hb.fr ((Fr.refl (fun _ => False) wr).drew) (fun h => h)
        have hlx : Lies wr.drew (some ⟨g, o, none⟩) x := by rw [hx]; exact (hl2.fr ((Fr.refl (fun _ => False) wr).drew) (fun _ _ h => h)).take k
        refine wpList_copy_own rfl (.tmp 27) (.tmp 28) 23 23 rfl 5 Tryd.underlying23 Tryd.sizeB bh (8 + r) (64 - r) (64 - r) ⟨g, o, none⟩ (m.length - q) c2 rfl rfl _ 93 hB2.blk (bv x) (by rw [bv_length, hxl, hk]) (lies_src hlx) (by rw [List.size_toArray, hB2.length, bv_length, hxl]; omega) (bv_one x) ?_
        have hB3 := hB2.setTail r x (by rw [hxl]; omega)
        have hG3 : Fr (fun k => k = bh) wr (World.setRow wr.drew bh ((((hcells (stv (S2.hw (l ++ List.take q m))).toList tl2 (l ++ List.take q m).length).toArray.toList.take (8 + r) ++ (bv x ++ (hcells (stv (S2.hw (l ++ List.take q m))).toList tl2 (l ++ List.take q m).length).toArray.toList.drop (8 + r + (bv x).length))).toArray))) := Fr.setRow ((Fr.refl (fun k => k = bh) wr).drew) rfl _
        generalize World.setRow _ _ _ = w3 at hB3 hG3 ⊢
        have hF3 : Fr (fun k => k = bh) w w3 := hF2.trans hG3 (fun _ h => Or.inl h)
        rw [bv_length, hxl]
        have hc73 := hB3.count
        rw [HL.out] at hc73
        have hf73 := free_of_block hB3.blk 72
        have hl3 : Lies w3 (some ⟨g, o, none⟩) (m.drop q) := hl2.fr hG3 (fun k hk e => hne2 (e ▸ hk))
        have hs3 : l.length + q + k ≤ 9223372036854775807 := by omega
        have Hk := Lib.hid hkm
        have Hx := Lib.hid hx
        have Hxl := Lib.hid hxl
        have hk1 : k ≤ c2 := by omega
        have hk2 : k ≤ m.length - q := by omega
        clear hk hkm hx hxl hB2 hlx hmod
        by_cases hfull : r + k = 64
        · have hmod : ((l.length : Int) + (q : Int) + (k : Int)).tmod 64 = 0 := by
            have := Hr.out; have := Hk.out
            rw [Int.tmod_eq_emod_of_nonneg (by omega)]; omega
          have hB4 := hB3.setCount (l.length + q + k) (↑l.length + ↑q + ↑k) (by omega)
          have hG4 : Fr (fun k => k = bh) wr (w3.setCell ⟨bh, 72, none⟩ (.int .i64 (↑l.length + ↑q + ↑k))) := hG3.setCell (Or.inl rfl) _
          have hT4 := (hT.fr (hF2.trans hG4 (fun _ h => Or.inl h)) (fun e => hTb e.symm))
          have hS4 := hF2.trans hG4 (fun _ h => Or.inl h)
          go_wp2_with fail
          all_goals
            generalize World.setCell w3 _ _ = w4 at hB4 hG4 hT4 hS4 ⊢
            have ok := S2.hw_ok (l ++ m.take q)
            obtain ⟨s, hs⟩ : ∃ s, s = S2.hw (l ++ m.take q) := ⟨_, rfl⟩
            rw [← hs] at hB4 ok
            have Hs := Lib.hid hs
            clear hs
            have k0 := hB4.words 0 (.int .u32 s.a) rfl
            have k1 := hB4.words 1 (.int .u32 s.b) rfl
            have k2 := hB4.words 2 (.int .u32 s.c) rfl
            have k3 := hB4.words 3 (.int .u32 s.d) rfl
            have k4 := hB4.words 4 (.int .u32 s.e) rfl
            have k5 := hB4.words 5 (.int .u32 s.f) rfl
            have k6 := hB4.words 6 (.int .u32 s.g) rfl
            have k7 := hB4.words 7 (.int .u32 s.h) rfl
            simp only [Nat.zero_add] at k0 k1 k2 k3 k4 k5 k6 k7
            have hB4d := hB4.fr ((Fr.refl (fun _ => False) w4).drew) (fun h => h)
            have hT4d := hT4.fr ((Fr.refl (fun _ => False) w4).drew) (fun h => h)
            have hz4 : bh < w4.drew.heap.size := lt_of_block hB4d.blk
            have hz5 : 2 < w4.drew.heap.size := by have := hS4.size; show _ < w4.heap.size; omega
            have call := mix_any s ok bh 8 _ _ hB4d.tail hz4 hT4d hz5
            have Hcall := Lib.hid call
            clear call hz4 hz5
            go_region_with ((refine Hcall.out.mono ?_; rintro e w5 ⟨rfl, F5⟩; have hB5 := hB4d.fr F5 (fun h => h); have hst := hB5.store (S2.mix s (List.take r tl2 ++ (x ++ List.drop (r + x.length) tl2)))))
            have hI6 := HInv.full (m := m) hI2 (hB5.setWords (S2.mix s (List.take r tl2 ++ (x ++ List.drop (r + x.length) tl2)))) Hs.out Hr.out HL.out Hxl.out Hx.out hfull rfl
            have hF6 : Fr (fun k => k = bh) w4 (w5.setCells bh 0 (stv (S2.mix s (List.take r tl2 ++ (x ++ List.drop (r + x.length) tl2)))).toList) := Fr.setCells (S := fun k => k = bh) rfl _ _ ((((Fr.refl (fun k => k = bh) w4).drew).trans F5 (fun _ h => h.elim)))
            have hl6 := (hl2.fr hG4 (fun k hk e => hne2 (e ▸ hk))).fr hF6 (fun k hk e => hne2 (e ▸ hk))
            have hE := rel_end hI6 hl6 hne2 hk2 hc3 hc4 (hS4.trans hF6 (fun _ h => Or.inl h))
            have HE := Lib.hid hE
            clear hE hI6 hl6 hF6 hst
            go_roundw
            case rel =>
              first
                | (have hck : c2 = k := by assumption
                   simpa [hck] using HE.out)
                | (have hck : ¬ c2 = k := by assumption
                   simpa [hck] using HE.out)
            case measure => have := Hk.out; simp [lenV]; omega
        · have hmod : ((l.length : Int) + (q : Int) + (k : Int)).tmod 64 = (r : Int) + (k : Int) := by
            have := Hr.out; have := Hk.out
            rw [Int.tmod_eq_emod_of_nonneg (by omega)]; omega
          have hz : ((r : Int) + (k : Int) == 0) = false := by have := Hk.out; simp; omega
          have hI4 := HInv.small (q := q) (m := m) hI2 hB3 Hr.out HL.out Hxl.out Hx.out (by have := Hk.out; omega) (v := ↑l.length + ↑q + ↑k) rfl
          have hF4 : Fr (fun k => k = bh) w3 (w3.setCell ⟨bh, 72, none⟩ (.int .i64 (↑l.length + ↑q + ↑k))) := (Fr.refl (fun k => k = bh) _).setCell (Or.inl rfl) _
          have hl4 := hl3.fr hF4 (fun k hk e => hne2 (e ▸ hk))
          have hE := rel_end hI4 hl4 hne2 hk2 hc3 hc4 (hF3.trans hF4 (fun _ h => Or.inl h))
          have HE := Lib.hid hE
          clear hE hI4 hl4 hF4
          go_wp2
          go_roundw
          case rel => exact HE.out
          case measure => have := Hk.out; simp [lenV]; omega
      · have e0 : m.length - q = 0 := by omega
        have e1 : m.take q = m := List.take_of_length_le (by omega)
        rw [e1] at hI2
        have E0 := Lib.hid e0
        have E1 := Lib.hid e1
        clear e0 e1
        have t1 : decide (0 < m.length - q) = false := by simp; omega
        go_wp2
        go_end0
        exact ⟨rfl, HInv.is hI2, hF2⟩
end Go.Proofs.YtbpblheaiancaaaDoor
namespace Go.Proofs.YtbpblheaiancaaaDoor
open Go.RowKit
set_option linter.unusedVariables false

/-- A state as eight words. -/
def stv5 (s : S5.St) : Array Value := #[.int .u64 (s.a : Int), .int .u64 (s.b : Int), .int .u64 (s.c : Int), .int .u64 (s.d : Int), .int .u64 (s.e : Int), .int .u64 (s.f : Int), .int .u64 (s.g : Int), .int .u64 (s.h : Int)]
/-- The table of the rounds' words. -/
def Tab5 (w : World) : Prop := ∀ j, j < 80 → w.cell? ⟨3, j, none⟩ = some (.int .u64 (S5.K j : Int))

theorem Tab5.fr {w w2 : World} {S : Nat → Prop} (h : Tab5 w) (hF : Fr S w w2) (hs : ¬ S 3) : Tab5 w2 := fun j hj => hF.cellSome (p := ⟨3, j, none⟩) hs (h j hj)
/-- The rounds' state as slots. -/
def RSt5 (t : S5.St) (va vb vc vd ve vf vg vh : Value) : Prop := va = .int .u64 (t.a : Int) ∧ vb = .int .u64 (t.b : Int) ∧ vc = .int .u64 (t.c : Int) ∧ vd = .int .u64 (t.d : Int) ∧ ve = .int .u64 (t.e : Int) ∧ vf = .int .u64 (t.f : Int) ∧ vg = .int .u64 (t.g : Int) ∧ vh = .int .u64 (t.h : Int)
/-- What stands while the rounds go on. -/
structure MixAt5 (w wr : World) (s : S5.St) : Prop where
  box : wr.heap[w.heap.size]? = some (.cells (stv5 s) 98 (0, 0))
  res : ∃ rs, wr.heap[w.heap.size + 1]? = some (.cells rs 98 (0, 0)) ∧ rs.size = 8
  fr : Fr (fun _ => False) w wr
theorem MixAt5.to {w wr w2 : World} {s : S5.St} (h : MixAt5 w wr s) (hF : Fr (fun _ => False) wr w2) : MixAt5 w w2 s := by
  obtain ⟨rs, h1, h2⟩ := h.res
  exact ⟨(hF.block _ (lt_of_block h.box) (fun h => h)).trans h.box, ⟨rs, (hF.block _ (lt_of_block h1) (fun h => h)).trans h1, h2⟩, h.fr.trans hF (fun _ h => h.elim)⟩
theorem rnds_ok5 (W : List Nat) (s : S5.St) (hs : s.ok) (k : Nat) : (S5.rnds W s k).ok := by
  induction k with
  | zero => exact hs
  | succ k ih =>
    have hm : ∀ n, n % S5.M < S5.M := fun n => Nat.mod_lt _ (by decide)
    obtain ⟨h1, h2, h3, h4, h5, h6, h7, h8⟩ := ih
    exact ⟨hm _, h1, h2, h3, hm _, h5, h6, h7⟩

theorem run_index645 (f : Nat → Nat) (k : Nat) (hk : k < 80) (w : World) : (Instr.index 125 (.agg (uv5 80 f)) (.int .i64 (k : Int))).run Tryd.prog w = .ok (.int .u64 (f k : Int)) w := by
  have h1 := uv_get5 80 f k hk
  have hc : (0 : Int) ≤ (k : Int) ∧ (k : Int) < 80 := by omega
  obtain ⟨i0, hi, hz⟩ := Option.map_eq_some_iff.1 (show (Tryd.prog.info? 55).map (·.size) = some 1 by kernel_rfl)
  simp [Instr.index, asIntOf, run_underlying Tryd.underlying125, hk, part, sizeOf, typeInfo, hi, hz, h1]
theorem T1_eq5 (t : S5.St) (ok : t.ok) (k w : Nat) :
    IntKind.u64.wrap (IntKind.u64.wrap (IntKind.u64.wrap (IntKind.u64.wrap (↑t.h + ↑(S5.bs1 t.e)) + bits .xor .u64 (bits .and .u64 ↑t.e ↑t.f) (bits .and .u64 (bits .xor .u64 (if IntKind.u64.signed = true then -1 else IntKind.u64.max) ↑t.e) ↑t.g)) + ↑k) + ↑w) = ((S5.T1 t k w : Nat) : Int) := by
  obtain ⟨h1, h2, h3, h4, h5, h6, h7, h8⟩ := ok
  simp only [S5.M] at h1 h2 h3 h4 h5 h6 h7 h8
  have e1 : (if IntKind.u64.signed = true then (-1 : Int) else IntKind.u64.max) = ((18446744073709551615 : Nat) : Int) := by decide
  rw [e1, (bits_u64_nat5 _ _ (by decide) h5).2.2, (bits_u64_nat5 _ _ h5 h6).2.1, (bits_u64_nat5 _ _ (Nat.xor_lt_two_pow (n := 64) (by decide) h5) h7).2.1,
    (bits_u64_nat5 _ _ (Nat.and_lt_two_pow (n := 64) _ h6) (Nat.and_lt_two_pow (n := 64) _ h7)).2.2]
  rw [IntKind.wrap_u64, IntKind.wrap_u64, IntKind.wrap_u64, IntKind.wrap_u64]
  unfold S5.T1 S5.ch S5.M
  omega
theorem T2_eq5 (t : S5.St) (ok : t.ok) :
    IntKind.u64.wrap (↑(S5.bs0 t.a) + bits .xor .u64 (bits .xor .u64 (bits .and .u64 ↑t.a ↑t.b) (bits .and .u64 ↑t.a ↑t.c)) (bits .and .u64 ↑t.b ↑t.c)) = ((S5.T2 t : Nat) : Int) := by
  obtain ⟨h1, h2, h3, h4, h5, h6, h7, h8⟩ := ok
  simp only [S5.M] at h1 h2 h3 h4 h5 h6 h7 h8
  rw [(bits_u64_nat5 _ _ h1 h2).2.1, (bits_u64_nat5 _ _ h1 h3).2.1, (bits_u64_nat5 _ _ h2 h3).2.1,
    (bits_u64_nat5 _ _ (Nat.and_lt_two_pow (n := 64) _ h2) (Nat.and_lt_two_pow (n := 64) _ h3)).2.2,
    (bits_u64_nat5 _ _ (Nat.xor_lt_two_pow (n := 64) (Nat.and_lt_two_pow (n := 64) _ h2) (Nat.and_lt_two_pow (n := 64) _ h3)) (Nat.and_lt_two_pow (n := 64) _ h3)).2.2]
  rw [IntKind.wrap_u64]
  unfold S5.T2 S5.maj S5.M
  omega

theorem rst_of5 (t : S5.St) (k w : Nat) : RSt5 (S5.rnd t k w) (.int .u64 (IntKind.u64.wrap (↑(S5.T1 t k w) + ↑(S5.T2 t)))) (.int .u64 ↑t.a) (.int .u64 ↑t.b) (.int .u64 ↑t.c) (.int .u64 (IntKind.u64.wrap (↑t.d + ↑(S5.T1 t k w)))) (.int .u64 ↑t.e) (.int .u64 ↑t.f) (.int .u64 ↑t.g) :=
  ⟨by rw [IntKind.wrap_u64]; show _ = Value.int .u64 (((S5.T1 t k w + S5.T2 t) % 18446744073709551616 : Nat) : Int); simp, rfl, rfl, rfl, by rw [IntKind.wrap_u64]; show _ = Value.int .u64 (((t.d + S5.T1 t k w) % 18446744073709551616 : Nat) : Int); simp, rfl, rfl, rfl⟩

theorem Tryd.size8w {m : S5.St} : (Tryd.prog.info? 98).map (·.size) = some (stv5 m).size := by
  show _ = some 8
  kernel_rfl
theorem stv_size5 (m : S5.St) : (stv5 m).size = 8 := rfl
theorem stv_one5 (m : S5.St) : (stv5 m).all (·.oneCell') = true := by simp [stv5, Value.oneCell']
theorem mix_end5 {w wr : World} {s t m : S5.St} (h : MixAt5 w wr s) (hm : s.add t = m) :
    MixAt5 w ((((((((wr.setCell ⟨w.heap.size, 0, none⟩ (.int .u64 (IntKind.u64.wrap (↑s.a + ↑t.a)))).setCell ⟨w.heap.size, 1, none⟩ (.int .u64 (IntKind.u64.wrap (↑s.b + ↑t.b)))).setCell ⟨w.heap.size, 2, none⟩ (.int .u64 (IntKind.u64.wrap (↑s.c + ↑t.c)))).setCell ⟨w.heap.size, 3, none⟩ (.int .u64 (IntKind.u64.wrap (↑s.d + ↑t.d)))).setCell ⟨w.heap.size, 4, none⟩ (.int .u64 (IntKind.u64.wrap (↑s.e + ↑t.e)))).setCell ⟨w.heap.size, 5, none⟩ (.int .u64 (IntKind.u64.wrap (↑s.f + ↑t.f)))).setCell ⟨w.heap.size, 6, none⟩ (.int .u64 (IntKind.u64.wrap (↑s.g + ↑t.g)))).setCell ⟨w.heap.size, 7, none⟩ (.int .u64 (IntKind.u64.wrap (↑s.h + ↑t.h)))) m := by
  have hF : ∀ (W : World) (o : Nat) (v : Value), Fr (fun k => k = w.heap.size) wr W → Fr (fun k => k = w.heap.size) wr (W.setCell ⟨w.heap.size, o, none⟩ v) := fun W o v hW => hW.setCell (Or.inl rfl) v
  have hT := hF _ 7 (.int .u64 (IntKind.u64.wrap (↑s.h + ↑t.h))) (hF _ 6 (.int .u64 (IntKind.u64.wrap (↑s.g + ↑t.g))) (hF _ 5 (.int .u64 (IntKind.u64.wrap (↑s.f + ↑t.f))) (hF _ 4 (.int .u64 (IntKind.u64.wrap (↑s.e + ↑t.e))) (hF _ 3 (.int .u64 (IntKind.u64.wrap (↑s.d + ↑t.d))) (hF _ 2 (.int .u64 (IntKind.u64.wrap (↑s.c + ↑t.c))) (hF _ 1 (.int .u64 (IntKind.u64.wrap (↑s.b + ↑t.b))) (hF _ 0 (.int .u64 (IntKind.u64.wrap (↑s.a + ↑t.a))) (Fr.refl _ wr))))))))
  obtain ⟨rs, r1, r2⟩ := h.res
  refine ⟨?_, ⟨rs, (hT.block _ (lt_of_block r1) (by omega)).trans r1, r2⟩, h.fr.trans hT (fun i hi => Or.inr (by omega))⟩
  have hb := block_setCell (block_setCell (block_setCell (block_setCell (block_setCell (block_setCell (block_setCell (block_setCell h.box 0 (.int .u64 (IntKind.u64.wrap (↑s.a + ↑t.a)))) 1 (.int .u64 (IntKind.u64.wrap (↑s.b + ↑t.b)))) 2 (.int .u64 (IntKind.u64.wrap (↑s.c + ↑t.c)))) 3 (.int .u64 (IntKind.u64.wrap (↑s.d + ↑t.d)))) 4 (.int .u64 (IntKind.u64.wrap (↑s.e + ↑t.e)))) 5 (.int .u64 (IntKind.u64.wrap (↑s.f + ↑t.f)))) 6 (.int .u64 (IntKind.u64.wrap (↑s.g + ↑t.g)))) 7 (.int .u64 (IntKind.u64.wrap (↑s.h + ↑t.h)))
  rw [hb]
  subst hm
  simp [stv5, S5.St.add, S5.M, IntKind.wrap_u64]

set_option maxRecDepth 100000 in
set_option maxHeartbeats 1600000 in
theorem mix_any5 (s : S5.St) (hs : s.ok) (b off : Nat) (l : List UInt8) (w : World) (hb : Blk5 w b off l) (hlt : b < w.heap.size) (hT : Tab5 w) (hT2 : 3 < w.heap.size) :
    Calls Tryd.prog 74 #[.agg (stv5 s), .pointer (some ⟨b, off, none⟩)] w fun e w' => e = .returned (.agg (stv5 (S5.mix s l))) ∧ Fr (fun _ => False) w w' := by
  have h0 : MixAt5 w ((w.alloc (.cells (stv5 s) 98)).alloc (.cells #[.int .u64 0, .int .u64 0, .int .u64 0, .int .u64 0, .int .u64 0, .int .u64 0, .int .u64 0, .int .u64 0] 98)) s :=
    ⟨heap_alloc2_old w _ _, ⟨_, heap_alloc2_new w _ _, rfl⟩, ((Fr.refl _ w).alloc _).alloc _⟩
  generalize hpost : S5.mix s l = m
  have Hpost := Lib.hid hpost
  clear hpost
  unfold stv5 at h0 ⊢
  go_enter Tryd.func74, Tryd.ntmps74
  go_wp2_with fail
  go_quiet (fail)
  go_wp2_with fail
  refine (sched_any5 b off l _ (hb.fr (h0.fr.drewN nq) (fun h => h)) (by simp; omega)).mono ?_
  rintro e w1 ⟨rfl, F1⟩
  have h1 := h0.to (((Fr.refl (fun _ => False) _).drewN nq).trans F1 (fun _ h => h.elim))
  clear F1 h0
  go_wp2_with fail
  go_loopw [5, 6, 7, 8, 9, 10, 11, 12, 37] (fun va vb vc vd ve vf vg vh i wr => ∃ k : Nat, k ≤ 80 ∧ i = .int .i64 k ∧ RSt5 (S5.rnds (S5.sch l 64) s k) va vb vc vd ve vf vg vh ∧ MixAt5 w wr s) (fun _ _ _ _ _ _ _ _ i _ => 80 - (intOf i).toNat)
  case atStart => exact ⟨0, by omega, by simp, ⟨rfl, rfl, rfl, rfl, rfl, rfl, rfl, rfl⟩, h1⟩
  case round =>
    obtain ⟨k, hk, rfl, ⟨rfl, rfl, rfl, rfl, rfl, rfl, rfl, rfl⟩, hM⟩ := hrel
    by_cases hlt64 : k < 80
    · have ok := rnds_ok5 (S5.sch l 64) s hs k
      have hn : S5.rnds (S5.sch l 64) s (k + 1) = S5.rnd (S5.rnds (S5.sch l 64) s k) (S5.K k) (S5.W l k) := rfl
      generalize ht : S5.rnds (S5.sch l 64) s k = t at ok hn ⊢
      have Ht := Lib.hid ht
      have Hn := Lib.hid hn
      clear ht hn
      have hK := (hT.fr hM.fr (fun h => h)) k hlt64
      have hu := run_index645 (S5.W l) k hlt64
      have q0 : (0 : Int) ≤ (k : Int) := by omega
      have q1 : (k : Int) < 80 := by omega
      go_wp2_with fail
      go_quiet ((go_at_call 78; exact Calls.quiet_of_same (bs1_any5 t.e ok.2.2.2.2.1 _)))
      rw [T1_eq5 t ok]
      have hu2 := T2_eq5 t ok
      go_wp2_with (go_at_call 78; refine (bs0_any5 t.a ok.1 _).mono ?_; rintro e w' ⟨rfl, rfl⟩)
      have hrel : RSt5 (S5.rnds (S5.sch l 64) s (k + 1)) (.int .u64 (IntKind.u64.wrap (↑(S5.T1 t (S5.K k) (S5.W l k)) + ↑(S5.T2 t)))) (.int .u64 ↑t.a) (.int .u64 ↑t.b) (.int .u64 ↑t.c) (.int .u64 (IntKind.u64.wrap (↑t.d + ↑(S5.T1 t (S5.K k) (S5.W l k))))) (.int .u64 ↑t.e) (.int .u64 ↑t.f) (.int .u64 ↑t.g) := by
        rw [Hn.out]; exact rst_of5 t _ _
      go_roundw
      case rel => exact ⟨k + 1, by omega, by go_num, hrel, hM.to ((Fr.refl _ _).drewN _)⟩
      case measure => simp [intOf]; omega
    · have e64 : k = 80 := by omega
      have q1 : ¬ (k : Int) < 80 := by omega
      have ok := rnds_ok5 (S5.sch l 64) s hs 80
      have Hm : Hid (s.add (S5.rnds (S5.sch l 64) s k) = m) := by rw [e64]; exact Hpost.out
      generalize ht : S5.rnds (S5.sch l 64) s k = t at ok Hm ⊢
      clear e64 ht
      have k0 := cell_of_block hM.box 0
      have k1 := cell_of_block hM.box 1
      have k2 := cell_of_block hM.box 2
      have k3 := cell_of_block hM.box 3
      have k4 := cell_of_block hM.box 4
      have k5 := cell_of_block hM.box 5
      have k6 := cell_of_block hM.box 6
      have k7 := cell_of_block hM.box 7
      have hf := fun o => free_of_block hM.box o
      simp [stv5] at k0 k1 k2 k3 k4 k5 k6 k7
      have i0 : ∀ w : World, (Instr.index 98 (.agg #[.int .u64 ↑t.a, .int .u64 ↑t.b, .int .u64 ↑t.c, .int .u64 ↑t.d, .int .u64 ↑t.e, .int .u64 ↑t.f, .int .u64 ↑t.g, .int .u64 ↑t.h]) (.int .i64 0)).run Tryd.prog w = .ok (.int .u64 ↑t.a) w := fun _ => by kernel_rfl
      have i1 : ∀ w : World, (Instr.index 98 (.agg #[.int .u64 ↑t.a, .int .u64 ↑t.b, .int .u64 ↑t.c, .int .u64 ↑t.d, .int .u64 ↑t.e, .int .u64 ↑t.f, .int .u64 ↑t.g, .int .u64 ↑t.h]) (.int .i64 1)).run Tryd.prog w = .ok (.int .u64 ↑t.b) w := fun _ => by kernel_rfl
      have i2 : ∀ w : World, (Instr.index 98 (.agg #[.int .u64 ↑t.a, .int .u64 ↑t.b, .int .u64 ↑t.c, .int .u64 ↑t.d, .int .u64 ↑t.e, .int .u64 ↑t.f, .int .u64 ↑t.g, .int .u64 ↑t.h]) (.int .i64 2)).run Tryd.prog w = .ok (.int .u64 ↑t.c) w := fun _ => by kernel_rfl
      have i3 : ∀ w : World, (Instr.index 98 (.agg #[.int .u64 ↑t.a, .int .u64 ↑t.b, .int .u64 ↑t.c, .int .u64 ↑t.d, .int .u64 ↑t.e, .int .u64 ↑t.f, .int .u64 ↑t.g, .int .u64 ↑t.h]) (.int .i64 3)).run Tryd.prog w = .ok (.int .u64 ↑t.d) w := fun _ => by kernel_rfl
      have i4 : ∀ w : World, (Instr.index 98 (.agg #[.int .u64 ↑t.a, .int .u64 ↑t.b, .int .u64 ↑t.c, .int .u64 ↑t.d, .int .u64 ↑t.e, .int .u64 ↑t.f, .int .u64 ↑t.g, .int .u64 ↑t.h]) (.int .i64 4)).run Tryd.prog w = .ok (.int .u64 ↑t.e) w := fun _ => by kernel_rfl
      have i5 : ∀ w : World, (Instr.index 98 (.agg #[.int .u64 ↑t.a, .int .u64 ↑t.b, .int .u64 ↑t.c, .int .u64 ↑t.d, .int .u64 ↑t.e, .int .u64 ↑t.f, .int .u64 ↑t.g, .int .u64 ↑t.h]) (.int .i64 5)).run Tryd.prog w = .ok (.int .u64 ↑t.f) w := fun _ => by kernel_rfl
      have i6 : ∀ w : World, (Instr.index 98 (.agg #[.int .u64 ↑t.a, .int .u64 ↑t.b, .int .u64 ↑t.c, .int .u64 ↑t.d, .int .u64 ↑t.e, .int .u64 ↑t.f, .int .u64 ↑t.g, .int .u64 ↑t.h]) (.int .i64 6)).run Tryd.prog w = .ok (.int .u64 ↑t.g) w := fun _ => by kernel_rfl
      have i7 : ∀ w : World, (Instr.index 98 (.agg #[.int .u64 ↑t.a, .int .u64 ↑t.b, .int .u64 ↑t.c, .int .u64 ↑t.d, .int .u64 ↑t.e, .int .u64 ↑t.f, .int .u64 ↑t.g, .int .u64 ↑t.h]) (.int .i64 7)).run Tryd.prog w = .ok (.int .u64 ↑t.h) w := fun _ => by kernel_rfl
      go_wp2_with fail
      refine wp_loop_rounds 9 ?_
      rw [rounds_succ]
      go_wp2_with fail
      rw [rounds_succ]
      go_wp2_with fail
      rw [rounds_succ]
      go_wp2_with fail
      rw [rounds_succ]
      go_wp2_with fail
      rw [rounds_succ]
      go_wp2_with fail
      rw [rounds_succ]
      go_wp2_with fail
      rw [rounds_succ]
      go_wp2_with fail
      rw [rounds_succ]
      go_wp2_with fail
      have E := mix_end5 (s := s) (t := t) (m := m) hM Hm.out
      clear hM k0 k1 k2 k3 k4 k5 k6 k7 hf i0 i1 i2 i3 i4 i5 i6 i7
      generalize World.setCell _ ⟨w.heap.size, 7, none⟩ _ = w8 at E ⊢
      obtain ⟨hbox, ⟨rs, hres, hrs⟩, hF⟩ := E
      rw [rounds_succ]
      go_wp2_with (first
        | (with_reducible refine wpList_load_row rfl 98 (.tmp 2) rfl w.heap.size rfl 98 (stv5 m) (0, 0) _ hbox Tryd.underlying98 rfl Tryd.size8w ?_)
        | (with_reducible refine wpList_store_row rfl 98 (.tmp 4) (.tmp 107) rfl (w.heap.size + 1) (stv5 m) rfl rfl 98 rs hres Tryd.size8w (hrs.trans (stv_size5 m).symm) (stv_one5 m) ?_))
      refine bodyPost_ret (results_cell_row rfl _ _ (w.heap.size + 1) 98 (stv5 m) (0, 0) _ rfl (setRow_heap _ _ _ _ _ _ hres) Tryd.underlying98 rfl Tryd.size8w) rfl ?_
      exact ⟨rfl, hF.trans (Fr.setRow (S := fun k => k = w.heap.size + 1) (Fr.refl _ _) rfl _) (fun i hi => Or.inr (by omega))⟩
end Go.Proofs.YtbpblheaiancaaaDoor
namespace Go.Proofs.YtbpblheaiancaaaDoor
open Go.RowKit
set_option linter.unusedVariables false

/-- The cells of a run of package sha5: eight words, 128 bytes, a count. -/
def hcells5 (wl : List Value) (tl : List UInt8) (n : Nat) : List Value := wl ++ (bv tl ++ [.int .i64 (n : Int)])
structure HB5 (w : World) (bh : Nat) (wl : List Value) (tl : List UInt8) (n : Nat) : Prop where
  blk : w.heap[bh]? = some (.cells (hcells5 wl tl n).toArray 102 (0, 0))
  w8 : wl.length = 8
  t64 : tl.length = 128
  one : ∀ v ∈ wl, v.oneCell' = true
theorem HB5.cell {w : World} {bh n : Nat} {wl : List Value} {tl : List UInt8} (h : HB5 w bh wl tl n) (o : Nat) : w.cell? ⟨bh, o, none⟩ = (hcells5 wl tl n)[o]? := by
  rw [cell_of_block h.blk]; simp
theorem HB5.count {w : World} {bh n : Nat} {wl : List Value} {tl : List UInt8} (h : HB5 w bh wl tl n) : w.cell? ⟨bh, 136, none⟩ = some (.int .i64 (n : Int)) := by
  rw [h.cell]
  unfold hcells5
  rw [List.getElem?_append_right (by rw [h.w8]; omega), List.getElem?_append_right (by simp [h.w8, h.t64])]
  simp [h.w8, h.t64]
theorem HB5.tail {w : World} {bh n : Nat} {wl : List Value} {tl : List UInt8} (h : HB5 w bh wl tl n) : Blk5 w bh 8 tl := by
  intro j hj
  rw [h.cell]
  unfold hcells5
  rw [List.getElem?_append_right (by rw [h.w8]; omega), List.getElem?_append_left (by simp [h.w8, h.t64]; omega), h.w8, show 8 + j - 8 = j by omega, bv_get' tl j (by rw [h.t64]; omega)]
  simp [List.getD, h.t64, hj]
theorem HB5.words {w : World} {bh n : Nat} {wl : List Value} {tl : List UInt8} (h : HB5 w bh wl tl n) : w.rangeAt bh 0 wl := by
  intro j v hv
  rw [h.cell]
  unfold hcells5
  rw [Nat.zero_add, List.getElem?_append_left (List.getElem?_eq_some_iff.1 hv).1]
  exact hv
theorem HB5.length {w : World} {bh n : Nat} {wl : List Value} {tl : List UInt8} (h : HB5 w bh wl tl n) : (hcells5 wl tl n).length = 137 := by
  simp [hcells5, h.w8, h.t64]
theorem HB5.fr {w w2 : World} {bh n : Nat} {wl : List Value} {tl : List UInt8} {S : Nat → Prop} (h : HB5 w bh wl tl n) (hF : Fr S w w2) (hs : ¬ S bh) : HB5 w2 bh wl tl n :=
  ⟨(hF.block bh (lt_of_block h.blk) hs).trans h.blk, h.w8, h.t64, h.one⟩
theorem HB5.there {w : World} {bh n : Nat} {wl : List Value} {tl : List UInt8} (h : HB5 w bh wl tl n) : w.there bh 0 8 := by
  intro j hj
  refine ⟨?_, free_of_block h.blk _⟩
  rw [h.cell]
  have := h.length
  simp only [Nat.zero_add]
  rw [List.getElem?_eq_getElem (by omega)]; rfl
/-- The words are set. -/
theorem HB5.setWords {w : World} {bh n : Nat} {wl : List Value} {tl : List UInt8} (h : HB5 w bh wl tl n) (s : S5.St) : HB5 (w.setCells bh 0 (stv5 s).toList) bh (stv5 s).toList tl n := by
  refine ⟨?_, rfl, h.t64, fun v hv => (Array.all_eq_true_iff_forall_mem.1 (stv_one5 s)) v (by simpa using hv)⟩
  rw [setCells_block (stv5 s).toList 0 (hcells5 wl tl n) w h.blk (by rw [h.length]; show 0 + 8 ≤ 137; omega)]
  congr 3
  rw [List.take_zero, List.nil_append, show 0 + (stv5 s).toList.length = wl.length by rw [h.w8]; rfl]
  simp [hcells5]
/-- The count is set. -/
theorem HB5.setCount {w : World} {bh n : Nat} {wl : List Value} {tl : List UInt8} (h : HB5 w bh wl tl n) (n2 : Nat) (v : Int) (hv : v = (n2 : Int)) : HB5 (w.setCell ⟨bh, 136, none⟩ (.int .i64 v)) bh wl tl n2 := by
  subst hv
  refine ⟨?_, h.w8, h.t64, h.one⟩
  rw [block_setCell h.blk]
  congr 2
  rw [List.setIfInBounds_toArray]
  congr 1
  unfold hcells5
  rw [List.set_append_right _ _ (by rw [h.w8]; omega), List.set_append_right _ _ (by simp [h.w8, h.t64])]
  simp [h.w8, h.t64]
/-- Bytes are copied into the tail. -/
theorem HB5.setTail {w : World} {bh n : Nat} {wl : List Value} {tl : List UInt8} (h : HB5 w bh wl tl n) (r : Nat) (x : List UInt8) (hr : r + x.length ≤ 128) :
    HB5 (w.setRow bh ((hcells5 wl tl n).toArray.toList.take (8 + r) ++ (bv x ++ (hcells5 wl tl n).toArray.toList.drop (8 + r + (bv x).length))).toArray) bh wl (tl.take r ++ (x ++ tl.drop (r + x.length))) n := by
  refine ⟨?_, h.w8, by simp [h.t64]; omega, h.one⟩
  rw [setRow_heap _ _ _ _ _ _ h.blk]
  congr 3
  unfold hcells5
  have e1 : (wl ++ (bv tl ++ [Value.int .i64 (n : Int)])).take (8 + r) = wl ++ bv (tl.take r) := by
    rw [← h.w8, List.take_length_add_append, List.take_append_of_le_length (by simp [h.t64]; omega)]
    simp [bv, List.map_take]
  have e2 : (wl ++ (bv tl ++ [Value.int .i64 (n : Int)])).drop (8 + r + (bv x).length) = bv (tl.drop (r + x.length)) ++ [Value.int .i64 (n : Int)] := by
    rw [show 8 + r + (bv x).length = wl.length + (r + x.length) by rw [h.w8, bv_length]; omega, List.drop_length_add_append, List.drop_append_of_le_length (by simp [h.t64]; omega)]
    simp [bv, List.map_drop]
  rw [List.toList_toArray, e1, e2, bv_append, bv_append]
  simp

/-- The Hash has taken l. -/
structure HInv5 (w : World) (bh : Nat) (l : List UInt8) (tl : List UInt8) : Prop where
  hb : HB5 w bh (stv5 (S5.hw l)).toList tl l.length
  tail : tl.take (l.length % 128) = l.drop (128 * (l.length / 128))
end Go.Proofs.YtbpblheaiancaaaDoor

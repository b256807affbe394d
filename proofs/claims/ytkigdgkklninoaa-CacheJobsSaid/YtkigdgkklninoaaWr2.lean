/-
  same: is a part the document's?
-/
import Derived.Test.YtkigdgkklninoaaWq
namespace Go.Proofs.Ytkigdgkklninoaa
open Go.RowKit
set_option linter.unusedVariables false
set_option linter.unusedSimpArgs false
theorem str_cell {w : World} {base : Nat} {a : Option Addr} {q c : Nat} {L : List ByteArray} (O : w.ownsRow base 9 1 (.slice a q c) q (L.map Value.string)) (hq : L.length = q) {k : Nat} {x : ByteArray} (hx : L[k]? = some x) : ∃ g, a = some ⟨g, 0, none⟩ ∧ w.cell? ⟨g, k, none⟩ = some (.string x) := by
  have hk := (List.getElem?_eq_some_iff.1 hx).1
  rcases O.2 with ⟨_, h0⟩ | ⟨g, cap, gc, e, _, hg, hnc, _, hs, ht⟩
  · omega
  · injection e with e1 e2 e3
    subst e1 e3
    refine ⟨g, rfl, ?_⟩
    rw [cell_of_block hg, ← Array.getElem?_toList, ← List.getElem?_take_of_lt (show k < q * 1 by omega), ht, List.getElem?_map, hx]
    rfl
set_option maxRecDepth 100000 in
set_option maxHeartbeats 6400000 in
theorem same_loop {Q : Exit → Act → World → Prop} {w0 w : World} {b7 q c7 : Nat} {a7 : Option Addr} {L7 : List ByteArray} {{base2 pw off : Nat}} {{T : TypeId}} {{cu2 : Array Value}} {{sz2 : Int}} {{v2 : Value}} {{L2 : List (ByteArray × ByteArray)}} {{h2 m2 : Int}} (O : w.ownsRow b7 9 1 (.slice a7 q c7) q (L7.map Value.string)) (hq : L7.length = q) (hq1 : q ≤ 1000) (p : RP w base2 pw off T cu2 sz2 v2 L2 h2 m2) (hlen : L2.length = q) (hrel : ∀ (j : Nat) (x : ByteArray) (y : ByteArray × ByteArray), L7[j]? = some x → L2[j]? = some y → (x.toList == y.1.toList) = true) (hF : Fr (fun _ => False) w0 w) (fr : Array Value) (hn : fr.size = 63) (p2 : fr[2]? = some (.pointer (some ⟨pw, off, none⟩))) (p7 : fr[7]? = some (.slice a7 q c7)) (p10 : fr[10]? = some (.int .i64 (0)))
    (hexit : ∀ t' w', t'.size = 63 → Fr (fun _ => False) w0 w' → Q (.exit 0) ⟨t', []⟩ w') :
    Code.wp Try.prog (.loop (loopAt Try.f16 0)) Q ⟨fr, []⟩ w := by
  refine wp_loop_up q (fun k t w' => t.size = 63 ∧ t[2]? = some (.pointer (some ⟨pw, off, none⟩)) ∧ t[7]? = some (.slice a7 q c7) ∧ t[10]? = some (.int .i64 (k : Int)) ∧ Fr (fun _ => False) w w') fr w ⟨hn, p2, p7, p10, Fr.refl _ w⟩ ?_
  clear hn p2 p7 p10 fr
  rintro k fr w1 hk ⟨hn, p2, p7, p10, F⟩ K hK
  by_cases hlt : k < q
  · obtain ⟨x, hx⟩ : ∃ x, L7[k]? = some x := ⟨_, List.getElem?_eq_getElem (by omega)⟩
    obtain ⟨y, hy⟩ : ∃ y, L2[k]? = some y := ⟨_, List.getElem?_eq_getElem (by omega)⟩
    have hxy := hrel k x y hx hy
    have O1 := F.own O (fun _ _ h => h)
    have P1 := p.fr F (fun h => h) (fun _ _ h => h)
    obtain ⟨a9, c9, rfl⟩ := P1.form
    rw [hlen] at P1
    obtain ⟨g7, rfl, x0⟩ := str_cell O1 hq hx
    obtain ⟨g9, rfl, y0, y1⟩ := pair_cells (L := L2) (by have := P1.own; rw [hlen] at this ⊢; exact this) hy
    have z1 := P1.c.2.1
    have q1 : (k : Int) < (q : Int) := by omega
    have q0 : (0 : Int) ≤ (k : Int) := Int.natCast_nonneg k
    have w1' : wrap64 ((k : Int) + 1) = ((k + 1 : Nat) : Int) := by rw [IntWalk.wrap64_in _ (by omega)]; omega
    have W1 := Lib.hid w1'
    have HK := Lib.hid hK
    have HF := Lib.hid F
    have HLT := Lib.hid hlt
    have HXY := Lib.hid hxy
    clear hexit hF hK hk hlt hq hq1 hlen hrel hx hy O1 P1 p O w1' F hxy
    obtain ⟨f, hff, rfl⟩ := frame_open hn
    have e2 := hff 2 _ p2
    have e7 := hff 7 _ p7
    have e10 := hff 10 _ p10
    clear hff hn p2 p7 p10
    rw [lit63, e2, e7, e10]
    clear e2 e7 e10
    conv => arg 2; whnf
    go_wp2_with fail
    refine wp_region_keep (by kernel_rfl) (by kernel_rfl) ?_
    have x0' : ∀ z : Wd w1, z.w.cell? ⟨g7, k, none⟩ = some (.string x) := fun z => z.h.cellSome (fun h => h) x0
    have y0' : ∀ z : Wd w1, z.w.cell? ⟨g9, k * 2, none⟩ = some (.string y.1) := fun z => z.h.cellSome (fun h => h) y0
    have z1' : ∀ z : Wd w1, z.w.cell? ⟨pw, off + 1, none⟩ = some (.slice (some ⟨g9, 0, none⟩) q c9) := fun z => z.h.cellSome (fun h => h) z1
    have hxy := HXY.out
    repeat (any_goals (first | go_big_quiet_step (fail) | quiet_step (fail)))
    refine wpQuiet_nil ?_
    intro _ hwz
    obtain ⟨z, rfl⟩ := hwz
    have HZ := Lib.hid (HF.out.trans z.h (fun _ h => h.elim))
    clear x0' y0' z1' x0 y0 y1 z1
    go_wp2_with fail
    (try rw [W1.out])
    exact HK.out _ _ HLT.out ⟨rfl, rfl, rfl, rfl, HZ.out⟩
  · obtain rfl : k = q := by omega
    have q1 : ¬ ((k : Int) < (k : Int)) := by omega
    have HE := Lib.hid hexit
    have HF := Lib.hid (hF.trans F (fun _ h => h.elim))
    clear hexit hF F hK hk hlt hq1 hlen hrel p O
    obtain ⟨f, hff, rfl⟩ := frame_open hn
    have e2 := hff 2 _ p2
    have e7 := hff 7 _ p7
    have e10 := hff 10 _ p10
    clear hff hn p2 p7 p10
    rw [lit63, e2, e7, e10]
    clear e2 e7 e10
    conv => arg 2; whnf
    go_wp2_with fail
    exact HE.out _ _ rfl HF.out
set_option maxRecDepth 100000 in
set_option maxHeartbeats 6400000 in
theorem same_any {w : World} {base cb pb n sz : Nat} {cur : Array Value} {f : Nat → Ps} {q : Int} (C : CS w base cb pb n sz cur f q) (i : Nat) (hi : i < n) {{base2 pw off : Nat}} {{T : TypeId}} {{cu2 : Array Value}} {{sz2 : Int}} {{v2 : Value}} {{L2 : List (ByteArray × ByteArray)}} {{h2 m2 : Int}} (p : RP w base2 pw off T cu2 sz2 v2 L2 h2 m2) (hlen : L2.length = (f i).L.length) (hrel : ∀ (j : Nat) (x y : ByteArray × ByteArray), (f i).L.reverse[j]? = some x → L2[j]? = some y → (x.1.toList == y.1.toList) = true) (hh : (f i).h = h2) (hm : (f i).m = m2) :
    Calls Try.prog 16 #[.pointer (some ⟨cb, 0, none⟩), .int .i64 (i : Int), .pointer (some ⟨pw, off, none⟩)] w fun e w' => e = .returned (.bool true) ∧ Fr (fun _ => False) w w' := by
  have HN := Lib.hid (C.names i hi)
  have HH := Lib.hid (fun (w2 : World) (F : Fr (fun _ => False) w w2) => (C.fr F (fun _ _ h => h)).hits i hi)
  have hl1 : (f i).L.length ≤ 1000 := by have := C.len i hi; have := C.s2; omega
  have HP := Lib.hid p
  have HL := Lib.hid (And.intro hlen hl1)
  have HR := Lib.hid hrel
  subst hh hm
  clear C hi p hlen hrel hl1
  go_enter Try.func16, Try.ntmps16
  go_wp2_with fail
  refine HN.out.mono ?_
  rintro e w1 ⟨v7, rfl, O7, F7⟩
  obtain ⟨a7, c7, rfl⟩ : ∃ a c, v7 = .slice a (f i).L.length c := by
    rcases O7.2 with ⟨e, h0⟩ | ⟨g, cap, gc, e, _⟩
    · exact ⟨none, 0, by rw [e, h0]⟩
    · exact ⟨_, _, e⟩
  have HO7 := Lib.hid O7
  have HF7 := Lib.hid F7
  clear O7 F7
  go_wp2_with fail
  refine (HH.out w1 HF7.out).mono ?_
  rintro e w2 ⟨rfl, F2⟩
  have HF2 := Lib.hid (HF7.out.trans F2 (fun _ h => h.elim))
  have HO2 := Lib.hid (F2.own HO7.out (fun _ _ h => h))
  have P2 := HP.out.fr HF2.out (fun h => h) (fun _ _ h => h)
  obtain ⟨a9, c9, rfl⟩ := P2.form
  rw [HL.out.1] at P2
  obtain ⟨_, z1, z2, z3, _⟩ := P2.c
  have HP2 := Lib.hid P2
  have y2 : ((f i).h == (f i).h) = true := beq_self_eq_true _
  have y3 : ((f i).m == (f i).m) = true := beq_self_eq_true _
  clear F2 P2
  go_wp2_with fail
  refine same_loop (w0 := w) (L7 := (f i).L.reverse.map (·.1)) (q := (f i).L.length) (by have := HO2.out; rw [List.map_map]; exact this) (by simp) HL.out.2 (by have := HP2.out; rw [← HL.out.1] at this; exact this) HL.out.1 (fun j x y hx hy => ?_) HF2.out _ rfl rfl rfl rfl ?_
  · rw [List.getElem?_map] at hx
    cases hz : (f i).L.reverse[j]? with
    | none => rw [hz] at hx; simp at hx
    | some z =>
      rw [hz] at hx
      obtain rfl : z.1 = x := by simpa using hx
      exact HR.out j z y hz hy
  intro t' w4 hn F4
  have HF4 := Lib.hid F4
  obtain ⟨ff, hff, rfl⟩ := frame_open hn
  rw [lit63]
  clear hff hn F4
  go_wp2_with fail
  go_ret
  exact ⟨rfl, HF4.out⟩
end Go.Proofs.Ytkigdgkklninoaa

/-
  A schedule of any length: what is found.
-/
import Derived.Test.YtcpapielklplcaaAa
namespace Go.Proofs.Ytcpapielklplcaa
open Go.RowKit
set_option linter.unusedVariables false
set_option linter.unusedSimpArgs false
/-- What find tells. -/
def Found (L : List Mb) (s : ByteArray) (e : Ending) : Prop := ∃ k : Nat, ∃ b : Bool, e = .returned (.tuple #[.int .i64 (k : Int), .bool b]) ∧ k ≤ L.length ∧ (b = true → ∃ m, L[k]? = some m ∧ m.id.toList = s.toList)
set_option maxRecDepth 100000 in
set_option maxHeartbeats 1600000 in
theorem bs_any (v : Value) (L : List Mb) (s : ByteArray) (base : Nat) (w : World) (own : MR w base v L) (hl : L.length ≤ 1000) : Calls Try.prog 15 #[v, .string s, .func (.func 16) #[] #[]] w fun e w' => Found L s e ∧ Fr (fun _ => False) w w' := by
  obtain ⟨a, c, rfl⟩ := mr_form own
  have HO := Lib.hid own
  have HL := Lib.hid hl
  clear own hl
  go_enter Try.func15, Try.ntmps15
  go_wp2_with fail
  go_loopw [9, 10] (fun i j wr => ∃ x y : Nat, i = .int .i64 (x : Int) ∧ j = .int .i64 (y : Int) ∧ x ≤ y ∧ y ≤ L.length ∧ Fr (fun _ => False) w wr) (fun i j _ => (intOf j).toNat - (intOf i).toNat)
  case atStart => exact ⟨0, L.length, by simp, by simp, Nat.zero_le _, Nat.le_refl _, Fr.refl _ _⟩
  case round =>
    obtain ⟨x, y, rfl, rfl, hxy, hy, F⟩ := hrel
    have HF := Lib.hid F
    have hl := HL.out
    by_cases hlt : x < y
    · have q1 : (x : Int) < (y : Int) := by omega
      obtain ⟨h, hh⟩ : ∃ h, h = (x + y) / 2 := ⟨_, rfl⟩
      have hz : ((x : Int) + (y : Int)) / 2 = (h : Int) := by omega
      have h1 : x ≤ h := by omega
      have h2 : h < y := by omega
      obtain ⟨⟨mi, mp, ma⟩, hm⟩ : ∃ m, L[h]? = some m := ⟨_, List.getElem?_eq_getElem (by omega)⟩
      obtain ⟨g, rfl, _, c0, c1, c2⟩ := mr_cells (F.own HO.out (fun _ _ h => h)) hm
      simp only at c0 c1 c2
      have hlc : (h : Int) < (L.length : Int) := by omega
      have hw : wrap64 ((h : Int) + 1) = ((h + 1 : Nat) : Int) := by rw [IntWalk.wrap64_in _ (by omega)]; omega
      have HW := Lib.hid hw
      have HH := Lib.hid (And.intro hxy (And.intro hy (And.intro h1 (And.intro h2 hh))))
      clear F hw h1 h2 hh hm hlt
      go_wp2_with fail
      refine (clos_any mi s mp ma _).mono ?_
      rintro e w1 ⟨⟨r, rfl, hr⟩, F1⟩
      have HF1 := Lib.hid (HF.out.trans F1 (fun _ h => h.elim))
      clear F1 hr c0 c1 c2
      by_cases hr0 : r < 0
      · go_wp2_with fail
        (try rw [HW.out])
        obtain ⟨z1, z2, z3, z4, z5⟩ := HH.out
        exact ⟨⟨h + 1, y, by simp, rfl, by omega, z2, HF1.out⟩, by simp [intOf]; omega⟩
      · go_wp2_with fail
        obtain ⟨z1, z2, z3, z4, z5⟩ := HH.out
        exact ⟨⟨x, h, rfl, rfl, by omega, by omega, HF1.out⟩, by simp [intOf]; omega⟩
    · obtain rfl : x = y := by omega
      have q1 : ¬ ((x : Int) < (x : Int)) := by omega
      by_cases hn : x < L.length
      · obtain ⟨⟨mi, mp, ma⟩, hm⟩ : ∃ m, L[x]? = some m := ⟨_, List.getElem?_eq_getElem (by omega)⟩
        obtain ⟨g, rfl, _, c0, c1, c2⟩ := mr_cells (F.own HO.out (fun _ _ h => h)) hm
        simp only at c0 c1 c2
        have hlc : (x : Int) < (L.length : Int) := by omega
        have HM := Lib.hid hm
        have HY := Lib.hid hy
        clear F hl hxy hy hm hlt hn
        go_wp2_with fail
        refine (clos_any mi s mp ma _).mono ?_
        rintro e w1 ⟨⟨r, rfl, hr⟩, F1⟩
        have HF1 := Lib.hid (HF.out.trans F1 (fun _ h => h.elim))
        have HR := Lib.hid hr
        clear F1 hr c0 c1 c2
        go_wp2_with fail
        go_returns
        exact ⟨⟨x, _, rfl, HY.out, fun hb => ⟨_, HM.out, HR.out (by simpa using hb)⟩⟩, HF1.out⟩
      · have hlc : ¬ ((x : Int) < (L.length : Int)) := by omega
        have HY := Lib.hid hy
        clear F hl hxy hy hlt hn
        go_wp2_with fail
        go_returns
        exact ⟨⟨x, _, rfl, HY.out, fun hb => absurd hb (by decide)⟩, HF.out⟩
set_option maxRecDepth 100000 in
set_option maxHeartbeats 1600000 in
theorem find_any (ps : Nat) (now : Int) (v : Value) (L : List Mb) (s : ByteArray) (base : Nat) (w : World) (h : Sd w base ps now v L) (hl : L.length ≤ 1000) : Calls Try.prog 9 #[.pointer (some ⟨ps, 0, none⟩), .string s] w fun e w' => Found L s e ∧ Fr (fun _ => False) w w' := by
  obtain ⟨_, c1, _⟩ := h.blk.c
  have HB := Lib.hid (bs_any v L s base w h.own hl)
  obtain ⟨a, c, rfl⟩ := mr_form h.own
  clear h hl
  go_enter Try.func9, Try.ntmps9
  go_wp2_with fail
  refine HB.out.mono ?_
  rintro e w1 ⟨⟨k, b, rfl, hk, hb⟩, F1⟩
  have HK := Lib.hid hk
  have HBB := Lib.hid hb
  have HF := Lib.hid F1
  clear hk hb F1
  go_wp2_with fail
  go_returns
  exact ⟨⟨k, b, rfl, HK.out, HBB.out⟩, HF.out⟩
end Go.Proofs.Ytcpapielklplcaa

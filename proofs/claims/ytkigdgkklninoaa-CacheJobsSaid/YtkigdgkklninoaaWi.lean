/-
  caches: the law's own look.
-/
import Derived.Test.YtkigdgkklninoaaWh
namespace Go.Proofs.Ytkigdgkklninoaa
open Go.RowKit
set_option linter.unusedVariables false
set_option linter.unusedSimpArgs false
theorem k1 : putL 2 ⟨#[97]⟩ ⟨#[49]⟩ [] = [(⟨#[97]⟩, ⟨#[49]⟩)] := by kernel_rfl
theorem k2 : putL 2 ⟨#[98]⟩ ⟨#[50]⟩ [(⟨#[97]⟩, ⟨#[49]⟩)] = [(⟨#[97]⟩, ⟨#[49]⟩), (⟨#[98]⟩, ⟨#[50]⟩)] := by kernel_rfl
theorem k3 : getL ⟨#[97]⟩ [(⟨#[97]⟩, ⟨#[49]⟩), (⟨#[98]⟩, ⟨#[50]⟩)] = [(⟨#[98]⟩, ⟨#[50]⟩), (⟨#[97]⟩, ⟨#[49]⟩)] := by kernel_rfl
theorem k4 : getV ⟨#[97]⟩ [(⟨#[97]⟩, ⟨#[49]⟩), (⟨#[98]⟩, ⟨#[50]⟩)] = ⟨#[49]⟩ := by kernel_rfl
theorem k5 : getB ⟨#[97]⟩ [(⟨#[97]⟩, ⟨#[49]⟩), (⟨#[98]⟩, ⟨#[50]⟩)] = true := by kernel_rfl
theorem k6 : putL 2 ⟨#[99]⟩ ⟨#[51]⟩ [(⟨#[98]⟩, ⟨#[50]⟩), (⟨#[97]⟩, ⟨#[49]⟩)] = [(⟨#[97]⟩, ⟨#[49]⟩), (⟨#[99]⟩, ⟨#[51]⟩)] := by kernel_rfl
set_option maxRecDepth 100000 in
set_option maxHeartbeats 6400000 in
theorem caches_any (w : World) : Calls Try.prog 9 #[] w fun e w' => e = .returned (.bool true) ∧ Fr (fun _ => False) w w' := by
  go_enter Try.func9, Try.ntmps9
  go_wp2_with fail
  refine (new_cs 1 2 (by decide) (by decide) (by decide) (by decide) w).mono ?_
  rintro e w1 ⟨cb, pb, cur, rfl, C, F⟩
  have HC := Lib.hid C
  have HF := Lib.hid F
  clear C F
  go_wp2_with fail
  refine (HC.out.put 0 (by decide) ⟨#[97]⟩ ⟨#[49]⟩).mono ?_
  rintro e w2 ⟨rfl, cur1, v1, C1, o1, F1⟩
  have HF1 := Lib.hid (fr_up HF.out F1 (fun k hk => (HC.out.lt k (hk.elim (fun e => .inr (.inl e)) (fun e => .inr (.inr ⟨0, by decide, e⟩)))).1))
  rw [show (putL 2 ⟨#[97]⟩ ⟨#[49]⟩ ((fun _ => ⟨.slice none 0 0, [], 0, 0⟩ : Nat → Ps) 0).L) = [(⟨#[97]⟩, ⟨#[49]⟩)] from k1] at C1
  have e1 : (upd (fun _ => ⟨.slice none 0 0, [], 0, 0⟩) 0 ⟨v1, [(⟨#[97]⟩, ⟨#[49]⟩)], ((fun _ => ⟨.slice none 0 0, [], 0, 0⟩ : Nat → Ps) 0).h, ((fun _ => ⟨.slice none 0 0, [], 0, 0⟩ : Nat → Ps) 0).m⟩ 0).L = [(⟨#[97]⟩, ⟨#[49]⟩)] := rfl
  generalize upd (fun _ => ⟨.slice none 0 0, [], 0, 0⟩) 0 ⟨v1, [(⟨#[97]⟩, ⟨#[49]⟩)], ((fun _ => ⟨.slice none 0 0, [], 0, 0⟩ : Nat → Ps) 0).h, ((fun _ => ⟨.slice none 0 0, [], 0, 0⟩ : Nat → Ps) 0).m⟩ = f1 at *
  have HC1 := Lib.hid C1
  have HE1 := Lib.hid e1
  clear C1 F1 e1 HC o1
  go_wp2_with fail
  refine (HC1.out.put 0 (by decide) ⟨#[98]⟩ ⟨#[50]⟩).mono ?_
  rintro e w3 ⟨rfl, cur2, v2, C2, o2, F2⟩
  have HF2 := Lib.hid (fr_up HF1.out F2 (fun k hk => (HC1.out.lt k (hk.elim (fun e => .inr (.inl e)) (fun e => .inr (.inr ⟨0, by decide, e⟩)))).1))
  rw [HE1.out, k2] at C2
  have e2 : (upd f1 0 ⟨v2, [(⟨#[97]⟩, ⟨#[49]⟩), (⟨#[98]⟩, ⟨#[50]⟩)], (f1 0).h, (f1 0).m⟩ 0).L = [(⟨#[97]⟩, ⟨#[49]⟩), (⟨#[98]⟩, ⟨#[50]⟩)] := rfl
  generalize upd f1 0 ⟨v2, [(⟨#[97]⟩, ⟨#[49]⟩), (⟨#[98]⟩, ⟨#[50]⟩)], (f1 0).h, (f1 0).m⟩ = f2 at *
  have HC2 := Lib.hid C2
  have HE2 := Lib.hid e2
  clear C2 F2 e2 HC1 o2
  go_wp2_with fail
  have G := HC2.out.get (by decide) 0 (by decide) ⟨#[97]⟩
  rw [HE2.out, k3, k4, k5] at G
  refine G.mono ?_
  rintro e w4 ⟨rfl, cur3, v3, C3, o3, F3⟩
  have HF3 := Lib.hid (fr_up HF2.out F3 (fun k hk => (HC2.out.lt k (hk.elim (fun e => .inr (.inl e)) (fun e => .inr (.inr ⟨0, by decide, e⟩)))).1))
  have e3 : ∀ x y : Int, (upd f2 0 ⟨v3, [(⟨#[98]⟩, ⟨#[50]⟩), (⟨#[97]⟩, ⟨#[49]⟩)], x, y⟩ 0).L = [(⟨#[98]⟩, ⟨#[50]⟩), (⟨#[97]⟩, ⟨#[49]⟩)] := fun x y => rfl
  obtain ⟨f3, hf3, e3'⟩ : ∃ f3 : Nat → Ps, CS w4 w.heap.size cb pb 1 2 cur3 f3 (0 + 1) ∧ (f3 0).L = [(⟨#[98]⟩, ⟨#[50]⟩), (⟨#[97]⟩, ⟨#[49]⟩)] := ⟨_, C3, e3 _ _⟩
  have HC3 := Lib.hid hf3
  have HE3 := Lib.hid e3'
  clear C3 F3 e3 HC2 o3 hf3 e3' G
  go_wp2_with fail
  refine (HC3.out.put 0 (by decide) ⟨#[99]⟩ ⟨#[51]⟩).mono ?_
  rintro e w5 ⟨rfl, cur4, v4, C4, o4, F4⟩
  have HF4 := Lib.hid (fr_up HF3.out F4 (fun k hk => (HC3.out.lt k (hk.elim (fun e => .inr (.inl e)) (fun e => .inr (.inr ⟨0, by decide, e⟩)))).1))
  rw [HE3.out, k6] at C4
  have e4 : (upd f3 0 ⟨v4, [(⟨#[97]⟩, ⟨#[49]⟩), (⟨#[99]⟩, ⟨#[51]⟩)], (f3 0).h, (f3 0).m⟩ 0).L = [(⟨#[97]⟩, ⟨#[49]⟩), (⟨#[99]⟩, ⟨#[51]⟩)] := rfl
  generalize upd f3 0 ⟨v4, [(⟨#[97]⟩, ⟨#[49]⟩), (⟨#[99]⟩, ⟨#[51]⟩)], (f3 0).h, (f3 0).m⟩ = f4 at *
  have N := C4.names 0 (by decide)
  rw [e4] at N
  have HN := Lib.hid N
  clear C4 F4 e4 HC3 o4 N
  go_wp2_with fail
  refine HN.out.mono ?_
  rintro e w6 ⟨v5, rfl, O5, F5⟩
  have HF5 := Lib.hid (HF4.out.trans F5 (fun _ h => h.elim))
  rcases O5.2 with ⟨_, h0⟩ | ⟨g, cap, gc, rfl, _, hg, _, _, _, ht⟩
  · exact absurd h0 (by decide)
  have hl : ([(⟨#[97]⟩, ⟨#[49]⟩), (⟨#[99]⟩, ⟨#[51]⟩)] : List (ByteArray × ByteArray)).length = 2 := rfl
  have c0 : w6.cell? ⟨g, 0, none⟩ = some (.string ⟨#[99]⟩) := by
    rw [cell_of_block hg, ← Array.getElem?_toList, ← List.getElem?_take_of_lt (show 0 < ([(⟨#[97]⟩, ⟨#[49]⟩), (⟨#[99]⟩, ⟨#[51]⟩)] : List (ByteArray × ByteArray)).length * 1 by decide), ht]; rfl
  have c1 : w6.cell? ⟨g, 1, none⟩ = some (.string ⟨#[97]⟩) := by
    rw [cell_of_block hg, ← Array.getElem?_toList, ← List.getElem?_take_of_lt (show 1 < ([(⟨#[97]⟩, ⟨#[49]⟩), (⟨#[99]⟩, ⟨#[51]⟩)] : List (ByteArray × ByteArray)).length * 1 by decide), ht]; rfl
  rw [hl]
  clear O5 F5 hg ht hl
  go_wp2_with fail
  go_ret
  exact ⟨rfl, HF5.out⟩
end Go.Proofs.Ytkigdgkklninoaa

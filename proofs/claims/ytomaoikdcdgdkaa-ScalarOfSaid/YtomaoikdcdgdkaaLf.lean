/-
  The walk of the law ScalarOf.
-/
import Derived.Test.YtomaoikdcdgdkaaCm
import Derived.Test.YtomaoikdcdgdkaaSm
import Derived.Test.YtomaoikdcdgdkaaLg
import Derived.Test.YtomaoikdcdgdkaaLo
namespace Go.Proofs.Ytomaoikdcdgdkaa
open Go.RowKit
set_option linter.unusedVariables false

set_option maxRecDepth 100000 in
set_option maxHeartbeats 3200000 in
theorem sofl_any (a1 : Option Addr) (n1 c1 : Nat) (l1 : List UInt8) (w : World) (h1 : Came w a1 n1 c1 l1) :
    Calls Try.prog 9 #[.slice a1 n1 c1] w fun e w' => e = .returned (.bool true) ∧ Fr (fun _ => False) w w' := by
  have k1 : n1 ≤ 9223372036854775807 := by have := h1.le; have := h1.mx; unfold maxLen at this; omega
  have d1 := h1.le
  have d2 : (c1 : Int) ≤ 9223372036854775807 := by have := h1.mx; unfold maxLen at this; omega
  obtain ⟨q, hq⟩ : ∃ q, q = min n1 200 := ⟨_, rfl⟩
  have hq1 : (if (200 : Int) < (n1 : Int) then (200 : Int) else (n1 : Int)) = (q : Int) := by split <;> omega
  have hq2 : min (n1 : Int) 200 = (q : Int) := by omega
  have hq0 : (0 : Int) ≤ (q : Int) := by omega
  have hqc : (q : Int) ≤ (c1 : Int) := by omega
  have hq3 : q ≤ 200 := by omega
  have C0 := h1.cut q (by omega) (Fr.refl _ w)
  generalize l1.take q = x at C0
  have hxl := C0.len
  have F0 := (Fr.refl (fun _ => False) w).alloc (.cells #[] 5)
  have own0 : Own (w.alloc (.cells #[] 5)) w.heap.size (.slice (some ⟨w.heap.size, 0, none⟩) 0 0) [] := Or.inr ⟨w.heap.size, 0, #[], (0, 0), rfl, Nat.le_refl _, heap_alloc_new w _, Or.inl rfl, Nat.le_refl _, Nat.zero_le _, rfl, rfl⟩
  have hsrc : Src Try.prog 1 40 (.slice a1 q c1) x.length (bv x) (w.alloc (.cells #[] 5)) := by
    have := (C0.lies.grow F0).src c1
    rw [hxl] at this ⊢
    exact this
  have hb1 : ([] : List UInt8).length + x.length ≤ 140737488355328 := by rw [hxl]; simp; omega
  have hz1 : w.heap.size ≤ (w.alloc (.cells #[] 5)).heap.size := by simp
  have HX := Lib.hid hxl
  have HQ := Lib.hid hq
  clear hxl hq
  go_enter Try.func9, Try.ntmps9
  go_wp2_with (at_builtin; refine wpList_own _ rfl (.tmp 4) (.tmp 9) 40 rfl w.heap.size (.slice (some ⟨w.heap.size, 0, none⟩) 0 0) [] x rfl own0 (.slice a1 q c1) rfl hsrc hb1 hz1 ?k)
  case k =>
  intro v2 w2 own2 hg2 hb2
  have F2 : Fr (fun _ => False) w w2 := F0.trans (Fr.ofGrown hg2) (fun i hi => Or.inr (by have := Option.some.inj hi; simp at this; omega))
  obtain ⟨a2, c2, rfl⟩ := own2.slice
  have L2 : Lies w2 a2 x := own2.lies.2.2.2
  have hstr : (convert 40 9 (.slice a2 x.length c2)).run Try.prog w2 = .ok (.string ⟨x.toArray⟩) w2 := run_str L2 c2 9 Try.underlying9
  have hx200 : x.length ≤ 1000000 := by rw [HX.out]; omega
  have HSO := Lib.hid (fun (W : World) (F : Fr (fun _ => False) w2 W) => sof_any a2 x.length c2 x rfl hx200 W (L2.grow F))
  have HRO := Lib.hid (fun (W : World) => of6_any x hx200 W)
  have HSM := Lib.hid (fun (W : World) => same6_any (sv x % LL) (mod_LP _) W)
  have HST := Lib.hid (fun (W : World) (F : Fr (fun _ => False) w2 W) => run_str (L2.grow F) c2 9 Try.underlying9)
  have HOR := Lib.hid (fun (W : World) => orders_any W)

  clear own0 hsrc hb1 hz1 own2 hg2 hb2 C0 h1 hq1 hq2 F0 L2 hx200
  generalize nc (sv x % LL) = NC at *
  generalize nd (sv x % LL) = ND at *
  generalize x.length = xl at *
  go_wp2_with fail
  refine (HOR.out _).mono ?_
  rintro e w3 ⟨rfl, F3⟩
  go_wp2_with fail
  refine (HSO.out _ F3).mono ?_
  rintro e w4 ⟨rfl, F4⟩
  have G4 : Fr (fun _ => False) w2 w4 := F3.trans F4 (fun _ h => h.elim)
  go_wp2_with fail
  refine (HRO.out _).mono ?_
  rintro e w5 ⟨rfl, F5⟩
  have G5 : Fr (fun _ => False) w2 w5 := G4.trans F5 (fun _ h => h.elim)
  go_wp2_with fail
  refine (HSM.out _).mono ?_
  rintro e w6 ⟨rfl, F6⟩
  have G6 : Fr (fun _ => False) w2 w6 := G5.trans F6 (fun _ h => h.elim)
  have hs6 := HST.out w6 G6
  go_wp2
  go_ret
  exact ⟨rfl, F2.trans G6 (fun _ h => h.elim)⟩
end Go.Proofs.Ytomaoikdcdgdkaa

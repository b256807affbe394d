/-
  The walk of the law HmacOf.
-/
import Derived.Test.YtebmbhlhfojpeaaDoorRf
namespace Go.Proofs.YtebmbhlhfojpeaaDoor
open Go.RowKit
set_option linter.unusedVariables false

set_option maxRecDepth 100000 in
set_option maxHeartbeats 1600000 in
theorem hmof_any (a1 : Option Addr) (n1 c1 : Nat) (l1 : List UInt8) (a : Option Addr) (L : List (List UInt8)) (n c : Nat) (w : World) (h1 : Came w a1 n1 c1 l1) (hn : L.length = n) (hn2 : n ≤ maxLen) (hP : Parts w a L) (hE : Env w) (hR : REnv w) :
    Calls Tryd.prog 12 #[.slice a1 n1 c1, .slice a n c] w fun e w' => e = .returned (.bool true) ∧ Fr (fun _ => False) w w' := by
  have k1 : n1 ≤ 9223372036854775807 := by have := h1.le; have := h1.mx; unfold maxLen at this; omega
  have d1 := h1.le
  have d2 : (c1 : Int) ≤ 9223372036854775807 := by have := h1.mx; unfold maxLen at this; omega
  obtain ⟨q, hq⟩ : ∃ q, q = min n1 300 := ⟨_, rfl⟩
  have hq1 : (if (300 : Int) < (n1 : Int) then (300 : Int) else (n1 : Int)) = (q : Int) := by split <;> omega
  have hq2 : min (n1 : Int) 300 = (q : Int) := by omega
  have hq0 : (0 : Int) ≤ (q : Int) := by omega
  have hqc : (q : Int) ≤ (c1 : Int) := by omega
  have hq3 : q ≤ 300 := by omega
  have C0 := h1.cut q (by omega) (Fr.refl _ w)
  generalize l1.take q = x at C0
  have hxl := C0.len
  have F0 := (Fr.refl (fun _ => False) w).alloc (.cells #[] 5)
  have own0 : Own (w.alloc (.cells #[] 5)) w.heap.size (.slice (some ⟨w.heap.size, 0, none⟩) 0 0) [] := Or.inr ⟨w.heap.size, 0, #[], (0, 0), rfl, Nat.le_refl _, heap_alloc_new w _, Or.inl rfl, Nat.le_refl _, Nat.zero_le _, rfl, rfl⟩
  have hsrc : Src Tryd.prog 1 28 (.slice a1 q c1) x.length (bv x) (w.alloc (.cells #[] 5)) := by
    have := (C0.lies.grow F0).src c1
    rw [hxl] at this ⊢
    exact this
  have hb1 : ([] : List UInt8).length + x.length ≤ 140737488355328 := by rw [hxl]; simp; omega
  have hz1 : w.heap.size ≤ (w.alloc (.cells #[] 5)).heap.size := by simp
  have HX := Lib.hid hxl
  have HQ := Lib.hid hq
  clear hxl hq
  go_enter Tryd.func12, Tryd.ntmps12
  go_wp2_with (at_builtin; refine wpList_own _ rfl (.tmp 9) (.tmp 14) 28 rfl w.heap.size (.slice (some ⟨w.heap.size, 0, none⟩) 0 0) [] x rfl own0 (.slice a1 q c1) rfl hsrc hb1 hz1 ?k)
  case k =>
  intro v2 w2 own2 hg2 hb2
  have F2 : Fr (fun _ => False) w w2 := F0.trans (Fr.ofGrown hg2) (fun i hi => Or.inr (by have := Option.some.inj hi; simp at this; omega))
  obtain ⟨a2, c2, rfl⟩ := own2.slice
  have C2 : Came w2 a2 x.length c2 x := by
    obtain ⟨_, e2, e3, e4⟩ := own2.lies
    exact ⟨rfl, e2, e3, e4, fun e => by subst e; exact own2.nilAddr⟩
  rw [HX.out] at C2 ⊢
  clear own0 hsrc hb1 hz1 own2 hg2 hb2 C0 h1 hq1 hq2 F0
  go_wp2_with fail
  refine (few_any a L n c 6 300 6 300 rfl rfl (by decide) (by decide) hn w2 (hP.grow F2) hn2).mono ?_
  rintro e w3 ⟨a3, c3, A, C, rfl, hf, F3⟩
  have hk : (fewL L 6 300).length = min 6 n := by rw [fewL_len, hn]
  have hP3 := hf.parts hk
  have hfl : (fewL L 6 300).flatten.length ≤ 1800 := fewL_flat L 6 300
  have G3 : Fr (fun _ => False) w w3 := F2.trans F3 (fun _ h => h.elim)
  have C3 := C2.grow F3 (fun _ _ h => h)
  have E3 := hE.fr G3 (fun h => h)
  have R3 := hR.fr G3 (fun h => h) (fun h => h)
  generalize fewL L 6 300 = X at *
  generalize hk2 : min 6 n = k at *
  have hk8 : k ≤ 6 := by omega
  have hkm : k ≤ maxLen := by unfold maxLen; omega
  have Hk := Lib.hid hk
  clear hf hP hE hR hn hk2 hn2 C2 F2 F3 hk
  have hS3 : ∀ w' : World, Fr (fun _ => False) w3 w' → (Fr (fun _ => False) w3 w' ∧ (convert 28 9 (.slice a2 q c2)).run Tryd.prog w' = .ok (.string ⟨x.toArray⟩) w') :=
    fun w' hF => ⟨hF, (C3.grow hF (fun _ _ h => h)).str2⟩
  go_wp2_with fail
  go_region_held3 (fun w' => Fr (fun _ => False) w3 w' ∧ (convert 28 9 (.slice a2 q c2)).run Tryd.prog w' = .ok (.string ⟨x.toArray⟩) w')
    (first
      | (exact hS3 _ (by assumption))
      | (exact hS3 _ (Fr.refl _ w3).drew))
    (first
      | (go_at_call 16; refine (all_any a3 X k c3 Hk.out _ (hP3.grow (‹Fr (fun _ => False) w3 _ ∧ _›).1) hkm (by omega)).mono ?_; rintro e w7 ⟨rfl, F7⟩; have F77 := (‹Fr (fun _ => False) w3 _ ∧ _›).1.trans F7 (fun _ h => h.elim)))
  all_goals
    obtain ⟨l, hl⟩ : ∃ l, l = X.flatten := ⟨_, rfl⟩
    rw [← hl]
    rw [← hl] at hfl
    have Hl := Lib.hid hl
    have C7 := C3.grow F77 (fun _ _ h => h)
    have P7 := hP3.grow F77
    have E7 := E3.fr F77 (fun h => h)
    have R7 := R3.fr F77 (fun h => h) (fun h => h)
    have G7 : Fr (fun _ => False) w w7 := G3.trans F77 (fun _ h => h.elim)
    clear C3 hP3 E3 R3 G3 F77 F7 hl hS3
    go_wp2_with fail
    refine (hof_any a2 a3 x q c2 X k c3 w7 C7 (by omega) P7 Hk.out hkm (by rw [← Hl.out]; omega) E7).mono ?_
    rw [← Hl.out]
    rintro e w8 ⟨rfl, F8⟩
    have hone : (sumc (HM.out x l)).all (·.oneCell') = true := sumv_one _
    have hsz : (#[.int .u8 0, .int .u8 0, .int .u8 0, .int .u8 0, .int .u8 0, .int .u8 0, .int .u8 0, .int .u8 0, .int .u8 0, .int .u8 0, .int .u8 0, .int .u8 0, .int .u8 0, .int .u8 0, .int .u8 0, .int .u8 0, .int .u8 0, .int .u8 0, .int .u8 0, .int .u8 0, .int .u8 0, .int .u8 0, .int .u8 0, .int .u8 0, .int .u8 0, .int .u8 0, .int .u8 0, .int .u8 0, .int .u8 0, .int .u8 0, .int .u8 0, .int .u8 0] : Array Value).size = (sumc (HM.out x l)).size := (sumv_size _).symm
    go_wp2_with (with_reducible refine wpList_store_rowA rfl 25 (.tmp 8) (.tmp 24) rfl w8.heap.size (sumc (HM.out x l)) rfl rfl 25 _ (heap_alloc_new w8 _) Tryd.sizeC hsz hone ?k2)
    case k2 =>
    intro w9 h9 hG9
    have F79 : Fr (fun _ => False) w7 w9 := (F8.alloc _).trans hG9 (fun i hi => Or.inr (by have := F8.size; omega))
    have C9 := C7.grow F79 (fun _ _ h => h)
    have P9 := P7.grow F79
    have E9 := E7.fr F79 (fun h => h)
    have R9 := R7.fr F79 (fun h => h) (fun h => h)
    have G9 : Fr (fun _ => False) w w9 := G7.trans F79 (fun _ h => h.elim)
    have L9 := sumc_lies h9
    have hxl2 : x.length ≤ 100000 := by have := HX.out; omega
    have hll2 : l.length ≤ 100000 := by omega
    have Hof := Lib.hid (show S2.sum (HM.out x l) = HM.of x l from rfl)
    clear hone hsz hG9 F79 F8 C7 P7 E7 R7 G7 h9
    generalize w8.heap.size = b9 at *
    have hS : ∀ w' : World, Fr (fun _ => False) w9 w' → (Fr (fun _ => False) w9 w' ∧ (convert 28 9 (.slice (some ⟨b9, 0, none⟩) 32 32)).run Tryd.prog w' = .ok (.string ⟨(HM.of x l).toArray⟩) w' ∧ (convert 28 9 (.slice a2 q c2)).run Tryd.prog w' = .ok (.string ⟨x.toArray⟩) w') :=
      fun w' hF => ⟨hF, by rw [← Hof.out]; exact run_str (L9.grow hF) 32 9 Tryd.underlying9, (C9.grow hF (fun _ _ h => h)).str2⟩
    go_wp2_with fail
    go_region_held3 (fun w' => Fr (fun _ => False) w9 w' ∧ (convert 28 9 (.slice (some ⟨b9, 0, none⟩) 32 32)).run Tryd.prog w' = .ok (.string ⟨(HM.of x l).toArray⟩) w' ∧ (convert 28 9 (.slice a2 q c2)).run Tryd.prog w' = .ok (.string ⟨x.toArray⟩) w')
      (first
        | (exact hS _ (by assumption))
        | (exact hS _ (Fr.refl _ w9).drew))
      (first
        | (go_at_call 32; refine (marks_any _ (E9.fr (‹Fr (fun _ => False) w9 _ ∧ _›).1 (fun h => h))).mono ?_; rintro e w10 ⟨rfl, F10⟩; have F1010 := (‹Fr (fun _ => False) w9 _ ∧ _›).1.trans F10 (fun _ h => h.elim))
        | (go_at_call 33; refine (rof_any x l hxl2 hll2 _ (R9.fr (‹Fr (fun _ => False) w9 _ ∧ _›).1 (fun h => h) (fun h => h))).mono ?_; rintro e w11 ⟨rfl, F11⟩; have F1111 := (‹Fr (fun _ => False) w9 _ ∧ _›).1.trans F11 (fun _ h => h.elim))
        | (go_at_call 16; refine (all_any a3 X k c3 Hk.out _ (P9.grow (‹Fr (fun _ => False) w9 _ ∧ _›).1) hkm (by rw [← Hl.out]; omega)).mono ?_; rw [← Hl.out]; rintro e w12 ⟨rfl, F12⟩; have F1212 := (‹Fr (fun _ => False) w9 _ ∧ _›).1.trans F12 (fun _ h => h.elim)))
    all_goals
      go_wp2
      go_ret
      exact ⟨rfl, G9.trans F1212 (fun _ h => h.elim)⟩
end Go.Proofs.YtebmbhlhfojpeaaDoor

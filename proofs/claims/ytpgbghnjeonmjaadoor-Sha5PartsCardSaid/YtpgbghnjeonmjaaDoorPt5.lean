/-
  The walk of the law Sha5Parts: bytes in any parts have the sum of all.
-/
import Derived.Test.YtpgbghnjeonmjaaDoorSums5
import Derived.Deep.RegionHeld3
namespace Go.Proofs.YtpgbghnjeonmjaaDoor
open Go.RowKit
set_option linter.unusedVariables false

set_option maxRecDepth 100000 in
theorem parts3b {w : World} {b : Nat} {a a2 a3 : Option Addr} {n n2 n3 c c2 c3 : Nat} {x y z : List UInt8} {t : TypeId} {fr : Nat × Nat} (h : w.heap[b]? = some (.cells #[.slice a n c, .slice a2 n2 c2, .slice a3 n3 c3] t fr)) (hx : Came w a n c x) (hy : Came w a2 n2 c2 y) (hz : Came w a3 n3 c3 z) : Parts w (some ⟨b, 0, none⟩) [x, y, z] := by
  refine Or.inr ⟨b, 0, rfl, fun j hj => ?_⟩
  match j, hj with
  | 0, _ => exact ⟨a, c, by rw [cell_of_block h]; simp [hx.len], hx.lies, by have := hx.le; have := hx.len; simp; omega, hx.mx⟩
  | 1, _ => exact ⟨a2, c2, by rw [cell_of_block h]; simp [hy.len], hy.lies, by have := hy.le; have := hy.len; simp; omega, hy.mx⟩
  | 2, _ => exact ⟨a3, c3, by rw [cell_of_block h]; simp [hz.len], hz.lies, by have := hz.le; have := hz.len; simp; omega, hz.mx⟩
set_option maxRecDepth 100000 in
theorem heap_at5 (V : World) (cs : Array Value) (t : TypeId) (b : Nat) (hb : b = V.heap.size) : (V.alloc (.cells cs t)).heap[b]? = some (.cells cs t (0, 0)) := by
  subst hb; exact heap_alloc_new V _
theorem came_none (w : World) : Came w none 0 0 [] := ⟨rfl, Nat.le_refl _, Nat.zero_le _, Or.inl rfl, fun _ => ⟨rfl, rfl⟩⟩
set_option maxRecDepth 100000 in
theorem sumc_map5 (l : List UInt8) : sumc5 l = ((S5.sum l).map Extern.Stop.cell).toArray := by
  refine (ub_ext (by simp [show (S5.sum l).length = 64 from rfl]) (fun j hj => ?_)).symm
  have hl : (S5.sum l).length = 64 := rfl
  rw [List.getElem?_toArray, List.getElem?_map, List.getElem?_eq_getElem (by omega)]
  have e : S5.out (S5.hw (l ++ S5.pad l.length)) = S5.sum l := rfl
  simp only [Option.map_some, Extern.Stop.cell, e, List.getD, List.getElem?_eq_getElem (show j < (S5.sum l).length by omega), Option.getD_some]
  rfl
set_option maxRecDepth 100000 in
theorem eql_sumc5 (x y : List UInt8) (w : World) : (binOp .eql 25 (.agg (sumc5 x)) (.agg (sumc5 y))).run Tryd.prog w = .ok (.bool (S5.sum x == S5.sum y)) w := by
  rw [sumc_map5, sumc_map5]
  refine run_eql_bytes w 25 5 64 Tryd.underlying25 Tryd.underlying5 ?_ _ _ rfl rfl
  intro w2
  obtain ⟨i0, hi, hz⟩ := Option.map_eq_some_iff.1 Tryd.sizeB
  simp [sizeOf, typeInfo, hi, hz]
set_option maxRecDepth 100000 in
theorem Tryd.guard64 : Tryd.prog.eqGuardType Tryd.prog.depth 25 = false := by kernel_rfl
/-- What stands behind r of the bytes. -/
theorem Came.tail {w : World} {g q c r : Nat} {x : List UInt8} (h : Came w (some ⟨g, 0, none⟩) q c x) (hr : r ≤ q) : Came w (if c = r then some ⟨g, 0, none⟩ else some ⟨g, r, none⟩) (q - r) (c - r) (x.drop r) := by
  have h1 := h.len
  have h2 := h.le
  have h3 := h.mx
  refine ⟨by rw [List.length_drop]; omega, by omega, by omega, ?_, fun e => by split at e <;> cases e⟩
  split
  · exact Or.inl (List.drop_eq_nil_of_le (by omega))
  · have := h.lies.drop r
    rwa [Nat.zero_add] at this

set_option maxRecDepth 100000 in
set_option maxHeartbeats 16000000 in
theorem parts5_any (a1 : Option Addr) (n1 c1 : Nat) (l1 : List UInt8) (z : Int) (w : World) (h1 : Came w a1 n1 c1 l1) (hE : Env5 w) :
    Calls Tryd.prog 3 #[.slice a1 n1 c1, .int .i64 z] w fun e w' => e = .returned (.bool true) ∧ Fr (fun _ => False) w w' := by
  have k1 : n1 ≤ 9223372036854775807 := by have := h1.le; have := h1.mx; unfold maxLen at this; omega
  have d1 := h1.le
  have d2 : (c1 : Int) ≤ 9223372036854775807 := by have := h1.mx; unfold maxLen at this; omega
  obtain ⟨q, hq⟩ : ∃ q, q = min n1 500 := ⟨_, rfl⟩
  have hq1 : (if (500 : Int) < (n1 : Int) then (500 : Int) else (n1 : Int)) = (q : Int) := by split <;> omega
  have hq2 : min (n1 : Int) 500 = (q : Int) := by omega
  have hq0 : (0 : Int) ≤ (q : Int) := by omega
  have hqc : (q : Int) ≤ (c1 : Int) := by omega
  have hq3 : (q : Int) ≤ 500 := by omega
  have C0 := h1.cut q (by omega) (Fr.refl _ w)
  generalize l1.take q = x at C0
  have hxl := C0.len
  have F0 := (Fr.refl (fun _ => False) w).alloc (.cells #[] 5)
  have own0 : Own (w.alloc (.cells #[] 5)) w.heap.size (.slice (some ⟨w.heap.size, 0, none⟩) 0 0) [] := Or.inr ⟨w.heap.size, 0, #[], (0, 0), rfl, Nat.le_refl _, heap_alloc_new w _, Or.inl rfl, Nat.le_refl _, Nat.zero_le _, rfl, rfl⟩
  have hsrc : Src Tryd.prog 1 22 (.slice a1 q c1) x.length (bv x) (w.alloc (.cells #[] 5)) := by
    have := (C0.lies.grow F0).src c1
    rw [hxl] at this ⊢
    exact this
  have hb1 : ([] : List UInt8).length + x.length ≤ 140737488355328 := by rw [hxl]; simp; omega
  have hz1 : w.heap.size ≤ (w.alloc (.cells #[] 5)).heap.size := by simp
  obtain ⟨r, hr, hrq⟩ : ∃ r : Nat, (IntKind.u64.wrap z).tmod ((q : Int) + 1) = (r : Int) ∧ r ≤ q := by
    rw [IntKind.wrap_u64]
    have h1 : 0 ≤ z % 18446744073709551616 := Int.emod_nonneg _ (by decide)
    have h2 := Int.emod_nonneg (z % 18446744073709551616) (b := (q : Int) + 1) (by omega)
    have h3 := Int.emod_lt_of_pos (z % 18446744073709551616) (b := (q : Int) + 1) (by omega)
    refine ⟨((z % 18446744073709551616) % ((q : Int) + 1)).toNat, ?_, by omega⟩
    rw [Int.tmod_eq_emod_of_nonneg h1]
    omega
  have w1 : IntKind.u64.wrap ((q : Int) + 1) = (q : Int) + 1 := by rw [IntKind.wrap_u64]; omega
  have hne : ((q : Int) + 1 == 0) = false := by simp; omega
  have HX := Lib.hid hxl
  have HQ := Lib.hid hq
  clear hxl hq
  go_enter Tryd.func3, Tryd.ntmps3
  go_wp2_with (at_builtin; refine wpList_own _ rfl (.tmp 6) (.tmp 11) 22 rfl w.heap.size (.slice (some ⟨w.heap.size, 0, none⟩) 0 0) [] x rfl own0 (.slice a1 q c1) rfl hsrc hb1 hz1 ?k)
  case k =>
  intro v2 w2 own2 hg2 hb2
  have F2 : Fr (fun _ => False) w w2 := F0.trans (Fr.ofGrown hg2) (fun i hi => Or.inr (by have := Option.some.inj hi; simp at this; omega))
  obtain ⟨a2, c2, rfl⟩ := own2.slice
  obtain ⟨g, rfl⟩ : ∃ g, a2 = some ⟨g, 0, none⟩ := by
    rcases own2 with ⟨e, h0⟩ | ⟨g, cap, cur, fz, e, _⟩
    · injection e with e1 e2 e3
      subst e1
      simp [Value.ownBlock] at hb2
    · injection e with e1; exact ⟨g, e1⟩
  have C2 : Came w2 (some ⟨g, 0, none⟩) x.length c2 x := by
    obtain ⟨_, e2, e3, e4⟩ := own2.lies
    exact ⟨rfl, e2, e3, e4, fun e => by cases e⟩
  rw [HX.out] at C2 ⊢
  clear own0 hsrc hb1 hz1 own2 hg2 hb2 C0 h1 hq1 hq2 F0
  have E2 := hE.fr F2 (fun h => h)
  have T2 := C2.tail hrq
  have U2 := C2.cut r hrq (Fr.refl _ w2)
  have hc2 := C2.le
  have hc3 : (c2 : Int) ≤ 9223372036854775807 := by have := C2.mx; unfold maxLen at this; omega
  have r0 : (0 : Int) ≤ (r : Int) := by omega
  have r1 : (r : Int) ≤ (q : Int) := by omega
  have r2 : (r : Int) ≤ (c2 : Int) := by omega
  have r3 : (q : Int) ≤ (c2 : Int) := by omega
  have eq1 := fun (W : World) => eql_sumc5 x x W
  simp only [beq_self_eq_true] at eq1
  have hgd := Tryd.guard64
  have hfl : [x.take r, [], x.drop r].flatten = x := by simp
  have HFL := Lib.hid hfl
  have hfl2 : [x].flatten = x := by simp
  have HFL2 := Lib.hid hfl2
  have hlx : x.length ≤ 1000000000000 := by have := HX.out; omega
  have HL3 := Lib.hid (show [x.take r, [], x.drop r].flatten.length ≤ 1000000000000 by rw [hfl]; exact hlx)
  have HL4 := Lib.hid (show [x].flatten.length ≤ 1000000000000 by rw [hfl2]; exact hlx)
  clear hfl hfl2 hlx
  have HB : ∀ {W W' : World} {b : Nat} {o : Obj}, Fr (fun _ => False) W W' → W.heap[b]? = some o → W'.heap[b]? = some o := fun F h => (F.block _ (lt_of_block h) (fun h => h)).trans h
  have H3 : ∀ (W : World) (b : Nat), Fr (fun _ => False) w2 W → W.heap[b]? = some (.cells #[.slice (some ⟨g, 0, none⟩) r c2, .slice none 0 0, .slice (if c2 = r then some ⟨g, 0, none⟩ else some ⟨g, r, none⟩) (q - r) (c2 - r)] 22) → Calls Tryd.prog 12 #[.slice (some ⟨b, 0, none⟩) 3 3] W fun e W' => e = .returned (.agg (sumc5 x)) ∧ Fr (fun _ => False) w2 W' ∧ ∀ (i : Nat) (o : Obj), W.heap[i]? = some o → W'.heap[i]? = some o := fun W b hF hb => by
    refine (psum_any5 _ [x.take r, [], x.drop r] 3 3 rfl W (parts3b hb (U2.grow hF (fun _ _ h => h)) (came_none _) (T2.grow hF (fun _ _ h => h))) (by unfold maxLen; omega) HL3.out (E2.fr hF (fun h => h))).mono ?_
    rw [HFL.out]
    rintro e W' ⟨rfl, F⟩
    exact ⟨rfl, hF.trans F (fun _ h => h.elim), fun i o h => HB F h⟩
  have H1 : ∀ (W : World) (b : Nat), Fr (fun _ => False) w2 W → W.heap[b]? = some (.cells #[.slice (some ⟨g, 0, none⟩) q c2] 22) → Calls Tryd.prog 12 #[.slice (some ⟨b, 0, none⟩) 1 1] W fun e W' => e = .returned (.agg (sumc5 x)) ∧ Fr (fun _ => False) w2 W' := fun W b hF hb => by
    refine (psum_any5 _ [x] 1 1 rfl W (parts1 hb (C2.grow hF (fun _ _ h => h))) (by unfold maxLen; omega) HL4.out (E2.fr hF (fun h => h))).mono ?_
    rw [HFL2.out]
    rintro e W' ⟨rfl, F⟩
    exact ⟨rfl, hF.trans F (fun _ h => h.elim)⟩
  have EE := Lib.hid hE
  have EE2 := Lib.hid E2
  have HH1 := Lib.hid H1
  clear H1 T2 U2 C2 hE E2 HFL HFL2 HL3 HL4 HX HQ
  by_cases hcr : c2 = r
  case' pos =>
    rw [if_pos hcr] at H3
    subst c2
    have H3' := H3
    rw [show q - r = 0 from by omega, Nat.sub_self] at H3'
    have HH3 := Lib.hid H3
    have HH4 := Lib.hid H3'
    clear H3 H3'
  case' neg =>
    rw [if_neg hcr] at H3
    have HH3 := Lib.hid H3
    have HH4 := Lib.hid H3
    clear H3
  all_goals go_wp2_with fail
  all_goals go_region_with ((first
    | (go_at_call 11
       refine (sums_any5 _ (EE2.out.fr ((Fr.refl (fun _ => False) w2).drew) (fun h => h))).mono ?_
       rintro e w5 ⟨rfl, F5⟩
       have G5 : Fr (fun _ => False) w2 w5 := ((Fr.refl (fun _ => False) w2).drew).trans F5 (fun _ h => h.elim)
       clear F5)
    | (go_at_call 12
       with_reducible refine (HH3.out _ _ ?_ ?_).mono ?_
       · (first | exact G5.alloc _ | exact (G5.alloc _).alloc _)
       · (first | exact heap_alloc_new _ _ | exact heap_at5 _ _ _ _ (by simp) | exact HB ((Fr.refl _ _).alloc _) (heap_alloc_new _ _))
       rintro e w6 ⟨rfl, G6, K6⟩)
    | (go_at_call 12
       with_reducible refine (HH4.out _ _ ?_ ?_).mono ?_
       · (first | exact G5.alloc _ | exact (G5.alloc _).alloc _)
       · (first | exact heap_alloc_new _ _ | exact heap_at5 _ _ _ _ (by simp) | exact HB ((Fr.refl _ _).alloc _) (heap_alloc_new _ _))
       rintro e w6 ⟨rfl, G6, K6⟩)
    | (go_at_call 12
       with_reducible refine (HH1.out _ _ ?_ ?_).mono ?_
       · (first | exact G6.alloc _ | exact G6)
       · (first | exact heap_alloc_new _ _ | exact K6 _ _ (heap_alloc_new _ _) | exact K6 _ _ (heap_at5 _ _ _ _ (by simp)) | exact heap_at5 _ _ _ _ (by simp) | exact K6 _ _ (HB ((Fr.refl _ _).alloc _) (heap_alloc_new _ _)))
       rintro e w7 ⟨rfl, G7⟩
       clear G6 K6)))
  all_goals
    go_wp2
    go_ret
    exact ⟨rfl, F2.trans G7 (fun _ h => h.elim)⟩
end Go.Proofs.YtpgbghnjeonmjaaDoor


/-
  The laws Sha5Sums and Sha5Sizes: of all parts, and of noughts of each count, the sum is told.
-/
import Derived.Test.YtmoepalhoaekgaaDoorQu
import Derived.Test.YtmoepalhoaekgaaDoorArg5
import Derived.Test.YtmoepalhoaekgaaDoorSums5
import Derived.Test.YtmoepalhoaekgaaDoorSz
namespace Go.Proofs.YtmoepalhoaekgaaDoor
open Go.ChangeShapes Go.WideShapes Go.ChangeAt Go.RowKit
set_option linter.unusedVariables false

set_option maxRecDepth 100000 in
theorem utabH_data {H : Type} : (Rows.laid_custumal_custumalref02_H : DataW H) = Lib.tabData .u64 ((List.range 8).map fun j => (sx5 S5.H0 j : Int)) := by rfl
theorem utabK_data {H : Type} : (Rows.laid_custumal_custumalref02_K : DataW H) = Lib.tabData .u64 ((List.range 80).map fun j => (S5.K j : Int)) := by rfl
theorem uname_H : Tryd.prog.globalNamed "custumal/custumalref02.H" = some 2 := by kernel_rfl
set_option maxRecDepth 100000 in
theorem utype_H : (Tryd.prog.globals[2]?).map (·.type) = some 65 := by kernel_rfl
theorem uname_K : Tryd.prog.globalNamed "custumal/custumalref02.K" = some 3 := by kernel_rfl
theorem utype_K : (Tryd.prog.globals[3]?).map (·.type) = some 74 := by kernel_rfl
set_option maxRecDepth 100000 in
theorem uenv_of {W : World} {l : List (String × DataW Unit)} (hp : (l.all fun x => x.2.handleName?.isNone) = true) (h : laidMetH Tryd.prog l W) (hmK : ("custumal/custumalref02.K", Rows.laid_custumal_custumalref02_K) ∈ l) (hmH : ("custumal/custumalref02.H", Rows.laid_custumal_custumalref02_H) ∈ l) : UEnv W := by
  rw [MakeChecks.laidMetH_plain _ _ _ hp] at h
  constructor
  · obtain ⟨g, t, cs, fuel, p, hg, ht, hv, hd⟩ := Lib.laidMet.reads h hmH
    obtain rfl := Option.some.inj (uname_H.symm.trans hg)
    obtain rfl := Option.some.inj (utype_H.symm.trans ht)
    rw [utabH_data] at hd
    have hcs := Lib.cells_of_tab Tryd.underlying65 Tryd.underlying34 (by kernel_rfl) (by kernel_rfl) hd
    obtain ⟨t2, fr, hb⟩ := block_of_var uname_H hv
    refine ⟨t2, fr, ?_⟩
    rw [hb]
    congr 2
    apply Array.toList_inj.1
    rw [hcs, List.map_map]
    rfl
  · obtain ⟨g, t, cs, fuel, p, hg, ht, hv, hd⟩ := Lib.laidMet.reads h hmK
    obtain rfl := Option.some.inj (uname_K.symm.trans hg)
    obtain rfl := Option.some.inj (utype_K.symm.trans ht)
    rw [utabK_data] at hd
    have hcs := Lib.cells_of_tab Tryd.underlying74 Tryd.underlying34 (by kernel_rfl) (by kernel_rfl) hd
    intro j hj
    rw [World.var?_cell uname_K hv j, ← Array.getElem?_toList, hcs, List.map_map, List.getElem?_map, List.getElem?_range hj]
    rfl
/-- The string of a sum that lies in a block of its own. -/
theorem sumc5_lies {w : World} {b : Nat} {l : List UInt8} {t : TypeId} {fr : Nat × Nat} (h : w.heap[b]? = some (.cells (sumc5 l) t fr)) : Lies w (some ⟨b, 0, none⟩) (S5.sum l) := by
  refine Or.inr ⟨b, 0, rfl, fun j hj => ?_⟩
  have hl : (S5.sum l).length = 64 := rfl
  rw [Nat.zero_add, cell_of_block h, sumc_get5 l j (by omega), List.getD_eq_getElem?_getD, List.getElem?_eq_getElem hj]
  rfl
set_option maxRecDepth 100000 in
theorem sum_len5 (l : List UInt8) : (S5.sum l).length = 64 := rfl
set_option maxRecDepth 100000 in
set_option maxHeartbeats 1600000 in
theorem sums25_any (a : Option Addr) (L : List (List UInt8)) (n c : Nat) (w : World) (hn : L.length = n) (hn2 : n ≤ maxLen) (hP : Parts w a L) (hE : Env5 w) (hR : UEnv w) :
    Calls Tryd.prog 4 #[.slice a n c] w fun e w' => e = .returned (.bool true) ∧ Fr (fun _ => False) w w' := by
  go_enter Tryd.func4, Tryd.ntmps4
  go_wp2_with fail
  refine (few_any a L n c 8 700 8 700 rfl rfl (by decide) (by decide) hn w hP hn2).mono ?_
  rintro e w1 ⟨a2, c2, A, C, rfl, hf, F1⟩
  have hk : (fewL L 8 700).length = min 8 n := by rw [fewL_len, hn]
  have hP1 := hf.parts hk
  have hfl : (fewL L 8 700).flatten.length ≤ 5600 := fewL_flat L 8 700
  have E1 := hE.fr F1 (fun h => h)
  have R1 := hR.fr F1 (fun h => h) (fun h => h)
  generalize fewL L 8 700 = X at *
  generalize hk2 : min 8 n = k at *
  have hk8 : k ≤ 8 := by omega
  have hkm : k ≤ maxLen := by unfold maxLen; omega
  clear hf hP hE hR hn hk2 hn2
  go_wp2_with fail
  refine (all_any a2 X k c2 hk w1 hP1 hkm (by omega)).mono ?_
  rintro e w2 ⟨rfl, F2⟩
  go_wp2_with fail
  refine (psum_any5 a2 X k c2 hk w2 (hP1.grow F2) hkm (by omega) (E1.fr F2 (fun h => h))).mono ?_
  rintro e w3 ⟨rfl, F3⟩
  have F13 : Fr (fun _ => False) w1 w3 := F2.trans F3 (fun _ h => h.elim)
  have hX := Lib.hid hk
  obtain ⟨l, hl⟩ : ∃ l, l = X.flatten := ⟨_, rfl⟩
  rw [← hl] at hfl ⊢
  have Hl := Lib.hid hl
  clear hk hl
  have hone : (sumc5 l).all (·.oneCell') = true := sumv_one5 _
  have hsz : (#[.int .u8 0, .int .u8 0, .int .u8 0, .int .u8 0, .int .u8 0, .int .u8 0, .int .u8 0, .int .u8 0, .int .u8 0, .int .u8 0, .int .u8 0, .int .u8 0, .int .u8 0, .int .u8 0, .int .u8 0, .int .u8 0, .int .u8 0, .int .u8 0, .int .u8 0, .int .u8 0, .int .u8 0, .int .u8 0, .int .u8 0, .int .u8 0, .int .u8 0, .int .u8 0, .int .u8 0, .int .u8 0, .int .u8 0, .int .u8 0, .int .u8 0, .int .u8 0, .int .u8 0, .int .u8 0, .int .u8 0, .int .u8 0, .int .u8 0, .int .u8 0, .int .u8 0, .int .u8 0, .int .u8 0, .int .u8 0, .int .u8 0, .int .u8 0, .int .u8 0, .int .u8 0, .int .u8 0, .int .u8 0, .int .u8 0, .int .u8 0, .int .u8 0, .int .u8 0, .int .u8 0, .int .u8 0, .int .u8 0, .int .u8 0, .int .u8 0, .int .u8 0, .int .u8 0, .int .u8 0, .int .u8 0, .int .u8 0, .int .u8 0, .int .u8 0] : Array Value).size = (sumc5 l).size := (sumv_size5 _).symm
  go_wp2_with (with_reducible refine wpList_store_rowA rfl 31 (.tmp 5) (.tmp 11) rfl w3.heap.size (sumc5 l) rfl rfl 31 _ (heap_alloc_new w3 _) Tryd.sizeC5 hsz hone ?k)
  case k =>
  intro w4 h4 hG4
  have F14 : Fr (fun _ => False) w1 w4 := (F13.alloc _).trans hG4 (fun i hi => Or.inr (by have := F13.size; omega))
  have P4 := hP1.grow F14
  have E4 := E1.fr F14 (fun h => h)
  have R4 := R1.fr F14 (fun h => h) (fun h => h)
  have L4 := sumc5_lies h4
  have F04 : Fr (fun _ => False) w w4 := F1.trans F14 (fun _ h => h.elim)
  have HL := Lib.hid (show (sb ⟨l.toArray⟩) = l by simp [sb])
  have hls : (⟨l.toArray⟩ : ByteArray).size ≤ 1000000000000 := by show l.toArray.size ≤ _; simp; omega
  clear hone hsz hG4 F14 F13 F3 F2 F1 hP1 E1 R1 h4
  generalize w3.heap.size = b4 at *
  have hS : ∀ w' : World, Fr (fun _ => False) w4 w' → (Fr (fun _ => False) w4 w' ∧ (convert 22 9 (.slice (some ⟨b4, 0, none⟩) 64 64)).run Tryd.prog w' = .ok (.string ⟨(S5.sum l).toArray⟩) w') :=
    fun w' hF => ⟨hF, run_str (L4.grow hF) 64 9 Tryd.underlying9⟩
  go_wp2_with fail
  go_region_held3 (fun w' => Fr (fun _ => False) w4 w' ∧ (convert 22 9 (.slice (some ⟨b4, 0, none⟩) 64 64)).run Tryd.prog w' = .ok (.string ⟨(S5.sum l).toArray⟩) w')
    (first
      | (exact hS _ (by assumption))
      | (exact hS _ (Fr.refl _ w4).drew))
    (first
      | (go_at_call 15; refine (sums_any5 _ (E4.fr (‹Fr (fun _ => False) w4 _ ∧ _›).1 (fun h => h))).mono ?_; rintro e w5 ⟨rfl, F5⟩; have F55 := (‹Fr (fun _ => False) w4 _ ∧ _›).1.trans F5 (fun _ h => h.elim))
      | (go_at_call 16; refine (usum_any ⟨l.toArray⟩ hls _ (R4.fr (‹Fr (fun _ => False) w4 _ ∧ _›).1 (fun h => h) (fun h => h))).mono ?_; rw [HL.out]; rintro e w6 ⟨rfl, F6⟩; have F66 := (‹Fr (fun _ => False) w4 _ ∧ _›).1.trans F6 (fun _ h => h.elim))
      | (go_at_call 13; refine (all_any a2 X k c2 hX.out _ (P4.grow (‹Fr (fun _ => False) w4 _ ∧ _›).1) hkm (by rw [← Hl.out]; omega)).mono ?_; rw [← Hl.out]; rintro e w7 ⟨rfl, F7⟩; have F77 := (‹Fr (fun _ => False) w4 _ ∧ _›).1.trans F7 (fun _ h => h.elim)))
  all_goals
    go_wp2
    go_ret
    exact ⟨rfl, F04.trans F77 (fun _ h => h.elim)⟩
set_option maxRecDepth 100000 in
set_option maxHeartbeats 1600000 in
theorem sizes5_any (z : Int) (w : World) (hE : Env5 w) (hR : UEnv w) :
    Calls Tryd.prog 5 #[.int .i64 z] w fun e w' => e = .returned (.bool true) ∧ Fr (fun _ => False) w w' := by
  obtain ⟨i0, hi, hz0, hz1, hz2⟩ := info_parts Tryd.infoB
  obtain ⟨q, hq, hqm⟩ : ∃ q : Nat, (IntKind.u64.wrap z).tmod 400 = (q : Int) ∧ q < 400 := by
    rw [IntKind.wrap_u64]
    have h1 : 0 ≤ z % 18446744073709551616 := Int.emod_nonneg _ (by decide)
    refine ⟨((z % 18446744073709551616) % 400).toNat, ?_, by omega⟩
    rw [Int.tmod_eq_emod_of_nonneg h1]
    omega
  have q0 : (0 : Int) ≤ (q : Int) := by omega
  have q1 : (q : Int) < 400 := by omega
  go_enter Tryd.func5, Tryd.ntmps5
  go_wp2_with (at_make; refine wpList_make_full _ rfl (.tmp 9) (.tmp 9) 22 rfl w.heap.size 5 i0 (.int .u8 0) 1 Tryd.underlying22 hi hz0 hz1 .i64 .i64 _ _ q rfl rfl (by omega) (by omega) (by rw [hz2]; omega) (by unfold maxLen; omega) (by simp) ?k)
  case k =>
  intro w1 hown hgrow
  rw [made_noughts2] at hown
  have F1 : Fr (fun _ => False) w w1 := (Fr.ofGrown hgrow).mono (fun i _ hi => by cases hi)
  have C1 := came_own2 hown
  generalize noughts2 q = l at hown C1
  have E1 := hE.fr F1 (fun h => h)
  have R1 := hR.fr F1 (fun h => h) (fun h => h)
  clear hown hgrow hq hE hR
  go_wp2_with fail
  refine (psum_any5 _ [l] 1 1 rfl _ (parts1 (heap_alloc_new w1 _) (C1.grow ((Fr.refl (fun _ => False) w1).alloc _) (fun _ _ h => h))) (by unfold maxLen; omega) (by have := C1.len; simp; omega) (E1.fr ((Fr.refl (fun _ => False) w1).alloc _) (fun h => h))).mono ?_
  rintro e w2 ⟨rfl, F2⟩
  rw [show [l].flatten = l by simp]
  have F12 : Fr (fun _ => False) w1 w2 := ((Fr.refl (fun _ => False) w1).alloc _).trans F2 (fun _ h => h.elim)
  have hone : (sumc5 l).all (·.oneCell') = true := sumv_one5 _
  have hsz : (#[.int .u8 0, .int .u8 0, .int .u8 0, .int .u8 0, .int .u8 0, .int .u8 0, .int .u8 0, .int .u8 0, .int .u8 0, .int .u8 0, .int .u8 0, .int .u8 0, .int .u8 0, .int .u8 0, .int .u8 0, .int .u8 0, .int .u8 0, .int .u8 0, .int .u8 0, .int .u8 0, .int .u8 0, .int .u8 0, .int .u8 0, .int .u8 0, .int .u8 0, .int .u8 0, .int .u8 0, .int .u8 0, .int .u8 0, .int .u8 0, .int .u8 0, .int .u8 0, .int .u8 0, .int .u8 0, .int .u8 0, .int .u8 0, .int .u8 0, .int .u8 0, .int .u8 0, .int .u8 0, .int .u8 0, .int .u8 0, .int .u8 0, .int .u8 0, .int .u8 0, .int .u8 0, .int .u8 0, .int .u8 0, .int .u8 0, .int .u8 0, .int .u8 0, .int .u8 0, .int .u8 0, .int .u8 0, .int .u8 0, .int .u8 0, .int .u8 0, .int .u8 0, .int .u8 0, .int .u8 0, .int .u8 0, .int .u8 0, .int .u8 0, .int .u8 0] : Array Value).size = (sumc5 l).size := (sumv_size5 _).symm
  go_wp2_with (with_reducible refine wpList_store_rowA rfl 31 (.tmp 4) (.tmp 13) rfl w2.heap.size (sumc5 l) rfl rfl 31 _ (heap_alloc_new w2 _) Tryd.sizeC5 hsz hone ?k)
  case k =>
  intro w3 h3 hG3
  have F13 : Fr (fun _ => False) w1 w3 := (F12.alloc _).trans hG3 (fun i hi => Or.inr (by have := F12.size; omega))
  have C3 := C1.grow F13 (fun _ _ h => h)
  have E3 := E1.fr F13 (fun h => h)
  have R3 := R1.fr F13 (fun h => h) (fun h => h)
  have L3 := sumc5_lies h3
  have F03 : Fr (fun _ => False) w w3 := F1.trans F13 (fun _ h => h.elim)
  have hlb : (sb ⟨l.toArray⟩) = l := by simp [sb]
  have hls : (⟨l.toArray⟩ : ByteArray).size ≤ 1000000000000 := by have := C1.len; show l.toArray.size ≤ _; simp; omega
  clear hone hsz hG3 F13 F12 F2 F1 C1 E1 R1 h3
  generalize w2.heap.size = b3 at *
  have hS : ∀ w' : World, Fr (fun _ => False) w3 w' → (Fr (fun _ => False) w3 w' ∧ (convert 22 9 (.slice (some ⟨b3, 0, none⟩) 64 64)).run Tryd.prog w' = .ok (.string ⟨(S5.sum l).toArray⟩) w' ∧ (convert 22 9 (.slice (some ⟨w.heap.size, 0, none⟩) q q)).run Tryd.prog w' = .ok (.string ⟨l.toArray⟩) w') :=
    fun w' hF => ⟨hF, run_str (L3.grow hF) 64 9 Tryd.underlying9, (C3.grow hF (fun _ _ h => h)).str2⟩
  have HL := Lib.hid hlb
  clear hlb
  go_wp2_with fail
  go_region_held3 (fun w' => Fr (fun _ => False) w3 w' ∧ (convert 22 9 (.slice (some ⟨b3, 0, none⟩) 64 64)).run Tryd.prog w' = .ok (.string ⟨(S5.sum l).toArray⟩) w' ∧ (convert 22 9 (.slice (some ⟨w.heap.size, 0, none⟩) q q)).run Tryd.prog w' = .ok (.string ⟨l.toArray⟩) w')
    (first
      | (exact hS _ (by assumption))
      | (exact hS _ (Fr.refl _ w3).drew))
    (first
      | (go_at_call 15; refine (sums_any5 _ (E3.fr (‹Fr (fun _ => False) w3 _ ∧ _›).1 (fun h => h))).mono ?_; rintro e w5 ⟨rfl, F5⟩; have F55 := (‹Fr (fun _ => False) w3 _ ∧ _›).1.trans F5 (fun _ h => h.elim))
      | (go_at_call 16; refine (usum_any ⟨l.toArray⟩ hls _ (R3.fr (‹Fr (fun _ => False) w3 _ ∧ _›).1 (fun h => h) (fun h => h))).mono ?_; rw [HL.out]; rintro e w6 ⟨rfl, F6⟩; have F66 := (‹Fr (fun _ => False) w3 _ ∧ _›).1.trans F6 (fun _ h => h.elim)))
  all_goals
    go_wp2
    go_ret
    exact ⟨rfl, F03.trans F66 (fun _ h => h.elim)⟩
end Go.Proofs.YtmoepalhoaekgaaDoor

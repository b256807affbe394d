/-
  Plain laws of this verifier: slices of bytes' slices that came in as an argument.
-/
import Derived.Test.YtebmbhlhfojpeaaDoorFx
import Derived.Deep.Matrix
namespace Go.Proofs.YtebmbhlhfojpeaaDoor
open Go.ChangeShapes Go.WideShapes Go.ChangeAt Go.RowKit
set_option linter.unusedVariables false

theorem parts_of {H : Type} {enc : TypeId × Value → H} {W : World} {base : Nat} {v1 : Value} {d1 : DataW H} {p1 : List MemPlace} (hval : Value.okWide Tryd.prog W .any base 22 v1) (h1 : DataW.Trod enc Tryd.prog W 0 (fun _ => true) true 22 v1 d1 p1) :
    ∃ a n c L, v1 = .slice a n c ∧ L.length = n ∧ n ≤ maxLen ∧ Parts W a L := by
  obtain ⟨a1, len, cap, rfl⟩ := okWide_slice Tryd.underlying22 hval
  obtain ⟨fuel, hf⟩ := h1
  rcases Go.Deep.open_int_rows Tryd.underlying22 Tryd.underlying28 Tryd.underlying5 (by kernel_rfl) (by kernel_rfl) hf with ⟨hcs, hx⟩ | ⟨a, len', cap', A, N, C, Z, hcs, _, hl, hm, hx, hcell⟩
  · simp [Value.cells] at hcs
    obtain ⟨rfl, rfl, rfl⟩ := hcs
    exact ⟨none, 0, 0, [], rfl, rfl, Nat.zero_le _, Or.inl rfl⟩
  · simp [Value.cells] at hcs
    obtain ⟨rfl, rfl, rfl⟩ := hcs
    refine ⟨some a, len, cap, (List.range len).map fun r => ((Z r).take (N r)).map fun n => UInt8.ofNat n.toNat, rfl, by simp, by omega, ?_⟩
    by_cases h0 : len = 0
    · exact Or.inl (by subst h0; rfl)
    · refine Or.inr ?_
      obtain ⟨ab, ao, spot⟩ := a
      have hspot : spot = none := by simpa [Addr.add] using World.cell?_spot (hcell 0 (by omega)).1
      subst hspot
      refine ⟨ab, ao, rfl, fun j hj => ?_⟩
      have hj2 : j < len := by simpa using hj
      obtain ⟨c1, c2, c3, c4, c5, c6, c7⟩ := hcell j (by omega)
      rw [addr_add] at c1
      have hlen : (((Z j).take (N j)).map fun n => UInt8.ofNat n.toNat).length = N j := by simp; omega
      simp only [List.getElem_map, List.getElem_range]
      refine ⟨A j, C j, by rw [hlen]; exact c1, ?_, by rw [hlen]; exact c2, c3⟩
      by_cases hN : N j = 0
      · exact Or.inl (List.eq_nil_of_length_eq_zero (by rw [hlen, hN]))
      · refine Or.inr ?_
        cases hA : A j with
        | none => have := c6 hA; omega
        | some a' =>
          obtain ⟨_, c8⟩ := c7 a' hA
          obtain ⟨bb, bo, bs⟩ := a'
          have hs2 : bs = none := by simpa [Addr.add] using World.cell?_spot (c8 0 (by omega))
          subst hs2
          refine ⟨bb, bo, rfl, fun i hi => ?_⟩
          rw [hlen] at hi
          have hc := c8 i (by omega)
          rw [addr_add] at hc
          have hmem : (Z j).getD i 0 ∈ Z j := by rw [List.getD_eq_getElem?_getD, List.getElem?_eq_getElem (by omega), Option.getD_some]; exact List.getElem_mem _
          have hb := bounds_u8 (c5 _ hmem)
          have he : (Z j).getD i 0 = (Z j)[i]'(by omega) := by rw [List.getD_eq_getElem?_getD, List.getElem?_eq_getElem (by omega), Option.getD_some]
          rw [hc]
          simp only [List.getElem_map, List.getElem_take]
          rw [he] at hb ⊢
          generalize (Z j)[i]'(by omega) = z at hb ⊢
          congr 2
          have : (UInt8.ofNat z.toNat).toNat = z.toNat % 256 := rfl
          omega
theorem Parts.grow {w w2 : World} {a : Option Addr} {L : List (List UInt8)} (h : Parts w a L) (hF : Fr (fun _ => False) w w2) : Parts w2 a L := by
  rcases h with h | ⟨g, o, e, hc⟩
  · exact Or.inl h
  · refine Or.inr ⟨g, o, e, fun j hj => ?_⟩
    obtain ⟨aj, cj, h1, h2, h3, h4⟩ := hc j hj
    exact ⟨aj, cj, hF.cellSome (p := ⟨g, o + j, none⟩) (fun h => h) h1, h2.grow hF, h3, h4⟩
theorem flat_le (z : Nat) : ∀ L : List (List UInt8), (∀ l ∈ L, l.length ≤ z) → L.flatten.length ≤ L.length * z
  | [], _ => by simp
  | l :: L, h => by
    have h1 := flat_le z L (fun x hx => h x (List.mem_cons_of_mem _ hx))
    have h2 := h l (List.mem_cons_self ..)
    rw [List.flatten_cons, List.length_append, List.length_cons, Nat.add_mul]
    omega
theorem fewL_flat (L : List (List UInt8)) (m z : Nat) : (fewL L m z).flatten.length ≤ m * z := by
  have h := flat_le z (fewL L m z) (fun l hl => by
    unfold fewL at hl
    obtain ⟨x, _, rfl⟩ := List.mem_map.1 hl
    rw [List.length_take]; omega)
  rw [fewL_len] at h
  exact Nat.le_trans h (Nat.mul_le_mul_right _ (by omega))

set_option maxRecDepth 100000 in
set_option maxHeartbeats 1600000 in
theorem sums2_any (a : Option Addr) (L : List (List UInt8)) (n c : Nat) (w : World) (hn : L.length = n) (hn2 : n ≤ maxLen) (hP : Parts w a L) (hE : Env w) (hR : REnv w) :
    Calls Tryd.prog 3 #[.slice a n c] w fun e w' => e = .returned (.bool true) ∧ Fr (fun _ => False) w w' := by
  go_enter Tryd.func3, Tryd.ntmps3
  go_wp2_with fail
  refine (few_any a L n c 8 700 8 700 rfl rfl (by decide) (by decide) hn w hP hn2).mono ?_
  rintro e w1 ⟨a2, c2, A, C, rfl, hf, F1⟩
  have hk : (fewL L 8 700).length = min 8 n := by rw [fewL_len, hn]
  have hP1 := hf.parts hk
  have hfl : (fewL L 8 700).flatten.length ≤ 5600 := fewL_flat L 8 700
  have E1 := hE.fr F1 (fun h => h)
  have R1 := hR.fr F1 (fun h => h) (fun h => h)
  generalize fewL L 8 700 = X at *
  generalize hk2 : min 8 n = k at *
  have hk8 : k ≤ 8 := by omega
  have hkm : k ≤ maxLen := by unfold maxLen; omega
  clear hf hP hE hR hn hk2 hn2
  go_wp2_with fail
  refine (all_any a2 X k c2 hk w1 hP1 hkm (by omega)).mono ?_
  rintro e w2 ⟨rfl, F2⟩
  go_wp2_with fail
  refine (psum_any a2 X k c2 hk w2 (hP1.grow F2) hkm (by omega) (E1.fr F2 (fun h => h))).mono ?_
  rintro e w3 ⟨rfl, F3⟩
  have F13 : Fr (fun _ => False) w1 w3 := F2.trans F3 (fun _ h => h.elim)
  have hX := Lib.hid hk
  obtain ⟨l, hl⟩ : ∃ l, l = X.flatten := ⟨_, rfl⟩
  rw [← hl] at hfl ⊢
  have Hl := Lib.hid hl
  clear hk hl
  have hone : (sumc l).all (·.oneCell') = true := sumv_one _
  have hsz : (#[.int .u8 0, .int .u8 0, .int .u8 0, .int .u8 0, .int .u8 0, .int .u8 0, .int .u8 0, .int .u8 0, .int .u8 0, .int .u8 0, .int .u8 0, .int .u8 0, .int .u8 0, .int .u8 0, .int .u8 0, .int .u8 0, .int .u8 0, .int .u8 0, .int .u8 0, .int .u8 0, .int .u8 0, .int .u8 0, .int .u8 0, .int .u8 0, .int .u8 0, .int .u8 0, .int .u8 0, .int .u8 0, .int .u8 0, .int .u8 0, .int .u8 0, .int .u8 0] : Array Value).size = (sumc l).size := (sumv_size _).symm
  go_wp2_with (with_reducible refine wpList_store_rowA rfl 25 (.tmp 5) (.tmp 11) rfl w3.heap.size (sumc l) rfl rfl 25 _ (heap_alloc_new w3 _) Tryd.sizeC hsz hone ?k)
  case k =>
  intro w4 h4 hG4
  have F14 : Fr (fun _ => False) w1 w4 := (F13.alloc _).trans hG4 (fun i hi => Or.inr (by have := F13.size; omega))
  have P4 := hP1.grow F14
  have E4 := E1.fr F14 (fun h => h)
  have R4 := R1.fr F14 (fun h => h) (fun h => h)
  have L4 := sumc_lies h4
  have F04 : Fr (fun _ => False) w w4 := F1.trans F14 (fun _ h => h.elim)
  have HL := Lib.hid (show (sb ⟨l.toArray⟩) = l by simp [sb])
  have hls : (⟨l.toArray⟩ : ByteArray).size ≤ 1000000000000 := by show l.toArray.size ≤ _; simp; omega
  clear hone hsz hG4 F14 F13 F3 F2 F1 hP1 E1 R1 h4
  generalize w3.heap.size = b4 at *
  have hS : ∀ w' : World, Fr (fun _ => False) w4 w' → (Fr (fun _ => False) w4 w' ∧ (convert 28 9 (.slice (some ⟨b4, 0, none⟩) 32 32)).run Tryd.prog w' = .ok (.string ⟨(S2.sum l).toArray⟩) w') :=
    fun w' hF => ⟨hF, run_str (L4.grow hF) 32 9 Tryd.underlying9⟩
  go_wp2_with fail
  go_region_held3 (fun w' => Fr (fun _ => False) w4 w' ∧ (convert 28 9 (.slice (some ⟨b4, 0, none⟩) 32 32)).run Tryd.prog w' = .ok (.string ⟨(S2.sum l).toArray⟩) w')
    (first
      | (exact hS _ (by assumption))
      | (exact hS _ (Fr.refl _ w4).drew))
    (first
      | (go_at_call 18; refine (sums_any _ (E4.fr (‹Fr (fun _ => False) w4 _ ∧ _›).1 (fun h => h))).mono ?_; rintro e w5 ⟨rfl, F5⟩; have F55 := (‹Fr (fun _ => False) w4 _ ∧ _›).1.trans F5 (fun _ h => h.elim))
      | (go_at_call 19; refine (rsum_any ⟨l.toArray⟩ hls _ (R4.fr (‹Fr (fun _ => False) w4 _ ∧ _›).1 (fun h => h) (fun h => h))).mono ?_; rw [HL.out]; rintro e w6 ⟨rfl, F6⟩; have F66 := (‹Fr (fun _ => False) w4 _ ∧ _›).1.trans F6 (fun _ h => h.elim))
      | (go_at_call 16; refine (all_any a2 X k c2 hX.out _ (P4.grow (‹Fr (fun _ => False) w4 _ ∧ _›).1) hkm (by rw [← Hl.out]; omega)).mono ?_; rw [← Hl.out]; rintro e w7 ⟨rfl, F7⟩; have F77 := (‹Fr (fun _ => False) w4 _ ∧ _›).1.trans F7 (fun _ h => h.elim)))
  all_goals
    go_wp2
    go_ret
    exact ⟨rfl, F04.trans F77 (fun _ h => h.elim)⟩
end Go.Proofs.YtebmbhlhfojpeaaDoor

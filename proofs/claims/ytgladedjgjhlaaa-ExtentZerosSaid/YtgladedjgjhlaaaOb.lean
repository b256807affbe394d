/-
  DiskLasts.
-/
import Derived.Test.YtgladedjgjhlaaaTz
namespace Go.Proofs.Ytgladedjgjhlaaa
open Go.RowKit
set_option linter.unusedVariables false
set_option linter.unusedSimpArgs false
theorem lay_other : ∀ (l : List (Nat × (Nat → UInt8))) (L : Nat → Nat → UInt8) (j : Nat), (∀ p ∈ l, p.1 ≠ j) → lay L l j = L j
  | [], L, j, _ => rfl
  | p :: l, L, j, h => by
    have e : lay L (p :: l) = lay (bset L p.1 p.2) l := rfl
    rw [e, lay_other l _ j (fun q hq => h q (List.mem_cons_of_mem _ hq))]
    unfold bset
    rw [if_neg (fun c => h p List.mem_cons_self c.symm)]
theorem keepOf_mem {α : Type} : ∀ (ws : List α) (ks : List Bool) (p : α), p ∈ keepOf ws ks → p ∈ ws
  | [], ks, p, h => by rw [keepOf_nil] at h; exact h
  | q :: ws, [], p, h => by simp [keepOf] at h
  | q :: ws, b :: ks, p, h => by
    cases b with
    | true =>
      simp only [keepOf, if_true] at h
      rcases List.mem_cons.1 h with e | h
      · rw [e]; exact List.mem_cons_self
      · exact List.mem_cons_of_mem _ (keepOf_mem ws ks p h)
    | false =>
      simp only [keepOf, Bool.false_eq_true, if_false] at h
      exact List.mem_cons_of_mem _ (keepOf_mem ws ks p h)
theorem lay_fws (first : List UInt8) : ∀ (m j : Nat), lay (fun _ _ => 0) (fws first m) j = if j < m then b1 (first.getD j 0) else fun _ => 0
  | 0, j => by simp [fws, lay]
  | m + 1, j => by
    have e : fws first (m + 1) = fws first m ++ [(m, b1 (first.getD m 0))] := by simp [fws, List.range_succ]
    rw [e, lay_app]
    unfold bset
    by_cases h : j = m
    · subst h; simp
    · rw [if_neg h, lay_fws first m j]
      by_cases h2 : j < m
      · rw [if_pos h2, if_pos (by omega)]
      · rw [if_neg h2, if_neg (by omega)]
theorem b1_zero : b1 0 = fun _ => 0 := by funext j; simp [b1]
theorem first_laid (first : List UInt8) (j : Nat) (hj : j < 8) : lay (fun _ _ => 0) (fws first (min 8 first.length)) j = b1 (first.getD j 0) := by
  rw [lay_fws]
  by_cases h : j < min 8 first.length
  · rw [if_pos h]
  · rw [if_neg h, List.getD_eq_getElem?_getD, List.getElem?_eq_none (by omega)]
    exact b1_zero.symm
theorem zTb : (#[.bool false, .bool false, .bool false, .bool false, .bool false, .bool false, .bool false, .bool false] : Array Value) = tbl (fun _ => false) := by kernel_rfl
set_option maxRecDepth 100000 in
set_option maxHeartbeats 6400000 in
theorem lasts_any {w : World} {v0 v1 v2 : Value} {first : List UInt8} {js : List Jb} {ks : List Bool} (h0 : BL w v0 first) (h1 : JL w v1 js) (h2 : KL w v2 ks) :
    Calls Try.prog 5 #[v0, v1, v2] w fun e w' => e = .returned (.bool true) ∧ Fr (fun _ => False) w w' := by
  have H0 := Lib.hid h0
  have H1 := Lib.hid h1
  have H2 := Lib.hid h2
  clear h0 h1 h2
  go_enter Try.func5, Try.ntmps5
  go_wp2_with fail
  refine (dnew_da 8 (by decide) (by decide) w).mono ?_
  rintro e w1 ⟨d, bn, bl, rfl, D, F⟩
  have HD := Lib.hid D
  clear D
  go_wp2_with fail
  refine (disks_any w1).mono ?_
  rintro e w2 ⟨rfl, F2⟩
  have F02 := F.trans F2 (fun _ h => h.elim)
  have D2 := HD.out.fr F2 (fun _ _ h => h)
  have HD2 := Lib.hid D2
  clear F F2 HD D2
  go_wp2_with fail
  have FA : Fr (fun _ => False) w2 (w2.alloc (.cells #[.bool false, .bool false, .bool false, .bool false, .bool false, .bool false, .bool false, .bool false] 54)) := (Fr.refl _ w2).alloc _
  have gd : w2.heap.size ≠ d := by have := lt_of_block HD2.out.blk; omega
  have gn : w2.heap.size ≠ bn := by have := lt_of_block HD2.out.now; omega
  have gl : w2.heap.size ≠ bl := by have := lt_of_block HD2.out.las; omega
  have g0 : w.heap.size ≤ w2.heap.size := F02.size
  refine lasts1 (gt := w2.heap.size) H0.out (HD2.out.fr FA (fun _ _ h => h)) (F02.trans FA (fun _ h => h.elim)) (heap_alloc_new w2 _) g0 gd gn gl _ rfl rfl rfl rfl rfl rfl rfl ?_
  intro t w3 N3 v3 hn p0 p1 p2 p7 p9 D3 F3 G3 hv3
  clear FA HD2 F02
  generalize w2.heap.size = gt at *
  rw [zTb] at G3
  obtain ⟨f, hff, rfl⟩ := frame_open hn
  have e0 := hff 0 _ p0
  have e1 := hff 1 _ p1
  have e2 := hff 2 _ p2
  have e7 := hff 7 _ p7
  have e9 := hff 9 _ p9
  clear hff hn p0 p1 p2 p7 p9
  rw [lit112, e0, e1, e2, e7, e9]
  clear e0 e1 e2 e7 e9
  have HD3 := Lib.hid D3
  have HF3 := Lib.hid F3
  clear D3 F3
  go_wp2_with fail
  refine (sync_any HD3.out (by rw [fws_len]; omega)).mono ?_
  rintro e w4 ⟨rfl, D4, F4⟩
  have F04 := HD3.out.grow HF3.out F4 (fun k e => e.elim .inl (fun e => .inr (.inr (.inl e))))
  have G4 := (F4.block gt (lt_of_block G3) (fun e => e.elim gd gl)).trans G3
  have HD4 := Lib.hid D4
  clear D4 F4 HD3 HF3 G3
  go_wp2_with fail
  refine lasts2 (Int.natCast_nonneg _) (by omega) H1.out HD4.out (by simp [Value.ownBlock]) F04 G4 g0 gd gn gl _ rfl rfl rfl rfl rfl rfl rfl ?_
  intro t w5 N5 v5 wr5 ws Tf hn p0 p2 p7 p9 D5 hws hT F5 G5
  obtain ⟨f, hff, rfl⟩ := frame_open hn
  have e0 := hff 0 _ p0
  have e2 := hff 2 _ p2
  have e7 := hff 7 _ p7
  have e9 := hff 9 _ p9
  clear hff hn p0 p2 p7 p9
  rw [lit112, e0, e2, e7, e9]
  clear e0 e2 e7 e9
  have HD5 := Lib.hid D5
  have HF5 := Lib.hid F5
  have HT := Lib.hid hT
  clear D5 F5 hT HD4 F04 G4
  go_wp2_with fail
  refine (crash_any HD5.out (by omega) (H2.out.kb HF5.out (fun k hk => by
    rcases hk with e | e | e
    · rw [e]; exact HD5.out.b1
    · rw [e]; exact HD5.out.b2
    · rw [e]; exact HD5.out.b3))).mono ?_
  rintro e w6 ⟨rfl, D6, F6⟩
  have F06 := HD5.out.grow HF5.out F6 (fun k e => e.elim .inl (fun e => e.elim (fun e => .inr (.inl e)) (fun e => .inr (.inr (.inl e)))))
  have G6 := (F6.block gt (lt_of_block G5) (fun e => e.elim gd (fun e => e.elim gn gl))).trans G5
  have hM : ∀ j, j < 8 → Tf j = false → lay (lay (fun _ _ => 0) (fws first (min 8 first.length))) (keepOf ws ks) j = b1 (first.getD j 0) := fun j hj hf => by
    rw [lay_other _ _ j (fun p hp => HT.out j hf p (keepOf_mem ws ks p hp)), first_laid first j hj]
  generalize lay (lay (fun _ _ => 0) (fws first (min 8 first.length))) (keepOf ws ks) = M at D6 hM
  have HD6 := Lib.hid D6
  have HM := Lib.hid hM
  clear D6 F6 G5 HD5 HF5 hM
  go_wp2_with fail
  refine lasts3 HM.out H0.out HD6.out F06 G6 _ rfl rfl rfl rfl rfl ?_
  intro t w7 hn F7
  obtain ⟨f, hff, rfl⟩ := frame_open hn
  clear hff hn
  rw [lit112]
  go_wp2_with fail
  go_ret
  exact ⟨rfl, F7⟩
end Go.Proofs.Ytgladedjgjhlaaa

/-
  The contracts of the methods of a nil Hash of package sha2; a part of owned parts is written.
-/
import Derived.Test.YtpgbghnjeonmjaaDoorPa
namespace Go.Proofs.YtpgbghnjeonmjaaDoor
open Go.RowKit
set_option linter.unusedVariables false

set_option maxRecDepth 100000 in
theorem neq_sumc (x y : List UInt8) (w : World) : (binOp .neq 34 (.agg (sumc x)) (.agg (sumc y))).run Tryd.prog w = .ok (.bool (!(S2.sum x == S2.sum y))) w := by
  have h := eql_sumc x y w
  rw [run_eql_struct] at h
  rw [run_neq_struct]
  revert h
  cases (Op.equalIn 10000 34 (.agg (sumc x)) (.agg (sumc y))).run Tryd.prog w with
  | ok b w2 =>
    intro h
    simp only [Result.andThen_ok] at h ⊢
    injection h with h1 h2
    injection h1 with h1
    rw [h1, h2]
  | halt a b => intro h; simp [Result.andThen] at h
set_option maxRecDepth 100000 in
set_option maxHeartbeats 400000 in
theorem write_nil (v : Value) (w : World) : Calls Tryd.prog 45 #[.pointer none, v] w fun e w' => e = .returned (.tuple #[]) ∧ w' = w := by
  go_enter Tryd.func45, Tryd.ntmps45
  go_wp2
  exact bodyPost_ret (results_none rfl _ _ _) rfl ⟨rfl, rfl⟩
set_option maxRecDepth 100000 in
set_option maxHeartbeats 1600000 in
theorem hsum_nil (w : World) (hE : Env w) :
    Calls Tryd.prog 47 #[.pointer none] w fun e w' => e = .returned (.agg (sumc [])) ∧ Fr (fun _ => False) w w' := by
  obtain ⟨l, hl0⟩ : ∃ l : List UInt8, l = [] := ⟨_, rfl⟩
  have hl : l.length ≤ 1152921504606846976 := by rw [hl0]; simp
  have L0 := Lib.hid hl0
  go_enter Tryd.func47, Tryd.ntmps47
  go_wp2_with fail
  generalize hw1 : World.alloc (World.alloc w _) _ = w1
  have hF1 : Fr (fun _ => False) w w1 := by rw [← hw1]; exact ((Fr.refl (fun _ => False) w).alloc _).alloc _
  have hr1 : ∃ rs, w1.heap[w.heap.size]? = some (.cells rs 34 (0, 0)) ∧ rs.size = 32 := ⟨_, by rw [← hw1]; exact heap_alloc2_old w _ _, rfl⟩
  have hh1 : HIs w1 (w.heap.size + 1) l := by rw [← hw1, hl0]; exact HIs.zero (heap_alloc2_new w _ _)
  have hE1 := hE.fr hF1 (fun h => h)
  have hz1 : w.heap.size + 1 < w1.heap.size := hh1.lt
  clear hw1 hl0
  have hcnt : w1.cell? ⟨w.heap.size + 1, 72, none⟩ = some (.int .i64 (l.length : Int)) := by
    obtain ⟨_, _, hb1, _⟩ := hh1.cells
    exact hb1.count
  have hcz : ((l.length : Nat) : Int) = 0 := by rw [L0.out]; rfl
  have hpad := padding_any l.length hl w1
  rw [hcz] at hpad
  have HC := Lib.hid hcz
  clear hcz
  refine hpad.mono ?_
  clear hpad
  rintro e w2 ⟨rfl, F2⟩
  go_wp2_with (with_reducible refine wpList_store_rowA rfl 98 (.tmp 4) (.tmp 15) rfl w2.heap.size (ub 72 (pf l.length 8)) rfl rfl 98 _ (heap_alloc_new w2 _) Tryd.size72 (Tryd.z72.trans (ub_size _ _).symm) (ub_one _ _) ?k2)
  case k2 =>
  intro w3 hp3 hG3
  have hG : Fr (fun k => k = w2.heap.size) w1 w3 := ((F2.mono (T := fun k => k = w2.heap.size) (fun _ _ h => h.elim)).alloc _).trans hG3 (fun i hi => Or.inl hi)
  have hF3 : Fr (fun _ => False) w w3 := hF1.trans hG (fun i hi => Or.inr (by have := hF1.size; have := F2.size; omega))
  have hh3 : HIs w3 (w.heap.size + 1) l := hh1.fr hG (by have := F2.size; omega)
  have hE3 := hE.fr hF3 (fun h => h)
  have hlies := pad_lies hp3
  have hplen : (S2.pad l.length).length = S2.padLen l.length := by rw [← pf_pad]; simp
  have hpl : S2.padLen l.length = 64 - (l.length % 64 + 8) % 64 + 8 := rfl
  have hp72 : S2.padLen l.length ≤ 72 := by omega
  have hp0 : (0 : Int) ≤ (S2.padLen l.length : Int) := by omega
  have hp1 : (S2.padLen l.length : Int) ≤ 72 := by omega
  have hne : S2.pad l.length ≠ [] := by intro e; rw [e] at hplen; simp at hplen; omega
  clear hpl hG3
  have Hplen := Lib.hid hplen
  clear hplen
  go_wp2_with fail
  refine (write_any' (w.heap.size + 1) l (S2.pad l.length) _ 72 _ Hplen.out w3 hh3 hlies hp72 (by unfold maxLen; omega) (Or.inr (fun ⟨ad, e, hb⟩ => by cases e; simp at hb; have := F2.size; omega)) (by have := Hplen.out; omega) hE3.tab hE3.lt (by have := hE.lt; omega)).mono ?_
  rintro e w4 ⟨rfl, hh4, hG4⟩
  obtain ⟨wl4, tl4, hb4, hi4⟩ := hh4.cells
  have hI4 := hi4 (by simp [hne])
  have hwords := hI4.hb.words
  go_wp2_with (with_reducible refine wpList_load_mid rfl 80 (.tmp 20) rfl (w.heap.size + 1) 0 rfl (stv (S2.hw (l ++ S2.pad l.length))).toList _ hwords Tryd.underlying80 rfl Tryd.size8L ?_)
  refine (joined_any _ (S2.hw_ok _) _).mono ?_
  rintro e w5 ⟨rfl, F5⟩
  have hF4 : Fr (fun _ => False) w w4 := hF3.trans hG4 (fun i hi => Or.inr (by omega))
  have hF5 : Fr (fun _ => False) w w5 := hF4.trans F5 (fun _ h => h.elim)
  have hr5 : ∃ rs, w5.heap[w.heap.size]? = some (.cells rs 34 (0, 0)) ∧ rs.size = 32 := by
    obtain ⟨rs, h1, h2⟩ := hr1
    have hz := lt_of_block h1
    refine ⟨rs, ?_, h2⟩
    rw [F5.block _ (by have := hG4.size; have := hF3.size; have := hh3.lt; omega) (fun h => h), hG4.block _ (by have := hh3.lt; omega) (by omega), hG.block _ (by omega) (by have := F2.size; omega), h1]
  obtain ⟨rs, hr5, hrs⟩ := hr5
  go_wp2_with (with_reducible refine wpList_store_row rfl 34 (.tmp 2) (.tmp 22) rfl w.heap.size (sumv (S2.hw (l ++ S2.pad l.length))) rfl rfl 34 rs hr5 Tryd.sizeS (hrs.trans (sumv_size _).symm) (sumv_one _) ?_)
  refine bodyPost_ret (results_cell_row rfl _ _ w.heap.size 34 (sumv (S2.hw (l ++ S2.pad l.length))) (0, 0) _ rfl (setRow_heap _ _ _ _ _ _ hr5) Tryd.underlying34 rfl Tryd.sizeS) rfl ?_
  rw [← L0.out]
  exact ⟨rfl, hF5.trans (Fr.setRow (S := fun k => k = w.heap.size) (Fr.refl _ _) rfl _) (fun i hi => Or.inr (by omega))⟩
end Go.Proofs.YtpgbghnjeonmjaaDoor


/-
  The walk of the law Sha2Goes.
-/
import Derived.Test.YtebmbhlhfojpeaaDoorGo
namespace Go.Proofs.YtebmbhlhfojpeaaDoor
open Go.RowKit
set_option linter.unusedVariables false

set_option maxRecDepth 100000 in
set_option maxHeartbeats 1600000 in
theorem goes_any (a : Option Addr) (L : List (List UInt8)) (n c : Nat) (w : World) (hn : L.length = n) (hn2 : n ≤ maxLen) (hP : Parts w a L) (hE : Env w) (hR : REnv w) :
    Calls Tryd.prog 4 #[.slice a n c] w fun e w' => e = .returned (.bool true) ∧ Fr (fun _ => False) w w' := by
  have kc := fun (w : World) (C : Array Value) (n c : Nat) => Lib.run_convert_bytes_const (P := Tryd.prog) w 28 5 C n c Tryd.underlying28 Tryd.underlying5
  have nq := fun (W : World) => neq_sumc [] [] W
  simp only [beq_self_eq_true] at nq
  have hgd := Tryd.guard32
  go_enter Tryd.func4, Tryd.ntmps4
  go_wp2_with fail
  refine (none_any _).mono ?_
  rintro e w1 ⟨rfl, hw⟩
  obtain rfl := hw.symm
  go_wp2_with fail
  refine (write_nil _ _).mono ?_
  rintro e w2 ⟨rfl, hw⟩
  obtain rfl := hw.symm
  generalize hW : World.alloc w _ = w2
  have F2 : Fr (fun _ => False) w w2 := by rw [← hW]; exact (Fr.refl _ w).alloc _
  clear hW kc
  go_wp2_with fail
  refine (sums_any _ (hE.fr F2 (fun h => h))).mono ?_
  rintro e w3 ⟨rfl, F3⟩
  have F23 : Fr (fun _ => False) w w3 := F2.trans F3 (fun _ h => h.elim)
  go_wp2_with fail
  refine (fork_nil _).mono ?_
  rintro e w4 ⟨rfl, hw⟩
  obtain rfl := hw.symm
  go_wp2_with fail
  refine (len_nil _).mono ?_
  rintro e w5 ⟨rfl, hw⟩
  obtain rfl := hw.symm
  go_wp2_with fail
  refine (hsum_nil _ (hE.fr F23 (fun h => h))).mono ?_
  rintro e w6 ⟨rfl, F6⟩
  have F26 : Fr (fun _ => False) w w6 := F23.trans F6 (fun _ h => h.elim)
  go_wp2_with fail
  refine (psum_any none [] 0 0 rfl _ (Or.inl rfl) (by unfold maxLen; omega) (by simp) (hE.fr F26 (fun h => h))).mono ?_
  rintro e w7 ⟨rfl, F7⟩
  rw [List.flatten_nil]
  have F27 : Fr (fun _ => False) w w7 := F26.trans F7 (fun _ h => h.elim)
  clear F2 F3 F6 F7 F23 F26
  go_wp2_with fail
  refine (new_any _).mono ?_
  rintro e w8 ⟨rfl, H8, F8⟩
  have F28 : Fr (fun _ => False) w w8 := F27.trans F8 (fun _ h => h.elim)
  have z8 := H8.lt
  have z7 := F27.size
  clear F8 F27 nq hgd
  go_wp2_with fail
  refine (few_any a L n c 10 200 10 200 rfl rfl (by decide) (by decide) hn w8 (hP.grow F28) hn2).mono ?_
  rintro e w9 ⟨a2, c2, A, C, rfl, hf, F9⟩
  have hk : (fewL L 10 200).length = min 10 n := by rw [fewL_len, hn]
  have hfl : (fewL L 10 200).flatten.length ≤ 2000 := fewL_flat L 10 200
  have F29 : Fr (fun _ => False) w w9 := F28.trans F9 (fun _ h => h.elim)
  have H9 := H8.fr F9 (fun h => h)
  have hg0 : 0 < w.heap.size := by obtain ⟨_, _, h⟩ := hR.tabH; exact lt_of_block h
  have hg1 : 1 < w.heap.size := World.block_lt_of_cell? _ _ (hR.tabK 0 (by decide))
  have hg2 := hE.lt
  have hE9 := hE.fr F29 (fun h => h)
  have hR9 := hR.fr F29 (fun h => h) (fun h => h)
  have z9 := F9.size
  generalize fewL L 10 200 = X at *
  have hmn : min 10 n ≤ 100 := by omega
  generalize min 10 n = m at *
  have Hk := Lib.hid hk
  have Hfl := Lib.hid hfl
  clear hk hfl hP hn2 hn F9 H8 F28
  generalize w8.heap.size = B at *
  generalize w7.heap.size = bh at *
  go_wp2_with fail
  refine goes_outer bh m c2 B a2 A C X hmn w9 Hk.out Hfl.out hf H9 (by omega) (by omega) hE9 hR9 (by omega) (by omega) (by omega) _ ⟨rfl, rfl, rfl, rfl, rfl⟩ ?_
  intro t' w10 hn10 F10
  have F210 : Fr (fun _ => False) w w10 := F29.trans F10 (fun i hi => Or.inr (by omega))
  obtain ⟨f, hff, rfl⟩ := frame_open hn10
  clear hff hn10
  rw [lit87]
  go_wp2_with fail
  go_ret
  exact ⟨rfl, F210⟩
end Go.Proofs.YtebmbhlhfojpeaaDoor

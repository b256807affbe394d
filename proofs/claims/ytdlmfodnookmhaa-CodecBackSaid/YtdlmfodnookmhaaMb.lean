/-
  The document's Write; the laws' tame.
-/
import Derived.Test.YtdlmfodnookmhaaMa
import Derived.Handy
namespace Go.Proofs.Ytdlmfodnookmhaa
open Go.RowKit
set_option linter.unusedVariables false
set_option linter.unusedSimpArgs false

set_option maxRecDepth 100000 in
set_option maxHeartbeats 800000 in
theorem rw_byte (z : Int) (f : Nat → UInt8) (t : List UInt8) (h0 : 0 ≤ z) (h1 : z ≤ 255) (w : World) :
    Calls Try.prog 10 #[.agg (pt 1 z f t)] w fun e w' => e = .returned (.tuple #[.string ⟨(encd (enc 0 z f t)).toArray⟩, .bool (enc 0 z f t).isSome]) ∧ Fr (fun _ => False) w w' := by
  have he : enc 0 z f t = some [UInt8.ofNat z.toNat] := by show (if 0 ≤ z ∧ z ≤ 255 then _ else _) = _; rw [if_pos ⟨h0, h1⟩]
  have hy : IntKind.u8.wrap z = ((UInt8.ofNat z.toNat).toNat : Int) := by rw [IntKind.wrap_u8, UInt8.toNat_ofNat']; omega
  rw [he]
  have n0 : ¬ (z < 0) := by omega
  have n1 : ¬ (255 < z) := by omega
  have c0 : (w.alloc (.cells (pt 1 z f t) 34)).cell? ⟨w.heap.size, 0, none⟩ = some (.int .i64 1) := (cell_of_block (heap_alloc_new w _) 0).trans (pt_0 _ z f t)
  have c1 : (w.alloc (.cells (pt 1 z f t) 34)).cell? ⟨w.heap.size, 1, none⟩ = some (.int .i64 z) := (cell_of_block (heap_alloc_new w _) 1).trans (pt_1 _ z f t)
  have c34 : (w.alloc (.cells (pt 1 z f t) 34)).cell? ⟨w.heap.size, 34, none⟩ = some (.string ⟨t.toArray⟩) := (cell_of_block (heap_alloc_new w _) 34).trans (pt_34 _ z f t)
  have FA : Fr (fun _ => False) w (w.alloc (.cells (pt 1 z f t) 34)) := (Fr.refl _ w).alloc _
  generalize pt 1 z f t = S at *
  go_enter Try.func10, Try.ntmps10
  go_wp2_with fail
  refine (one_any _ (UInt8.ofNat z.toNat) ?h1 _).mono ?_
  case h1 => exact hy
  rintro e w1 ⟨rfl, F1⟩
  go_wp2_with fail
  go_returns
  exact ⟨rfl, FA.trans F1 (fun _ h => h.elim)⟩
set_option maxRecDepth 100000 in
set_option maxHeartbeats 800000 in
theorem rw_low (z : Int) (f : Nat → UInt8) (t : List UInt8) (h0 : z < 0) (w : World) :
    Calls Try.prog 10 #[.agg (pt 1 z f t)] w fun e w' => e = .returned (.tuple #[.string ⟨(encd (enc 0 z f t)).toArray⟩, .bool (enc 0 z f t).isSome]) ∧ Fr (fun _ => False) w w' := by
  have he : enc 0 z f t = none := by show (if 0 ≤ z ∧ z ≤ 255 then _ else _) = _; rw [if_neg (by omega)]
  rw [he]
  have c0 : (w.alloc (.cells (pt 1 z f t) 34)).cell? ⟨w.heap.size, 0, none⟩ = some (.int .i64 1) := (cell_of_block (heap_alloc_new w _) 0).trans (pt_0 _ z f t)
  have c1 : (w.alloc (.cells (pt 1 z f t) 34)).cell? ⟨w.heap.size, 1, none⟩ = some (.int .i64 z) := (cell_of_block (heap_alloc_new w _) 1).trans (pt_1 _ z f t)
  have c34 : (w.alloc (.cells (pt 1 z f t) 34)).cell? ⟨w.heap.size, 34, none⟩ = some (.string ⟨t.toArray⟩) := (cell_of_block (heap_alloc_new w _) 34).trans (pt_34 _ z f t)
  have FA : Fr (fun _ => False) w (w.alloc (.cells (pt 1 z f t) 34)) := (Fr.refl _ w).alloc _
  generalize pt 1 z f t = S at *
  go_enter Try.func10, Try.ntmps10
  go_wp2_with fail
  go_returns
  exact ⟨rfl, FA⟩
set_option maxRecDepth 100000 in
set_option maxHeartbeats 800000 in
theorem rw_high (z : Int) (f : Nat → UInt8) (t : List UInt8) (h0 : 255 < z) (w : World) :
    Calls Try.prog 10 #[.agg (pt 1 z f t)] w fun e w' => e = .returned (.tuple #[.string ⟨(encd (enc 0 z f t)).toArray⟩, .bool (enc 0 z f t).isSome]) ∧ Fr (fun _ => False) w w' := by
  have he : enc 0 z f t = none := by show (if 0 ≤ z ∧ z ≤ 255 then _ else _) = _; rw [if_neg (by omega)]
  have n0 : ¬ (z < 0) := by omega
  rw [he]
  have c0 : (w.alloc (.cells (pt 1 z f t) 34)).cell? ⟨w.heap.size, 0, none⟩ = some (.int .i64 1) := (cell_of_block (heap_alloc_new w _) 0).trans (pt_0 _ z f t)
  have c1 : (w.alloc (.cells (pt 1 z f t) 34)).cell? ⟨w.heap.size, 1, none⟩ = some (.int .i64 z) := (cell_of_block (heap_alloc_new w _) 1).trans (pt_1 _ z f t)
  have c34 : (w.alloc (.cells (pt 1 z f t) 34)).cell? ⟨w.heap.size, 34, none⟩ = some (.string ⟨t.toArray⟩) := (cell_of_block (heap_alloc_new w _) 34).trans (pt_34 _ z f t)
  have FA : Fr (fun _ => False) w (w.alloc (.cells (pt 1 z f t) 34)) := (Fr.refl _ w).alloc _
  generalize pt 1 z f t = S at *
  go_enter Try.func10, Try.ntmps10
  go_wp2_with fail
  go_returns
  exact ⟨rfl, FA⟩
set_option maxRecDepth 100000 in
set_option maxHeartbeats 800000 in
theorem rw_flag (z : Int) (f : Nat → UInt8) (t : List UInt8) (w : World) :
    Calls Try.prog 10 #[.agg (pt 2 z f t)] w fun e w' => e = .returned (.tuple #[.string ⟨(encd (enc 1 z f t)).toArray⟩, .bool (enc 1 z f t).isSome]) ∧ Fr (fun _ => False) w w' := by
  obtain ⟨hb, hr⟩ := low_eq z
  have hy : IntKind.u8.wrap (low z : Int) = ((UInt8.ofNat (low z)).toNat : Int) := by rw [IntKind.wrap_u8, UInt8.toNat_ofNat']; omega
  have he : enc 1 z f t = some [UInt8.ofNat (low z)] := rfl
  rw [he]
  generalize low z = r at *
  have c0 : (w.alloc (.cells (pt 2 z f t) 34)).cell? ⟨w.heap.size, 0, none⟩ = some (.int .i64 2) := (cell_of_block (heap_alloc_new w _) 0).trans (pt_0 _ z f t)
  have c1 : (w.alloc (.cells (pt 2 z f t) 34)).cell? ⟨w.heap.size, 1, none⟩ = some (.int .i64 z) := (cell_of_block (heap_alloc_new w _) 1).trans (pt_1 _ z f t)
  have c34 : (w.alloc (.cells (pt 2 z f t) 34)).cell? ⟨w.heap.size, 34, none⟩ = some (.string ⟨t.toArray⟩) := (cell_of_block (heap_alloc_new w _) 34).trans (pt_34 _ z f t)
  have FA : Fr (fun _ => False) w (w.alloc (.cells (pt 2 z f t) 34)) := (Fr.refl _ w).alloc _
  generalize pt 2 z f t = S at *
  go_enter Try.func10, Try.ntmps10
  go_wp2_with fail
  refine (one_any _ (UInt8.ofNat r) ?h1 _).mono ?_
  case h1 => exact hy
  rintro e w1 ⟨rfl, F1⟩
  go_wp2_with fail
  go_returns
  exact ⟨rfl, FA.trans F1 (fun _ h => h.elim)⟩
set_option maxRecDepth 100000 in
set_option maxHeartbeats 800000 in
theorem rw_num (z : Int) (f : Nat → UInt8) (t : List UInt8) (w : World) :
    Calls Try.prog 10 #[.agg (pt 3 z f t)] w fun e w' => e = .returned (.tuple #[.string ⟨(encd (enc 2 z f t)).toArray⟩, .bool (enc 2 z f t).isSome]) ∧ Fr (fun _ => False) w w' := by
  obtain ⟨u, hu⟩ := wrap_u64_nat z
  have he : enc 2 z f t = some (be8 u) := by show some (be8 _) = _; rw [hu]; rfl
  rw [he]
  have c0 : (w.alloc (.cells (pt 3 z f t) 34)).cell? ⟨w.heap.size, 0, none⟩ = some (.int .i64 3) := (cell_of_block (heap_alloc_new w _) 0).trans (pt_0 _ z f t)
  have c1 : (w.alloc (.cells (pt 3 z f t) 34)).cell? ⟨w.heap.size, 1, none⟩ = some (.int .i64 z) := (cell_of_block (heap_alloc_new w _) 1).trans (pt_1 _ z f t)
  have c34 : (w.alloc (.cells (pt 3 z f t) 34)).cell? ⟨w.heap.size, 34, none⟩ = some (.string ⟨t.toArray⟩) := (cell_of_block (heap_alloc_new w _) 34).trans (pt_34 _ z f t)
  have FA : Fr (fun _ => False) w (w.alloc (.cells (pt 3 z f t) 34)) := (Fr.refl _ w).alloc _
  generalize pt 3 z f t = S at *
  go_enter Try.func10, Try.ntmps10
  go_wp2_with fail
  refine (eight_any z u hu _).mono ?_
  rintro e w1 ⟨rfl, F1⟩
  go_wp2_with fail
  go_returns
  exact ⟨rfl, FA.trans F1 (fun _ h => h.elim)⟩
set_option maxRecDepth 100000 in
set_option maxHeartbeats 800000 in
theorem rw_sum (z : Int) (f : Nat → UInt8) (t : List UInt8) (w : World) :
    Calls Try.prog 10 #[.agg (pt 4 z f t)] w fun e w' => e = .returned (.tuple #[.string ⟨(encd (enc 3 z f t)).toArray⟩, .bool (enc 3 z f t).isSome]) ∧ Fr (fun _ => False) w w' := by
  have he : enc 3 z f t = some ((List.range 32).map f) := rfl
  rw [he]
  have c0 : (w.alloc (.cells (pt 4 z f t) 34)).cell? ⟨w.heap.size, 0, none⟩ = some (.int .i64 4) := (cell_of_block (heap_alloc_new w _) 0).trans (pt_0 _ z f t)
  have c1 : (w.alloc (.cells (pt 4 z f t) 34)).cell? ⟨w.heap.size, 1, none⟩ = some (.int .i64 z) := (cell_of_block (heap_alloc_new w _) 1).trans (pt_1 _ z f t)
  have c34 : (w.alloc (.cells (pt 4 z f t) 34)).cell? ⟨w.heap.size, 34, none⟩ = some (.string ⟨t.toArray⟩) := (cell_of_block (heap_alloc_new w _) 34).trans (pt_34 _ z f t)
  have FA : Fr (fun _ => False) w (w.alloc (.cells (pt 4 z f t) 34)) := (Fr.refl _ w).alloc _
  have hL : Lies (w.alloc (.cells (pt 4 z f t) 34)) (some ⟨w.heap.size, 2, none⟩) ((List.range 32).map f) := Or.inr ⟨w.heap.size, 2, rfl, fun j hj => by
    have hj2 : j < 32 := by simpa using hj
    rw [cell_of_block (heap_alloc_new w _), pt_byte 4 z f t j hj2]
    simp⟩
  have hs := run_str hL 32 9 Try.underlying9
  rw [show ((List.range 32).map f).length = 32 by simp] at hs
  generalize pt 4 z f t = S at *
  go_enter Try.func10, Try.ntmps10
  go_wp2_with fail
  go_returns
  exact ⟨rfl, FA⟩
set_option maxRecDepth 100000 in
set_option maxHeartbeats 800000 in
theorem rw_text (z : Int) (f : Nat → UInt8) (t : List UInt8) (ht : t.length ≤ 300) (w : World) :
    Calls Try.prog 10 #[.agg (pt 5 z f t)] w fun e w' => e = .returned (.tuple #[.string ⟨(encd (enc 4 z f t)).toArray⟩, .bool (enc 4 z f t).isSome]) ∧ Fr (fun _ => False) w w' := by
  have he : enc 4 z f t = some (txt t) := rfl
  have hsz : (⟨t.toArray⟩ : ByteArray).size = t.length := by show t.toArray.size = _; simp
  have h6 : (t.length : Int) ≤ 65535 := by omega
  have n6 : ¬ ((65535 : Int) < (t.length : Int)) := by omega
  have HH := Lib.hid ht
  rw [he]
  have c0 : (w.alloc (.cells (pt 5 z f t) 34)).cell? ⟨w.heap.size, 0, none⟩ = some (.int .i64 5) := (cell_of_block (heap_alloc_new w _) 0).trans (pt_0 _ z f t)
  have c1 : (w.alloc (.cells (pt 5 z f t) 34)).cell? ⟨w.heap.size, 1, none⟩ = some (.int .i64 z) := (cell_of_block (heap_alloc_new w _) 1).trans (pt_1 _ z f t)
  have c34 : (w.alloc (.cells (pt 5 z f t) 34)).cell? ⟨w.heap.size, 34, none⟩ = some (.string ⟨t.toArray⟩) := (cell_of_block (heap_alloc_new w _) 34).trans (pt_34 _ z f t)
  have FA : Fr (fun _ => False) w (w.alloc (.cells (pt 5 z f t) 34)) := (Fr.refl _ w).alloc _
  generalize pt 5 z f t = S at *
  go_enter Try.func10, Try.ntmps10
  go_wp2_with fail
  refine (rtext4_any t (by have := HH.out; omega) _).mono ?_
  rintro e w1 ⟨rfl, F1⟩
  go_wp2_with fail
  go_returns
  exact ⟨rfl, FA.trans F1 (fun _ h => h.elim)⟩
theorem rwrite_any (q : Nat) (hq : q < 5) (z : Int) (f : Nat → UInt8) (t : List UInt8) (ht : t.length ≤ 300) (w : World) :
    Calls Try.prog 10 #[.agg (pt (1 + (q : Int)) z f t)] w fun e w' => e = .returned (.tuple #[.string ⟨(encd (enc q z f t)).toArray⟩, .bool (enc q z f t).isSome]) ∧ Fr (fun _ => False) w w' := by
  match q, hq with
  | 0, _ =>
    by_cases h0 : z < 0
    · exact rw_low z f t h0 w
    · by_cases h1 : 255 < z
      · exact rw_high z f t h1 w
      · exact rw_byte z f t (by omega) (by omega) w
  | 1, _ => exact rw_flag z f t w
  | 2, _ => exact rw_num z f t w
  | 3, _ => exact rw_sum z f t w
  | 4, _ => exact rw_text z f t ht w
end Go.Proofs.Ytdlmfodnookmhaa

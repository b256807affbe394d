/-
  The contracts of number of package hmac, and of Eight of package custumalref03.
-/
import Derived.Test.YtpgbghnjeonmjaaDoorRf
namespace Go.Proofs.YtpgbghnjeonmjaaDoor
open Go.RowKit
set_option linter.unusedVariables false

/-- Byte j of a number in eight bytes. -/
def b8 (u j : Nat) : UInt8 := UInt8.ofNat (u / 2 ^ (56 - 8 * j))
set_option maxRecDepth 100000 in
theorem b8_list (u : Nat) : (List.range 8).map (b8 u) = S2.be8 u := rfl
theorem b8_val (u j : Nat) : (u : Int) / 2 ^ (56 - 8 * j) % 256 = ((b8 u j).toNat : Int) := by
  unfold b8
  rw [UInt8.toNat_ofNat']
  simp
set_option maxRecDepth 100000 in
theorem wrap_u64_nat (z : Int) : ∃ u : Nat, IntKind.u64.wrap z = (u : Int) := ⟨(IntKind.u64.wrap z).toNat, by rw [IntKind.wrap_u64]; omega⟩
set_option maxRecDepth 100000 in
set_option maxHeartbeats 800000 in
theorem number_any (z : Int) (u : Nat) (hu : IntKind.u64.wrap z = (u : Int)) (w : World) :
    Calls Tryd.prog 39 #[.int .i64 z] w fun e w' => e = .returned (.slice (some ⟨w.heap.size, 0, none⟩) 8 8) ∧ w'.heap[w.heap.size]? = some (.cells (ub 8 (b8 u)) 5 (0, 0)) ∧ Fr (fun _ => False) w w' := by
  have hmk : ∀ w : World, (Instr.makeSlice 22 (.int .i64 8) (.int .i64 8)).run Tryd.prog w = .ok (.slice (some ⟨w.heap.size, 0, none⟩) 8 8) (w.alloc (.cells (ub 8 (fun _ => 0)) 5)) := fun _ => by kernel_rfl
  go_enter Tryd.func39, Tryd.ntmps39
  go_wp2_with fail
  clear hmk
  go_loopw [8] (fun i wr => ∃ k : Nat, k ≤ 8 ∧ i = .int .i64 k ∧ wr.heap[w.heap.size]? = some (.cells (ub 8 (fun j => if j < k then b8 u j else 0)) 5 (0, 0)) ∧ Fr (fun _ => False) w wr) (fun i _ => 8 - (intOf i).toNat)
  case atStart => exact ⟨0, by omega, by simp, heap_alloc_new w _, (Fr.refl _ w).alloc _⟩
  case round =>
    obtain ⟨k, hk, rfl, hB, hF⟩ := hrel
    by_cases hlt : k < 8
    · have q0 : (0 : Int) ≤ (k : Int) := by omega
      have q1 : (k : Int) < 8 := by omega
      have q2 : (0 : Int) ≤ 56 - 8 * (k : Int) := by omega
      have hv := b8_val u k
      have hc := cell_of_block hB k
      rw [ub_get 8 _ k hlt] at hc
      have hfz := free_of_block hB k
      have hst : (wr.setCell ⟨w.heap.size, k, none⟩ (.int .u8 ((b8 u k).toNat : Int))).heap[w.heap.size]? = some (.cells (ub 8 (fun j => if j < k + 1 then b8 u j else 0)) 5 (0, 0)) := by
        rw [block_setCell hB k, ub_set 8 _ k _ hlt]
        congr 3
        funext j
        by_cases e : j = k
        · subst e; simp
        · rw [if_neg e]
          by_cases e2 : j < k
          · rw [if_pos e2, if_pos (by omega)]
          · rw [if_neg e2, if_neg (by omega)]
      have hF2 : Fr (fun _ => False) w (wr.setCell ⟨w.heap.size, k, none⟩ (.int .u8 ((b8 u k).toNat : Int))) := hF.setCell (Or.inr (Nat.le_refl _)) _
      generalize b8 u k = y at hv hst hF2
      have HS := Lib.hid hst
      clear hst hB
      go_wp2_with fail
      exact ⟨⟨k + 1, by omega, rfl, HS.out, hF2⟩, by simp [intOf]; omega⟩
    · obtain rfl : k = 8 := by omega
      have e : ub 8 (fun j => if j < 8 then b8 u j else 0) = ub 8 (b8 u) := ub_congr (fun j hj => by rw [if_pos hj])
      rw [e] at hB
      have HB := Lib.hid hB
      clear e hB
      go_wp2_with fail
      go_ret
      exact ⟨rfl, HB.out, hF⟩
set_option maxRecDepth 100000 in
set_option maxHeartbeats 800000 in
theorem eight_any (z : Int) (u : Nat) (hu : IntKind.u64.wrap z = (u : Int)) (w : World) :
    Calls Tryd.prog 41 #[.int .i64 z] w fun e w' => e = .returned (.string ⟨(S2.be8 u).toArray⟩) ∧ Fr (fun _ => False) w w' := by
  go_enter Tryd.func41, Tryd.ntmps41
  go_wp2_with fail
  go_loopw [3, 4] (fun v i wx => ∃ j : Nat, j ≤ 8 ∧ i = .int .i64 (56 - 8 * (j : Int)) ∧ v = .string ⟨((S2.be8 u).take j).toArray⟩ ∧ Fr (fun _ => False) w wx) (fun _ i _ => (intOf i + 8).toNat)
  case atStart => exact ⟨0, by omega, by simp, rfl, Fr.refl _ _⟩
  case round =>
    obtain ⟨j, hj, rfl, rfl, hF⟩ := hrel
    by_cases hlt : j < 8
    · have q1 : (0 : Int) ≤ 56 - 8 * (j : Int) := by omega
      have hbt := be8_take u j hlt
      have hv := b8_val u j
      have hl : ((S2.be8 u).take j).length = j := by rw [List.length_take]; simp [S2.be8]; omega
      rw [show UInt8.ofNat (u / 2 ^ (56 - 8 * j)) = b8 u j from rfl] at hbt
      generalize b8 u j = y at hbt hv
      generalize (S2.be8 u).take j = x0 at *
      have c1 : ∀ W : World, (Op.stringOp .add ⟨x0.toArray⟩ ⟨#[y]⟩).run Tryd.prog W = .ok (.string ⟨(x0 ++ [y]).toArray⟩) W := fun W => run_string_add_lists W x0 [y] (by omega) (by simp)
      have k1 : ∀ W : World, (convert 22 9 (.slice (some ⟨W.heap.size, 0, none⟩) 1 1)).run Tryd.prog (W.alloc (.cells #[.int .u8 (y.toNat : Int)] 5)) = .ok (.string ⟨#[y]⟩) (W.alloc (.cells #[.int .u8 (y.toNat : Int)] 5)) := fun W => str_one _ y _ 1 (heap_alloc_new W _)
      have HB := Lib.hid hbt
      clear hbt
      go_wp2_with fail
      exact ⟨⟨j + 1, by omega, by congr 1; omega, by rw [HB.out], hF.alloc _⟩, by simp [intOf]; omega⟩
    · obtain rfl : j = 8 := by omega
      have e8 : (S2.be8 u).take 8 = S2.be8 u := rfl
      rw [e8]
      go_wp2_with fail
      go_ret
      exact ⟨rfl, hF⟩
end Go.Proofs.YtpgbghnjeonmjaaDoor


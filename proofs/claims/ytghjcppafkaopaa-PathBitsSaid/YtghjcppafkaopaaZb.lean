/-
  The functions of package path and of the document's answer on bits of keys.
-/
import Derived.Test.YtghjcppafkaopaaKo
import Derived.Test.YtghjcppafkaopaaBy
import Derived.Test.YtghjcppafkaopaaZa
namespace Go.Proofs.Ytghjcppafkaopaa
open Go.RowKit
set_option linter.unusedVariables false
set_option linter.unusedSimpArgs false

theorem wpList_value {P : Program} {ops : Array Oper} {rest : List Oper} {a : Act} {w : World} {Q : Exit → Act → World → Prop} (t : Tmp) (ty ty2 : TypeId) (x i : Operand) (pos : String) (after : Array Edge) {o : Oper} (v : Value)
    (ho : o = { dst := some t, op := .index ty x i, type := ty2, pos := pos, after := after, guard := none })
    (hz : (Instr.index ty (a.eval x) (a.eval i)).run P w = .ok v w)
    (h : wpList P ops Q rest (a.put (some t) v) w) : wpList P ops Q (o :: rest) a w := by
  subst ho
  refine wpList_plain rfl fun _ hK => ?_
  unfold Oper.wp execOp
  simp only [Sem.run_bind, Sem.run_pure, Result.andThen_ok, hz]
  exact hK _ _ h
theorem run_index_u8 {P : Program} {s : ByteArray} {t : TypeId} {k : Nat} {b : UInt8} (hu : P.underlying t = some .string) (h : s.data[k]? = some b) (w : World) :
    (Instr.index t (.string s) (.int .u8 (k : Int))).run P w = .ok (.int .u8 (b.toNat : Int)) w := by
  have hk : k < s.size := (Array.getElem?_eq_some_iff.1 h).1
  have hb : s[k]'hk = b := (Array.getElem?_eq_some_iff.1 h).2
  simp [Instr.index, asIntOf, run_underlying hu, hk, hb]
set_option maxRecDepth 100000 in
theorem len_tab : ∀ x, x < 256 → ({ data := (([0, 1, 2, 2, 3, 3, 3, 3, 4, 4, 4, 4, 4, 4, 4, 4, 5, 5, 5, 5, 5, 5, 5, 5, 5, 5, 5, 5, 5, 5, 5, 5, 6, 6, 6, 6, 6, 6, 6, 6, 6, 6, 6, 6, 6, 6, 6, 6, 6, 6, 6, 6, 6, 6, 6, 6, 6, 6, 6, 6, 6, 6, 6, 6].append [7, 7, 7, 7, 7, 7, 7, 7, 7, 7, 7, 7, 7, 7, 7, 7, 7, 7, 7, 7, 7, 7, 7, 7, 7, 7, 7, 7, 7, 7, 7, 7, 7, 7, 7, 7, 7, 7, 7, 7, 7, 7, 7, 7, 7, 7, 7, 7, 7, 7, 7, 7, 7, 7, 7, 7, 7, 7, 7, 7, 7, 7, 7, 7]).append ([8, 8, 8, 8, 8, 8, 8, 8, 8, 8, 8, 8, 8, 8, 8, 8, 8, 8, 8, 8, 8, 8, 8, 8, 8, 8, 8, 8, 8, 8, 8, 8, 8, 8, 8, 8, 8, 8, 8, 8, 8, 8, 8, 8, 8, 8, 8, 8, 8, 8, 8, 8, 8, 8, 8, 8, 8, 8, 8, 8, 8, 8, 8, 8].append [8, 8, 8, 8, 8, 8, 8, 8, 8, 8, 8, 8, 8, 8, 8, 8, 8, 8, 8, 8, 8, 8, 8, 8, 8, 8, 8, 8, 8, 8, 8, 8, 8, 8, 8, 8, 8, 8, 8, 8, 8, 8, 8, 8, 8, 8, 8, 8, 8, 8, 8, 8, 8, 8, 8, 8, 8, 8, 8, 8, 8, 8, 8, 8])).toArray } : ByteArray).data[x]? = some (UInt8.ofNat (len8 x)) := by decide +kernel
theorem len8_le : ∀ x, x < 256 → len8 x ≤ 8 := by decide +kernel
theorem Try.szKy : (Try.prog.info? 88).map (·.size) = some 32 := by kernel_rfl
theorem Try.alKy : ∀ w, (Instr.alloc 88 true (.tuple #[])).run Try.prog w = .ok (.pointer (some ⟨w.heap.size, 0, none⟩)) (w.alloc (.cells #[.int .u8 0, .int .u8 0, .int .u8 0, .int .u8 0, .int .u8 0, .int .u8 0, .int .u8 0, .int .u8 0, .int .u8 0, .int .u8 0, .int .u8 0, .int .u8 0, .int .u8 0, .int .u8 0, .int .u8 0, .int .u8 0, .int .u8 0, .int .u8 0, .int .u8 0, .int .u8 0, .int .u8 0, .int .u8 0, .int .u8 0, .int .u8 0, .int .u8 0, .int .u8 0, .int .u8 0, .int .u8 0, .int .u8 0, .int .u8 0, .int .u8 0, .int .u8 0] 88)) := fun w => by kernel_rfl
theorem Try.szBa : (Try.prog.info? 87).map (·.size) = some 32 := by kernel_rfl
theorem Try.alBa : ∀ w, (Instr.alloc 87 true (.tuple #[])).run Try.prog w = .ok (.pointer (some ⟨w.heap.size, 0, none⟩)) (w.alloc (.cells #[.int .u8 0, .int .u8 0, .int .u8 0, .int .u8 0, .int .u8 0, .int .u8 0, .int .u8 0, .int .u8 0, .int .u8 0, .int .u8 0, .int .u8 0, .int .u8 0, .int .u8 0, .int .u8 0, .int .u8 0, .int .u8 0, .int .u8 0, .int .u8 0, .int .u8 0, .int .u8 0, .int .u8 0, .int .u8 0, .int .u8 0, .int .u8 0, .int .u8 0, .int .u8 0, .int .u8 0, .int .u8 0, .int .u8 0, .int .u8 0, .int .u8 0, .int .u8 0] 87)) := fun w => by kernel_rfl
set_option maxRecDepth 100000 in
set_option maxHeartbeats 1600000 in
theorem len8_any (x : Nat) (hx : x < 256) (w : World) :
    Calls Try.prog 79 #[.int .u8 (x : Int)] w fun e w' => e = .returned (.int .i64 (len8 x : Int)) ∧ Fr (fun _ => False) w w' := by
  go_enter Try.func79, Try.ntmps79
  go_wp2_with fail
  go_ret
  refine ⟨?_, Fr.refl _ _⟩
  have e := (Array.getElem?_eq_some_iff.1 (len_tab x hx)).2
  have hl := len8_le x hx
  refine congrArg Ending.returned (congrArg (Value.int .i64) ?_)
  refine (congrArg (fun u : UInt8 => wrap64 (u.toNat : Int)) e).trans ?_
  show wrap64 ((UInt8.ofNat (len8 x)).toNat : Int) = _
  rw [UInt8.toNat_ofNat', IntWalk.wrap64_in _ (by omega)]
  omega
set_option maxRecDepth 100000 in
set_option maxHeartbeats 1600000 in
theorem lead8_any (x : Nat) (hx : x < 256) (w : World) :
    Calls Try.prog 71 #[.int .u8 (x : Int)] w fun e w' => e = .returned (.int .i64 ((8 - len8 x : Nat) : Int)) ∧ Fr (fun _ => False) w w' := by
  have hl := len8_le x hx
  have L := len8_any x hx
  go_enter Try.func71, Try.ntmps71
  go_wp2_with (first | (go_at_call 79; (with_reducible refine (L _).mono ?_); rintro e w' ⟨rfl, F⟩))
  go_ret
  refine ⟨?_, F⟩
  show Ending.returned (.int .i64 (8 - (len8 x : Int))) = _
  rw [show ((8 - len8 x : Nat) : Int) = 8 - (len8 x : Int) by omega]
set_option maxRecDepth 100000 in
set_option maxHeartbeats 1600000 in
theorem place_yes (i : Nat) (hi : i < 256) (w : World) :
    Calls Try.prog 69 #[.int .i64 (i : Int)] w fun e w' => e = .returned (.bool true) ∧ Fr (fun _ => False) w w' := by
  have h0 : (0 : Int) ≤ (i : Int) := by omega
  have h1 : (i : Int) < 256 := by omega
  go_enter Try.func69, Try.ntmps69
  go_wp2_with fail
  go_ret
  exact ⟨rfl, Fr.refl _ _⟩
set_option maxRecDepth 100000 in
set_option maxHeartbeats 1600000 in
theorem place_neg (i : Int) (hi : i < 0) (w : World) :
    Calls Try.prog 69 #[.int .i64 i] w fun e w' => e = .returned (.bool false) ∧ Fr (fun _ => False) w w' := by
  have h0 : ¬ (0 : Int) ≤ i := by omega
  have h1 : decide (0 ≤ i) = false := decide_eq_false h0
  go_enter Try.func69, Try.ntmps69
  go_wp2_with fail
  go_ret
  exact ⟨rfl, Fr.refl _ _⟩
set_option maxRecDepth 100000 in
set_option maxHeartbeats 1600000 in
theorem place_far (i : Int) (hi : 255 < i) (w : World) :
    Calls Try.prog 69 #[.int .i64 i] w fun e w' => e = .returned (.bool false) ∧ Fr (fun _ => False) w w' := by
  have h0 : (0 : Int) ≤ i := by omega
  have h1 : decide (i < 256) = false := decide_eq_false (by omega)
  have h2 : ¬ i < 256 := by omega
  go_enter Try.func69, Try.ntmps69
  go_wp2_with fail
  go_ret
  exact ⟨rfl, Fr.refl _ _⟩
theorem place_no (i : Int) (hi : i < 0 ∨ 255 < i) : Ans Try.prog 69 #[.int .i64 i] (.bool false) := fun W => by
  rcases hi with h | h
  · exact place_neg i h W
  · exact place_far i h W
set_option maxRecDepth 100000 in
set_option maxHeartbeats 1600000 in
theorem mask_any (i : Nat) (hi : i < 256) (w : World) :
    Calls Try.prog 70 #[.int .i64 (i : Int)] w fun e w' => e = .returned (.int .u8 ((128 / 2 ^ (i % 8) : Nat) : Int)) ∧ Fr (fun _ => False) w w' := by
  have h0 : (i : Int).tmod 8 = ((i % 8 : Nat) : Int) := by rw [Int.tmod_eq_emod_of_nonneg (by omega)]; simp
  have h1 : i % 8 < 8 := by omega
  go_enter Try.func70, Try.ntmps70
  go_wp2_with fail
  go_ret
  exact ⟨rfl, Fr.refl _ _⟩
end Go.Proofs.Ytghjcppafkaopaa

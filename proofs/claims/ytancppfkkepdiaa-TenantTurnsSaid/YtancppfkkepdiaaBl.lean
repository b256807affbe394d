/-
  A table of tenants: tables.
-/
import Derived.Test.YtancppfkkepdiaaBk
import Derived.Lib.SlBytesConst
namespace Go.Proofs.Ytancppfkkepdiaa
open Go.RowKit
set_option linter.unusedVariables false
set_option linter.unusedSimpArgs false
abbrev IB (W : World) (B : Nat) (z : Int) : Prop := W.heap[B]? = some (.cells #[.int .u8 z] 5 (1, 2))
set_option maxRecDepth 100000 in
theorem id_cv {W : World} {B : Nat} {z : Int} {s : ByteArray} (h : IB W B z) (hz : strOfNums [z] = s) : (convert 51 9 (.slice (some ⟨B, 0, none⟩) 1 1)).run Try.prog W = .ok (.string s) W := by
  rw [← hz]
  exact run_convert_bytes_arg (P := Try.prog) W 51 5 Try.underlying51 Try.underlying5 B 0 1 1 [z] rfl (fun i hi => by
    obtain rfl : i = 0 := by omega
    rw [cell_of_block h]; rfl) 9 Try.underlying9
set_option maxRecDepth 100000 in
theorem id_src {W : World} {B : Nat} {z : Int} (h : IB W B z) : Src Try.prog 1 51 (.slice (some ⟨B, 0, none⟩) 1 1) 1 [.int .u8 z] W := Src.ofSlice W Try.underlying51 ⟨B, 0, none⟩ 1 1 _ rfl (fun j u hj => by
    rw [Addr.add_mid, Nat.zero_add, cell_of_block h, ← Array.getElem?_toList]; exact hj) (fun u hu => by
    have : u = .int .u8 z := by simpa using hu
    rw [this]; rfl)
set_option maxRecDepth 100000 in
theorem IB.ext {W W' : World} {B : Nat} {z : Int} (h : IB W B z) (F : Fr (fun _ => False) W W') : IB W' B z := (F.block B (lt_of_block h) (fun h => h)).trans h
set_option maxRecDepth 100000 in
theorem IB.fr {W W' : World} {B : Nat} {z : Int} {S : Nat → Prop} (h : IB W B z) (F : Fr S W W') (hS : ¬ S B) : IB W' B z := (F.block B (lt_of_block h) hS).trans h
set_option maxRecDepth 100000 in
theorem nob_not (s : ByteArray) : isAt s nob = false := rfl
def K0 : Array Value := (List.replicate 64 (Value.int .u8 0)).toArray
set_option maxRecDepth 100000 in
theorem built0 (a' : Option Addr) (c' m : Nat) : ∃ cs : Array Value, Try.prog.built 86 [(0, .slice a' 1 c'), (1, .agg K0), (2, .agg #[.int .i64 1, .int .i64 1, .int .i64 1]), (3, .map (some m))] = some cs ∧ ∀ W : World, (Instr.box 86 (.agg cs)).run Try.prog W = .ok (.pointer (some ⟨W.heap.size, 0, none⟩)) (W.alloc (.cells cs 86)) :=
  ⟨((Try.prog.built 86 [(0, .slice a' 1 c'), (1, .agg K0), (2, .agg #[.int .i64 1, .int .i64 1, .int .i64 1]), (3, .map (some m))]).getD #[]), by kernel_rfl, fun W => by kernel_rfl⟩
set_option maxRecDepth 100000 in
set_option maxHeartbeats 3200000 in
theorem tables_any (w : World) : Calls Try.prog 12 #[] w fun e w' => e = .returned (.bool true) ∧ Fr (fun _ => False) w w' := by
  have kc := fun (w : World) (C : Array Value) (n c : Nat) => Lib.run_convert_bytes_const (P := Try.prog) w 51 5 C n c Try.underlying51 Try.underlying5
  go_enter Try.func12, Try.ntmps12
  go_wp2_with fail
  refine (new_any 1 (by decide) (by decide) w).mono ?_
  rintro e w1 ⟨tb, pb, rfl, hT, ht1, hp1, F1⟩
  have HT := Lib.hid (show TB w1 tb pb [nob] (.slice none 0 0) from hT)
  have HF1 := Lib.hid F1
  have HN := Lib.hid (And.intro ht1 hp1)
  clear hT ht1 hp1 F1
  go_wp2_with fail
  have hi1 : IB (w1.alloc (.cells #[.int .u8 97] 5 (1, 2))) w1.heap.size 97 := heap_alloc_new w1 _
  have ha1 := (Fr.refl (fun _ => False) w1).alloc (.cells #[.int .u8 97] 5 (1, 2))
  have HTA1 := Lib.hid (HT.out.ext ha1)
  have HI1 := Lib.hid hi1
  have HPB1 := Lib.hid (show (w1.heap.size ≠ pb) from fun e => by have := lt_of_block HT.out.row; omega)
  have HFA1 := Lib.hid (HF1.out.trans ha1 (fun _ h => h.elim))
  clear hi1 ha1
  refine (limits_any _).mono ?_
  rintro e v1 ⟨rfl, L1⟩
  have HTL1 := Lib.hid (HTA1.out.ext L1)
  have HIL1 := Lib.hid (HI1.out.ext L1)
  have HFL1 := Lib.hid (HFA1.out.trans L1 (fun _ h => h.elim))
  clear L1
  go_wp2_with fail
  refine (create_of tb (some ⟨w1.heap.size, 0, none⟩) 1 1 [.int .u8 97] (by decide) (by decide) K0 (by kernel_rfl) (by kernel_rfl) v1 built0 (fun W F => id_src (HIL1.out.ext F)) 0 0 (fun W' => (∃ d, TB W' tb pb [⟨⟨#[97]⟩, 1, some ⟨d, 0, none⟩⟩] (.slice none 0 0)) ∧ Fr (fun b => b = pb) v1 W') (fun d W F => ((imp_ok tb pb [nob] (.slice none 0 0) (by decide) _ 1 1 ⟨#[97]⟩ (by decide) (by decide) ⟨d, 0, none⟩ W (HTL1.out.ext F) (state_nob tb pb [nob] (by decide) _ 1 1 ⟨#[97]⟩ W (HTL1.out.ext F) (fun W' F' => id_cv ((HIL1.out.ext F).ext F') rfl) (fun x hx => by obtain rfl := List.mem_singleton.1 hx; exact nob_not _)) (fun W' F' => id_cv ((HIL1.out.ext F).fr F' (fun e => HPB1.out e)) rfl) 0 nob rfl rfl (fun j y hj _ => absurd hj (by omega))).mono (fun e w' h => ⟨h.1, ⟨d, h.2.1⟩, (F.mono (fun _ _ h => h.elim)).trans h.2.2 (fun _ h => .inl h)⟩)))).mono ?_
  rintro e w2 ⟨rfl, ⟨d, hT2⟩, F2⟩
  have HT2 := Lib.hid hT2
  have HF2 := Lib.hid (show Fr (fun _ => False) w w2 from HFL1.out.trans F2 (fun k h => .inr (by rw [h]; exact HN.out.2)))
  clear hT2 F2
  go_wp2_with fail
  have hi2 : IB (w2.alloc (.cells #[.int .u8 98] 5 (1, 2))) w2.heap.size 98 := heap_alloc_new w2 _
  have ha2 := (Fr.refl (fun _ => False) w2).alloc (.cells #[.int .u8 98] 5 (1, 2))
  have HTA2 := Lib.hid (HT2.out.ext ha2)
  have HI2 := Lib.hid hi2
  have HPB2 := Lib.hid (show (w2.heap.size ≠ pb) from fun e => by have := lt_of_block HT2.out.row; omega)
  have HFA2 := Lib.hid (HF2.out.trans ha2 (fun _ h => h.elim))
  clear hi2 ha2
  refine (limits_any _).mono ?_
  rintro e v2 ⟨rfl, L2⟩
  have HTL2 := Lib.hid (HTA2.out.ext L2)
  have HIL2 := Lib.hid (HI2.out.ext L2)
  have HFL2 := Lib.hid (HFA2.out.trans L2 (fun _ h => h.elim))
  clear L2
  go_wp2_with fail
  refine (create_of tb (some ⟨w2.heap.size, 0, none⟩) 1 1 [.int .u8 98] (by decide) (by decide) K0 (by kernel_rfl) (by kernel_rfl) v2 built0 (fun W F => id_src (HIL2.out.ext F)) 0 7 (fun W' => Fr (fun _ => False) v2 W') (fun d W F => ((imp_full tb pb _ _ (by simp) _ 1 1 (by decide) (by decide) ⟨d, 0, none⟩ W (HTL2.out.ext F) (state_nob tb pb _ (by simp) _ 1 1 ⟨#[98]⟩ W (HTL2.out.ext F) (fun W' F' => id_cv ((HIL2.out.ext F).ext F') rfl) (fun x hx => by obtain rfl := List.mem_singleton.1 hx; kernel_rfl)) (fun x hx => by obtain rfl := List.mem_singleton.1 hx; show (1 : Int) ≠ 0; decide)).mono (fun e w' h => ⟨h.1, F.trans h.2 (fun _ h => h.elim)⟩)))).mono ?_
  rintro e w3 ⟨rfl, F3⟩
  have HT3 := Lib.hid (HTL2.out.ext F3)
  have HF3 := Lib.hid (HFL2.out.trans F3 (fun _ h => h.elim))
  clear F3
  go_wp2_with fail
  have hi3 : IB (w3.alloc (.cells #[.int .u8 97] 5 (1, 2))) w3.heap.size 97 := heap_alloc_new w3 _
  have ha3 := (Fr.refl (fun _ => False) w3).alloc (.cells #[.int .u8 97] 5 (1, 2))
  have HTA3 := Lib.hid (HT3.out.ext ha3)
  have HI3 := Lib.hid hi3
  have HPB3 := Lib.hid (show (w3.heap.size ≠ pb) from fun e => by have := lt_of_block HT3.out.row; omega)
  have HFA3 := Lib.hid (HF3.out.trans ha3 (fun _ h => h.elim))
  clear hi3 ha3
  refine (delete_at tb pb _ (by simp) (some ⟨w3.heap.size, 0, none⟩) 1 1 ⟨#[97]⟩ _ HTA3.out (fun W F => id_cv (HI3.out.ext F) rfl) 0 _ rfl (by kernel_rfl) (fun j y hj _ => by
    have := (List.getElem?_eq_some_iff.1 hj).1
    simp at this
    exact this) (by show (1 : Int) ≠ 3; decide)).mono ?_
  rintro e w4 ⟨rfl, g, gc, hT4, hg4, hc4, F4⟩
  have HT4 := Lib.hid (show TB w4 tb pb [nob] (.slice (some ⟨g, 0, none⟩) 1 gc) from hT4)
  have HC4 := Lib.hid (show w4.cell? ⟨g, 0, none⟩ = some (.string ⟨#[97]⟩) from hc4)
  have HF4 := Lib.hid (show Fr (fun _ => False) w w4 from HFA3.out.trans F4 (fun k h => .inr (by
    rcases h with h | h
    · rw [h]; exact HN.out.1
    · rw [h]; exact HN.out.2)))
  clear hT4 hg4 hc4 F4
  go_wp2_with fail
  have hi4 : IB (w4.alloc (.cells #[.int .u8 97] 5 (1, 2))) w4.heap.size 97 := heap_alloc_new w4 _
  have ha4 := (Fr.refl (fun _ => False) w4).alloc (.cells #[.int .u8 97] 5 (1, 2))
  have HTA4 := Lib.hid (HT4.out.ext ha4)
  have HI4 := Lib.hid hi4
  have HPB4 := Lib.hid (show (w4.heap.size ≠ pb) from fun e => by have := lt_of_block HT4.out.row; omega)
  have HFA4 := Lib.hid (HF4.out.trans ha4 (fun _ h => h.elim))
  clear hi4 ha4
  have HC4a := Lib.hid ((((Fr.refl (fun _ => False) w4).alloc (.cells #[.int .u8 97] 5 (1, 2)))).cellSome (fun h => h) HC4.out)
  refine (limits_any _).mono ?_
  rintro e v4 ⟨rfl, L4⟩
  have HTL4 := Lib.hid (HTA4.out.ext L4)
  have HIL4 := Lib.hid (HI4.out.ext L4)
  have HFL4 := Lib.hid (HFA4.out.trans L4 (fun _ h => h.elim))
  have HC4b := Lib.hid (L4.cellSome (fun h => h) HC4a.out)
  clear L4
  go_wp2_with fail
  refine (create_of tb (some ⟨w4.heap.size, 0, none⟩) 1 1 [.int .u8 97] (by decide) (by decide) K0 (by kernel_rfl) (by kernel_rfl) v4 built0 (fun W F => id_src (HIL4.out.ext F)) 0 9 (fun W' => Fr (fun _ => False) v4 W') (fun d W F => ((imp_gone tb _ 1 1 (by decide) (by decide) ⟨d, 0, none⟩ W (state_gone tb pb [nob] (by decide) _ 1 1 ⟨#[97]⟩ W g gc (F.cellSome (fun h => h) HC4b.out) (HTL4.out.ext F) (fun W' F' => id_cv ((HIL4.out.ext F).ext F') rfl) (fun x hx => by obtain rfl := List.mem_singleton.1 hx; exact nob_not _))).mono (fun e w' h => ⟨h.1, F.trans h.2 (fun _ h => h.elim)⟩)))).mono ?_
  rintro e w5 ⟨rfl, F5⟩
  have HT5 := Lib.hid (HTL4.out.ext F5)
  have HF5 := Lib.hid (HFL4.out.trans F5 (fun _ h => h.elim))
  clear F5
  go_wp2_with fail
  refine (room_any tb pb [nob] _ (by decide) w5 HT5.out).mono ?_
  rintro e w6 ⟨rfl, F6⟩
  have HF6 := Lib.hid (HF5.out.trans F6 (fun _ h => h.elim))
  clear F6
  rw [show frees [nob] = 1 from rfl]
  go_wp2_with fail
  go_ret
  exact ⟨rfl, HF6.out⟩
end Go.Proofs.Ytancppfkkepdiaa

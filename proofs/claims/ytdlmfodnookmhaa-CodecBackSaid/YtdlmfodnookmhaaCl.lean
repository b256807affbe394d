/-
  CodecLong: a text has at most 65535 bytes, and not one more; it is read if it isn't longer than is asked.
-/
import Derived.Test.YtdlmfodnookmhaaCt
import Derived.Lib.SlBytesConst
namespace Go.Proofs.Ytdlmfodnookmhaa
open Go.RowKit
set_option linter.unusedVariables false


set_option maxRecDepth 100000 in
set_option maxHeartbeats 1600000 in
theorem codes_any (w : World) : Calls Try.prog 11 #[] w fun e w' => e = .returned (.bool true) ∧ Fr (fun _ => False) w w' := by
  have kc := fun (w : World) (C : Array Value) (n c : Nat) => Lib.run_convert_bytes_const (P := Try.prog) w 26 5 C n c Try.underlying26 Try.underlying5
  go_enter Try.func11, Try.ntmps11
  go_wp2_with fail
  have h0 : Wr (w.alloc (.cells #[.slice none 0 0, .int .i64 0] 31)) w.heap.size w.heap.size (.slice none 0 0) [] 0 :=
    ⟨heap_alloc_new w _, World.ownsRow_nil _ _ _ _, by simp⟩
  have F0 : Fr (fun _ => False) w (w.alloc (.cells #[.slice none 0 0, .int .i64 0] 31)) := (Fr.refl _ w).alloc _
  refine (byte_ok w.heap.size w.heap.size (.slice none 0 0) 0 5 [] _ h0 (by decide) (by decide) (by decide)).mono ?_
  rintro e w1 ⟨rfl, v1, h1, F1, g1⟩
  go_wp2_with fail
  have s1 : ∀ w2 : World, Fr (fun k => k = w.heap.size ∨ v1.ownBlock = some k) (w1.alloc (.cells #[.int .u8 97, .int .u8 98] 5 (2, 3))) w2 → Src Try.prog 1 26 (.slice (some ⟨w1.heap.size, 0, none⟩) 2 2) 2 [.int .u8 97, .int .u8 98] w2 := by
    intro w2 hF
    refine src_block (cs := #[.int .u8 97, .int .u8 98]) (t := 5) ((hF.block w1.heap.size (by simp) ?_).trans (heap_alloc_new w1 _)) (by simp [Value.oneCell']) 2
    rintro (e | e)
    · have := lt_of_block h1.blk; omega
    · have := h1.row_lt _ e; omega
  refine (text_ok w.heap.size w.heap.size v1 0 2 2 _ _ [.int .u8 97, .int .u8 98] _ (h1.alloc _) s1 (by decide) (by simp)).mono ?_
  rintro e w2 ⟨rfl, v2, h2, F2, g2⟩
  go_wp2_with fail
  refine (bytes_any w.heap.size w.heap.size v2 0 _ _ h2 (by simp [Value.oneCell']) (by simp)).mono ?_
  rintro e w3 ⟨v3, rfl, hown, F3⟩
  obtain ⟨a3, c3, rfl, _⟩ := slice_of_own hown
  have hl := (lies_own (l := [5, 0, 2, 97, 98]) hown).2.2.2
  have hst : (convert 26 9 (.slice a3 5 c3)).run Try.prog w3 = .ok (.string ⟨#[5, 0, 2, 97, 98]⟩) w3 := run_str hl c3 9 Try.underlying9
  go_wp2
  go_ret
  have G1 : Fr (fun _ => False) w w1 := F0.trans F1 (fun i hi => Or.inr (by rcases hi with e | e; omega; cases e))
  have G2 : Fr (fun _ => False) w w2 := (G1.alloc _).trans F2 (fun i hi => Or.inr (by rcases hi with e | e; omega; exact (h1.row_lt _ e).1))
  exact ⟨rfl, G2.trans F3 (fun i hi => hi.elim)⟩

theorem u64_nat (n : Int) : ∃ u : Nat, IntKind.u64.wrap n = (u : Int) := ⟨(IntKind.u64.wrap n).toNat, by rw [IntKind.wrap_u64]; omega⟩

/-- So many noughts. -/
def noughts (n : Nat) : List UInt8 := List.replicate n 0
theorem made_noughts (n : Nat) : (madeCells #[Value.int .u8 0] n).toList = bv (noughts n) := by
  apply List.ext_getElem
  · simp [madeCells, noughts, bv]
  · intro i h1 h2
    simp [madeCells, noughts, bv, Nat.mod_one]

/-- The two bytes of a count. -/
def hb (m : Nat) : UInt8 := UInt8.ofNat (m / 256)
def lb (m : Nat) : UInt8 := UInt8.ofNat (m % 256)
theorem text_bytes (m : Nat) (h : m ≤ 65535) (l : List UInt8) : [Value.int .u8 (m / 256), Value.int .u8 (m % 256)] ++ bv l = bv (hb m :: lb m :: l) := by
  have h1 : (hb m).toNat = m / 256 := by unfold hb; rw [UInt8.toNat_ofNat']; omega
  have h2 : (lb m).toNat = m % 256 := by unfold lb; rw [UInt8.toNat_ofNat']; omega
  rw [bv_cons, bv_cons, h1, h2]
  simp
theorem cnt_text (m : Nat) (h : m ≤ 65535) : cnt (hb m) (lb m) = m := by
  have h1 : (hb m).toNat = m / 256 := by unfold hb; rw [UInt8.toNat_ofNat']; omega
  have h2 : (lb m).toNat = m % 256 := by unfold lb; rw [UInt8.toNat_ofNat']; omega
  unfold cnt
  rw [h1, h2]; omega

end Go.Proofs.Ytdlmfodnookmhaa


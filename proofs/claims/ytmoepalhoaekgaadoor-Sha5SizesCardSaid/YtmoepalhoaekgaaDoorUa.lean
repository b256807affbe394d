/-
  The contract of turn of package custumalref02; its frame; rows of words that are partly known.
-/
import Derived.Test.YtmoepalhoaekgaaDoorRi
import Derived.Test.YtmoepalhoaekgaaDoorMix5
import Derived.StillTailTactics
import Derived.Deep.RegionHeld3
namespace Go.Proofs.YtmoepalhoaekgaaDoor
open Go.RowKit
set_option linter.unusedVariables false

theorem turn5_eq (x n : Nat) (hx : x < 18446744073709551616) (h1 : 1 ≤ n) (h2 : n ≤ 63) : bits .or .u64 ((x : Int) / 2 ^ n) ((x : Int) * 2 ^ (64 - n) % 18446744073709551616) = ((S5.rotr x n : Nat) : Int) := by
  have e1 : (x : Int) * 2 ^ (64 - n) % 18446744073709551616 = ((x * 2 ^ (64 - n) % 18446744073709551616 : Nat) : Int) := by simp
  have e2 : (x : Int) / 2 ^ n = ((x / 2 ^ n : Nat) : Int) := by simp
  rw [e1, e2, (bits_u64_nat5 _ _ (Nat.lt_of_le_of_lt (Nat.div_le_self _ _) hx) (Nat.mod_lt _ (by decide))).1]
  unfold S5.rotr
  rw [Nat.shiftRight_eq_div_pow, Nat.shiftLeft_eq]
set_option maxRecDepth 100000 in
set_option maxHeartbeats 400000 in
theorem turn5_any (x n : Nat) (N : Int) (hN : N = (n : Int)) (hx : x < 18446744073709551616) (h2 : 1 ≤ n) (h3 : n ≤ 63) (w : World) :
    Calls Tryd.prog 37 #[.int .u64 x, .int .i64 N] w fun e w' => e = .returned (.int .u64 (S5.rotr x n)) ∧ ∃ nn, w' = w.drewN nn := by
  subst hN
  have h0 : ¬ (64 - (n : Int)) < 0 := by omega
  have e0 : (64 - (n : Int)).toNat = 64 - n := by omega
  go_enter Tryd.func37, Tryd.ntmps37
  go_wp2_with fail
  go_quiet (fail)
  go_wp2
  go_ret
  exact ⟨ret_u645 (turn5_eq x n hx h2 h3), _, rfl⟩

/-- The pins of the frame that stay through the schedule's loop. -/
structure UPin (t : Array Value) (g N c B6 B8 off : Nat) : Prop where
  n : t.size = 244
  p4 : t[4]? = some (.slice (some ⟨g, 0, none⟩) N c)
  p6 : t[6]? = some (.pointer (some ⟨B6, 0, none⟩))
  p7 : t[7]? = some (.int .i64 (off : Int))
  p8 : t[8]? = some (.pointer (some ⟨B8, 0, none⟩))
set_option maxRecDepth 100000 in
theorem lit244 (f : Nat → Value) : ((List.range 244).map f).toArray = #[f 0, f 1, f 2, f 3, f 4, f 5, f 6, f 7, f 8, f 9, f 10, f 11, f 12, f 13, f 14, f 15, f 16, f 17, f 18, f 19, f 20, f 21, f 22, f 23, f 24, f 25, f 26, f 27, f 28, f 29, f 30, f 31, f 32, f 33, f 34, f 35, f 36, f 37, f 38, f 39, f 40, f 41, f 42, f 43, f 44, f 45, f 46, f 47, f 48, f 49, f 50, f 51, f 52, f 53, f 54, f 55, f 56, f 57, f 58, f 59, f 60, f 61, f 62, f 63, f 64, f 65, f 66, f 67, f 68, f 69, f 70, f 71, f 72, f 73, f 74, f 75, f 76, f 77, f 78, f 79, f 80, f 81, f 82, f 83, f 84, f 85, f 86, f 87, f 88, f 89, f 90, f 91, f 92, f 93, f 94, f 95, f 96, f 97, f 98, f 99, f 100, f 101, f 102, f 103, f 104, f 105, f 106, f 107, f 108, f 109, f 110, f 111, f 112, f 113, f 114, f 115, f 116, f 117, f 118, f 119, f 120, f 121, f 122, f 123, f 124, f 125, f 126, f 127, f 128, f 129, f 130, f 131, f 132, f 133, f 134, f 135, f 136, f 137, f 138, f 139, f 140, f 141, f 142, f 143, f 144, f 145, f 146, f 147, f 148, f 149, f 150, f 151, f 152, f 153, f 154, f 155, f 156, f 157, f 158, f 159, f 160, f 161, f 162, f 163, f 164, f 165, f 166, f 167, f 168, f 169, f 170, f 171, f 172, f 173, f 174, f 175, f 176, f 177, f 178, f 179, f 180, f 181, f 182, f 183, f 184, f 185, f 186, f 187, f 188, f 189, f 190, f 191, f 192, f 193, f 194, f 195, f 196, f 197, f 198, f 199, f 200, f 201, f 202, f 203, f 204, f 205, f 206, f 207, f 208, f 209, f 210, f 211, f 212, f 213, f 214, f 215, f 216, f 217, f 218, f 219, f 220, f 221, f 222, f 223, f 224, f 225, f 226, f 227, f 228, f 229, f 230, f 231, f 232, f 233, f 234, f 235, f 236, f 237, f 238, f 239, f 240, f 241, f 242, f 243] := by kernel_rfl
set_option maxRecDepth 100000 in
theorem UPin.open {t : Array Value} {g N c B6 B8 off : Nat} (h : UPin t g N c B6 B8 off) : ∃ f : Nat → Value, (∀ i v, t[i]? = some v → f i = v) ∧ t = #[f 0, f 1, f 2, f 3, .slice (some ⟨g, 0, none⟩) N c, f 5, .pointer (some ⟨B6, 0, none⟩), .int .i64 (off : Int), .pointer (some ⟨B8, 0, none⟩), f 9, f 10, f 11, f 12, f 13, f 14, f 15, f 16, f 17, f 18, f 19, f 20, f 21, f 22, f 23, f 24, f 25, f 26, f 27, f 28, f 29, f 30, f 31, f 32, f 33, f 34, f 35, f 36, f 37, f 38, f 39, f 40, f 41, f 42, f 43, f 44, f 45, f 46, f 47, f 48, f 49, f 50, f 51, f 52, f 53, f 54, f 55, f 56, f 57, f 58, f 59, f 60, f 61, f 62, f 63, f 64, f 65, f 66, f 67, f 68, f 69, f 70, f 71, f 72, f 73, f 74, f 75, f 76, f 77, f 78, f 79, f 80, f 81, f 82, f 83, f 84, f 85, f 86, f 87, f 88, f 89, f 90, f 91, f 92, f 93, f 94, f 95, f 96, f 97, f 98, f 99, f 100, f 101, f 102, f 103, f 104, f 105, f 106, f 107, f 108, f 109, f 110, f 111, f 112, f 113, f 114, f 115, f 116, f 117, f 118, f 119, f 120, f 121, f 122, f 123, f 124, f 125, f 126, f 127, f 128, f 129, f 130, f 131, f 132, f 133, f 134, f 135, f 136, f 137, f 138, f 139, f 140, f 141, f 142, f 143, f 144, f 145, f 146, f 147, f 148, f 149, f 150, f 151, f 152, f 153, f 154, f 155, f 156, f 157, f 158, f 159, f 160, f 161, f 162, f 163, f 164, f 165, f 166, f 167, f 168, f 169, f 170, f 171, f 172, f 173, f 174, f 175, f 176, f 177, f 178, f 179, f 180, f 181, f 182, f 183, f 184, f 185, f 186, f 187, f 188, f 189, f 190, f 191, f 192, f 193, f 194, f 195, f 196, f 197, f 198, f 199, f 200, f 201, f 202, f 203, f 204, f 205, f 206, f 207, f 208, f 209, f 210, f 211, f 212, f 213, f 214, f 215, f 216, f 217, f 218, f 219, f 220, f 221, f 222, f 223, f 224, f 225, f 226, f 227, f 228, f 229, f 230, f 231, f 232, f 233, f 234, f 235, f 236, f 237, f 238, f 239, f 240, f 241, f 242, f 243] := by
  obtain ⟨f, hf, ht⟩ := frame_open h.n
  rw [lit244] at ht
  refine ⟨f, hf, ?_⟩
  rw [ht, hf 4 _ h.p4, hf 6 _ h.p6, hf 7 _ h.p7, hf 8 _ h.p8]

theorem uv5_set (n : Nat) (f : Nat → Nat) (i b : Nat) (hi : i < n) : (uv5 n f).setIfInBounds i (.int .u64 (b : Int)) = uv5 n (fun j => if j = i then b else f j) := by
  refine arr_eq5 (by simp [uv_size5]) (fun j hj => ?_)
  rw [Array.getElem?_setIfInBounds]
  by_cases h : i = j
  · subst h; simp [uv_size5, hj]
  · rw [if_neg h, uv_get5 n f j hj, if_neg (fun e => h e.symm)]
theorem uv5_congr {n : Nat} {f g : Nat → Nat} (h : ∀ j, j < n → f j = g j) : uv5 n f = uv5 n g := arr_eq5 (uv_size5 n f) (fun j hj => by rw [uv_get5 n f j hj, h j hj])
/-- The words: the first k are there, then one that is under way, then noughts. -/
def wf (l : List UInt8) (k x j : Nat) : Nat := if j < k then S5.W l j else if j = k then x else 0
theorem wf_next (l : List UInt8) (k : Nat) : wf l k (S5.W l k) = wf l (k + 1) 0 := by
  funext j
  unfold wf
  by_cases h1 : j < k
  · rw [if_pos h1, if_pos (by omega)]
  · by_cases h2 : j = k
    · rw [if_neg h1, if_pos h2, if_pos (by omega), h2]
    · rw [if_neg h1, if_neg h2, if_neg (by omega)]; split <;> rfl
theorem wf_set (l : List UInt8) (k x y : Nat) (hk : k < 80) : (uv5 80 (wf l k x)).setIfInBounds k (.int .u64 (y : Int)) = uv5 80 (wf l k y) := by
  rw [uv5_set 80 _ k y hk]
  refine uv5_congr fun j hj => ?_
  unfold wf
  by_cases h1 : j < k
  · rw [if_neg (by omega), if_pos h1, if_pos h1]
  · by_cases h2 : j = k
    · rw [if_pos h2, if_neg h1, if_pos h2]
    · rw [if_neg h2, if_neg h1, if_neg h2, if_neg h1, if_neg h2]
/-- The schedule's block. -/
def Wd5 (w : World) (b : Nat) (l : List UInt8) (k x : Nat) : Prop := w.heap[b]? = some (.cells (uv5 80 (wf l k x)) 74 (0, 0))
theorem Wd5.at {w : World} {b k x : Nat} {l : List UInt8} (h : Wd5 w b l k x) (hk : k < 80) : w.cell? ⟨b, k, none⟩ = some (.int .u64 (x : Int)) := by
  rw [cell_of_block h, uv_get5 80 _ k hk]
  unfold wf
  rw [if_neg (by omega), if_pos rfl]
theorem Wd5.cell {w : World} {b k x : Nat} {l : List UInt8} (h : Wd5 w b l k x) (j : Nat) (hj : j < k) (hk : k ≤ 80) : w.cell? ⟨b, j, none⟩ = some (.int .u64 (S5.W l j : Int)) := by
  rw [cell_of_block h, uv_get5 80 _ j (by omega)]
  unfold wf
  rw [if_pos hj]
theorem Wd5.free {w : World} {b k x : Nat} {l : List UInt8} (h : Wd5 w b l k x) (j : Nat) : w.frozen? ⟨b, j, none⟩ = false := free_of_block h j
theorem Wd5.set {w : World} {b k x : Nat} {l : List UInt8} (h : Wd5 w b l k x) (hk : k < 80) (y : Nat) (v : Int) (hv : v = (y : Int)) : Wd5 (w.setCell ⟨b, k, none⟩ (.int .u64 v)) b l k y := by
  subst hv
  unfold Wd5
  rw [block_setCell h k, wf_set l k x y hk]
theorem Wd5.next {w : World} {b k : Nat} {l : List UInt8} (h : Wd5 w b l k (S5.W l k)) : Wd5 w b l (k + 1) 0 := by
  unfold Wd5 at h ⊢
  rw [← wf_next]; exact h
theorem Wd5.fr {w w2 : World} {b k x : Nat} {l : List UInt8} {S : Nat → Prop} (h : Wd5 w b l k x) (hF : Fr S w w2) (hs : ¬ S b) : Wd5 w2 b l k x := (hF.block b (lt_of_block h) hs).trans h
theorem pv_word (l : List UInt8) (k : Nat) : pv l (8 * k + 8) k = S5.word l k := by
  unfold pv
  rw [show min 8 (8 * k + 8 - 8 * k) = 8 by omega]
  show (((((((0 * 256 + _) * 256 + _) * 256 + _) * 256 + _) * 256 + _) * 256 + _) * 256 + _) * 256 + _ = _
  unfold S5.word
  rw [Nat.zero_mul, Nat.zero_add]
  rfl
theorem pv_none (l : List UInt8) (k : Nat) : pv l (8 * k) k = 0 := by
  unfold pv
  rw [show min 8 (8 * k - 8 * k) = 0 by omega]; rfl
end Go.Proofs.YtmoepalhoaekgaaDoor

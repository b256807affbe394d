/-
  The contract of turn of package custumalref02; its frame; rows of words that are partly known.
  The schedule's loop of Sum of package custumalref02.
  The schedule's loop of Sum of package custumalref02, whole.
  The loop of rounds of Sum of package custumalref02.
  The loop that adds of Sum of package custumalref02.
  The loop over the blocks of Sum of package custumalref02.
  The loops that lay the words out of Sum of package custumalref02.
  The contract of Sum of package custumalref02: it is SHA-512 of the string's bytes.
-/
import Derived.Test.YtmoepalhoaekgaaDoorRi
import Derived.Test.YtmoepalhoaekgaaDoorMix5
import Derived.StillTailTactics
import Derived.Deep.RegionHeld3
import Derived.Test.YtmoepalhoaekgaaDoorOw
import Derived.Test.YtmoepalhoaekgaaDoorRs
namespace Go.Proofs.YtmoepalhoaekgaaDoor
open Go.RowKit
set_option linter.unusedVariables false

theorem turn5_eq (x n : Nat) (hx : x < 18446744073709551616) (h1 : 1 ≤ n) (h2 : n ≤ 63) : bits .or .u64 ((x : Int) / 2 ^ n) ((x : Int) * 2 ^ (64 - n) % 18446744073709551616) = ((S5.rotr x n : Nat) : Int) := by
  have e1 : (x : Int) * 2 ^ (64 - n) % 18446744073709551616 = ((x * 2 ^ (64 - n) % 18446744073709551616 : Nat) : Int) := by simp
  have e2 : (x : Int) / 2 ^ n = ((x / 2 ^ n : Nat) : Int) := by simp
  rw [e1, e2, (bits_u64_nat5 _ _ (Nat.lt_of_le_of_lt (Nat.div_le_self _ _) hx) (Nat.mod_lt _ (by decide))).1]
  unfold S5.rotr
  rw [Nat.shiftRight_eq_div_pow, Nat.shiftLeft_eq]
set_option maxRecDepth 100000 in
set_option maxHeartbeats 400000 in
theorem turn5_any (x n : Nat) (N : Int) (hN : N = (n : Int)) (hx : x < 18446744073709551616) (h2 : 1 ≤ n) (h3 : n ≤ 63) (w : World) :
    Calls Tryd.prog 37 #[.int .u64 x, .int .i64 N] w fun e w' => e = .returned (.int .u64 (S5.rotr x n)) ∧ ∃ nn, w' = w.drewN nn := by
  subst hN
  have h0 : ¬ (64 - (n : Int)) < 0 := by omega
  have e0 : (64 - (n : Int)).toNat = 64 - n := by omega
  go_enter Tryd.func37, Tryd.ntmps37
  go_wp2_with fail
  go_quiet (fail)
  go_wp2
  go_ret
  exact ⟨ret_u645 (turn5_eq x n hx h2 h3), _, rfl⟩

/-- The pins of the frame that stay through the schedule's loop. -/
structure UPin (t : Array Value) (g N c B6 B8 off : Nat) : Prop where
  n : t.size = 244
  p4 : t[4]? = some (.slice (some ⟨g, 0, none⟩) N c)
  p6 : t[6]? = some (.pointer (some ⟨B6, 0, none⟩))
  p7 : t[7]? = some (.int .i64 (off : Int))
  p8 : t[8]? = some (.pointer (some ⟨B8, 0, none⟩))
set_option maxRecDepth 100000 in
theorem lit244 (f : Nat → Value) : ((List.range 244).map f).toArray = #[f 0, f 1, f 2, f 3, f 4, f 5, f 6, f 7, f 8, f 9, f 10, f 11, f 12, f 13, f 14, f 15, f 16, f 17, f 18, f 19, f 20, f 21, f 22, f 23, f 24, f 25, f 26, f 27, f 28, f 29, f 30, f 31, f 32, f 33, f 34, f 35, f 36, f 37, f 38, f 39, f 40, f 41, f 42, f 43, f 44, f 45, f 46, f 47, f 48, f 49, f 50, f 51, f 52, f 53, f 54, f 55, f 56, f 57, f 58, f 59, f 60, f 61, f 62, f 63, f 64, f 65, f 66, f 67, f 68, f 69, f 70, f 71, f 72, f 73, f 74, f 75, f 76, f 77, f 78, f 79, f 80, f 81, f 82, f 83, f 84, f 85, f 86, f 87, f 88, f 89, f 90, f 91, f 92, f 93, f 94, f 95, f 96, f 97, f 98, f 99, f 100, f 101, f 102, f 103, f 104, f 105, f 106, f 107, f 108, f 109, f 110, f 111, f 112, f 113, f 114, f 115, f 116, f 117, f 118, f 119, f 120, f 121, f 122, f 123, f 124, f 125, f 126, f 127, f 128, f 129, f 130, f 131, f 132, f 133, f 134, f 135, f 136, f 137, f 138, f 139, f 140, f 141, f 142, f 143, f 144, f 145, f 146, f 147, f 148, f 149, f 150, f 151, f 152, f 153, f 154, f 155, f 156, f 157, f 158, f 159, f 160, f 161, f 162, f 163, f 164, f 165, f 166, f 167, f 168, f 169, f 170, f 171, f 172, f 173, f 174, f 175, f 176, f 177, f 178, f 179, f 180, f 181, f 182, f 183, f 184, f 185, f 186, f 187, f 188, f 189, f 190, f 191, f 192, f 193, f 194, f 195, f 196, f 197, f 198, f 199, f 200, f 201, f 202, f 203, f 204, f 205, f 206, f 207, f 208, f 209, f 210, f 211, f 212, f 213, f 214, f 215, f 216, f 217, f 218, f 219, f 220, f 221, f 222, f 223, f 224, f 225, f 226, f 227, f 228, f 229, f 230, f 231, f 232, f 233, f 234, f 235, f 236, f 237, f 238, f 239, f 240, f 241, f 242, f 243] := by kernel_rfl
set_option maxRecDepth 100000 in
theorem UPin.open {t : Array Value} {g N c B6 B8 off : Nat} (h : UPin t g N c B6 B8 off) : ∃ f : Nat → Value, (∀ i v, t[i]? = some v → f i = v) ∧ t = #[f 0, f 1, f 2, f 3, .slice (some ⟨g, 0, none⟩) N c, f 5, .pointer (some ⟨B6, 0, none⟩), .int .i64 (off : Int), .pointer (some ⟨B8, 0, none⟩), f 9, f 10, f 11, f 12, f 13, f 14, f 15, f 16, f 17, f 18, f 19, f 20, f 21, f 22, f 23, f 24, f 25, f 26, f 27, f 28, f 29, f 30, f 31, f 32, f 33, f 34, f 35, f 36, f 37, f 38, f 39, f 40, f 41, f 42, f 43, f 44, f 45, f 46, f 47, f 48, f 49, f 50, f 51, f 52, f 53, f 54, f 55, f 56, f 57, f 58, f 59, f 60, f 61, f 62, f 63, f 64, f 65, f 66, f 67, f 68, f 69, f 70, f 71, f 72, f 73, f 74, f 75, f 76, f 77, f 78, f 79, f 80, f 81, f 82, f 83, f 84, f 85, f 86, f 87, f 88, f 89, f 90, f 91, f 92, f 93, f 94, f 95, f 96, f 97, f 98, f 99, f 100, f 101, f 102, f 103, f 104, f 105, f 106, f 107, f 108, f 109, f 110, f 111, f 112, f 113, f 114, f 115, f 116, f 117, f 118, f 119, f 120, f 121, f 122, f 123, f 124, f 125, f 126, f 127, f 128, f 129, f 130, f 131, f 132, f 133, f 134, f 135, f 136, f 137, f 138, f 139, f 140, f 141, f 142, f 143, f 144, f 145, f 146, f 147, f 148, f 149, f 150, f 151, f 152, f 153, f 154, f 155, f 156, f 157, f 158, f 159, f 160, f 161, f 162, f 163, f 164, f 165, f 166, f 167, f 168, f 169, f 170, f 171, f 172, f 173, f 174, f 175, f 176, f 177, f 178, f 179, f 180, f 181, f 182, f 183, f 184, f 185, f 186, f 187, f 188, f 189, f 190, f 191, f 192, f 193, f 194, f 195, f 196, f 197, f 198, f 199, f 200, f 201, f 202, f 203, f 204, f 205, f 206, f 207, f 208, f 209, f 210, f 211, f 212, f 213, f 214, f 215, f 216, f 217, f 218, f 219, f 220, f 221, f 222, f 223, f 224, f 225, f 226, f 227, f 228, f 229, f 230, f 231, f 232, f 233, f 234, f 235, f 236, f 237, f 238, f 239, f 240, f 241, f 242, f 243] := by
  obtain ⟨f, hf, ht⟩ := frame_open h.n
  rw [lit244] at ht
  refine ⟨f, hf, ?_⟩
  rw [ht, hf 4 _ h.p4, hf 6 _ h.p6, hf 7 _ h.p7, hf 8 _ h.p8]

theorem uv5_set (n : Nat) (f : Nat → Nat) (i b : Nat) (hi : i < n) : (uv5 n f).setIfInBounds i (.int .u64 (b : Int)) = uv5 n (fun j => if j = i then b else f j) := by
  refine arr_eq5 (by simp [uv_size5]) (fun j hj => ?_)
  rw [Array.getElem?_setIfInBounds]
  by_cases h : i = j
  · subst h; simp [uv_size5, hj]
  · rw [if_neg h, uv_get5 n f j hj, if_neg (fun e => h e.symm)]
theorem uv5_congr {n : Nat} {f g : Nat → Nat} (h : ∀ j, j < n → f j = g j) : uv5 n f = uv5 n g := arr_eq5 (uv_size5 n f) (fun j hj => by rw [uv_get5 n f j hj, h j hj])
/-- The words: the first k are there, then one that is under way, then noughts. -/
def wf (l : List UInt8) (k x j : Nat) : Nat := if j < k then S5.W l j else if j = k then x else 0
theorem wf_next (l : List UInt8) (k : Nat) : wf l k (S5.W l k) = wf l (k + 1) 0 := by
  funext j
  unfold wf
  by_cases h1 : j < k
  · rw [if_pos h1, if_pos (by omega)]
  · by_cases h2 : j = k
    · rw [if_neg h1, if_pos h2, if_pos (by omega), h2]
    · rw [if_neg h1, if_neg h2, if_neg (by omega)]; split <;> rfl
theorem wf_set (l : List UInt8) (k x y : Nat) (hk : k < 80) : (uv5 80 (wf l k x)).setIfInBounds k (.int .u64 (y : Int)) = uv5 80 (wf l k y) := by
  rw [uv5_set 80 _ k y hk]
  refine uv5_congr fun j hj => ?_
  unfold wf
  by_cases h1 : j < k
  · rw [if_neg (by omega), if_pos h1, if_pos h1]
  · by_cases h2 : j = k
    · rw [if_pos h2, if_neg h1, if_pos h2]
    · rw [if_neg h2, if_neg h1, if_neg h2, if_neg h1, if_neg h2]
/-- The schedule's block. -/
def Wd5 (w : World) (b : Nat) (l : List UInt8) (k x : Nat) : Prop := w.heap[b]? = some (.cells (uv5 80 (wf l k x)) 74 (0, 0))
theorem Wd5.at {w : World} {b k x : Nat} {l : List UInt8} (h : Wd5 w b l k x) (hk : k < 80) : w.cell? ⟨b, k, none⟩ = some (.int .u64 (x : Int)) := by
  rw [cell_of_block h, uv_get5 80 _ k hk]
  unfold wf
  rw [if_neg (by omega), if_pos rfl]
theorem Wd5.cell {w : World} {b k x : Nat} {l : List UInt8} (h : Wd5 w b l k x) (j : Nat) (hj : j < k) (hk : k ≤ 80) : w.cell? ⟨b, j, none⟩ = some (.int .u64 (S5.W l j : Int)) := by
  rw [cell_of_block h, uv_get5 80 _ j (by omega)]
  unfold wf
  rw [if_pos hj]
theorem Wd5.free {w : World} {b k x : Nat} {l : List UInt8} (h : Wd5 w b l k x) (j : Nat) : w.frozen? ⟨b, j, none⟩ = false := free_of_block h j
theorem Wd5.set {w : World} {b k x : Nat} {l : List UInt8} (h : Wd5 w b l k x) (hk : k < 80) (y : Nat) (v : Int) (hv : v = (y : Int)) : Wd5 (w.setCell ⟨b, k, none⟩ (.int .u64 v)) b l k y := by
  subst hv
  unfold Wd5
  rw [block_setCell h k, wf_set l k x y hk]
theorem Wd5.next {w : World} {b k : Nat} {l : List UInt8} (h : Wd5 w b l k (S5.W l k)) : Wd5 w b l (k + 1) 0 := by
  unfold Wd5 at h ⊢
  rw [← wf_next]; exact h
theorem Wd5.fr {w w2 : World} {b k x : Nat} {l : List UInt8} {S : Nat → Prop} (h : Wd5 w b l k x) (hF : Fr S w w2) (hs : ¬ S b) : Wd5 w2 b l k x := (hF.block b (lt_of_block h) hs).trans h
theorem pv_word (l : List UInt8) (k : Nat) : pv l (8 * k + 8) k = S5.word l k := by
  unfold pv
  rw [show min 8 (8 * k + 8 - 8 * k) = 8 by omega]
  show (((((((0 * 256 + _) * 256 + _) * 256 + _) * 256 + _) * 256 + _) * 256 + _) * 256 + _) * 256 + _ = _
  unfold S5.word
  rw [Nat.zero_mul, Nat.zero_add]
  rfl
theorem pv_none (l : List UInt8) (k : Nat) : pv l (8 * k) k = 0 := by
  unfold pv
  rw [show min 8 (8 * k - 8 * k) = 0 by omega]; rfl
end Go.Proofs.YtmoepalhoaekgaaDoor
namespace Go.Proofs.YtmoepalhoaekgaaDoor
open Go.RowKit
set_option linter.unusedVariables false

theorem hi_u64 (z0 z1 z2 z3 W : Nat) (y0 : z0 < 18446744073709551616) (y1 : z1 < 18446744073709551616) (y2 : z2 < 18446744073709551616) (y3 : z3 < 18446744073709551616) (hW : W = (z0 + S5.ss0 z1 + z2 + S5.ss1 z3) % 18446744073709551616) :
    IntKind.u64.wrap (IntKind.u64.wrap (IntKind.u64.wrap ((z0 : Int) + bits .xor .u64 (bits .xor .u64 (S5.rotr z1 1 : Nat) (S5.rotr z1 8 : Nat)) ((z1 : Int) / 128)) + (z2 : Int)) + bits .xor .u64 (bits .xor .u64 (S5.rotr z3 19 : Nat) (S5.rotr z3 61 : Nat)) ((z3 : Int) / 64)) = (W : Int) := by
  have e1 : (z1 : Int) / (128 : Int) = ((z1 >>> 7 : Nat) : Int) := by rw [Nat.shiftRight_eq_div_pow]; simp
  have e3 : (z3 : Int) / (64 : Int) = ((z3 >>> 6 : Nat) : Int) := by rw [Nat.shiftRight_eq_div_pow]; simp
  rw [e1, e3, xor35 (rotr_lt5 z1 1 y1 (by decide)) (rotr_lt5 z1 8 y1 (by decide)) (shr_lt5 z1 7 y1), xor35 (rotr_lt5 z3 19 y3 (by decide)) (rotr_lt5 z3 61 y3 (by decide)) (shr_lt5 z3 6 y3)]
  show IntKind.u64.wrap (IntKind.u64.wrap (IntKind.u64.wrap ((z0 : Int) + (S5.ss0 z1 : Nat)) + (z2 : Int)) + (S5.ss1 z3 : Nat)) = (W : Int)
  rw [hW, IntKind.wrap_u64, IntKind.wrap_u64, IntKind.wrap_u64]; omega

set_option maxRecDepth 100000 in
set_option maxHeartbeats 1600000 in
theorem us_loop4 {Q : Exit → Act → World → Prop} (l : List UInt8) (k : Nat) (hk16 : k < 16) (g off N c B6 B8 : Nat) (hN : off + 128 ≤ N) (hN2 : N ≤ 1000000000300) (w : World) (hb : Blk5 w g off l) (hA : Wd5 w B8 l k 0) (hgB : g ≠ B8) (t : Array Value) (hp : UPin t g N c B6 B8 off) (p9 : t[9]? = some (.int .i64 (k : Int))) (p10 : t[10]? = some (.int .i64 0))
    (hexit : ∀ t' w', UPin t' g N c B6 B8 off → t'[9]? = some (.int .i64 (k : Int)) → Wd5 w' B8 l (k + 1) 0 → Fr (fun k => k = B8) w w' → Q (.exit 8) ⟨t', []⟩ w') :
    Code.wp Tryd.prog (.loop (loopAt Tryd.f16 4)) Q ⟨t, []⟩ w := by
  refine wp_loop_up 8 (fun j t w' => UPin t g N c B6 B8 off ∧ t[9]? = some (.int .i64 (k : Int)) ∧ t[10]? = some (.int .i64 (j : Int)) ∧ Wd5 w' B8 l k (pv l (8 * k + j) k) ∧ Fr (fun k => k = B8) w w') t w ⟨hp, p9, p10, by rw [Nat.add_zero, pv_none]; exact hA, Fr.refl _ _⟩ ?_
  clear hA hp p9 p10 t
  rintro j t wr hj ⟨hp, p9, p10, hA, hF⟩ K hK
  obtain ⟨f, hf, rfl⟩ := hp.open
  have e9 := hf 9 _ p9
  have e10 := hf 10 _ p10
  clear hf hp p9 p10
  rw [e9, e10]
  clear e9 e10
  conv => arg 2; whnf
  by_cases hj8 : j < 8
  · have hbr := hb.fr hF hgB
    have c0 : wr.cell? ⟨g, off + 8 * k + j, none⟩ = some (.int .u8 ((S5.byt l (8 * k + j) : Nat) : Int)) := by
      have := hbr (8 * k + j) (by omega)
      rwa [← Nat.add_assoc] at this
    have c1 := hA.at (by omega)
    have hfo := hA.free k
    have b0 := S5.byt_lt l (8 * k + j)
    have pl := pv_lt l (8 * k + j)
    have hs := pv_step l (8 * k + j)
    rw [show (8 * k + j) / 8 = k by omega] at pl hs
    generalize S5.byt l (8 * k + j) = y at c0 b0 hs
    have hst := fun v hv => hA.set (by omega) (pv l (8 * k + j + 1) k) v hv
    generalize hx : pv l (8 * k + j) k = x at c1 pl hs hst
    have ho := or_byte x y pl b0
    rw [← hs] at ho
    have HO := Lib.hid ho
    have HS := Lib.hid hst
    have HK := Lib.hid hK
    clear ho hs hst hK hbr hx
    have yb : (y : Int) < 256 := by omega
    have xb : (x : Int) < 72057594037927936 := by omega
    have hk0 : (0 : Int) ≤ (k : Int) := by omega
    have hk1 : (k : Int) < 80 := by omega
    have hj0 : (0 : Int) ≤ (j : Int) := by omega
    have hj1 : (j : Int) < 8 := by omega
    have hoN : (off : Int) + 8 * (k : Int) + (j : Int) < (N : Int) := by omega
    have w1 : IntKind.i64.wrap ((off : Int) + 8 * (k : Int) + (j : Int)) = (off : Int) + 8 * (k : Int) + (j : Int) := IntWalk.i64_in _ (by omega)
    have w2 : IntKind.i64.wrap ((off : Int) + 8 * (k : Int)) = (off : Int) + 8 * (k : Int) := IntWalk.i64_in _ (by omega)
    have w3 : IntKind.i64.wrap (8 * (k : Int)) = 8 * (k : Int) := IntWalk.i64_in _ (by omega)
    have n1 : ((off : Int) + 8 * (k : Int) + (j : Int)).toNat = off + 8 * k + j := by omega
    have p1 : (0 : Int) ≤ (off : Int) + 8 * (k : Int) + (j : Int) := by omega
    have ob : (off : Int) ≤ 1000000000300 := by omega
    go_wp2_with fail
    go_still_tail 17, (by kernel_rfl)
    change wpList _ _ _ _ _ wr.drew
    have E1 : Wd5 (wr.setCell ⟨B8, k, none⟩ (.int .u64 (bits .or .u64 ((x : Int) * 256) (y : Int)))).drew B8 l k (pv l (8 * k + j + 1) k) := HS.out _ HO.out
    have E2 : Fr (fun k => k = B8) w (wr.setCell ⟨B8, k, none⟩ (.int .u64 (bits .or .u64 ((x : Int) * 256) (y : Int)))).drew := (hF.setCell (Or.inl rfl) _).drew
    clear hA hF w1 w2 w3 n1 p1 c0 HO HS
    go_wp2_with fail
    exact HK.out _ _ hj8 ⟨⟨rfl, rfl, rfl, rfl, rfl⟩, rfl, rfl, E1, E2⟩
  · obtain rfl : j = 8 := by omega
    have HE := Lib.hid hexit
    rw [pv_word, ← S5.W_lo l k hk16] at hA
    have hA2 := hA.next
    clear hexit hA
    go_wp2_with fail
    exact HE.out _ _ ⟨rfl, rfl, rfl, rfl, rfl⟩ rfl hA2 hF
end Go.Proofs.YtmoepalhoaekgaaDoor
namespace Go.Proofs.YtmoepalhoaekgaaDoor
open Go.RowKit
set_option linter.unusedVariables false

theorem hi_end5 {w wq : World} {B8 k W : Nat} {l : List UInt8} (hk : k < 80) (hA : Wd5 wq B8 l k 0) (hF : Fr (fun k => k = B8) w wq) (v : Int) (hv : v = (W : Int)) (hW : W = S5.W l k) (q : Nat) :
    Wd5 ((wq.drewN q).setCell ⟨B8, k, none⟩ (.int .u64 v)) B8 l (k + 1) 0 ∧ Fr (fun k => k = B8) w ((wq.drewN q).setCell ⟨B8, k, none⟩ (.int .u64 v)) :=
  ⟨((hA.fr ((Fr.refl (fun _ => False) wq).drewN q) (fun h => h)).set hk (S5.W l k) v (by rw [hv, hW])).next, (hF.drewN q).setCell (Or.inl rfl) _⟩

set_option maxRecDepth 100000 in
set_option maxHeartbeats 1600000 in
theorem us_loop3 {Q : Exit → Act → World → Prop} (l : List UInt8) (g off N c B6 B8 : Nat) (hN : off + 128 ≤ N) (hN2 : N ≤ 1000000000300) (w : World) (hb : Blk5 w g off l) (hA : Wd5 w B8 l 0 0) (hgB : g ≠ B8) (t : Array Value) (hp : UPin t g N c B6 B8 off) (p9 : t[9]? = some (.int .i64 0))
    (hexit : ∀ t' w', UPin t' g N c B6 B8 off → Wd5 w' B8 l 80 0 → Fr (fun k => k = B8) w w' → Q (.exit 6) ⟨t', []⟩ w') :
    Code.wp Tryd.prog (.loop (loopAt Tryd.f16 3)) Q ⟨t, []⟩ w := by
  refine wp_loop_up 80 (fun k t w' => UPin t g N c B6 B8 off ∧ t[9]? = some (.int .i64 (k : Int)) ∧ Wd5 w' B8 l k 0 ∧ Fr (fun k => k = B8) w w') t w ⟨hp, p9, hA, Fr.refl _ _⟩ ?_
  clear hA hp p9 t
  rintro k t wr hk ⟨hp, p9, hA, hF⟩ K hK
  obtain ⟨f, hf, rfl⟩ := hp.open
  have e9 := hf 9 _ p9
  clear hf hp p9
  rw [e9]
  clear e9
  conv => arg 2; whnf
  by_cases hk80 : k < 80
  · by_cases hk16 : k < 16
    · have hbr := hb.fr hF hgB
      have hk1 : (k : Int) < 16 := by omega
      have hk2 : (k : Int) < 80 := by omega
      have HK := Lib.hid hK
      have HF := Lib.hid hF
      have HA := Lib.hid hA
      clear hK hF hA
      go_wp2_with fail
      refine us_loop4 l k hk16 g off N c B6 B8 hN hN2 wr hbr HA.out hgB _ ⟨rfl, rfl, rfl, rfl, rfl⟩ rfl rfl ?_
      intro t1 w1 hp1 p91 hA1 hF1
      obtain ⟨f1, hf1, rfl⟩ := hp1.open
      have e91 := hf1 9 _ p91
      clear hf1 hp1 p91
      rw [e91]
      clear e91
      have E2 : Fr (fun k => k = B8) w w1 := HF.out.trans hF1 (fun i hi => Or.inl hi)
      clear hF1 HF HA hbr
      go_wp2_with fail
      exact HK.out _ _ hk80 ⟨⟨rfl, rfl, rfl, rfl, rfl⟩, rfl, hA1, E2⟩
    · obtain ⟨j, rfl⟩ : ∃ j, k = j + 16 := ⟨k - 16, by omega⟩
      have c0 := hA.cell j (by omega) (by omega)
      have c1 := hA.cell (j + 1) (by omega) (by omega)
      have c2 := hA.cell (j + 9) (by omega) (by omega)
      have c3 := hA.cell (j + 14) (by omega) (by omega)
      have hvo := hA.at (by omega)
      have hfo := hA.free (j + 16)
      have y0 := S5.W_lt l j (by omega)
      have y1 := S5.W_lt l (j + 1) (by omega)
      have y2 := S5.W_lt l (j + 9) (by omega)
      have y3 := S5.W_lt l (j + 14) (by omega)
      have hW := S5.W_hi l j (by omega)
      simp only [S5.M] at y0 y1 y2 y3 hW
      generalize hz0 : S5.W l j = z0 at c0 y0 hW
      generalize hz1 : S5.W l (j + 1) = z1 at c1 y1 hW
      generalize hz2 : S5.W l (j + 9) = z2 at c2 y2 hW
      generalize hz3 : S5.W l (j + 14) = z3 at c3 y3 hW
      have Hz : Hid (S5.W l (j + 16) = (z0 + S5.ss0 z1 + z2 + S5.ss1 z3) % 18446744073709551616) := hW
      clear hz0 hz1 hz2 hz3 hW
      rw [show ((j + 16 : Nat) : Int) = (j : Int) + 16 by omega]
      have HK := Lib.hid hK
      clear hK
      have t1 : (j : Int) + 16 < 80 := by omega
      have t2 : ¬ (j : Int) + 16 < 16 := by omega
      have w0 : IntKind.i64.wrap ((j : Int) + 16 - 16) = (j : Int) := by rw [IntWalk.i64_in _ (by omega)]; omega
      have w1 : IntKind.i64.wrap ((j : Int) + 16 - 15) = (j : Int) + 1 := by rw [IntWalk.i64_in _ (by omega)]; omega
      have w2 : IntKind.i64.wrap ((j : Int) + 16 - 7) = (j : Int) + 9 := by rw [IntWalk.i64_in _ (by omega)]; omega
      have w3 : IntKind.i64.wrap ((j : Int) + 16 - 2) = (j : Int) + 14 := by rw [IntWalk.i64_in _ (by omega)]; omega
      have v0 : IntKind.i64.wrap (j : Int) = (j : Int) := IntWalk.i64_in _ (by omega)
      have v1 : IntKind.i64.wrap ((j : Int) + 1) = (j : Int) + 1 := IntWalk.i64_in _ (by omega)
      have v2 : IntKind.i64.wrap ((j : Int) + 9) = (j : Int) + 9 := IntWalk.i64_in _ (by omega)
      have v3 : IntKind.i64.wrap ((j : Int) + 14) = (j : Int) + 14 := IntWalk.i64_in _ (by omega)
      have n1 : ((j : Int) + 1).toNat = j + 1 := by omega
      have n2 : ((j : Int) + 9).toNat = j + 9 := by omega
      have n3 : ((j : Int) + 14).toNat = j + 14 := by omega
      have n4 : ((j : Int) + 16).toNat = j + 16 := by omega
      have p0 : (0 : Int) ≤ (j : Int) := by omega
      have p1 : (0 : Int) ≤ (j : Int) + 1 := by omega
      have p2 : (0 : Int) ≤ (j : Int) + 9 := by omega
      have p3 : (0 : Int) ≤ (j : Int) + 14 := by omega
      have p4 : (0 : Int) ≤ (j : Int) + 16 := by omega
      have q0 : (j : Int) < 80 := by omega
      have q1 : (j : Int) + 1 < 80 := by omega
      have q2 : (j : Int) + 9 < 80 := by omega
      have q3 : (j : Int) + 14 < 80 := by omega
      go_wp2_with fail
      go_quiet (fail)
      have F0 : Fr (fun _ => False) wr (wr.drewN nq) := (Fr.refl _ wr).drewN nq
      replace hA := hA.fr F0 (fun h => h)
      replace hF : Fr (fun k => k = B8) w (wr.drewN nq) := hF.drewN nq
      replace c0 : (wr.drewN nq).cell? ⟨B8, j, none⟩ = some (.int .u64 z0) := c0
      replace c2 : (wr.drewN nq).cell? ⟨B8, j + 9, none⟩ = some (.int .u64 z2) := c2
      replace hvo : (wr.drewN nq).cell? ⟨B8, j + 16, none⟩ = some (.int .u64 ((0 : Nat) : Int)) := hvo
      replace hfo : (wr.drewN nq).frozen? ⟨B8, j + 16, none⟩ = false := hfo
      clear F0 c1 c3
      generalize wr.drewN nq = wq at *
      go_wp2_with fail
      go_region_held3 (fun w' => w'.cell? ⟨B8, j, none⟩ = some (.int .u64 z0) ∧ w'.cell? ⟨B8, j + 9, none⟩ = some (.int .u64 z2))
        (first | go_keep | (exact ⟨(World.cell?_setCell_other _ _ _ _ (addr_ne (by omega))).trans (by simp [c0]), (World.cell?_setCell_other _ _ _ _ (addr_ne (by omega))).trans (by simp [c2])⟩))
        ((first
          | ((with_reducible refine (turn5_any z1 1 1 rfl y1 (by decide) (by decide) _).mono ?_); rintro e w' ⟨rfl, nn, rfl⟩)
          | ((with_reducible refine (turn5_any z1 8 8 rfl y1 (by decide) (by decide) _).mono ?_); rintro e w' ⟨rfl, nn, rfl⟩)
          | ((with_reducible refine (turn5_any z3 19 19 rfl y3 (by decide) (by decide) _).mono ?_); rintro e w' ⟨rfl, nn, rfl⟩)
          | ((with_reducible refine (turn5_any z3 61 61 rfl y3 (by decide) (by decide) _).mono ?_); rintro e w' ⟨rfl, nn, rfl⟩)))
      have hh := hi_u64 z0 z1 z2 z3 _ y0 y1 y2 y3 Hz.out
      have HH := Lib.hid hh
      have HA := Lib.hid hA
      have HF := Lib.hid hF
      clear hh hA hF c0 c2 w0 w1 w2 w3 v0 v1 v2 v3 n1 n2 n3 n4 p0 p1 p2 p3 p4 q0 q1 q2 q3 hvo hfo t1 t2
      go_wp2_with fail
      have R := hi_end5 (k := j + 16) (by omega) HA.out HF.out _ HH.out rfl
      exact HK.out _ _ (by omega) ⟨⟨rfl, rfl, rfl, rfl, rfl⟩, rfl, (R _).1, (R _).2⟩
  · obtain rfl : k = 80 := by omega
    have HE := Lib.hid hexit
    clear hexit
    go_wp2_with fail
    exact HE.out _ _ ⟨rfl, rfl, rfl, rfl, rfl⟩ hA hF
end Go.Proofs.YtmoepalhoaekgaaDoor
namespace Go.Proofs.YtmoepalhoaekgaaDoor
open Go.RowKit
set_option linter.unusedVariables false

/-- The tables of the document's answer. -/
structure UEnv (w : World) : Prop where
  tabH : ∃ t fr, w.heap[2]? = some (.cells (stv5 S5.H0) t fr)
  tabK : ∀ j, j < 80 → w.cell? ⟨3, j, none⟩ = some (.int .u64 (S5.K j : Int))
theorem UEnv.fr {w w2 : World} {S : Nat → Prop} (h : UEnv w) (hF : Fr S w w2) (h1 : ¬ S 2) (h2 : ¬ S 3) : UEnv w2 := by
  obtain ⟨t, fr, hb⟩ := h.tabH
  exact ⟨⟨t, fr, (hF.block _ (lt_of_block hb) h1).trans hb⟩, fun j hj => hF.cellSome (p := ⟨3, j, none⟩) h2 (h.tabK j hj)⟩
theorem T1_u64 (t : S5.St) (ok : t.ok) (k w : Nat) :
    IntKind.u64.wrap (IntKind.u64.wrap (IntKind.u64.wrap (IntKind.u64.wrap (↑t.h + bits .xor .u64 (bits .xor .u64 (S5.rotr t.e 14 : Nat) (S5.rotr t.e 18 : Nat)) (S5.rotr t.e 41 : Nat)) + bits .xor .u64 (bits .and .u64 ↑t.e ↑t.f) (bits .and .u64 (bits .xor .u64 (if IntKind.u64.signed = true then -1 else IntKind.u64.max) ↑t.e) ↑t.g)) + ↑k) + ↑w) = ((S5.T1 t k w : Nat) : Int) := by
  have h5 := ok.2.2.2.2.1
  simp only [S5.M] at h5
  rw [xor35 (rotr_lt5 t.e 14 h5 (by decide)) (rotr_lt5 t.e 18 h5 (by decide)) (rotr_lt5 t.e 41 h5 (by decide))]
  exact T1_eq5 t ok k w
theorem T2_u64 (t : S5.St) (ok : t.ok) :
    IntKind.u64.wrap (bits .xor .u64 (bits .xor .u64 (S5.rotr t.a 28 : Nat) (S5.rotr t.a 34 : Nat)) (S5.rotr t.a 39 : Nat) + bits .xor .u64 (bits .xor .u64 (bits .and .u64 ↑t.a ↑t.b) (bits .and .u64 ↑t.a ↑t.c)) (bits .and .u64 ↑t.b ↑t.c)) = ((S5.T2 t : Nat) : Int) := by
  have h1 := ok.1
  simp only [S5.M] at h1
  rw [xor35 (rotr_lt5 t.a 28 h1 (by decide)) (rotr_lt5 t.a 34 h1 (by decide)) (rotr_lt5 t.a 39 h1 (by decide))]
  exact T2_eq5 t ok
theorem rnd_u64 (t : S5.St) (k w : Nat) : #[.int .u64 (IntKind.u64.wrap (↑(S5.T1 t k w) + ↑(S5.T2 t))), .int .u64 (t.a : Int), .int .u64 (t.b : Int), .int .u64 (t.c : Int), .int .u64 (IntKind.u64.wrap (↑t.d + ↑(S5.T1 t k w))), .int .u64 (t.e : Int), .int .u64 (t.f : Int), .int .u64 (t.g : Int)] = stv5 (S5.rnd t k w) := by
  obtain ⟨h1, h2, h3, h4, h5, h6, h7, h8⟩ := rst_of5 t k w
  rw [h1, h5]
  rfl
theorem T1_lt (t : S5.St) (k w : Nat) : S5.T1 t k w < 18446744073709551616 := Nat.mod_lt _ (by decide)
theorem T2_lt (t : S5.St) : S5.T2 t < 18446744073709551616 := Nat.mod_lt _ (by decide)

set_option maxRecDepth 100000 in
set_option maxHeartbeats 1600000 in
theorem us_loop5 {Q : Exit → Act → World → Prop} (l : List UInt8) (s : S5.St) (hs : s.ok) (g off N c B6 B8 B13 : Nat) (w : World) (hE : UEnv w) (hA : Wd5 w B8 l 80 0) (hB : w.heap[B13]? = some (.cells (stv5 s) 65 (0, 0)))
    (hd : B8 ≠ B13) (hdK : B13 ≠ 3) (t : Array Value) (hp : UPin t g N c B6 B8 off) (p13 : t[13]? = some (.pointer (some ⟨B13, 0, none⟩))) (p14 : t[14]? = some (.int .i64 0))
    (hexit : ∀ t' w', UPin t' g N c B6 B8 off → t'[13]? = some (.pointer (some ⟨B13, 0, none⟩)) → w'.heap[B13]? = some (.cells (stv5 (S5.rnds (S5.sch l 64) s 80)) 65 (0, 0)) → Fr (fun k => k = B13) w w' → Q (.exit 10) ⟨t', []⟩ w') :
    Code.wp Tryd.prog (.loop (loopAt Tryd.f16 5)) Q ⟨t, []⟩ w := by
  refine wp_loop_up 80 (fun k t w' => UPin t g N c B6 B8 off ∧ t[13]? = some (.pointer (some ⟨B13, 0, none⟩)) ∧ t[14]? = some (.int .i64 (k : Int)) ∧ w'.heap[B13]? = some (.cells (stv5 (S5.rnds (S5.sch l 64) s k)) 65 (0, 0)) ∧ Fr (fun k => k = B13) w w') t w ⟨hp, p13, p14, hB, Fr.refl _ _⟩ ?_
  clear hB hp p13 p14 t
  rintro k t wr hk ⟨hp, p13, p14, hB, hF⟩ K hK
  obtain ⟨f, hf, rfl⟩ := hp.open
  have e13 := hf 13 _ p13
  have e14 := hf 14 _ p14
  clear hf hp p13 p14
  rw [e13, e14]
  clear e13 e14
  conv => arg 2; whnf
  by_cases hk64 : k < 80
  · have cK := (hE.tabK k hk64)
    replace cK := hF.cellSome (p := ⟨3, k, none⟩) (fun h => hdK h.symm) cK
    have cW := hF.cellSome (p := ⟨B8, k, none⟩) hd (hA.cell k hk64 (by omega))
    have ok := rnds_ok5 (S5.sch l 64) s hs k
    have hn : S5.rnds (S5.sch l 64) s (k + 1) = S5.rnd (S5.rnds (S5.sch l 64) s k) (S5.K k) (S5.W l k) := rfl
    generalize S5.rnds (S5.sch l 64) s k = st at hB ok hn
    generalize S5.W l k = yw at cW hn
    generalize S5.K k = yk at cK hn
    have Hn := Lib.hid hn
    have HK := Lib.hid hK
    have k0 := cell_of_block hB 0
    have k1 := cell_of_block hB 1
    have k2 := cell_of_block hB 2
    have k3 := cell_of_block hB 3
    have k4 := cell_of_block hB 4
    have k5 := cell_of_block hB 5
    have k6 := cell_of_block hB 6
    have k7 := cell_of_block hB 7
    simp [stv5] at k0 k1 k2 k3 k4 k5 k6 k7
    have q0 : (0 : Int) ≤ (k : Int) := by omega
    have q1 : (k : Int) < 80 := by omega
    have Z1 := Lib.hid (T1_u64 st ok yk yw)
    have Z2 := Lib.hid (T2_u64 st ok)
    have x1 := T1_lt st yk yw
    have x2 := T2_lt st
    have y5 := ok.2.2.2.2.1
    have y1 := ok.1
    simp only [S5.M] at y5 y1
    have Z := Lib.hid (rnd_u64 st yk yw)
    clear hn hK
    go_wp2_with fail
    go_quiet ((go_at_call 37; (first | (with_reducible exact Calls.quiet_of (turn5_any st.e 14 14 rfl y5 (by decide) (by decide) _)) | (with_reducible exact Calls.quiet_of (turn5_any st.e 18 18 rfl y5 (by decide) (by decide) _)) | (with_reducible exact Calls.quiet_of (turn5_any st.e 41 41 rfl y5 (by decide) (by decide) _)))))
    rw [Z1.out]
    clear Z1 cK cW k0 k1 k2 k3 k4 k5 k6 k7
    replace hB : (wr.drewN nq).heap[B13]? = some (.cells (stv5 st) 65 (0, 0)) := hB
    replace hF : Fr (fun k => k = B13) w (wr.drewN nq) := hF.drewN nq
    generalize wr.drewN nq = wq at *
    have k0 := cell_of_block hB 0
    have k1 := cell_of_block hB 1
    have k2 := cell_of_block hB 2
    have k3 := cell_of_block hB 3
    have k4 := cell_of_block hB 4
    have k5 := cell_of_block hB 5
    have k6 := cell_of_block hB 6
    have k7 := cell_of_block hB 7
    simp [stv5] at k0 k1 k2 k3 k4 k5 k6 k7
    go_wp2_with fail
    go_quiet ((go_at_call 37; (first | (with_reducible exact Calls.quiet_of (turn5_any st.a 28 28 rfl y1 (by decide) (by decide) _)) | (with_reducible exact Calls.quiet_of (turn5_any st.a 34 34 rfl y1 (by decide) (by decide) _)) | (with_reducible exact Calls.quiet_of (turn5_any st.a 39 39 rfl y1 (by decide) (by decide) _)))))
    rw [Z2.out]
    clear Z2 k0 k1 k2 k3 k4 k5 k6 k7
    replace hB : (wq.drewN nq).heap[B13]? = some (.cells (stv5 st) 65 (0, 0)) := hB
    replace hF : Fr (fun k => k = B13) w (wq.drewN nq) := hF.drewN nq
    generalize wq.drewN nq = wx at *
    have k0 := cell_of_block hB 0
    have k1 := cell_of_block hB 1
    have k2 := cell_of_block hB 2
    have k3 := cell_of_block hB 3
    have k4 := cell_of_block hB 4
    have k5 := cell_of_block hB 5
    have k6 := cell_of_block hB 6
    have k7 := cell_of_block hB 7
    simp [stv5] at k0 k1 k2 k3 k4 k5 k6 k7
    generalize S5.T1 st yk yw = x at x1 Z ⊢
    generalize S5.T2 st = y at x2 Z ⊢
    have Hs1 := Lib.hid (show ∀ a0 a1 a2 a3 a4 a5 a6 a7 : Value, (Tryd.prog.info? 65).map (·.size) = some (#[a0, a1, a2, a3, a4, a5, a6, a7] : Array Value).size by intros; show _ = some 8; kernel_rfl)
    have Hs2 := Lib.hid (show ∀ a0 a1 a2 a3 a4 a5 a6 a7 : Value, (stv5 st).size = (#[a0, a1, a2, a3, a4, a5, a6, a7] : Array Value).size from fun _ _ _ _ _ _ _ _ => rfl)
    have Hs3 := Lib.hid (show ∀ a0 a1 a2 a3 a4 a5 a6 a7 : Int, (#[.int .u64 a0, .int .u64 a1, .int .u64 a2, .int .u64 a3, .int .u64 a4, .int .u64 a5, .int .u64 a6, .int .u64 a7] : Array Value).all (·.oneCell') = true by intros; simp [Value.oneCell'])
    clear x1 x2 y5 y1
    go_wp2_with ((with_reducible refine wpList_store_rowR rfl 65 (.tmp 13) (.tmp 210) rfl B13 _ rfl rfl 65 (stv5 st) hB ?h1 ?h2 ?h3 ?k); (case h1 => exact Hs1.out _ _ _ _ _ _ _ _); (case h2 => exact Hs2.out _ _ _ _ _ _ _ _); (case h3 => exact Hs3.out _ _ _ _ _ _ _ _))
    intro w5 b5 hG5
    have b6 : w5.heap[B13]? = some (.cells (stv5 (S5.rnds (S5.sch l 64) s (k + 1))) 65 (0, 0)) := by rw [b5, Z.out, ← Hn.out]
    have F6 : Fr (fun k => k = B13) w w5 := hF.trans hG5 (fun i hi => Or.inl hi)
    clear b5 hG5 k0 k1 k2 k3 k4 k5 k6 k7 hB hF
    go_wp2_with fail
    exact HK.out _ _ hk64 ⟨⟨rfl, rfl, rfl, rfl, rfl⟩, rfl, rfl, b6, F6⟩
  · obtain rfl : k = 80 := by omega
    have HE := Lib.hid hexit
    clear hexit
    go_wp2_with fail
    exact HE.out _ _ ⟨rfl, rfl, rfl, rfl, rfl⟩ rfl hB hF
end Go.Proofs.YtmoepalhoaekgaaDoor
namespace Go.Proofs.YtmoepalhoaekgaaDoor
open Go.RowKit
set_option linter.unusedVariables false

def sx5 (s : S5.St) (j : Nat) : Nat := s.list.getD j 0
theorem stu_uv5 (s : S5.St) : uv5 8 (sx5 s) = stv5 s := rfl
/-- The first k words are added. -/
def addf5 (s u : S5.St) (k j : Nat) : Nat := if j < k then (sx5 s j + sx5 u j) % S5.M else sx5 s j
theorem sx5_lt (s : S5.St) (h : s.ok) : ∀ j, j < 8 → sx5 s j < 18446744073709551616 := by
  obtain ⟨h1, h2, h3, h4, h5, h6, h7, h8⟩ := h
  intro j hj
  match j, hj with
  | 0, _ => exact h1
  | 1, _ => exact h2
  | 2, _ => exact h3
  | 3, _ => exact h4
  | 4, _ => exact h5
  | 5, _ => exact h6
  | 6, _ => exact h7
  | 7, _ => exact h8
theorem addf5_8 (s u : S5.St) : uv5 8 (addf5 s u 8) = stv5 (s.add u) := rfl
theorem addf5_0 (s u : S5.St) : uv5 8 (addf5 s u 0) = stv5 s := rfl
theorem addf5_step {w : World} {b : Nat} (s u : S5.St) (k : Nat) (hk : k < 8) (h : w.heap[b]? = some (.cells (uv5 8 (addf5 s u k)) 65 (0, 0))) (v : Int) (hv : v = (((sx5 s k + sx5 u k) % 18446744073709551616 : Nat) : Int)) :
    (w.setCell ⟨b, k, none⟩ (.int .u64 v)).heap[b]? = some (.cells (uv5 8 (addf5 s u (k + 1))) 65 (0, 0)) := by
  rw [block_setCell h k, hv, uv5_set 8 _ k _ hk]
  congr 3
  funext j
  unfold addf5 S5.M
  by_cases h1 : j = k
  · subst h1; simp
  · rw [if_neg h1]
    by_cases h2 : j < k
    · rw [if_pos h2, if_pos (by omega)]
    · rw [if_neg h2, if_neg (by omega)]

set_option maxRecDepth 100000 in
set_option maxHeartbeats 1600000 in
theorem us_loop6 {Q : Exit → Act → World → Prop} (s u : S5.St) (hs : s.ok) (hu : u.ok) (g off N c B6 B8 B13 : Nat) (w : World) (hB6 : w.heap[B6]? = some (.cells (stv5 s) 65 (0, 0))) (hB : w.heap[B13]? = some (.cells (stv5 u) 65 (0, 0)))
    (hd : B6 ≠ B13) (t : Array Value) (hp : UPin t g N c B6 B8 off) (p13 : t[13]? = some (.pointer (some ⟨B13, 0, none⟩))) (p17 : t[17]? = some (.int .i64 0))
    (hexit : ∀ t' w', UPin t' g N c B6 B8 off → w'.heap[B6]? = some (.cells (stv5 (s.add u)) 65 (0, 0)) → Fr (fun k => k = B6) w w' → Q (.exit 12) ⟨t', []⟩ w') :
    Code.wp Tryd.prog (.loop (loopAt Tryd.f16 6)) Q ⟨t, []⟩ w := by
  refine wp_loop_up 8 (fun k t w' => UPin t g N c B6 B8 off ∧ t[13]? = some (.pointer (some ⟨B13, 0, none⟩)) ∧ t[17]? = some (.int .i64 (k : Int)) ∧ w'.heap[B6]? = some (.cells (uv5 8 (addf5 s u k)) 65 (0, 0)) ∧ Fr (fun k => k = B6) w w') t w ⟨hp, p13, p17, hB6, Fr.refl _ _⟩ ?_
  clear hB6 hp p13 p17 t
  rintro k t wr hk ⟨hp, p13, p17, hA, hF⟩ K hK
  obtain ⟨f, hf, rfl⟩ := hp.open
  have e13 := hf 13 _ p13
  have e17 := hf 17 _ p17
  clear hf hp p13 p17
  rw [e13, e17]
  clear e13 e17
  conv => arg 2; whnf
  by_cases hk8 : k < 8
  · have hBr := (hF.block _ (lt_of_block hB) (fun h => hd h.symm)).trans hB
    have c0 := cell_of_block hA k
    rw [uv_get5 8 _ k hk8, show addf5 s u k k = sx5 s k by simp [addf5]] at c0
    have c1 := cell_of_block hBr k
    rw [← stu_uv5, uv_get5 8 _ k hk8] at c1
    have hfo := free_of_block hA k
    have y0 := sx5_lt s hs k hk8
    have y1 := sx5_lt u hu k hk8
    have hst := addf5_step s u k hk8 hA
    generalize sx5 s k = z0 at c0 y0 hst
    generalize sx5 u k = z1 at c1 y1 hst
    have q0 : (0 : Int) ≤ (k : Int) := by omega
    have q1 : (k : Int) < 8 := by omega
    have HK := Lib.hid hK
    have HS := Lib.hid hst
    clear hst hK
    go_wp2_with fail
    go_still_tail 9, (by kernel_rfl)
    change wpList _ _ _ _ _ wr.drew
    have E1 := HS.out (IntKind.u64.wrap ((z0 : Int) + (z1 : Int))) (by rw [IntKind.wrap_u64]; simp)
    have E2 : Fr (fun k => k = B6) w (wr.setCell ⟨B6, k, none⟩ (.int .u64 (IntKind.u64.wrap ((z0 : Int) + (z1 : Int))))).drew := (hF.setCell (Or.inl rfl) _).drew
    have E3 : (wr.setCell ⟨B6, k, none⟩ (.int .u64 (IntKind.u64.wrap ((z0 : Int) + (z1 : Int))))).drew.heap[B6]? = _ := E1
    have H3 := Lib.hid E3
    clear E1 E3 hA hF hBr HS
    go_wp2_with fail
    exact HK.out _ _ hk8 ⟨⟨rfl, rfl, rfl, rfl, rfl⟩, rfl, rfl, H3.out, E2⟩
  · obtain rfl : k = 8 := by omega
    rw [addf5_8] at hA
    have HE := Lib.hid hexit
    clear hexit
    go_wp2_with fail
    exact HE.out _ _ ⟨rfl, rfl, rfl, rfl, rfl⟩ hA hF
end Go.Proofs.YtmoepalhoaekgaaDoor
namespace Go.Proofs.YtmoepalhoaekgaaDoor
open Go.RowKit
set_option linter.unusedVariables false

structure OPin5 (t : Array Value) (g N c B6 off : Nat) : Prop where
  n : t.size = 244
  p4 : t[4]? = some (.slice (some ⟨g, 0, none⟩) N c)
  p6 : t[6]? = some (.pointer (some ⟨B6, 0, none⟩))
  p7 : t[7]? = some (.int .i64 (off : Int))
set_option maxRecDepth 100000 in
theorem OPin5.open {t : Array Value} {g N c B6 off : Nat} (h : OPin5 t g N c B6 off) : ∃ f : Nat → Value, (∀ i v, t[i]? = some v → f i = v) ∧ t = #[f 0, f 1, f 2, f 3, .slice (some ⟨g, 0, none⟩) N c, f 5, .pointer (some ⟨B6, 0, none⟩), .int .i64 (off : Int), f 8, f 9, f 10, f 11, f 12, f 13, f 14, f 15, f 16, f 17, f 18, f 19, f 20, f 21, f 22, f 23, f 24, f 25, f 26, f 27, f 28, f 29, f 30, f 31, f 32, f 33, f 34, f 35, f 36, f 37, f 38, f 39, f 40, f 41, f 42, f 43, f 44, f 45, f 46, f 47, f 48, f 49, f 50, f 51, f 52, f 53, f 54, f 55, f 56, f 57, f 58, f 59, f 60, f 61, f 62, f 63, f 64, f 65, f 66, f 67, f 68, f 69, f 70, f 71, f 72, f 73, f 74, f 75, f 76, f 77, f 78, f 79, f 80, f 81, f 82, f 83, f 84, f 85, f 86, f 87, f 88, f 89, f 90, f 91, f 92, f 93, f 94, f 95, f 96, f 97, f 98, f 99, f 100, f 101, f 102, f 103, f 104, f 105, f 106, f 107, f 108, f 109, f 110, f 111, f 112, f 113, f 114, f 115, f 116, f 117, f 118, f 119, f 120, f 121, f 122, f 123, f 124, f 125, f 126, f 127, f 128, f 129, f 130, f 131, f 132, f 133, f 134, f 135, f 136, f 137, f 138, f 139, f 140, f 141, f 142, f 143, f 144, f 145, f 146, f 147, f 148, f 149, f 150, f 151, f 152, f 153, f 154, f 155, f 156, f 157, f 158, f 159, f 160, f 161, f 162, f 163, f 164, f 165, f 166, f 167, f 168, f 169, f 170, f 171, f 172, f 173, f 174, f 175, f 176, f 177, f 178, f 179, f 180, f 181, f 182, f 183, f 184, f 185, f 186, f 187, f 188, f 189, f 190, f 191, f 192, f 193, f 194, f 195, f 196, f 197, f 198, f 199, f 200, f 201, f 202, f 203, f 204, f 205, f 206, f 207, f 208, f 209, f 210, f 211, f 212, f 213, f 214, f 215, f 216, f 217, f 218, f 219, f 220, f 221, f 222, f 223, f 224, f 225, f 226, f 227, f 228, f 229, f 230, f 231, f 232, f 233, f 234, f 235, f 236, f 237, f 238, f 239, f 240, f 241, f 242, f 243] := by
  obtain ⟨f, hf, ht⟩ := frame_open h.n
  rw [lit244] at ht
  refine ⟨f, hf, ?_⟩
  rw [ht, hf 4 _ h.p4, hf 6 _ h.p6, hf 7 _ h.p7]
theorem getD_blk5 (F : List UInt8) (k j : Nat) (hj : j < 128) : ((F.drop (128 * k)).take 128).getD j 0 = F.getD (128 * k + j) 0 := by
  simp [List.getD_eq_getElem?_getD, hj, List.getElem?_drop]
/-- The bytes of a text, from the start of a block on. -/
def Txt5 (w : World) (g : Nat) (F : List UInt8) : Prop := ∀ j, j < F.length → w.cell? ⟨g, j, none⟩ = some (.int .u8 ((F.getD j 0).toNat : Int))
theorem Txt5.fr {w w2 : World} {g : Nat} {F : List UInt8} {S : Nat → Prop} (h : Txt5 w g F) (hF : Fr S w w2) (hs : ¬ S g) : Txt5 w2 g F := fun j hj => hF.cellSome (p := ⟨g, j, none⟩) hs (h j hj)
theorem Txt5.blk {w : World} {g k : Nat} {F : List UInt8} (h : Txt5 w g F) (hk : 128 * k + 128 ≤ F.length) : Blk5 w g (128 * k) ((F.drop (128 * k)).take 128) := by
  intro j hj
  rw [getD_blk5 F k j hj]
  exact h (128 * k + j) (by omega)
theorem zeroW (l : List UInt8) : (Tryd.zeroCells74) = uv5 80 (wf l 0 0) := by
  have e : Tryd.zeroCells74 = uv5 80 (fun _ => 0) := by kernel_rfl
  rw [e]
  refine uv5_congr fun j hj => ?_
  unfold wf
  rw [if_neg (by omega)]
  split <;> rfl

set_option maxRecDepth 100000 in
set_option maxHeartbeats 1600000 in
theorem us_loop2 {Q : Exit → Act → World → Prop} (F : List UInt8) (g N c B6 nb : Nat) (hFl : F.length = N) (hN : N = 128 * nb) (hN2 : N ≤ 1000000000300) (w : World) (hT : Txt5 w g F) (hg : g < w.heap.size) (hE : UEnv w) (hB6 : w.heap[B6]? = some (.cells (stv5 S5.H0) 65 (0, 0)))
    (hd : g ≠ B6) (hdK : B6 ≠ 3) (hdH : B6 ≠ 2) (t : Array Value) (hp : OPin5 t g N c B6 0)
    (hexit : ∀ t' w', OPin5 t' g N c B6 N → w'.heap[B6]? = some (.cells (stv5 (S5.hwN F nb)) 65 (0, 0)) → Fr (fun k => k = B6) w w' → Q (.exit 4) ⟨t', []⟩ w') :
    Code.wp Tryd.prog (.loop (loopAt Tryd.f16 2)) Q ⟨t, []⟩ w := by
  refine wp_loop_up nb (fun k t w' => OPin5 t g N c B6 (128 * k) ∧ w'.heap[B6]? = some (.cells (stv5 (S5.hwN F k)) 65 (0, 0)) ∧ Fr (fun k => k = B6) w w') t w ⟨hp, hB6, Fr.refl _ _⟩ ?_
  clear hB6 hp t
  rintro k t wr hk ⟨hp, hB6, hF⟩ K hK
  obtain ⟨f, hf, rfl⟩ := hp.open
  clear hf hp
  conv => arg 2; whnf
  have hTr := hT.fr hF hd
  have hEr := hE.fr hF (fun h => hdH h.symm) (fun h => hdK h.symm)
  have z0 := hF.size
  have z6 := lt_of_block hB6
  by_cases hlt : k < nb
  · have hblk := hTr.blk (k := k) (by omega)
    have hok := S5.hwN_ok F k
    have hnext : S5.hwN F (k + 1) = (S5.hwN F k).add (S5.rnds (S5.sch ((F.drop (128 * k)).take 128) 64) (S5.hwN F k) 80) := rfl
    have hrok := rnds_ok5 (S5.sch ((F.drop (128 * k)).take 128) 64) (S5.hwN F k) hok 80
    generalize (F.drop (128 * k)).take 128 = l at hblk hnext hrok
    generalize S5.hwN F k = s at hB6 hok hnext hrok
    have ht : ((128 * k : Nat) : Int) < (N : Int) := by omega
    have ht2 : ((128 * k : Nat) : Int) ≤ 2000000000000 := by omega
    obtain ⟨off, hoff⟩ : ∃ off, off = 128 * k := ⟨_, rfl⟩
    rw [← hoff] at ht ht2 hblk ⊢
    have hoN : off + 128 ≤ N := by omega
    have Hoff := Lib.hid hoff
    have Hnext := Lib.hid hnext
    have HK := Lib.hid hK
    have HB6 := Lib.hid hB6
    have HN := Lib.hid hN
    have HFl := Lib.hid hFl
    clear hoff hnext hK hB6 hN hFl hTr
    go_wp2_with fail
    refine us_loop3 l g off N c B6 wr.heap.size hoN hN2 _ (hblk.fr ((Fr.refl (fun _ => False) wr).alloc _) (fun h => h)) ?hA (by omega) _ ⟨rfl, rfl, rfl, rfl, rfl⟩ rfl ?_
    case hA =>
      unfold Wd5
      rw [← zeroW]
      exact heap_alloc_new wr _
    intro t1 w1 hp1 hA1 hF1
    have G1 : Fr (fun k => k = B6) w w1 := (hF.alloc _).trans hF1 (fun i hi => Or.inr (by omega))
    have HB1 : w1.heap[B6]? = some (.cells (stv5 s) 65 (0, 0)) := by
      rw [hF1.block B6 (by simp; omega) (by omega), Below.heap_alloc _ _ _ z6]; exact HB6.out
    have hE1 := hE.fr G1 (fun h => hdH h.symm) (fun h => hdK h.symm)
    have z1 : wr.heap.size < w1.heap.size := lt_of_block hA1
    clear hF1 HB6 hblk hEr
    generalize wr.heap.size = B8 at hA1 hp1 z1 z0 z6
    obtain ⟨f1, hf1, rfl⟩ := hp1.open
    clear hf1 hp1
    have hsz : (#[.int .u64 0, .int .u64 0, .int .u64 0, .int .u64 0, .int .u64 0, .int .u64 0, .int .u64 0, .int .u64 0] : Array Value).size = (stv5 s).size := rfl
    have Hsz := Lib.hid hsz
    have HB1' := Lib.hid HB1
    have Hk := Lib.hid hlt
    clear hsz HB1 hlt
    go_wp2_with (first
      | (with_reducible refine wpList_load_row rfl 65 (.tmp 6) rfl B6 rfl 65 (stv5 s) (0, 0) _ HB1'.out Tryd.underlying65 rfl Tryd.size8w ?_)
      | (with_reducible refine wpList_store_rowR rfl 65 (.tmp 13) (.tmp 122) rfl w1.heap.size (stv5 s) rfl rfl 65 _ (heap_alloc_new w1 _) Tryd.size8w Hsz.out (stv_one5 s) ?k))
    case k =>
    intro w2 hB2 hG2
    have HB1 := HB1'.out
    have L12 : Fr (fun _ => False) w1 w2 := ((Fr.refl (fun _ => False) w1).alloc _).trans hG2 (fun i hi => Or.inr (by omega))
    have z2 := lt_of_block hB2
    have hA2 := hA1.fr L12 (fun h => h)
    have hE2 := hE1.fr L12 (fun h => h) (fun h => h)
    have HB2 : w2.heap[B6]? = some (.cells (stv5 s) 65 (0, 0)) := (L12.block B6 (by omega) (fun h => h)).trans HB1
    have G2 : Fr (fun k => k = B6) w w2 := G1.trans L12 (fun _ h => h.elim)
    have d13 : B6 ≠ w1.heap.size := by omega
    have d8 : B8 ≠ w1.heap.size := by omega
    have dK : w1.heap.size ≠ 3 := fun e => by
      have := hE.tabK 0 (by decide)
      have := World.block_lt_of_cell? _ _ this
      simp at this; omega
    clear HB1 HB1' Hsz hG2 L12 hA1 hE1
    generalize w1.heap.size = B13 at *
    have hB2' := Lib.hid hB2
    have HB2' := Lib.hid HB2
    clear hB2 HB2
    go_wp2_with fail
    refine us_loop5 l s hok g off N c B6 B8 B13 w2 hE2 hA2 hB2'.out d8 dK _ ⟨rfl, rfl, rfl, rfl, rfl⟩ rfl rfl ?_
    intro t3 w3 hp3 p13 hB3 hF3
    have HB3 : w3.heap[B6]? = some (.cells (stv5 s) 65 (0, 0)) := (hF3.block B6 (lt_of_block HB2'.out) d13).trans HB2'.out
    have G3 : Fr (fun k => k = B6) w w3 := G2.trans hF3 (fun i hi => Or.inr (by subst hi; omega))
    clear hB2' HB2' hF3 hA2 hE2
    obtain ⟨f3, hf3, rfl⟩ := hp3.open
    have e13 := hf3 13 _ p13
    clear hf3 hp3 p13
    rw [e13]
    clear e13
    have hB3' := Lib.hid hB3
    have HB3' := Lib.hid HB3
    clear hB3 HB3
    go_wp2_with fail
    refine us_loop6 s _ hok hrok g off N c B6 B8 B13 w3 HB3'.out hB3'.out d13 _ ⟨rfl, rfl, rfl, rfl, rfl⟩ rfl rfl ?_
    intro t4 w4 hp4 HB4 hF4
    have G4 : Fr (fun k => k = B6) w w4 := G3.trans hF4 (fun i hi => Or.inl hi)
    rw [← Hnext.out] at HB4
    clear hB3' HB3' hF4 G3 G2 G1
    obtain ⟨f4, hf4, rfl⟩ := hp4.open
    clear hf4 hp4
    have HB4' := Lib.hid HB4
    have ws : (off : Int) + 128 ≤ 3000000000000 := by omega
    have p7' : (some (Value.int .i64 ((off : Int) + 128))) = some (Value.int .i64 ((128 * (k + 1) : Nat) : Int)) := by rw [Hoff.out]; rfl
    have P7 := Lib.hid p7'
    clear HB4 p7'
    go_wp2_with fail
    exact HK.out _ _ Hk.out ⟨⟨rfl, rfl, rfl, P7.out⟩, HB4'.out, G4⟩
  · obtain rfl : k = nb := by omega
    rw [← hN]
    have ht : ¬ (N : Int) < (N : Int) := by omega
    have HE := Lib.hid hexit
    have HN := Lib.hid hN
    have HFl := Lib.hid hFl
    clear hexit hN hFl
    go_wp2_with fail
    exact HE.out _ _ ⟨rfl, rfl, rfl, rfl⟩ hB6 hF
end Go.Proofs.YtmoepalhoaekgaaDoor
namespace Go.Proofs.YtmoepalhoaekgaaDoor
open Go.RowKit
set_option linter.unusedVariables false

theorem flat_take5 (s : S5.St) (k : Nat) (hk : k < 8) : (s.list.take (k + 1)).flatMap S5.be8 = (s.list.take k).flatMap S5.be8 ++ S5.be8 (sx5 s k) := by
  have hl : k < s.list.length := hk
  rw [List.take_succ_eq_append_getElem hl, List.flatMap_append]
  congr 1
  simp [sx5, List.getD, List.getElem?_eq_getElem hl]
theorem be8_len (x : Nat) : (S5.be8 x).length = 8 := rfl
theorem flat_len5 (s : S5.St) (k : Nat) (hk : k ≤ 8) : ((s.list.take k).flatMap S5.be8).length = 8 * k := by
  match k, hk with
  | 0, _ => rfl
  | 1, _ => rfl
  | 2, _ => rfl
  | 3, _ => rfl
  | 4, _ => rfl
  | 5, _ => rfl
  | 6, _ => rfl
  | 7, _ => rfl
  | 8, _ => rfl
theorem be8_same (n : Nat) : S5.be8 n = S2.be8 n := rfl
theorem byte_shift5 (z j : Nat) : ((z : Int) / 2 ^ (56 - 8 * j)) % 256 = ((UInt8.ofNat (z / 2 ^ (56 - 8 * j))).toNat : Int) := by
  rw [UInt8.toNat_ofNat']
  simp

set_option maxRecDepth 100000 in
set_option maxHeartbeats 1600000 in
theorem us_loop8 {Q : Exit → Act → World → Prop} (s : S5.St) (hs : s.ok) (k : Nat) (hk : k < 8) (x0 : List UInt8) (hx0 : x0.length = 8 * k) (B B6 : Nat) (w : World) (hB6 : w.heap[B6]? = some (.cells (stv5 s) 65 (0, 0))) (hBw : B ≤ w.heap.size) (v0 : Value) (hO : Own w B v0 x0) (hne : ∀ b, v0.ownBlock = some b → b ≠ B6)
    (t : Array Value) (hn : t.size = 244) (p6 : t[6]? = some (.pointer (some ⟨B6, 0, none⟩))) (p18 : t[18]? = some v0) (p19 : t[19]? = some (.int .i64 (k : Int))) (p20 : t[20]? = some (.int .i64 56))
    (hexit : ∀ t' w' v, t'.size = 244 → t'[6]? = some (.pointer (some ⟨B6, 0, none⟩)) → t'[18]? = some v → t'[19]? = some (.int .i64 (k : Int)) → Own w' B v (x0 ++ S5.be8 (sx5 s k)) → (∀ b, v.ownBlock = some b → b ≠ B6) → w'.heap[B6]? = some (.cells (stv5 s) 65 (0, 0)) → Fr (fun k => B ≤ k) w w' → Q (.exit 16) ⟨t', []⟩ w') :
    Code.wp Tryd.prog (.loop (loopAt Tryd.f16 8)) Q ⟨t, []⟩ w := by
  refine wp_loop_up 8 (fun j t w' => t.size = 244 ∧ t[6]? = some (.pointer (some ⟨B6, 0, none⟩)) ∧ t[19]? = some (.int .i64 (k : Int)) ∧ t[20]? = some (.int .i64 (56 - 8 * (j : Int))) ∧ ∃ v, t[18]? = some v ∧ Own w' B v (x0 ++ (S5.be8 (sx5 s k)).take j) ∧ (∀ b, v.ownBlock = some b → b ≠ B6) ∧ w'.heap[B6]? = some (.cells (stv5 s) 65 (0, 0)) ∧ Fr (fun k => B ≤ k) w w') t w ⟨hn, p6, p19, p20, v0, p18, by simpa using hO, hne, hB6, Fr.refl _ _⟩ ?_
  clear hB6 hO hne hn p6 p18 p19 p20 t v0
  rintro j t wr hj ⟨hn, p6, p19, p20, v, p18, hO, hne, hB6, hF⟩ K hK
  obtain ⟨f, hf, rfl⟩ := frame_open hn
  have e6 := hf 6 _ p6
  have e18 := hf 18 _ p18
  have e19 := hf 19 _ p19
  have e20 := hf 20 _ p20
  clear hf hn p6 p18 p19 p20
  rw [lit244, e6, e18, e19, e20]
  clear e6 e18 e19 e20
  conv => arg 2; whnf
  by_cases hj8 : j < 8
  · have c0 := cell_of_block hB6 k
    rw [← stu_uv5, uv_get5 8 _ k hk] at c0
    have y0 := sx5_lt s hs k hk
    have hbt := be8_take (sx5 s k) j hj8
    rw [← be8_same] at hbt
    have hv := byte_shift5 (sx5 s k) j
    have hbl := be8_len (sx5 s k)
    generalize hz : sx5 s k = z at *
    generalize UInt8.ofNat (z / 2 ^ (56 - 8 * j)) = y at hbt hv
    have q1 : (0 : Int) ≤ 56 - 8 * (j : Int) := by omega
    have q2 : (0 : Int) ≤ (k : Int) := by omega
    have q3 : (k : Int) < 8 := by omega
    obtain ⟨a2, c2, rfl⟩ := hO.slice
    have hL2 : (x0 ++ (S5.be8 z).take j).length = 8 * k + j := by rw [List.length_append, hx0, List.length_take, hbl]; omega
    rw [hL2] at hO hne ⊢
    have hsrc := src_b1 y (heap_alloc_new wr (.cells #[.int .u8 (y.toNat : Int)] 5)) rfl
    have own1 := hO.fr ((Fr.refl (fun _ => False) wr).alloc (.cells #[.int .u8 (y.toNat : Int)] 5)) (fun _ _ h => h)
    have F1 := hF.alloc (.cells #[.int .u8 (y.toNat : Int)] 5)
    have hz1 : B ≤ (wr.alloc (.cells #[.int .u8 (y.toNat : Int)] 5)).heap.size := Nat.le_trans hBw F1.size
    have hb1 : (x0 ++ (S5.be8 z).take j).length + [y].length ≤ 140737488355328 := by rw [hL2]; simp; omega
    have hnext : (x0 ++ (S5.be8 z).take j) ++ [y] = x0 ++ (S5.be8 z).take (j + 1) := by rw [hbt, List.append_assoc]
    clear hbt
    have HN := Lib.hid hnext
    have z6 := lt_of_block hB6
    have HB6 := Lib.hid hB6
    have HX := Lib.hid hx0
    have HL := Lib.hid hbl
    have HK := Lib.hid hK
    clear hnext hB6 hx0 hbl hK
    generalize hxx : x0 ++ (S5.be8 z).take j = xx at *
    generalize hLx : 8 * k + j = Lx at *
    have hLb : (Lx : Int) ≤ 9223372036854775807 := by omega
    have HXX := Lib.hid hxx
    have HLX := Lib.hid hLx
    clear hxx hLx
    go_wp2_with (at_builtin; refine wpList_own _ rfl (.tmp 233) (.tmp 240) 22 rfl B (.slice a2 Lx c2) xx [y] rfl own1 (.slice (some ⟨wr.heap.size, 0, none⟩) 1 1) rfl hsrc hb1 hz1 ?k)
    case k =>
    intro v3 w3 own3 hg3 hb3
    have F3 : Fr (fun k => B ≤ k) w w3 := F1.trans (Fr.ofGrown hg3) (fun i hi => Or.inl (hO.lt i hi).1)
    have hne3 : ∀ b, v3.ownBlock = some b → b ≠ B6 := by
      intro b hb e
      rcases hb3 with h | h
      · exact hne b (h.symm.trans hb) e
      · rw [h] at hb
        have := Option.some.inj hb
        try simp at this
        omega
    have hne2 : ¬ (Value.ownBlock (.slice a2 Lx c2) = some B6) := fun e => hne _ e rfl
    have B3 : w3.heap[B6]? = some (.cells (stv5 s) 65 (0, 0)) := ((Fr.ofGrown hg3).block B6 (by simp; omega) hne2).trans ((Below.heap_alloc wr _ B6 z6).trans HB6.out)
    have H3 := Lib.hid B3
    rw [HN.out] at own3
    clear hsrc own1 F1 hz1 hb1 hg3 hb3 hv hne hne2 B3 c0 hO hF
    go_wp2
    exact HK.out _ _ hj8 ⟨rfl, rfl, rfl, by go_num, v3, rfl, own3, hne3, H3.out, F3⟩
  · obtain rfl : j = 8 := by omega
    have HE := Lib.hid hexit
    have ht : (S5.be8 (sx5 s k)).take 8 = S5.be8 (sx5 s k) := List.take_of_length_le (by rw [be8_len]; omega)
    rw [ht] at hO
    clear hexit
    go_wp2_with fail
    exact HE.out _ _ _ rfl rfl rfl rfl hO hne hB6 hF

set_option maxRecDepth 100000 in
set_option maxHeartbeats 1600000 in
theorem us_loop7 {Q : Exit → Act → World → Prop} (s : S5.St) (hs : s.ok) (B B6 : Nat) (w : World) (hB6 : w.heap[B6]? = some (.cells (stv5 s) 65 (0, 0))) (hBw : B ≤ w.heap.size) (v0 : Value) (hO : Own w B v0 []) (hne : ∀ b, v0.ownBlock = some b → b ≠ B6)
    (t : Array Value) (hn : t.size = 244) (p6 : t[6]? = some (.pointer (some ⟨B6, 0, none⟩))) (p18 : t[18]? = some v0) (p19 : t[19]? = some (.int .i64 0))
    (hexit : ∀ t' w' v, t'.size = 244 → t'[18]? = some v → Own w' B v (S5.out s) → Fr (fun k => B ≤ k) w w' → Q (.exit 14) ⟨t', []⟩ w') :
    Code.wp Tryd.prog (.loop (loopAt Tryd.f16 7)) Q ⟨t, []⟩ w := by
  refine wp_loop_up 8 (fun k t w' => t.size = 244 ∧ t[6]? = some (.pointer (some ⟨B6, 0, none⟩)) ∧ t[19]? = some (.int .i64 (k : Int)) ∧ ∃ v, t[18]? = some v ∧ Own w' B v ((s.list.take k).flatMap S5.be8) ∧ (∀ b, v.ownBlock = some b → b ≠ B6) ∧ w'.heap[B6]? = some (.cells (stv5 s) 65 (0, 0)) ∧ Fr (fun k => B ≤ k) w w') t w ⟨hn, p6, p19, v0, p18, hO, hne, hB6, Fr.refl _ _⟩ ?_
  clear hB6 hO hne hn p6 p18 p19 t v0
  rintro k t wr hk ⟨hn, p6, p19, v, p18, hO, hne, hB6, hF⟩ K hK
  obtain ⟨f, hf, rfl⟩ := frame_open hn
  have e6 := hf 6 _ p6
  have e18 := hf 18 _ p18
  have e19 := hf 19 _ p19
  clear hf hn p6 p18 p19
  rw [lit244, e6, e18, e19]
  clear e6 e18 e19
  conv => arg 2; whnf
  by_cases hk8 : k < 8
  · have hft := flat_take5 s k hk8
    have hfl := flat_len5 s k (by omega)
    have q1 : (k : Int) < 8 := by omega
    have HK := Lib.hid hK
    have HT := Lib.hid hft
    have HFl := Lib.hid hfl
    have HB6 := Lib.hid hB6
    clear hK hft hfl hB6
    have hz := Nat.le_trans hBw hF.size
    go_wp2_with fail
    refine us_loop8 s hs k hk8 _ HFl.out B B6 wr HB6.out hz v hO hne _ rfl rfl rfl rfl rfl ?_
    intro t1 w1 v1 hn1 p61 p181 p191 hO1 hne1 hB61 hF1
    obtain ⟨f1, hf1, rfl⟩ := frame_open hn1
    have e6 := hf1 6 _ p61
    have e18 := hf1 18 _ p181
    have e19 := hf1 19 _ p191
    clear hf1 hn1 p61 p181 p191
    rw [lit244, e6, e18, e19]
    clear e6 e18 e19
    rw [← HT.out] at hO1
    have F2 : Fr (fun k => B ≤ k) w w1 := hF.trans hF1 (fun i hi => Or.inl hi)
    have H61 := Lib.hid hB61
    clear hB61 hF1 hF hO HB6 HT
    go_wp2_with fail
    exact HK.out _ _ hk8 ⟨rfl, rfl, rfl, v1, rfl, hO1, hne1, H61.out, F2⟩
  · obtain rfl : k = 8 := by omega
    have HE := Lib.hid hexit
    clear hexit
    go_wp2_with fail
    exact HE.out _ _ _ rfl rfl hO hF
end Go.Proofs.YtmoepalhoaekgaaDoor
namespace Go.Proofs.YtmoepalhoaekgaaDoor
open Go.RowKit
set_option linter.unusedVariables false

/-- What is hashed: the bytes, and what comes behind them. -/
def S5.full (l : List UInt8) : List UInt8 := l ++ S5.pad l.length
theorem pad_mod5 (n : Nat) : (n + S5.padLen n) % 128 = 0 ∧ 17 ≤ S5.padLen n ∧ S5.padLen n ≤ 144 := by unfold S5.padLen; omega
theorem zero8u : (#[.int .u64 0, .int .u64 0, .int .u64 0, .int .u64 0, .int .u64 0, .int .u64 0, .int .u64 0, .int .u64 0] : Array Value) = uv5 8 (fun _ => 0) := by kernel_rfl
/-- The count's sixteen bytes. -/
def cnt (m : Nat) : List UInt8 := List.replicate 8 0 ++ S5.be8 m
theorem cnt_len (m : Nat) : (cnt m).length = 16 := rfl
theorem cnt_lo (m j : Nat) (hj : j < 8) : (cnt m).take (j + 1) = (cnt m).take j ++ [0] := by
  rw [List.take_succ_eq_append_getElem (by rw [cnt_len]; omega)]
  congr 2
  unfold cnt
  rw [List.getElem_append_left (by simp; omega)]
  exact List.getElem_replicate _
theorem cnt_hi (m j : Nat) (hj : j < 8) : (cnt m).take (j + 8 + 1) = (cnt m).take (j + 8) ++ [UInt8.ofNat (m / 2 ^ (56 - 8 * j))] := by
  rw [List.take_succ_eq_append_getElem (by rw [cnt_len]; omega)]
  congr 2
  unfold cnt
  rw [List.getElem_append_right (by simp)]
  simp [S5.be8]
set_option maxRecDepth 100000 in
set_option maxHeartbeats 1600000 in
theorem usum_any (s : ByteArray) (hs : s.size ≤ 1000000000000) (w : World) (hE : UEnv w) :
    Calls Tryd.prog 16 #[.string s] w fun e w' => e = .returned (.string ⟨(S5.sum (sb s)).toArray⟩) ∧ Fr (fun _ => False) w w' := by
  have kc := fun w : World => Lib.run_convert_string_bytes (P := Tryd.prog) w 9 22 5 s Tryd.underlying9 Tryd.underlying22 Tryd.underlying5
  have hl : (sb s).length = s.size := sb_length s
  go_enter Tryd.func16, Tryd.ntmps16
  have own0 := own_str w s w.heap.size (Nat.le_refl _) (by omega)
  have F0 := own_str_fr w s
  have z0 : (Lib.bytesWorld w 5 s).heap.size = w.heap.size + 1 := Lib.bytesWorld_size _ _ _
  have hn0 := heap_alloc_new (Lib.bytesWorld w 5 s) (.cells #[.int .u8 128] 5)
  rw [z0] at hn0
  have hsrc := src_b1 (0x80 : UInt8) hn0 rfl
  have own1 := own0.fr ((Fr.refl (fun _ => False) (Lib.bytesWorld w 5 s)).alloc (.cells #[.int .u8 128] 5)) (fun _ _ h => h)
  have F1 := F0.alloc (.cells #[.int .u8 128] 5)
  have hz1 : w.heap.size ≤ ((Lib.bytesWorld w 5 s).alloc (.cells #[.int .u8 128] 5)).heap.size := F1.size
  have hb1 : (sb s).length + [(0x80 : UInt8)].length ≤ 140737488355328 := by simp; omega
  go_wp2_with (at_builtin; refine wpList_own _ rfl (.tmp 24) (.tmp 25) 22 rfl w.heap.size (.slice (some ⟨w.heap.size, 0, none⟩) s.size (grownCap w s.size 0 5)) (sb s) [0x80] rfl own1 (.slice (some ⟨w.heap.size + 1, 0, none⟩) 1 1) rfl hsrc hb1 hz1 ?k)
  case k =>
  intro v2 w2 own2 hg2 hb2
  have F2 : Fr (fun _ => False) w w2 := F1.trans (Fr.ofGrown hg2) (fun k hk => Or.inr (by
    have : w.heap.size = k := by simpa [Value.ownBlock] using hk
    omega))
  clear own0 F0 z0 hn0 hsrc own1 F1 hg2 hb2 kc
  obtain ⟨l, hsl⟩ : ∃ l, l = sb s := ⟨_, rfl⟩
  rw [← hsl] at own2 hl
  have Hsl := Lib.hid hsl
  clear hsl
  obtain ⟨p1, p2, p3⟩ := pad_mod5 s.size
  obtain ⟨K, hK⟩ : ∃ K, K = S5.padLen s.size := ⟨_, rfl⟩
  rw [← hK] at p1 p2 p3
  have HK := Lib.hid hK
  clear hK
  go_wp2_with fail
  go_loopw [4] (fun v wr => ∃ q : Nat, q ≤ K - 17 ∧ Own wr w.heap.size v (l ++ 0x80 :: List.replicate q 0) ∧ Fr (fun _ => False) w wr) (fun v _ => s.size + 200 - lenR v)
  case atStart => exact ⟨0, by omega, own2, F2⟩
  case round =>
    clear own2 F2
    obtain ⟨q, hq, own, F⟩ := hrel
    obtain ⟨a, c, rfl⟩ := own.slice
    have hL : (l ++ 0x80 :: List.replicate q 0).length = s.size + 1 + q := by simp [hl]; omega
    rw [hL] at own ⊢
    have hm : (((s.size + 1 + q : Nat) : Int)).tmod 128 = ((s.size + 1 + q : Nat) : Int) % 128 := Int.tmod_eq_emod_of_nonneg (by omega)
    generalize hLL : s.size + 1 + q = L at *
    have hL2 : (L : Int) ≤ 9223372036854775807 := by omega
    by_cases hlt : q < K - 17
    · have ht : ((L : Int) % 128 != 112) = true := by simp; omega
      have hsrc := src_b1 (0 : UInt8) (heap_alloc_new wr (.cells #[.int .u8 0] 5)) rfl
      have own1 := own.fr ((Fr.refl (fun _ => False) wr).alloc (.cells #[.int .u8 0] 5)) (fun _ _ h => h)
      have F1 := F.alloc (.cells #[.int .u8 0] 5)
      have hz1 : w.heap.size ≤ (wr.alloc (.cells #[.int .u8 0] 5)).heap.size := F1.size
      have hb1 : (l ++ 0x80 :: List.replicate q 0).length + [(0 : UInt8)].length ≤ 140737488355328 := by rw [hL]; simp; omega
      generalize hx0 : (l ++ 0x80 :: List.replicate q 0) = x0 at *
      go_wp2_with (at_builtin; refine wpList_own _ rfl (.tmp 31) (.tmp 32) 22 rfl w.heap.size (.slice a L c) x0 [0] rfl own1 (.slice (some ⟨wr.heap.size, 0, none⟩) 1 1) rfl hsrc hb1 hz1 ?k)
      case k =>
      intro v3 w3 own3 hg3 hb3
      have F3 : Fr (fun _ => False) w w3 := F1.trans (Fr.ofGrown hg3) (fun k hk => Or.inr (own1.lt k hk).1)
      have hx1 : x0 ++ [0] = l ++ 0x80 :: List.replicate (q + 1) 0 := by rw [← hx0, List.replicate_succ']; simp
      rw [hx1] at own3
      obtain ⟨a3, c3, rfl⟩ := own3.slice
      have hL3 : (l ++ 0x80 :: List.replicate (q + 1) 0).length = L + 1 := by simp [hl]; omega
      rw [hL3] at own3 ⊢
      clear hsrc own own1 F1 hz1 hb1 hg3 hb3 hx1 hx0 hm ht
      go_wp2
      go_roundw
      case rel => exact ⟨q + 1, by omega, own3, F3⟩
      case measure => simp [lenR]; omega
    · obtain rfl : q = K - 17 := by omega
      have ht : ((L : Int) % 128 != 112) = false := by simp; omega
      have hP : (l ++ 0x80 :: List.replicate (K - 17) 0) ++ cnt (8 * s.size) = S5.full l := by
        have := HK.out
        unfold S5.full S5.pad cnt
        rw [hl, ← this, show K - 9 = (K - 17) + 8 by omega, ← List.replicate_append_replicate]
        simp
      generalize hPP : l ++ 0x80 :: List.replicate (K - 17) 0 = P at *
      have HP := Lib.hid hP
      clear hP
      go_wp2_with fail
      have hPl : P.length = s.size + K - 16 := by rw [← hPP]; simp [hl]; omega
      go_loopw [4, 5] (fun v i wx => ∃ j : Nat, j ≤ 16 ∧ i = .int .i64 (120 - 8 * (j : Int)) ∧ Own wx w.heap.size v (P ++ (cnt (8 * s.size)).take j) ∧ Fr (fun _ => False) w wx) (fun _ i _ => (intOf i + 8).toNat)
      case atStart => exact ⟨0, by omega, by simp, by simpa using own, F⟩
      case round =>
        clear own F hm ht
        obtain ⟨j, hj, rfl, own, F⟩ := hrel
        by_cases hl8 : j < 8
        · as_aux_lemma =>
          have q1 : (0 : Int) ≤ 120 - 8 * (j : Int) := by omega
          have q2 : (64 : Int) ≤ 120 - 8 * (j : Int) := by omega
          have q3 : decide ((64 : Int) ≤ 120 - 8 * (j : Int)) = true := decide_eq_true q2
          have hbt := cnt_lo (8 * s.size) j hl8
          obtain ⟨a2, c2, rfl⟩ := own.slice
          have hL2 : (P ++ (cnt (8 * s.size)).take j).length = s.size + K - 16 + j := by rw [List.length_append, hPl, List.length_take, cnt_len]; omega
          rw [hL2] at own ⊢
          have hsrc := src_b1 (0 : UInt8) (heap_alloc_new wr (.cells #[.int .u8 0] 5)) rfl
          have own1 := own.fr ((Fr.refl (fun _ => False) wr).alloc (.cells #[.int .u8 0] 5)) (fun _ _ h => h)
          have F1 := F.alloc (.cells #[.int .u8 0] 5)
          have hz1 : w.heap.size ≤ (wr.alloc (.cells #[.int .u8 0] 5)).heap.size := F1.size
          have hb1 : (P ++ (cnt (8 * s.size)).take j).length + [(0 : UInt8)].length ≤ 140737488355328 := by rw [hL2]; simp; omega
          have hnext : (P ++ (cnt (8 * s.size)).take j) ++ [0] = P ++ (cnt (8 * s.size)).take (j + 1) := by rw [hbt, List.append_assoc]
          clear hbt
          generalize hx0 : P ++ (cnt (8 * s.size)).take j = x0 at *
          generalize hLx : s.size + K - 16 + j = Lx at *
          have hLb : (Lx : Int) ≤ 9223372036854775807 := by omega
          go_wp2_with (at_builtin; refine wpList_own _ rfl (.tmp 40) (.tmp 41) 22 rfl w.heap.size (.slice a2 Lx c2) x0 [0] rfl own1 (.slice (some ⟨wr.heap.size, 0, none⟩) 1 1) rfl hsrc hb1 hz1 ?k)
          case k =>
          intro v3 w3 own3 hg3 hb3
          have F3 : Fr (fun _ => False) w w3 := F1.trans (Fr.ofGrown hg3) (fun k hk => Or.inr (own1.lt k hk).1)
          try rw [hnext] at own3
          clear hsrc own own1 F1 hz1 hb1 hg3 hb3 hnext hx0
          go_wp2
          go_roundw
          case rel => exact ⟨j + 1, by omega, by go_num, own3, F3⟩
          case measure => simp [intOf]; omega
        by_cases hlt : j < 16
        · as_aux_lemma =>
          have q1 : (0 : Int) ≤ 120 - 8 * (j : Int) := by omega
          have q2 : ¬ (64 : Int) ≤ 120 - 8 * (j : Int) := by omega
          have q3 : decide ((64 : Int) ≤ 120 - 8 * (j : Int)) = false := decide_eq_false q2
          obtain ⟨i, hji⟩ : ∃ i, j = i + 8 := ⟨j - 8, by omega⟩
          have hbt := cnt_hi (8 * s.size) i (by omega)
          have hv : (8 * (s.size : Int) / 2 ^ (120 - 8 * j) % 256) = ((UInt8.ofNat (8 * s.size / 2 ^ (56 - 8 * i))).toNat : Int) := by
            rw [show 120 - 8 * j = 56 - 8 * i by omega]
            have := byte_shift (8 * s.size) i (by omega)
            rw [← this]
            simp
          rw [← hji] at hbt
          generalize UInt8.ofNat (8 * s.size / 2 ^ (56 - 8 * i)) = y at hbt hv
          clear hji
          obtain ⟨a2, c2, rfl⟩ := own.slice
          have hL2 : (P ++ (cnt (8 * s.size)).take j).length = s.size + K - 16 + j := by rw [List.length_append, hPl, List.length_take, cnt_len]; omega
          rw [hL2] at own ⊢
          have hsrc := src_b1 y (heap_alloc_new wr (.cells #[.int .u8 (y.toNat : Int)] 5)) rfl
          have own1 := own.fr ((Fr.refl (fun _ => False) wr).alloc (.cells #[.int .u8 (y.toNat : Int)] 5)) (fun _ _ h => h)
          have F1 := F.alloc (.cells #[.int .u8 (y.toNat : Int)] 5)
          have hz1 : w.heap.size ≤ (wr.alloc (.cells #[.int .u8 (y.toNat : Int)] 5)).heap.size := F1.size
          have hb1 : (P ++ (cnt (8 * s.size)).take j).length + [y].length ≤ 140737488355328 := by rw [hL2]; simp; omega
          have hnext : (P ++ (cnt (8 * s.size)).take j) ++ [y] = P ++ (cnt (8 * s.size)).take (j + 1) := by rw [hbt, List.append_assoc]
          clear hbt
          generalize hx0 : P ++ (cnt (8 * s.size)).take j = x0 at *
          generalize hLx : s.size + K - 16 + j = Lx at *
          have hLb : (Lx : Int) ≤ 9223372036854775807 := by omega
          go_wp2_with (at_builtin; refine wpList_own _ rfl (.tmp 43) (.tmp 49) 22 rfl w.heap.size (.slice a2 Lx c2) x0 [y] rfl own1 (.slice (some ⟨wr.heap.size, 0, none⟩) 1 1) rfl hsrc hb1 hz1 ?k)
          case k =>
          intro v3 w3 own3 hg3 hb3
          have F3 : Fr (fun _ => False) w w3 := F1.trans (Fr.ofGrown hg3) (fun k hk => Or.inr (own1.lt k hk).1)
          try rw [hnext] at own3
          clear hsrc own own1 F1 hz1 hb1 hg3 hb3 hnext hx0 hv
          go_wp2
          go_roundw
          case rel => exact ⟨j + 1, by omega, by go_num, own3, F3⟩
          case measure => simp [intOf]; omega
        · obtain rfl : j = 16 := by omega
          have hfull : P ++ (cnt (8 * s.size)).take 16 = S5.full l := by rw [← HP.out]; rfl
          rw [hfull] at own
          have hF1 := hE.fr F (fun h => h) (fun h => h)
          obtain ⟨tH, frH, hbH⟩ := hF1.tabH
          obtain ⟨a4, c4, rfl⟩ := own.slice
          have hN : (S5.full l).length = s.size + K := by have := HK.out; unfold S5.full S5.pad; rw [hl]; simp [S5.be8]; omega
          rw [hN] at own ⊢
          obtain ⟨nb, hnb⟩ : ∃ nb, s.size + K = 128 * nb := ⟨(s.size + K) / 128, by omega⟩
          rw [hnb] at own hN ⊢
          have hnbb : (nb : Int) ≤ 100000000000 := by omega
          have hnew := heap_alloc_new wr (.cells (uv5 8 (fun _ => 0)) 65)
          have hsz : (uv5 8 (fun _ => 0)).size = (stv5 S5.H0).size := uv_size5 _ _
          have hone : (stv5 S5.H0).all (·.oneCell') = true := stv_one5 _
          rw [← zero8u] at hnew hsz
          clear hfull HP hPP
          go_wp2_with (first
            | (with_reducible refine wpList_load_row rfl 65 (.global 2) rfl 2 rfl tH (stv5 S5.H0) frH _ hbH Tryd.underlying65 rfl Tryd.size8w ?_)
            | (with_reducible refine wpList_store_rowR rfl 65 (.tmp 6) (.tmp 51) rfl wr.heap.size (stv5 S5.H0) rfl rfl 65 _ hnew Tryd.size8w hsz hone ?k))
          case k =>
          intro w5 b5 hG5
          have F5 : Fr (fun _ => False) w w5 := (F.alloc _).trans hG5 (fun i hi => Or.inr (by have := F.size; omega))
          have own5 : Own w5 w.heap.size (.slice a4 (128 * nb) c4) (S5.full l) := own.fr (((Fr.refl (fun _ => False) wr).alloc _).trans hG5 (fun i hi => Or.inr (by omega))) (fun _ _ h => h)
          have hB6 := F.size
          have hgB := fun k (hk : (Value.slice a4 (128 * nb) c4).ownBlock = some k) => (own.lt k hk).2
          generalize hB6e : wr.heap.size = B6 at *
          clear own F hF1 hbH hnew hsz hone hG5 hB6e
          obtain ⟨g, hg4, rfl⟩ : ∃ g, w.heap.size ≤ g ∧ a4 = some ⟨g, 0, none⟩ := by
            rcases own5 with ⟨e, h0⟩ | ⟨g, cap, cur, fz, e, h1, _⟩
            · rw [h0] at hN; simp at hN; omega
            · injection e with e1 e2 e3; exact ⟨g, h1, e1⟩
          have hT5 : Txt5 w5 g (S5.full l) := by
            obtain ⟨_, _, _, hl5⟩ := own5.lies
            intro j hj
            rcases hl5 with e | ⟨g2, off2, e, hc⟩
            · rw [e] at hj; simp at hj
            · cases e
              have := hc j hj
              rw [Nat.zero_add] at this
              rw [this, List.getD_eq_getElem?_getD, List.getElem?_eq_getElem hj]; rfl
          have hgl := own5.lt g rfl
          have hd5 : g ≠ B6 := by have := hgB g rfl; omega
          have z5 : B6 < w5.heap.size := lt_of_block b5
          have hE5 := hE.fr F5 (fun h => h) (fun h => h)
          have hg0 : 2 < w.heap.size := by obtain ⟨_, _, h⟩ := hE.tabH; exact lt_of_block h
          have hg1 : 3 < w.heap.size := World.block_lt_of_cell? _ _ (hE.tabK 0 (by decide))
          have hNN : 128 * nb ≤ 1000000000300 := by omega
          have B5 := Lib.hid b5
          have HN := Lib.hid hN
          have HnB := Lib.hid hnb
          clear own5 hgB b5 hN hnb
          go_wp2_with fail
          refine us_loop2 (S5.full l) g (128 * nb) c4 B6 nb HN.out rfl hNN w5 hT5 hgl.2 hE5 B5.out hd5 (by omega) (by omega) _ ⟨rfl, rfl, rfl, rfl⟩ ?_
          intro t6 w6 hp6 hB6' hF6
          obtain ⟨f, hf, rfl⟩ := hp6.open
          clear hf hp6
          have H6 := Lib.hid hB6'
          have G6 : Fr (fun _ => False) w w6 := F5.trans hF6 (fun i hi => Or.inr (by omega))
          clear hB6' hF6 hT5
          go_wp2_with fail
          have hsz6 := G6.size
          have n6 := heap_alloc_new w6 (.cells #[] 5)
          have O6 : Own (w6.alloc (.cells #[] 5)) w.heap.size (.slice (some ⟨w6.heap.size, 0, none⟩) 0 0) [] :=
            Or.inr ⟨w6.heap.size, 0, #[], (0, 0), rfl, hsz6, n6, Or.inl rfl, Nat.le_refl _, Nat.zero_le _, rfl, rfl⟩
          have z66 := lt_of_block H6.out
          have B6' := Lib.hid ((Below.heap_alloc w6 (.cells #[] 5) B6 z66).trans H6.out)
          clear n6
          refine us_loop7 (S5.hwN (S5.full l) nb) (S5.hwN_ok _ _) w.heap.size B6 _ B6'.out (by simp; omega) _ O6 (fun b hb => by have := Option.some.inj hb; simp at this; omega) _ rfl rfl rfl rfl ?_
          intro t7 w7 v7 hn7 p18 O7 F7
          obtain ⟨f7, hf7, rfl⟩ := frame_open hn7
          have e18 := hf7 18 _ p18
          clear hf7 hn7 p18
          rw [lit244, e18]
          clear e18
          have G7 : Fr (fun _ => False) w w7 := (G6.alloc _).trans F7 (fun i hi => Or.inr hi)
          obtain ⟨a7, c7, rfl⟩ := O7.slice
          obtain ⟨_, _, _, hl7⟩ := O7.lies
          have hs7 := run_str hl7 c7 9 Tryd.underlying9
          have hfin : S5.out (S5.hwN (S5.full l) nb) = S5.sum (sb s) := by
            rw [← Hsl.out]
            unfold S5.sum S5.hw
            have := HN.out
            rw [show (l ++ S5.pad l.length) = S5.full l from rfl, this, Nat.mul_div_cancel_left _ (by decide)]
          have Hfin := Lib.hid hfin
          clear hfin
          generalize S5.out (S5.hwN (S5.full l) nb) = x7 at *
          go_wp2_with fail
          go_ret
          exact ⟨by rw [Hfin.out]; rfl, G7⟩
end Go.Proofs.YtmoepalhoaekgaaDoor

/-
  The schedule's loop of Sum of package custumalref01.
-/
import Derived.Test.YtndakfanlgilmaaDoorRi
import Derived.StillTailTactics
import Derived.Deep.RegionHeld3
namespace Go.Proofs.YtndakfanlgilmaaDoor
open Go.RowKit
set_option linter.unusedVariables false

set_option maxRecDepth 100000 in
theorem lit265 (f : Nat → Value) : ((List.range 265).map f).toArray = #[f 0, f 1, f 2, f 3, f 4, f 5, f 6, f 7, f 8, f 9, f 10, f 11, f 12, f 13, f 14, f 15, f 16, f 17, f 18, f 19, f 20, f 21, f 22, f 23, f 24, f 25, f 26, f 27, f 28, f 29, f 30, f 31, f 32, f 33, f 34, f 35, f 36, f 37, f 38, f 39, f 40, f 41, f 42, f 43, f 44, f 45, f 46, f 47, f 48, f 49, f 50, f 51, f 52, f 53, f 54, f 55, f 56, f 57, f 58, f 59, f 60, f 61, f 62, f 63, f 64, f 65, f 66, f 67, f 68, f 69, f 70, f 71, f 72, f 73, f 74, f 75, f 76, f 77, f 78, f 79, f 80, f 81, f 82, f 83, f 84, f 85, f 86, f 87, f 88, f 89, f 90, f 91, f 92, f 93, f 94, f 95, f 96, f 97, f 98, f 99, f 100, f 101, f 102, f 103, f 104, f 105, f 106, f 107, f 108, f 109, f 110, f 111, f 112, f 113, f 114, f 115, f 116, f 117, f 118, f 119, f 120, f 121, f 122, f 123, f 124, f 125, f 126, f 127, f 128, f 129, f 130, f 131, f 132, f 133, f 134, f 135, f 136, f 137, f 138, f 139, f 140, f 141, f 142, f 143, f 144, f 145, f 146, f 147, f 148, f 149, f 150, f 151, f 152, f 153, f 154, f 155, f 156, f 157, f 158, f 159, f 160, f 161, f 162, f 163, f 164, f 165, f 166, f 167, f 168, f 169, f 170, f 171, f 172, f 173, f 174, f 175, f 176, f 177, f 178, f 179, f 180, f 181, f 182, f 183, f 184, f 185, f 186, f 187, f 188, f 189, f 190, f 191, f 192, f 193, f 194, f 195, f 196, f 197, f 198, f 199, f 200, f 201, f 202, f 203, f 204, f 205, f 206, f 207, f 208, f 209, f 210, f 211, f 212, f 213, f 214, f 215, f 216, f 217, f 218, f 219, f 220, f 221, f 222, f 223, f 224, f 225, f 226, f 227, f 228, f 229, f 230, f 231, f 232, f 233, f 234, f 235, f 236, f 237, f 238, f 239, f 240, f 241, f 242, f 243, f 244, f 245, f 246, f 247, f 248, f 249, f 250, f 251, f 252, f 253, f 254, f 255, f 256, f 257, f 258, f 259, f 260, f 261, f 262, f 263, f 264] := by kernel_rfl
/-- The pins of the frame that stay through the schedule's loop. -/
structure RPin (t : Array Value) (g N c B6 B8 off : Nat) : Prop where
  n : t.size = 265
  p4 : t[4]? = some (.slice (some ⟨g, 0, none⟩) N c)
  p6 : t[6]? = some (.pointer (some ⟨B6, 0, none⟩))
  p7 : t[7]? = some (.int .i64 (off : Int))
  p8 : t[8]? = some (.pointer (some ⟨B8, 0, none⟩))
set_option maxRecDepth 100000 in
theorem RPin.open {t : Array Value} {g N c B6 B8 off : Nat} (h : RPin t g N c B6 B8 off) : ∃ f : Nat → Value, (∀ i v, t[i]? = some v → f i = v) ∧ t = #[f 0, f 1, f 2, f 3, .slice (some ⟨g, 0, none⟩) N c, f 5, .pointer (some ⟨B6, 0, none⟩), .int .i64 (off : Int), .pointer (some ⟨B8, 0, none⟩), f 9, f 10, f 11, f 12, f 13, f 14, f 15, f 16, f 17, f 18, f 19, f 20, f 21, f 22, f 23, f 24, f 25, f 26, f 27, f 28, f 29, f 30, f 31, f 32, f 33, f 34, f 35, f 36, f 37, f 38, f 39, f 40, f 41, f 42, f 43, f 44, f 45, f 46, f 47, f 48, f 49, f 50, f 51, f 52, f 53, f 54, f 55, f 56, f 57, f 58, f 59, f 60, f 61, f 62, f 63, f 64, f 65, f 66, f 67, f 68, f 69, f 70, f 71, f 72, f 73, f 74, f 75, f 76, f 77, f 78, f 79, f 80, f 81, f 82, f 83, f 84, f 85, f 86, f 87, f 88, f 89, f 90, f 91, f 92, f 93, f 94, f 95, f 96, f 97, f 98, f 99, f 100, f 101, f 102, f 103, f 104, f 105, f 106, f 107, f 108, f 109, f 110, f 111, f 112, f 113, f 114, f 115, f 116, f 117, f 118, f 119, f 120, f 121, f 122, f 123, f 124, f 125, f 126, f 127, f 128, f 129, f 130, f 131, f 132, f 133, f 134, f 135, f 136, f 137, f 138, f 139, f 140, f 141, f 142, f 143, f 144, f 145, f 146, f 147, f 148, f 149, f 150, f 151, f 152, f 153, f 154, f 155, f 156, f 157, f 158, f 159, f 160, f 161, f 162, f 163, f 164, f 165, f 166, f 167, f 168, f 169, f 170, f 171, f 172, f 173, f 174, f 175, f 176, f 177, f 178, f 179, f 180, f 181, f 182, f 183, f 184, f 185, f 186, f 187, f 188, f 189, f 190, f 191, f 192, f 193, f 194, f 195, f 196, f 197, f 198, f 199, f 200, f 201, f 202, f 203, f 204, f 205, f 206, f 207, f 208, f 209, f 210, f 211, f 212, f 213, f 214, f 215, f 216, f 217, f 218, f 219, f 220, f 221, f 222, f 223, f 224, f 225, f 226, f 227, f 228, f 229, f 230, f 231, f 232, f 233, f 234, f 235, f 236, f 237, f 238, f 239, f 240, f 241, f 242, f 243, f 244, f 245, f 246, f 247, f 248, f 249, f 250, f 251, f 252, f 253, f 254, f 255, f 256, f 257, f 258, f 259, f 260, f 261, f 262, f 263, f 264] := by
  obtain ⟨f, hf, ht⟩ := frame_open h.n
  rw [lit265] at ht
  refine ⟨f, hf, ?_⟩
  rw [ht, hf 4 _ h.p4, hf 6 _ h.p6, hf 7 _ h.p7, hf 8 _ h.p8]

set_option maxRecDepth 100000 in
theorem turnc (x n : Nat) (N : Int) (hN : N = (n : Int)) (hx : x < 4294967296) (h2 : 2 ≤ n) (h3 : n ≤ 31) (w : World) :
    Calls Tryd.prog 23 #[.int .i64 x, .int .i64 N] w fun e w' => e = .returned (.int .i64 (S2.rotr x n)) ∧ ∃ nn, w' = w.drewN nn := by
  subst hN
  exact turn_any x n hx h2 h3 w
set_option maxRecDepth 100000 in
theorem xor3_i64 {a b c : Nat} (ha : a < 4294967296) (hb : b < 4294967296) (hc : c < 4294967296) : bits .xor .i64 (bits .xor .i64 (a : Int) (b : Int)) (c : Int) = ((a ^^^ b ^^^ c : Nat) : Int) := by
  have := Nat.xor_lt_two_pow (n := 32) ha hb
  rw [(bits_i64_nat a b (by omega) (by omega)).2.2, (bits_i64_nat _ c (by omega) (by omega)).2.2]
set_option maxRecDepth 100000 in
theorem xor3_lt {a b c : Nat} (ha : a < 4294967296) (hb : b < 4294967296) (hc : c < 4294967296) : a ^^^ b ^^^ c < 4294967296 := Nat.xor_lt_two_pow (n := 32) (Nat.xor_lt_two_pow (n := 32) ha hb) hc
set_option maxRecDepth 100000 in
theorem hi_i64 (z0 z1 z2 z3 W : Nat) (y0 : z0 < 4294967296) (y1 : z1 < 4294967296) (y2 : z2 < 4294967296) (y3 : z3 < 4294967296) (hW : W = (z0 + S2.ss0 z1 + z2 + S2.ss1 z3) % 4294967296) :
    bits .and .i64 (wrap64 (wrap64 (wrap64 ((z0 : Int) + bits .xor .i64 (bits .xor .i64 (S2.rotr z1 7 : Nat) (S2.rotr z1 18 : Nat)) ((z1 : Int) / 8)) + (z2 : Int)) + bits .xor .i64 (bits .xor .i64 (S2.rotr z3 17 : Nat) (S2.rotr z3 19 : Nat)) ((z3 : Int) / 1024))) 4294967295 = (W : Int) := by
  have e1 : (z1 : Int) / (8 : Int) = ((z1 >>> 3 : Nat) : Int) := by rw [Nat.shiftRight_eq_div_pow]; simp
  have e3 : (z3 : Int) / (1024 : Int) = ((z3 >>> 10 : Nat) : Int) := by rw [Nat.shiftRight_eq_div_pow]; simp
  rw [e1, e3, xor3_i64 (rotr_lt z1 7 y1 (by decide)) (rotr_lt z1 18 y1 (by decide)) (shr_lt z1 3 y1), xor3_i64 (rotr_lt z3 17 y3 (by decide)) (rotr_lt z3 19 y3 (by decide)) (shr_lt z3 10 y3)]
  have l1 : S2.ss0 z1 < 4294967296 := xor3_lt (rotr_lt z1 7 y1 (by decide)) (rotr_lt z1 18 y1 (by decide)) (shr_lt z1 3 y1)
  have l3 : S2.ss1 z3 < 4294967296 := xor3_lt (rotr_lt z3 17 y3 (by decide)) (rotr_lt z3 19 y3 (by decide)) (shr_lt z3 10 y3)
  show bits .and .i64 (wrap64 (wrap64 (wrap64 ((z0 : Int) + (S2.ss0 z1 : Nat)) + (z2 : Int)) + (S2.ss1 z3 : Nat))) 4294967295 = (W : Int)
  rw [IntWalk.wrap64_in ((z0 : Int) + (S2.ss0 z1 : Nat)) (by omega), IntWalk.wrap64_in ((z0 : Int) + (S2.ss0 z1 : Nat) + (z2 : Int)) (by omega), IntWalk.wrap64_in ((z0 : Int) + (S2.ss0 z1 : Nat) + (z2 : Int) + (S2.ss1 z3 : Nat)) (by omega)]
  rw [show (z0 : Int) + (S2.ss0 z1 : Nat) + (z2 : Int) + (S2.ss1 z3 : Nat) = ((z0 + S2.ss0 z1 + z2 + S2.ss1 z3 : Nat) : Int) by omega, mask_nat _ (by omega), hW]
set_option maxRecDepth 100000 in
theorem hi_end {w wq : World} {B8 k : Nat} {f : Nat → Nat} (hk : k < 64) (hA : ArrI wq B8 k f) (hF : Fr (fun k => k = B8) w wq) (v : Int) (hv : v = (f k : Int)) (q : Nat) :
    ArrI ((wq.drewN q).setCell ⟨B8, k, none⟩ (.int .i64 v)) B8 (k + 1) f ∧ Fr (fun k => k = B8) w ((wq.drewN q).setCell ⟨B8, k, none⟩ (.int .i64 v)) :=
  ⟨(hA.fr ((Fr.refl (fun _ => False) wq).drewN q) (fun h => h)).set hk v hv, (hF.drewN q).setCell (Or.inl rfl) _⟩
set_option maxRecDepth 100000 in
theorem word_or_i64 (z0 z1 z2 z3 : Nat) (h0 : z0 < 256) (h1 : z1 < 256) (h2 : z2 < 256) (h3 : z3 < 256) :
    bits .or .i64 (bits .or .i64 (bits .or .i64 ((z0 : Int) * 16777216) ((z1 : Int) * 65536)) ((z2 : Int) * 256)) (z3 : Int) = ((z0 * 16777216 + z1 * 65536 + z2 * 256 + z3 : Nat) : Int) := by
  have e0 : (z0 : Int) * 16777216 = ((2 ^ 24 * z0 : Nat) : Int) := by simp; omega
  have e1 : (z1 : Int) * 65536 = ((2 ^ 16 * z1 : Nat) : Int) := by simp; omega
  have e2 : (z2 : Int) * 256 = ((2 ^ 8 * z2 : Nat) : Int) := by simp; omega
  rw [e0, e1, e2, (bits_i64_nat _ _ (by omega) (by omega)).1, ← Nat.two_pow_add_eq_or_of_lt (by omega),
    show 2 ^ 24 * z0 + 2 ^ 16 * z1 = 2 ^ 16 * (2 ^ 8 * z0 + z1) by omega, (bits_i64_nat _ _ (by omega) (by omega)).1, ← Nat.two_pow_add_eq_or_of_lt (by omega),
    show 2 ^ 16 * (2 ^ 8 * z0 + z1) + 2 ^ 8 * z2 = 2 ^ 8 * (2 ^ 8 * (2 ^ 8 * z0 + z1) + z2) by omega, (bits_i64_nat _ _ (by omega) (by omega)).1, ← Nat.two_pow_add_eq_or_of_lt (by omega)]
  congr 1
  omega

set_option maxRecDepth 100000 in
set_option maxHeartbeats 1600000 in
theorem rs_loop4 {Q : Exit → Act → World → Prop} (l : List UInt8) (g off N c B6 B8 : Nat) (hN : off + 64 ≤ N) (hN2 : N ≤ 1000000000100) (w : World) (hb : Blk w g off l) (hA : ArrI w B8 0 (S2.W l)) (hgB : g ≠ B8) (t : Array Value) (hp : RPin t g N c B6 B8 off) (p9 : t[9]? = some (.int .i64 0))
    (hexit : ∀ t' w', RPin t' g N c B6 B8 off → ArrI w' B8 64 (S2.W l) → Fr (fun k => k = B8) w w' → Q (.exit 6) ⟨t', []⟩ w') :
    Code.wp Tryd.prog (.loop (loopAt Tryd.f9 3)) Q ⟨t, []⟩ w := by
  refine wp_loop_up 64 (fun k t w' => RPin t g N c B6 B8 off ∧ t[9]? = some (.int .i64 (k : Int)) ∧ ArrI w' B8 k (S2.W l) ∧ Fr (fun k => k = B8) w w') t w ⟨hp, p9, hA, Fr.refl _ _⟩ ?_
  clear hA hp p9 t
  rintro k t wr hk ⟨hp, p9, hA, hF⟩ K hK
  obtain ⟨f, hf, rfl⟩ := hp.open
  have e9 := hf 9 _ p9
  clear hf hp p9
  rw [e9]
  clear e9
  conv => arg 2; whnf
  by_cases hk64 : k < 64
  · by_cases hk16 : k < 16
    · have hbr := hb.fr hF hgB
      have c0 : wr.cell? ⟨g, off + 4 * k, none⟩ = _ := hbr (4 * k) (by omega)
      have c1 : wr.cell? ⟨g, off + 4 * k + 1, none⟩ = _ := hbr (4 * k + 1) (by omega)
      have c2 : wr.cell? ⟨g, off + 4 * k + 2, none⟩ = _ := hbr (4 * k + 2) (by omega)
      have c3 : wr.cell? ⟨g, off + 4 * k + 3, none⟩ = _ := hbr (4 * k + 3) (by omega)
      clear hbr
      obtain ⟨vo, hvo, hfo⟩ := hA.spot k (by omega)
      have b0 : (((l.getD (4 * k) 0).toNat : Nat) : Int) < 256 := by have := (l.getD (4 * k) 0).toNat_lt; omega
      have b1 : (((l.getD (4 * k + 1) 0).toNat : Nat) : Int) < 256 := by have := (l.getD (4 * k + 1) 0).toNat_lt; omega
      have b2 : (((l.getD (4 * k + 2) 0).toNat : Nat) : Int) < 256 := by have := (l.getD (4 * k + 2) 0).toNat_lt; omega
      have b3 : (((l.getD (4 * k + 3) 0).toNat : Nat) : Int) < 256 := by have := (l.getD (4 * k + 3) 0).toNat_lt; omega
      have hW : S2.W l k = (l.getD (4 * k) 0).toNat * 16777216 + (l.getD (4 * k + 1) 0).toNat * 65536 + (l.getD (4 * k + 2) 0).toNat * 256 + (l.getD (4 * k + 3) 0).toNat := S2.W_lo l k hk16
      generalize hz0 : (l.getD (4 * k) 0).toNat = z0 at c0 b0 hW
      generalize hz1 : (l.getD (4 * k + 1) 0).toNat = z1 at c1 b1 hW
      generalize hz2 : (l.getD (4 * k + 2) 0).toNat = z2 at c2 b2 hW
      generalize hz3 : (l.getD (4 * k + 3) 0).toNat = z3 at c3 b3 hW
      have HW := Lib.hid hW
      clear hz0 hz1 hz2 hz3 hW
      have hk0 : (0 : Int) ≤ (k : Int) := by omega
      have hk1 : (k : Int) < 16 := by omega
      have hk2 : (k : Int) < 64 := by omega
      have hoN : (off : Int) + 4 * (k : Int) + 3 < (N : Int) := by omega
      have hoN2 : (off : Int) + 4 * (k : Int) + 2 < (N : Int) := by omega
      have hoN1 : (off : Int) + 4 * (k : Int) + 1 < (N : Int) := by omega
      have hoN0 : (off : Int) + 4 * (k : Int) < (N : Int) := by omega
      have w1 : IntKind.i64.wrap ((off : Int) + 4 * (k : Int) + 1) = (off : Int) + 4 * (k : Int) + 1 := IntWalk.i64_in _ (by omega)
      have w2 : IntKind.i64.wrap ((off : Int) + 4 * (k : Int) + 2) = (off : Int) + 4 * (k : Int) + 2 := IntWalk.i64_in _ (by omega)
      have w3 : IntKind.i64.wrap ((off : Int) + 4 * (k : Int) + 3) = (off : Int) + 4 * (k : Int) + 3 := IntWalk.i64_in _ (by omega)
      have n0 : ((off : Int) + 4 * (k : Int)).toNat = off + 4 * k := by omega
      have n1 : ((off : Int) + 4 * (k : Int) + 1).toNat = off + 4 * k + 1 := by omega
      have n2 : ((off : Int) + 4 * (k : Int) + 2).toNat = off + 4 * k + 2 := by omega
      have n3 : ((off : Int) + 4 * (k : Int) + 3).toNat = off + 4 * k + 3 := by omega
      have p0 : (0 : Int) ≤ (off : Int) + 4 * (k : Int) := by omega
      have p1 : (0 : Int) ≤ (off : Int) + 4 * (k : Int) + 1 := by omega
      have p2 : (0 : Int) ≤ (off : Int) + 4 * (k : Int) + 2 := by omega
      have p3 : (0 : Int) ≤ (off : Int) + 4 * (k : Int) + 3 := by omega
      go_wp2_with fail
      go_still_tail 31, (by kernel_rfl)
      change wpList _ _ _ _ _ wr.drew
      have E1 : ArrI (wr.setCell ⟨B8, k, none⟩ (.int .i64 (bits .or .i64 (bits .or .i64 (bits .or .i64 ((z0 : Int) * 16777216) ((z1 : Int) * 65536)) ((z2 : Int) * 256)) (z3 : Int)))).drew B8 (k + 1) (S2.W l) :=
        hA.set (by omega) _ (by rw [word_or_i64 z0 z1 z2 z3 (by omega) (by omega) (by omega) (by omega), HW.out])
      have E2 : Fr (fun k => k = B8) w (wr.setCell ⟨B8, k, none⟩ (.int .i64 (bits .or .i64 (bits .or .i64 (bits .or .i64 ((z0 : Int) * 16777216) ((z1 : Int) * 65536)) ((z2 : Int) * 256)) (z3 : Int)))).drew := (hF.setCell (Or.inl rfl) _).drew
      clear hA hF w1 w2 w3 n0 n1 n2 n3 p0 p1 p2 p3 c0 c1 c2 c3 HW
      have HK := Lib.hid hK
      clear hK
      go_wp2
      exact HK.out _ _ hk64 ⟨⟨rfl, rfl, rfl, rfl, rfl⟩, rfl, E1, E2⟩
    · obtain ⟨j, rfl⟩ : ∃ j, k = j + 16 := ⟨k - 16, by omega⟩
      have c0 := hA.cell j (by omega)
      have c1 := hA.cell (j + 1) (by omega)
      have c2 := hA.cell (j + 9) (by omega)
      have c3 := hA.cell (j + 14) (by omega)
      obtain ⟨vo, hvo, hfo⟩ := hA.spot (j + 16) (by omega)
      have y0 := S2.W_lt l j (by omega)
      have y1 := S2.W_lt l (j + 1) (by omega)
      have y2 := S2.W_lt l (j + 9) (by omega)
      have y3 := S2.W_lt l (j + 14) (by omega)
      have hW := S2.W_hi l j (by omega)
      simp only [S2.M] at y0 y1 y2 y3 hW
      generalize hz0 : S2.W l j = z0 at c0 y0 hW
      generalize hz1 : S2.W l (j + 1) = z1 at c1 y1 hW
      generalize hz2 : S2.W l (j + 9) = z2 at c2 y2 hW
      generalize hz3 : S2.W l (j + 14) = z3 at c3 y3 hW
      have Hz : Hid (S2.W l (j + 16) = (z0 + S2.ss0 z1 + z2 + S2.ss1 z3) % 4294967296) := hW
      clear hz0 hz1 hz2 hz3 hW
      rw [show ((j + 16 : Nat) : Int) = (j : Int) + 16 by omega]
      have HK := Lib.hid hK
      clear hK
      have t1 : (j : Int) + 16 < 64 := by omega
      have t2 : ¬ (j : Int) + 16 < 16 := by omega
      have w0 : IntKind.i64.wrap ((j : Int) + 16 - 16) = (j : Int) := by rw [IntWalk.i64_in _ (by omega)]; omega
      have w1 : IntKind.i64.wrap ((j : Int) + 16 - 15) = (j : Int) + 1 := by rw [IntWalk.i64_in _ (by omega)]; omega
      have w2 : IntKind.i64.wrap ((j : Int) + 16 - 7) = (j : Int) + 9 := by rw [IntWalk.i64_in _ (by omega)]; omega
      have w3 : IntKind.i64.wrap ((j : Int) + 16 - 2) = (j : Int) + 14 := by rw [IntWalk.i64_in _ (by omega)]; omega
      have v0 : IntKind.i64.wrap (j : Int) = (j : Int) := IntWalk.i64_in _ (by omega)
      have v1 : IntKind.i64.wrap ((j : Int) + 1) = (j : Int) + 1 := IntWalk.i64_in _ (by omega)
      have v2 : IntKind.i64.wrap ((j : Int) + 9) = (j : Int) + 9 := IntWalk.i64_in _ (by omega)
      have v3 : IntKind.i64.wrap ((j : Int) + 14) = (j : Int) + 14 := IntWalk.i64_in _ (by omega)
      have n1 : ((j : Int) + 1).toNat = j + 1 := by omega
      have n2 : ((j : Int) + 9).toNat = j + 9 := by omega
      have n3 : ((j : Int) + 14).toNat = j + 14 := by omega
      have n4 : ((j : Int) + 16).toNat = j + 16 := by omega
      have p0 : (0 : Int) ≤ (j : Int) := by omega
      have p1 : (0 : Int) ≤ (j : Int) + 1 := by omega
      have p2 : (0 : Int) ≤ (j : Int) + 9 := by omega
      have p3 : (0 : Int) ≤ (j : Int) + 14 := by omega
      have p4 : (0 : Int) ≤ (j : Int) + 16 := by omega
      have q0 : (j : Int) < 64 := by omega
      have q1 : (j : Int) + 1 < 64 := by omega
      have q2 : (j : Int) + 9 < 64 := by omega
      have q3 : (j : Int) + 14 < 64 := by omega
      go_wp2_with fail
      go_quiet (fail)
      have F0 : Fr (fun _ => False) wr (wr.drewN nq) := (Fr.refl _ wr).drewN nq
      replace hA := hA.fr F0 (fun h => h)
      replace hF : Fr (fun k => k = B8) w (wr.drewN nq) := hF.drewN nq
      replace c0 : (wr.drewN nq).cell? ⟨B8, j, none⟩ = some (.int .i64 z0) := c0
      replace c2 : (wr.drewN nq).cell? ⟨B8, j + 9, none⟩ = some (.int .i64 z2) := c2
      replace hvo : (wr.drewN nq).cell? ⟨B8, j + 16, none⟩ = some vo := hvo
      replace hfo : (wr.drewN nq).frozen? ⟨B8, j + 16, none⟩ = false := hfo
      clear F0 c1 c3
      generalize wr.drewN nq = wq at *
      go_wp2_with fail
      go_region_held3 (fun w' => w'.cell? ⟨B8, j, none⟩ = some (.int .i64 z0) ∧ w'.cell? ⟨B8, j + 9, none⟩ = some (.int .i64 z2))
        (first | go_keep | (exact ⟨(World.cell?_setCell_other _ _ _ _ (addr_ne (by omega))).trans (by simp [c0]), (World.cell?_setCell_other _ _ _ _ (addr_ne (by omega))).trans (by simp [c2])⟩))
        ((first
          | ((with_reducible refine (turnc z1 7 7 rfl y1 (by decide) (by decide) _).mono ?_); rintro e w' ⟨rfl, nn, rfl⟩)
          | ((with_reducible refine (turnc z1 18 18 rfl y1 (by decide) (by decide) _).mono ?_); rintro e w' ⟨rfl, nn, rfl⟩)
          | ((with_reducible refine (turnc z3 17 17 rfl y3 (by decide) (by decide) _).mono ?_); rintro e w' ⟨rfl, nn, rfl⟩)
          | ((with_reducible refine (turnc z3 19 19 rfl y3 (by decide) (by decide) _).mono ?_); rintro e w' ⟨rfl, nn, rfl⟩)))
      have hh := hi_i64 z0 z1 z2 z3 _ y0 y1 y2 y3 Hz.out
      have HH := Lib.hid hh
      have HA := Lib.hid hA
      have HF := Lib.hid hF
      clear hh hA hF c0 c2 w0 w1 w2 w3 v0 v1 v2 v3 n1 n2 n3 n4 p0 p1 p2 p3 p4 q0 q1 q2 q3 hvo hfo t1 t2
      go_wp2_with fail
      have R := hi_end (k := j + 16) (by omega) HA.out HF.out _ HH.out
      exact HK.out _ _ (by omega) ⟨⟨rfl, rfl, rfl, rfl, rfl⟩, rfl, (R _).1, (R _).2⟩
  · obtain rfl : k = 64 := by omega
    have HE := Lib.hid hexit
    clear hexit
    go_wp2_with fail
    exact HE.out _ _ ⟨rfl, rfl, rfl, rfl, rfl⟩ hA hF
end Go.Proofs.YtndakfanlgilmaaDoor


/-
  The schedule's loop of Sum of package custumalref02.
-/
import Derived.Test.YtmoepalhoaekgaaDoorUa
namespace Go.Proofs.YtmoepalhoaekgaaDoor
open Go.RowKit
set_option linter.unusedVariables false

theorem hi_u64 (z0 z1 z2 z3 W : Nat) (y0 : z0 < 18446744073709551616) (y1 : z1 < 18446744073709551616) (y2 : z2 < 18446744073709551616) (y3 : z3 < 18446744073709551616) (hW : W = (z0 + S5.ss0 z1 + z2 + S5.ss1 z3) % 18446744073709551616) :
    IntKind.u64.wrap (IntKind.u64.wrap (IntKind.u64.wrap ((z0 : Int) + bits .xor .u64 (bits .xor .u64 (S5.rotr z1 1 : Nat) (S5.rotr z1 8 : Nat)) ((z1 : Int) / 128)) + (z2 : Int)) + bits .xor .u64 (bits .xor .u64 (S5.rotr z3 19 : Nat) (S5.rotr z3 61 : Nat)) ((z3 : Int) / 64)) = (W : Int) := by
  have e1 : (z1 : Int) / (128 : Int) = ((z1 >>> 7 : Nat) : Int) := by rw [Nat.shiftRight_eq_div_pow]; simp
  have e3 : (z3 : Int) / (64 : Int) = ((z3 >>> 6 : Nat) : Int) := by rw [Nat.shiftRight_eq_div_pow]; simp
  rw [e1, e3, xor35 (rotr_lt5 z1 1 y1 (by decide)) (rotr_lt5 z1 8 y1 (by decide)) (shr_lt5 z1 7 y1), xor35 (rotr_lt5 z3 19 y3 (by decide)) (rotr_lt5 z3 61 y3 (by decide)) (shr_lt5 z3 6 y3)]
  show IntKind.u64.wrap (IntKind.u64.wrap (IntKind.u64.wrap ((z0 : Int) + (S5.ss0 z1 : Nat)) + (z2 : Int)) + (S5.ss1 z3 : Nat)) = (W : Int)
  rw [hW, IntKind.wrap_u64, IntKind.wrap_u64, IntKind.wrap_u64]; omega

set_option maxRecDepth 100000 in
set_option maxHeartbeats 1600000 in
theorem us_loop4 {Q : Exit → Act → World → Prop} (l : List UInt8) (k : Nat) (hk16 : k < 16) (g off N c B6 B8 : Nat) (hN : off + 128 ≤ N) (hN2 : N ≤ 1000000000300) (w : World) (hb : Blk5 w g off l) (hA : Wd5 w B8 l k 0) (hgB : g ≠ B8) (t : Array Value) (hp : UPin t g N c B6 B8 off) (p9 : t[9]? = some (.int .i64 (k : Int))) (p10 : t[10]? = some (.int .i64 0))
    (hexit : ∀ t' w', UPin t' g N c B6 B8 off → t'[9]? = some (.int .i64 (k : Int)) → Wd5 w' B8 l (k + 1) 0 → Fr (fun k => k = B8) w w' → Q (.exit 8) ⟨t', []⟩ w') :
    Code.wp Tryd.prog (.loop (loopAt Tryd.f16 4)) Q ⟨t, []⟩ w := by
  refine wp_loop_up 8 (fun j t w' => UPin t g N c B6 B8 off ∧ t[9]? = some (.int .i64 (k : Int)) ∧ t[10]? = some (.int .i64 (j : Int)) ∧ Wd5 w' B8 l k (pv l (8 * k + j) k) ∧ Fr (fun k => k = B8) w w') t w ⟨hp, p9, p10, by rw [Nat.add_zero, pv_none]; exact hA, Fr.refl _ _⟩ ?_
  clear hA hp p9 p10 t
  rintro j t wr hj ⟨hp, p9, p10, hA, hF⟩ K hK
  obtain ⟨f, hf, rfl⟩ := hp.open
  have e9 := hf 9 _ p9
  have e10 := hf 10 _ p10
  clear hf hp p9 p10
  rw [e9, e10]
  clear e9 e10
  conv => arg 2; whnf
  by_cases hj8 : j < 8
  · have hbr := hb.fr hF hgB
    have c0 : wr.cell? ⟨g, off + 8 * k + j, none⟩ = some (.int .u8 ((S5.byt l (8 * k + j) : Nat) : Int)) := by
      have := hbr (8 * k + j) (by omega)
      rwa [← Nat.add_assoc] at this
    have c1 := hA.at (by omega)
    have hfo := hA.free k
    have b0 := S5.byt_lt l (8 * k + j)
    have pl := pv_lt l (8 * k + j)
    have hs := pv_step l (8 * k + j)
    rw [show (8 * k + j) / 8 = k by omega] at pl hs
    generalize S5.byt l (8 * k + j) = y at c0 b0 hs
    have hst := fun v hv => hA.set (by omega) (pv l (8 * k + j + 1) k) v hv
    generalize hx : pv l (8 * k + j) k = x at c1 pl hs hst
    have ho := or_byte x y pl b0
    rw [← hs] at ho
    have HO := Lib.hid ho
    have HS := Lib.hid hst
    have HK := Lib.hid hK
    clear ho hs hst hK hbr hx
    have yb : (y : Int) < 256 := by omega
    have xb : (x : Int) < 72057594037927936 := by omega
    have hk0 : (0 : Int) ≤ (k : Int) := by omega
    have hk1 : (k : Int) < 80 := by omega
    have hj0 : (0 : Int) ≤ (j : Int) := by omega
    have hj1 : (j : Int) < 8 := by omega
    have hoN : (off : Int) + 8 * (k : Int) + (j : Int) < (N : Int) := by omega
    have w1 : IntKind.i64.wrap ((off : Int) + 8 * (k : Int) + (j : Int)) = (off : Int) + 8 * (k : Int) + (j : Int) := IntWalk.i64_in _ (by omega)
    have w2 : IntKind.i64.wrap ((off : Int) + 8 * (k : Int)) = (off : Int) + 8 * (k : Int) := IntWalk.i64_in _ (by omega)
    have w3 : IntKind.i64.wrap (8 * (k : Int)) = 8 * (k : Int) := IntWalk.i64_in _ (by omega)
    have n1 : ((off : Int) + 8 * (k : Int) + (j : Int)).toNat = off + 8 * k + j := by omega
    have p1 : (0 : Int) ≤ (off : Int) + 8 * (k : Int) + (j : Int) := by omega
    have ob : (off : Int) ≤ 1000000000300 := by omega
    go_wp2_with fail
    go_still_tail 17, (by kernel_rfl)
    change wpList _ _ _ _ _ wr.drew
    have E1 : Wd5 (wr.setCell ⟨B8, k, none⟩ (.int .u64 (bits .or .u64 ((x : Int) * 256) (y : Int)))).drew B8 l k (pv l (8 * k + j + 1) k) := HS.out _ HO.out
    have E2 : Fr (fun k => k = B8) w (wr.setCell ⟨B8, k, none⟩ (.int .u64 (bits .or .u64 ((x : Int) * 256) (y : Int)))).drew := (hF.setCell (Or.inl rfl) _).drew
    clear hA hF w1 w2 w3 n1 p1 c0 HO HS
    go_wp2_with fail
    exact HK.out _ _ hj8 ⟨⟨rfl, rfl, rfl, rfl, rfl⟩, rfl, rfl, E1, E2⟩
  · obtain rfl : j = 8 := by omega
    have HE := Lib.hid hexit
    rw [pv_word, ← S5.W_lo l k hk16] at hA
    have hA2 := hA.next
    clear hexit hA
    go_wp2_with fail
    exact HE.out _ _ ⟨rfl, rfl, rfl, rfl, rfl⟩ rfl hA2 hF
end Go.Proofs.YtmoepalhoaekgaaDoor

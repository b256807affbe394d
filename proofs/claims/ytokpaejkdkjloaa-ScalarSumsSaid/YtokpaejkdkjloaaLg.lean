/-
  The contracts of longer and Of of package scalar.
-/
import Derived.Test.YtokpaejkdkjloaaMl
import Derived.Test.YtokpaejkdkjloaaO6
namespace Go.Proofs.Ytokpaejkdkjloaa
open Go.RowKit
set_option linter.unusedVariables false

theorem or8 (a c : Nat) (hc : c < 256) : bits .or .u64 (IntKind.u64.wrap ((a : Int) * 256)) (c : Int) = ((a * 256 % 18446744073709551616 + c : Nat) : Int) := by
  have e : IntKind.u64.wrap ((a : Int) * 256) = ((a * 256 % 18446744073709551616 : Nat) : Int) := by rw [IntKind.wrap_u64]; omega
  rw [e, (bits_u64_N _ c (Nat.mod_lt _ (by decide)) (by omega)).1, show a * 256 % 18446744073709551616 = 2 ^ 8 * (a % 72057594037927936) by omega, ← Nat.two_pow_add_eq_or_of_lt (by omega)]
set_option maxRecDepth 100000 in
set_option maxHeartbeats 1600000 in
theorem longer_any (X b : Nat) (hX : X < LL) (hb : b < 256) (w : World) :
    Calls Try.prog 116 #[.agg (nc X), .int .u8 b] w fun e w' => e = .returned (.agg (nc ((b + 256 * X) % LL))) ∧ Fr (fun _ => False) w w' := by
  obtain ⟨x0, x1, x2, x3, b0, b1, b2, b3, hx, e⟩ := nc_open X (Nat.lt_trans hX LL_lt)
  have hx3 : x3 < 4611686018427387904 := by unfold LL at hX; unfold nv at hx; omega
  obtain ⟨c0, hc0⟩ : ∃ c, c = x0 / 72057594037927936 := ⟨_, rfl⟩
  obtain ⟨c1, hc1⟩ : ∃ c, c = x1 / 72057594037927936 := ⟨_, rfl⟩
  obtain ⟨c2, hc2⟩ : ∃ c, c = x2 / 72057594037927936 := ⟨_, rfl⟩
  obtain ⟨v, hv⟩ : ∃ v, v = x3 / 4503599627370496 := ⟨_, rfl⟩
  have d0 : (x0 : Int) / 72057594037927936 = (c0 : Int) := by omega
  have d1 : (x1 : Int) / 72057594037927936 = (c1 : Int) := by omega
  have d2 : (x2 : Int) / 72057594037927936 = (c2 : Int) := by omega
  have d3 : (x3 : Int) / 4503599627370496 = (v : Int) := by omega
  have o0 := or8 x0 b hb
  have o1 := or8 x1 c0 (by omega)
  have o2 := or8 x2 c1 (by omega)
  have o3 := or8 x3 c2 (by omega)
  obtain ⟨y0, hy0⟩ : ∃ y, y = x0 * 256 % 18446744073709551616 + b := ⟨_, rfl⟩
  obtain ⟨y1, hy1⟩ : ∃ y, y = x1 * 256 % 18446744073709551616 + c0 := ⟨_, rfl⟩
  obtain ⟨y2, hy2⟩ : ∃ y, y = x2 * 256 % 18446744073709551616 + c1 := ⟨_, rfl⟩
  obtain ⟨y3, hy3⟩ : ∃ y, y = x3 * 256 % 18446744073709551616 + c2 := ⟨_, rfl⟩
  rw [← hy0] at o0
  rw [← hy1] at o1
  rw [← hy2] at o2
  rw [← hy3] at o3
  have FO := fun (W : World) => folded_any (nv y0 y1 y2 y3) v (nv_lt _ _ _ _ (by omega) (by omega) (by omega) (by omega)) (by unfold LL at hX; unfold nv at hx; omega) W
  rw [show nv y0 y1 y2 y3 % 7237005577332262213973186563042994240829374041602535252466099000494570602496 + v * 7237005577332262213973186563042994240829374041602535252466099000494570602496 = b + 256 * X by unfold LL at hX; unfold nv at hx ⊢; omega, ← nc_of y0 y1 y2 y3 (by omega) (by omega) (by omega) (by omega)] at FO
  rw [e]
  obtain ⟨q0, q1, q2, q3, _, _, _, _, _, eq⟩ := nc_open ((b + 256 * X) % LL) (mod_LP _)
  rw [eq] at FO ⊢
  clear eq
  have hb1 : (b : Int) < 256 := by omega
  clear hX hx hx3 hc0 hc1 hc2 hv hy0 hy1 hy2 hy3 e
  go_enter Try.func116, Try.ntmps116
  go_wp2_with fail
  refine (FO _).mono ?_
  rintro e w1 ⟨rfl, F1⟩
  have Z1 := (F1.block (w.heap.size + 1) (by simp) (fun h => h)).trans (heap_at _ _ _ _ (by simp))
  obtain ⟨c0, c1, c2, c3, c4, c5, c6, c7⟩ := blk4 Z1
  have G1 : Fr (fun _ => False) w w1 := (((Fr.refl _ w).alloc _).alloc _).trans F1 (fun _ h => h.elim)
  have HZ := Lib.hid Z1
  clear F1 FO Z1 o0 o1 o2 o3 d0 d1 d2 d3
  go_wp2_with fail
  refine bodyPost_ret (results_cell_row rfl _ _ (w.heap.size + 1) 77 #[.int .u64 (q0 : Int), .int .u64 (q1 : Int), .int .u64 (q2 : Int), .int .u64 (q3 : Int)] (0, 0) _ rfl (set4 HZ.out _ _ _ _) Try.underlying77 rfl Try.size4l) rfl ?_
  exact ⟨rfl, (((G1.setCell (Or.inr (by simp)) _).setCell (Or.inr (by simp)) _).setCell (Or.inr (by simp)) _).setCell (Or.inr (by simp)) _⟩
set_option maxRecDepth 100000 in
set_option maxHeartbeats 3200000 in
theorem sof_any (a : Option Addr) (n c : Nat) (l : List UInt8) (hl : l.length = n) (hn : n ≤ 1000000) (w : World) (hL : Lies w a l) :
    Calls Try.prog 107 #[.slice a n c] w fun e w' => e = .returned (.agg (nc (sv l % LL))) ∧ Fr (fun _ => False) w w' := by
  go_enter Try.func107, Try.ntmps107
  go_wp2_with fail
  have C0 := heap_alloc2_old w (.cells #[.int .u64 0, .int .u64 0, .int .u64 0, .int .u64 0] 77) (.cells #[.int .u64 0, .int .u64 0, .int .u64 0, .int .u64 0] 77)
  have B0 := heap_alloc2_new w (.cells #[.int .u64 0, .int .u64 0, .int .u64 0, .int .u64 0] 77) (.cells #[.int .u64 0, .int .u64 0, .int .u64 0, .int .u64 0] 77)
  have F0 := ((Fr.refl (fun _ => False) w).alloc (.cells #[.int .u64 0, .int .u64 0, .int .u64 0, .int .u64 0] 77)).alloc (.cells #[.int .u64 0, .int .u64 0, .int .u64 0, .int .u64 0] 77)
  have e0 : nc (sv (l.drop n) % LL) = #[.int .u64 0, .int .u64 0, .int .u64 0, .int .u64 0] := by rw [← hl, List.drop_length]; rfl
  go_loopw [4] (fun i wr => ∃ m : Nat, m ≤ n ∧ i = .int .i64 ((m : Int) - 1) ∧ wr.heap[w.heap.size + 1]? = some (.cells (nc (sv (l.drop m) % LL)) 77 (0, 0)) ∧ wr.heap[w.heap.size]? = some (.cells #[.int .u64 0, .int .u64 0, .int .u64 0, .int .u64 0] 77 (0, 0)) ∧ Fr (fun _ => False) w wr) (fun i _ => (intOf i + 1).toNat)
  case atStart => exact ⟨n, Nat.le_refl _, by simp, by rw [e0]; exact B0, C0, F0⟩
  case round =>
    clear B0 C0 F0 e0
    obtain ⟨m, hm, rfl, hB, hC, hF⟩ := hrel
    by_cases h0 : m = 0
    · subst h0
      rw [List.drop_zero] at hB
      rw [show ((0 : Nat) : Int) - 1 = -1 from rfl]
      obtain ⟨t0, t1, t2, t3, _, _, _, _, _, et⟩ := nc_open (sv l % LL) (mod_LP _)
      rw [et] at hB
      have HE := Lib.hid et
      obtain ⟨i0, i1, i2, i3, i4, i5, i6, i7⟩ := blk4 hB
      obtain ⟨j0, j1, j2, j3, j4, j5, j6, j7⟩ := blk4 hC
      have HC := Lib.hid hC
      clear et hB hC hL
      go_wp2_with fail
      refine bodyPost_ret (results_cell_row rfl _ _ (w.heap.size) 77 #[.int .u64 (t0 : Int), .int .u64 (t1 : Int), .int .u64 (t2 : Int), .int .u64 (t3 : Int)] (0, 0) _ rfl (set4 HC.out _ _ _ _) Try.underlying77 rfl Try.size4l) rfl ?_
      exact ⟨by rw [HE.out], (((hF.setCell (Or.inr (by simp)) _).setCell (Or.inr (by simp)) _).setCell (Or.inr (by simp)) _).setCell (Or.inr (by simp)) _⟩
    · obtain ⟨k, rfl⟩ : ∃ k, m = k + 1 := ⟨m - 1, by omega⟩
      rw [show ((k + 1 : Nat) : Int) - 1 = (k : Int) by omega]
      have hk : k < l.length := by omega
      obtain ⟨g, off, rfl, hc⟩ := hL.resolve_left (by intro e; rw [e] at hk; simp at hk)
      have cb := hF.cellSome (p := ⟨g, off + k, none⟩) (fun h => h) (hc k hk)
      have hsv := sv_drop l k hk
      rw [show (l.getD k 0) = l[k] by rw [List.getD_eq_getElem?_getD, List.getElem?_eq_getElem hk]; rfl] at hsv
      have hbt := (l[k]).toNat_lt
      generalize hV : sv (l.drop (k + 1)) = V at *
      generalize (l[k]).toNat = b at *
      have LO := fun (W : World) => longer_any (V % LL) b (mod_LL _) (by omega) W
      rw [show (b + 256 * (V % LL)) % LL = sv (l.drop k) % LL by rw [hsv, Nat.add_mod, Nat.mul_mod, Nat.mod_mod, ← Nat.mul_mod, ← Nat.add_mod]] at LO
      obtain ⟨t0, t1, t2, t3, _, _, _, _, _, et⟩ := nc_open (V % LL) (mod_LP _)
      rw [et] at LO hB
      clear et
      obtain ⟨u0, u1, u2, u3, _, _, _, _, _, eu⟩ := nc_open (sv (l.drop k) % LL) (mod_LP _)
      rw [eu] at LO
      have EU := Lib.hid eu
      obtain ⟨i0, i1, i2, i3, i4, i5, i6, i7⟩ := blk4 hB
      have HB := Lib.hid hB
      have HC := Lib.hid hC
      have HF := Lib.hid hF
      have q0 : (0 : Int) ≤ (k : Int) := by omega
      have q1 : (k : Int) < (n : Int) := by omega
      clear eu hB hC hF hV hsv hc hL
      go_wp2_with fail
      go_region_with (go_at_call 116; (with_reducible refine (LO _).mono ?_); rintro e w3 ⟨rfl, F3⟩; have B3 := (F3.block (w.heap.size + 1) (lt_of_block HB.out) (fun h => h)).trans HB.out; have HB3 := Lib.hid B3; obtain ⟨j0, j1, j2, j3, j4, j5, j6, j7⟩ := blk4 B3; clear B3)
      all_goals
        have F3' : Fr (fun _ => False) wr w3 := by first | exact F3 | exact Fr.trans (T := fun _ => False) ((Fr.refl (fun _ => False) wr).drew) F3 (fun _ h => False.elim h)
        have C4 := keep_setM (keep_setM (keep_setM (keep_setM (F3'.keepM HC.out) (a := ⟨w.heap.size + 1, 0, none⟩) (by simp) (.int .u64 (u0 : Int))) (a := ⟨w.heap.size + 1, 1, none⟩) (by simp) (.int .u64 (u1 : Int))) (a := ⟨w.heap.size + 1, 2, none⟩) (by simp) (.int .u64 (u2 : Int))) (a := ⟨w.heap.size + 1, 3, none⟩) (by simp) (.int .u64 (u3 : Int))
        have B4 := set4 HB3.out (.int .u64 (u0 : Int)) (.int .u64 (u1 : Int)) (.int .u64 (u2 : Int)) (.int .u64 (u3 : Int))
        have G3 : Fr (fun _ => False) w w3 := HF.out.trans F3' (fun _ h => h.elim)
        have G4 := (((G3.setCell (p := ⟨w.heap.size + 1, 0, none⟩) (Or.inr (by simp)) (.int .u64 (u0 : Int))).setCell (p := ⟨w.heap.size + 1, 1, none⟩) (Or.inr (by simp)) (.int .u64 (u1 : Int))).setCell (p := ⟨w.heap.size + 1, 2, none⟩) (Or.inr (by simp)) (.int .u64 (u2 : Int))).setCell (p := ⟨w.heap.size + 1, 3, none⟩) (Or.inr (by simp)) (.int .u64 (u3 : Int))
        rw [← EU.out] at B4
        have HJ := Lib.hid (And.intro B4 (And.intro C4 G4))
        clear C4 B4 G3 G4 F3 F3' LO cb i0 i1 i2 i3 i4 i5 i6 i7
        go_wp2_with fail
        go_roundw
        case rel => exact ⟨k, by omega, rfl, HJ.out.1, HJ.out.2.1, HJ.out.2.2⟩
        case measure => simp [intOf]
end Go.Proofs.Ytokpaejkdkjloaa


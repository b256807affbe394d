/-
  The contract of schedule of package sha5.
-/
import Derived.Test.YtbpblheaiancaaaDoorQA
import Derived.Test.YtbpblheaiancaaaDoorSch
namespace Go.Proofs.YtbpblheaiancaaaDoor
open Go.RowKit
set_option linter.unusedVariables false

/-- The first n values of f as words. -/
def uv5 (n : Nat) (f : Nat → Nat) : Array Value := ((List.range n).map fun j => Value.int .u64 (f j : Int)).toArray
theorem uv_size5 (n : Nat) (f : Nat → Nat) : (uv5 n f).size = n := by simp [uv5]
theorem uv_get5 (n : Nat) (f : Nat → Nat) (j : Nat) (hj : j < n) : (uv5 n f)[j]? = some (.int .u64 (f j : Int)) := by simp [uv5, hj]
theorem uv_one5 (n : Nat) (f : Nat → Nat) : (uv5 n f).all (·.oneCell') = true := by
  simp [uv5, Value.oneCell']
theorem arr_eq5 {cs : Array Value} {n : Nat} {f : Nat → Nat} (h : cs.size = n) (h2 : ∀ j, j < n → cs[j]? = some (.int .u64 (f j : Int))) : cs = uv5 n f := by
  apply Array.ext
  · rw [h, uv_size5]
  · intro i h3 h4
    have a := h2 i (by omega)
    have b := uv_get5 n f i (by omega)
    rw [Array.getElem?_eq_getElem h3] at a
    rw [Array.getElem?_eq_getElem h4] at b
    exact (Option.some.inj a).trans (Option.some.inj b).symm
theorem Tryd.size80 {f : Nat → Nat} : (Tryd.prog.info? 125).map (·.size) = some (uv5 80 f).size := by
  rw [uv_size5]; kernel_rfl
/-- The bytes of a block, at an address. -/
def Blk5 (w : World) (b off : Nat) (l : List UInt8) : Prop := ∀ j, j < 128 → w.cell? ⟨b, off + j, none⟩ = some (.int .u8 ((l.getD j 0).toNat : Int))

/-- A block of 64 words, of which the first n are f's. -/
def Arr5 (w : World) (b n : Nat) (f : Nat → Nat) : Prop := ∃ cs, w.heap[b]? = some (.cells cs 125 (0, 0)) ∧ cs.size = 80 ∧ ∀ j, j < n → cs[j]? = some (.int .u64 (f j : Int))
theorem Arr5.cell {w : World} {b n : Nat} {f : Nat → Nat} (h : Arr5 w b n f) (j : Nat) (hj : j < n) : w.cell? ⟨b, j, none⟩ = some (.int .u64 (f j : Int)) := by
  obtain ⟨cs, h1, h2, h3⟩ := h
  rw [cell_of_block h1, h3 j hj]
theorem Arr5.spot {w : World} {b n : Nat} {f : Nat → Nat} (h : Arr5 w b n f) (j : Nat) (hj : j < 80) : ∃ v, w.cell? ⟨b, j, none⟩ = some v ∧ w.frozen? ⟨b, j, none⟩ = false := by
  obtain ⟨cs, h1, h2, h3⟩ := h
  exact ⟨cs[j]'(by omega), by rw [cell_of_block h1]; simp [h2, hj], free_of_block h1 j⟩
theorem Arr5.set {w : World} {b n : Nat} {f : Nat → Nat} (h : Arr5 w b n f) (hn : n < 80) (v : Int) (hv : v = (f n : Int)) : Arr5 (w.setCell ⟨b, n, none⟩ (.int .u64 v)) b (n + 1) f := by
  obtain ⟨cs, h1, h2, h3⟩ := h
  refine ⟨_, block_setCell h1 n _, by simp [h2], fun j hj => ?_⟩
  rw [Array.getElem?_setIfInBounds]
  split
  · subst_vars; simp [h2, hn]
  · exact h3 j (by omega)
theorem Arr5.fr {w w2 : World} {b n : Nat} {f : Nat → Nat} {S : Nat → Prop} (h : Arr5 w b n f) (hF : Fr S w w2) (hs : ¬ S b) : Arr5 w2 b n f := by
  obtain ⟨cs, h1, h2, h3⟩ := h
  exact ⟨cs, (hF.block b (lt_of_block h1) hs).trans h1, h2, h3⟩
theorem Blk5.fr {w w2 : World} {b off : Nat} {l : List UInt8} {S : Nat → Prop} (h : Blk5 w b off l) (hF : Fr S w w2) (hs : ¬ S b) : Blk5 w2 b off l :=
  fun j hj => hF.cellSome (p := ⟨b, off + j, none⟩) hs (h j hj)


/-- The words of which j bytes have been taken. -/
def pv (l : List UInt8) (j i : Nat) : Nat := (List.range (min 8 (j - 8 * i))).foldl (fun a k => a * 256 + S5.byt l (8 * i + k)) 0
theorem zero80 : (Tryd.zeroCells125).size = 80 := by kernel_rfl
theorem zero80g (j : Nat) (hj : j < 80) : (Tryd.zeroCells125)[j]? = some (.int .u64 0) := by
  have e : Tryd.zeroCells125 = uv5 80 (fun _ => 0) := by kernel_rfl
  rw [e, uv_get5 80 _ j hj]; rfl
theorem pv_zero (l : List UInt8) (i : Nat) : pv l 0 i = 0 := by simp [pv]
theorem pv_full (l : List UInt8) (i : Nat) (hi : i < 16) : pv l 128 i = S5.word l i := by
  unfold pv
  rw [show min 8 (128 - 8 * i) = 8 by omega]
  show (((((((0 * 256 + _) * 256 + _) * 256 + _) * 256 + _) * 256 + _) * 256 + _) * 256 + _) * 256 + _ = _
  unfold S5.word
  rw [Nat.zero_mul, Nat.zero_add]
  rfl
theorem pv_step (l : List UInt8) (j : Nat) : pv l (j + 1) (j / 8) = pv l j (j / 8) * 256 + S5.byt l j := by
  unfold pv
  rw [show min 8 (j + 1 - 8 * (j / 8)) = min 8 (j - 8 * (j / 8)) + 1 by omega, List.range_succ, List.foldl_append]
  simp only [List.foldl_cons, List.foldl_nil]
  rw [show 8 * (j / 8) + min 8 (j - 8 * (j / 8)) = j by omega]
theorem pv_else (l : List UInt8) (j i : Nat) (h : i ≠ j / 8) : pv l (j + 1) i = pv l j i := by
  unfold pv
  by_cases h1 : i < j / 8
  · rw [show min 8 (j + 1 - 8 * i) = 8 by omega, show min 8 (j - 8 * i) = 8 by omega]
  · rw [show min 8 (j + 1 - 8 * i) = 0 by omega, show min 8 (j - 8 * i) = 0 by omega]
theorem fold_lt (l : List UInt8) (i : Nat) : ∀ n, (List.range n).foldl (fun a k => a * 256 + S5.byt l (8 * i + k)) 0 < 256 ^ n := by
  intro n
  induction n with
  | zero => simp
  | succ n ih =>
    rw [List.range_succ, List.foldl_append]
    simp only [List.foldl_cons, List.foldl_nil]
    have := S5.byt_lt l (8 * i + n)
    rw [Nat.pow_succ]
    generalize (List.range n).foldl (fun a k => a * 256 + S5.byt l (8 * i + k)) 0 = x at *
    generalize (256 : Nat) ^ n = y at *
    omega
theorem pv_lt (l : List UInt8) (j : Nat) : pv l j (j / 8) < 72057594037927936 := by
  have h := fold_lt l (j / 8) (min 8 (j - 8 * (j / 8)))
  have h2 : (256 : Nat) ^ (min 8 (j - 8 * (j / 8))) ≤ 256 ^ 7 := Nat.pow_le_pow_right (by decide) (by omega)
  unfold pv
  exact Nat.lt_of_lt_of_le h h2
theorem or_byte (x y : Nat) (hx : x < 72057594037927936) (hy : y < 256) : bits .or .u64 ((x : Int) * 256) (y : Int) = ((x * 256 + y : Nat) : Int) := by
  have e : (x : Int) * 256 = ((2 ^ 8 * x : Nat) : Int) := by simp; omega
  rw [e, (bits_u64_nat5 _ _ (by omega) (by omega)).1, ← Nat.two_pow_add_eq_or_of_lt (by omega)]
  congr 1
  omega
theorem pv_set {wr : World} {b k : Nat} {l : List UInt8} (hA : Arr5 wr b 80 (pv l k)) (hk : k < 128) (v : Int) (hv : v = ((pv l (k + 1) (k / 8) : Nat) : Int)) : Arr5 (wr.setCell ⟨b, k / 8, none⟩ (.int .u64 v)) b 80 (pv l (k + 1)) := by
  obtain ⟨cs, a1, a2, a3⟩ := hA
  refine ⟨_, block_setCell a1 (k / 8) _, by simp [a2], fun j hj => ?_⟩
  rw [Array.getElem?_setIfInBounds]
  split
  · subst_vars; simp [a2, hj]
  · rw [pv_else l k j (by omega)]; exact a3 j hj
theorem sched_hi5 {w wr : World} {B k z0 z1 z2 z3 : Nat} {l : List UInt8} (hk : k < 64) (y0 : z0 < 18446744073709551616) (y1 : z1 < 18446744073709551616) (y2 : z2 < 18446744073709551616) (y3 : z3 < 18446744073709551616) (hW : S5.W l (k + 16) = (z0 + S5.ss0 z1 + z2 + S5.ss1 z3) % 18446744073709551616)
    (hA : Arr5 wr (B + 1) (k + 16) (S5.W l)) (hR : Arr5 wr B 0 (S5.W l)) (hF : Fr (fun _ => False) w wr) (hB : w.heap.size ≤ B := by exact Nat.le_refl _) : ∀ q : Nat,
    Arr5 ((wr.drewN q).setCell ⟨B + 1, k + 16, none⟩ (.int .u64 (IntKind.u64.wrap (IntKind.u64.wrap (IntKind.u64.wrap ((z0 : Int) + (S5.ss0 z1 : Nat)) + (z2 : Int)) + (S5.ss1 z3 : Nat))))) (B + 1) (k + 16 + 1) (S5.W l) ∧
    Arr5 ((wr.drewN q).setCell ⟨B + 1, k + 16, none⟩ (.int .u64 (IntKind.u64.wrap (IntKind.u64.wrap (IntKind.u64.wrap ((z0 : Int) + (S5.ss0 z1 : Nat)) + (z2 : Int)) + (S5.ss1 z3 : Nat))))) B 0 (S5.W l) ∧
    Fr (fun _ => False) w ((wr.drewN q).setCell ⟨B + 1, k + 16, none⟩ (.int .u64 (IntKind.u64.wrap (IntKind.u64.wrap (IntKind.u64.wrap ((z0 : Int) + (S5.ss0 z1 : Nat)) + (z2 : Int)) + (S5.ss1 z3 : Nat))))) := by
  intro q
  have F0 : Fr (fun _ => False) wr (wr.drewN q) := (Fr.refl _ wr).drewN q
  refine ⟨(hA.fr F0 (fun h => h)).set (by omega) _ ?_, ?_, (hF.drewN q).setCell (Or.inr (by show _ ≤ B + 1; omega)) _⟩
  · rw [hW, IntKind.wrap_u64, IntKind.wrap_u64, IntKind.wrap_u64]; omega
  · exact (hR.fr F0 (fun h => h)).fr (Fr.setCell (S := fun k => k = B + 1) (Fr.refl _ _) (Or.inl rfl) _) (by omega)

set_option maxRecDepth 100000 in
set_option maxHeartbeats 1600000 in
theorem sched_any5 (b off : Nat) (l : List UInt8) (w : World) (hb : Blk5 w b off l) (hlt : b < w.heap.size) :
    Calls Tryd.prog 77 #[.pointer (some ⟨b, off, none⟩)] w fun e w' => e = .returned (.agg (uv5 80 (S5.W l))) ∧ Fr (fun _ => False) w w' := by
  go_enter Tryd.func77, Tryd.ntmps77
  go_wp2_with fail
  obtain ⟨B, hB⟩ : ∃ B, B = w.heap.size := ⟨_, rfl⟩
  go_loopw [8] (fun i wr => ∃ k : Nat, k ≤ 128 ∧ i = .int .i64 k ∧ Arr5 wr (w.heap.size + 1) 80 (pv l k) ∧ Arr5 wr w.heap.size 0 (S5.W l) ∧ Fr (fun _ => False) w wr) (fun i _ => 128 - (intOf i).toNat)
  case atStart => exact ⟨0, by omega, by simp, ⟨_, heap_alloc2_new w _ _, zero80, fun j hj => by rw [zero80g j hj, pv_zero]; rfl⟩, ⟨_, heap_alloc2_old w _ _, zero80, fun j hj => by omega⟩, ((Fr.refl _ w).alloc _).alloc _⟩
  case round =>
    obtain ⟨k, hk, rfl, hA, hR, hF⟩ := hrel
    by_cases hk16 : k < 128
    · have cb : wr.cell? ⟨b, off + k, none⟩ = some (.int .u8 ((S5.byt l k : Nat) : Int)) := (hb.fr hF (fun h => h)) k hk16
      have cw := hA.cell (k / 8) (by omega)
      obtain ⟨vo, hvo, hfo⟩ := hA.spot (k / 8) (by omega)
      clear hvo
      have by1 := S5.byt_lt l k
      have pl := pv_lt l k
      have hs := pv_step l k
      have he := fun i h => pv_else l k i h
      generalize S5.byt l k = y at cb by1 hs
      generalize hx : pv l k (k / 8) = x at cw pl hs
      have ho := or_byte x y pl by1
      rw [← hs] at ho
      have HO := Lib.hid ho
      have q0 : (0 : Int) ≤ (k : Int) := by omega
      have q1 : (k : Int) < 128 := by omega
      have yb : (y : Int) < 256 := by omega
      have xb : (x : Int) < 72057594037927936 := by omega
      clear ho hs he hx pl
      go_wp2_with fail
      go_quiet (fail)
      go_wp2_with fail
      have F0 : Fr (fun _ => False) wr (wr.drewN nq) := (Fr.refl _ wr).drewN nq
      have FB : Fr (fun i => i = w.heap.size + 1) wr ((wr.drewN nq).setCell ⟨w.heap.size + 1, k / 8, none⟩ (.int .u64 (bits .or .u64 ((x : Int) * 256) (y : Int)))) := ((Fr.refl (fun i => i = w.heap.size + 1) wr).drewN nq).setCell (Or.inl rfl) _
      exact ⟨⟨k + 1, by omega, rfl, pv_set (hA.fr F0 (fun h => h)) hk16 _ HO.out, hR.fr FB (by omega), hF.trans FB (fun i hi => Or.inr (by omega))⟩, by simp [intOf]; omega⟩
    · obtain rfl : k = 128 := by omega
      rw [show ((128 : Nat) : Int) = 128 from rfl]
      have hA16 : Arr5 wr (w.heap.size + 1) 16 (S5.W l) := by
        obtain ⟨cs, a1, a2, a3⟩ := hA
        refine ⟨cs, a1, a2, fun j hj => ?_⟩
        rw [a3 j (by omega), pv_full l j hj, S5.W_lo l j hj]
      go_wp2_with fail
      go_loopw [6] (fun i wr => ∃ k : Nat, k ≤ 64 ∧ i = .int .i64 (k + 16) ∧ Arr5 wr (w.heap.size + 1) (k + 16) (S5.W l) ∧ Arr5 wr w.heap.size 0 (S5.W l) ∧ Fr (fun _ => False) w wr) (fun i _ => 80 - (intOf i).toNat)
      case atStart => exact ⟨0, by omega, by simp, hA16, hR, hF⟩
      case round =>
        clear hA hR hF hA16
        obtain ⟨k, hk, rfl, hA, hR, hF⟩ := hrel
        by_cases hk48 : k < 64
        · have c0 := hA.cell k (by omega)
          have c1 := hA.cell (k + 1) (by omega)
          have c2 := hA.cell (k + 9) (by omega)
          have c3 := hA.cell (k + 14) (by omega)
          obtain ⟨vo, hvo, hfo⟩ := hA.spot (k + 16) (by omega)
          have hd : decide (((k : Int) + 16) < 80) = true := by simp; omega
          have y0 := S5.W_lt l k (by omega)
          have y1 := S5.W_lt l (k + 1) (by omega)
          have y2 := S5.W_lt l (k + 9) (by omega)
          have y3 := S5.W_lt l (k + 14) (by omega)
          have hW := S5.W_hi l k hk48
          simp only [S5.M] at y0 y1 y2 y3 hW
          generalize hz0 : S5.W l k = z0 at c0 y0 hW
          generalize hz1 : S5.W l (k + 1) = z1 at c1 y1 hW
          generalize hz2 : S5.W l (k + 9) = z2 at c2 y2 hW
          generalize hz3 : S5.W l (k + 14) = z3 at c3 y3 hW
          have Hz : Hid (S5.W l (k + 16) = (z0 + S5.ss0 z1 + z2 + S5.ss1 z3) % 18446744073709551616) := hW
          clear hz0 hz1 hz2 hz3 hW
          have w0 : IntKind.i64.wrap ((k : Int) + 16 - 16) = (k : Int) := by rw [IntWalk.i64_in _ (by omega)]; omega
          have w1 : IntKind.i64.wrap ((k : Int) + 16 - 15) = (k : Int) + 1 := by rw [IntWalk.i64_in _ (by omega)]; omega
          have w2 : IntKind.i64.wrap ((k : Int) + 16 - 7) = (k : Int) + 9 := by rw [IntWalk.i64_in _ (by omega)]; omega
          have w3 : IntKind.i64.wrap ((k : Int) + 16 - 2) = (k : Int) + 14 := by rw [IntWalk.i64_in _ (by omega)]; omega
          have v0 : IntKind.i64.wrap (k : Int) = (k : Int) := IntWalk.i64_in _ (by omega)
          have v1 : IntKind.i64.wrap ((k : Int) + 1) = (k : Int) + 1 := IntWalk.i64_in _ (by omega)
          have v2 : IntKind.i64.wrap ((k : Int) + 9) = (k : Int) + 9 := IntWalk.i64_in _ (by omega)
          have v3 : IntKind.i64.wrap ((k : Int) + 14) = (k : Int) + 14 := IntWalk.i64_in _ (by omega)
          have n1 : ((k : Int) + 1).toNat = k + 1 := by omega
          have n2 : ((k : Int) + 9).toNat = k + 9 := by omega
          have n3 : ((k : Int) + 14).toNat = k + 14 := by omega
          have n4 : ((k : Int) + 16).toNat = k + 16 := by omega
          have p0 : (0 : Int) ≤ (k : Int) := by omega
          have p1 : (0 : Int) ≤ (k : Int) + 1 := by omega
          have p2 : (0 : Int) ≤ (k : Int) + 9 := by omega
          have p3 : (0 : Int) ≤ (k : Int) + 14 := by omega
          have p4 : (0 : Int) ≤ (k : Int) + 16 := by omega
          have q0 : (k : Int) < 80 := by omega
          have q1 : (k : Int) + 1 < 80 := by omega
          have q2 : (k : Int) + 9 < 80 := by omega
          have q3 : (k : Int) + 14 < 80 := by omega
          have q4 : (k : Int) + 16 < 80 := by omega
          go_wp2_with fail
          go_region_held3 (fun w' => w'.cell? ⟨w.heap.size + 1, k, none⟩ = some (.int .u64 z0) ∧ w'.cell? ⟨w.heap.size + 1, k + 1, none⟩ = some (.int .u64 z1) ∧ w'.cell? ⟨w.heap.size + 1, k + 9, none⟩ = some (.int .u64 z2) ∧ w'.cell? ⟨w.heap.size + 1, k + 14, none⟩ = some (.int .u64 z3))
            (first | go_keep | (exact ⟨(World.cell?_setCell_other _ _ _ _ (addr_ne (by omega))).trans (by simp [c0]), (World.cell?_setCell_other _ _ _ _ (addr_ne (by omega))).trans (by simp [c1]), (World.cell?_setCell_other _ _ _ _ (addr_ne (by omega))).trans (by simp [c2]), (World.cell?_setCell_other _ _ _ _ (addr_ne (by omega))).trans (by simp [c3])⟩))
            ((first
              | ((with_reducible refine (ss0_any5 z1 y1 _).mono ?_); rintro e w' ⟨rfl, nn, rfl⟩)
              | ((with_reducible refine (ss1_any5 z3 y3 _).mono ?_); rintro e w' ⟨rfl, nn, rfl⟩)))
          have hrel := sched_hi5 (w := w) (B := w.heap.size) hk48 y0 y1 y2 y3 Hz.out hA hR hF
          have Hrel := Lib.hid hrel
          clear hrel c0 c1 c2 c3 hA hR hF w0 w1 w2 w3 v0 v1 v2 v3 n1 n2 n3 n4 p0 p1 p2 p3 p4 q0 q1 q2 q3 q4
          go_wp2
          go_roundw
          case rel => exact ⟨k + 1, by omega, by go_num, by rw [show k + 1 + 16 = k + 16 + 1 by omega]; exact (Hrel.out _).1, (Hrel.out _).2.1, (Hrel.out _).2.2⟩
          case measure => simp [intOf]; omega
        · have hd : decide (((k : Int) + 16) < 80) = false := by simp; omega
          obtain ⟨cs, g1, g2, g3⟩ := hA
          obtain ⟨rs, g4, g5, g6⟩ := hR
          have e64 : k = 64 := by omega
          have e1 : cs = uv5 80 (S5.W l) := arr_eq5 g2 (fun j hj => g3 j (by omega))
          subst e1
          have E64 := Lib.hid e64
          clear e64 g3 hk hk48 g6
          go_wp2_with (first
            | (with_reducible refine wpList_load_row rfl 125 (.tmp 3) rfl (w.heap.size + 1) rfl 125 (uv5 80 (S5.W l)) (0, 0) _ g1 Tryd.underlying125 rfl Tryd.size80 ?_)
            | (with_reducible refine wpList_store_row rfl 125 (.tmp 2) (.tmp 53) rfl w.heap.size (uv5 80 (S5.W l)) rfl rfl 125 rs g4 Tryd.size80 (g5.trans (uv_size5 _ _).symm) (uv_one5 _ _) ?_))
          refine bodyPost_ret (results_cell_row rfl _ _ w.heap.size 125 (uv5 80 (S5.W l)) (0, 0) _ rfl (setRow_heap _ _ _ _ _ _ g4) Tryd.underlying125 rfl Tryd.size80) rfl ?_
          exact ⟨rfl, hF.trans (Fr.setRow (S := fun k => k = w.heap.size) (Fr.refl _ _) rfl _) (fun i hi => Or.inr (by omega))⟩
end Go.Proofs.YtbpblheaiancaaaDoor


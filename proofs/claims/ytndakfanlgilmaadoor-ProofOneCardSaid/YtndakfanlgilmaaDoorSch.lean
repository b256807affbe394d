/-
  The contract of schedule of package sha2.
-/
import Derived.Test.YtndakfanlgilmaaDoorRot
import Derived.StillTailTactics
import Derived.Deep.RegionHeld3
namespace Go.Proofs.YtndakfanlgilmaaDoor
open Go.RowKit
set_option linter.unusedVariables false

/-- The first n values of f as words. -/
def uv (n : Nat) (f : Nat → Nat) : Array Value := ((List.range n).map fun j => Value.int .u32 (f j : Int)).toArray
set_option maxRecDepth 100000 in
theorem uv_size (n : Nat) (f : Nat → Nat) : (uv n f).size = n := by simp [uv]
set_option maxRecDepth 100000 in
theorem uv_get (n : Nat) (f : Nat → Nat) (j : Nat) (hj : j < n) : (uv n f)[j]? = some (.int .u32 (f j : Int)) := by simp [uv, hj]
set_option maxRecDepth 100000 in
theorem uv_one (n : Nat) (f : Nat → Nat) : (uv n f).all (·.oneCell') = true := by
  simp [uv, Value.oneCell']
set_option maxRecDepth 100000 in
theorem arr_eq {cs : Array Value} {n : Nat} {f : Nat → Nat} (h : cs.size = n) (h2 : ∀ j, j < n → cs[j]? = some (.int .u32 (f j : Int))) : cs = uv n f := by
  apply Array.ext
  · rw [h, uv_size]
  · intro i h3 h4
    have a := h2 i (by omega)
    have b := uv_get n f i (by omega)
    rw [Array.getElem?_eq_getElem h3] at a
    rw [Array.getElem?_eq_getElem h4] at b
    exact (Option.some.inj a).trans (Option.some.inj b).symm
set_option maxRecDepth 100000 in
theorem Tryd.size64 {f : Nat → Nat} : (Tryd.prog.info? 96).map (·.size) = some (uv 64 f).size := by
  rw [uv_size]; kernel_rfl
set_option maxRecDepth 100000 in
theorem Fr.setRow {S : Nat → Prop} {a w : World} (h : Fr S a w) {g : Nat} (hg : S g) (cs : Array Value) : Fr S a (w.setRow g cs) :=
  ⟨h.os, h.tape, h.output, by have := h.size; simp; omega, fun k hk hs => (setRow_other w g k cs (fun e => hs (e ▸ hg))).trans (h.block k hk hs)⟩

/-- The bytes of a block, at an address. -/
def Blk (w : World) (b off : Nat) (l : List UInt8) : Prop := ∀ j, j < 64 → w.cell? ⟨b, off + j, none⟩ = some (.int .u8 ((l.getD j 0).toNat : Int))

/-- A block of 64 words, of which the first n are f's. -/
def Arr (w : World) (b n : Nat) (f : Nat → Nat) : Prop := ∃ cs, w.heap[b]? = some (.cells cs 96 (0, 0)) ∧ cs.size = 64 ∧ ∀ j, j < n → cs[j]? = some (.int .u32 (f j : Int))
set_option maxRecDepth 100000 in
theorem Arr.cell {w : World} {b n : Nat} {f : Nat → Nat} (h : Arr w b n f) (j : Nat) (hj : j < n) : w.cell? ⟨b, j, none⟩ = some (.int .u32 (f j : Int)) := by
  obtain ⟨cs, h1, h2, h3⟩ := h
  rw [cell_of_block h1, h3 j hj]
set_option maxRecDepth 100000 in
theorem Arr.spot {w : World} {b n : Nat} {f : Nat → Nat} (h : Arr w b n f) (j : Nat) (hj : j < 64) : ∃ v, w.cell? ⟨b, j, none⟩ = some v ∧ w.frozen? ⟨b, j, none⟩ = false := by
  obtain ⟨cs, h1, h2, h3⟩ := h
  exact ⟨cs[j]'(by omega), by rw [cell_of_block h1]; simp [h2, hj], free_of_block h1 j⟩
set_option maxRecDepth 100000 in
theorem Arr.set {w : World} {b n : Nat} {f : Nat → Nat} (h : Arr w b n f) (hn : n < 64) (v : Int) (hv : v = (f n : Int)) : Arr (w.setCell ⟨b, n, none⟩ (.int .u32 v)) b (n + 1) f := by
  obtain ⟨cs, h1, h2, h3⟩ := h
  refine ⟨_, block_setCell h1 n _, by simp [h2], fun j hj => ?_⟩
  rw [Array.getElem?_setIfInBounds]
  split
  · subst_vars; simp [h2, hn]
  · exact h3 j (by omega)
set_option maxRecDepth 100000 in
theorem Arr.fr {w w2 : World} {b n : Nat} {f : Nat → Nat} {S : Nat → Prop} (h : Arr w b n f) (hF : Fr S w w2) (hs : ¬ S b) : Arr w2 b n f := by
  obtain ⟨cs, h1, h2, h3⟩ := h
  exact ⟨cs, (hF.block b (lt_of_block h1) hs).trans h1, h2, h3⟩
set_option maxRecDepth 100000 in
theorem Blk.fr {w w2 : World} {b off : Nat} {l : List UInt8} {S : Nat → Prop} (h : Blk w b off l) (hF : Fr S w w2) (hs : ¬ S b) : Blk w2 b off l :=
  fun j hj => hF.cellSome (p := ⟨b, off + j, none⟩) hs (h j hj)

set_option maxRecDepth 100000 in
theorem addr_ne {b o o2 : Nat} (h : o ≠ o2) : (⟨b, o, none⟩ : Addr) ≠ ⟨b, o2, none⟩ := fun e => h (by injection e)
set_option maxRecDepth 100000 in
theorem word_or (z0 z1 z2 z3 : Nat) (h0 : z0 < 256) (h1 : z1 < 256) (h2 : z2 < 256) (h3 : z3 < 256) :
    bits .or .u32 (bits .or .u32 (bits .or .u32 ((z0 : Int) * 16777216) ((z1 : Int) * 65536)) ((z2 : Int) * 256)) (z3 : Int) = ((z0 * 16777216 + z1 * 65536 + z2 * 256 + z3 : Nat) : Int) := by
  have wr : ∀ n : Int, 0 ≤ n → n < 2 ^ 32 → IntKind.u32.wrap n = n := fun n a b => by rw [IntKind.wrap_u32]; omega
  rw [bits_join .u32 32 (by decide) wr 24 ((z0 : Int) * 16777216) ((z1 : Int) * 65536) (by omega) (by omega) (by omega) (by omega) (by omega) (by omega)]
  rw [bits_join .u32 32 (by decide) wr 16 _ ((z2 : Int) * 256) (by omega) (by omega) (by omega) (by omega) (by omega) (by omega)]
  rw [bits_join .u32 32 (by decide) wr 8 _ (z3 : Int) (by omega) (by omega) (by omega) (by omega) (by omega) (by omega)]
  omega

set_option maxRecDepth 100000 in
theorem sched_lo {w wr : World} {B k z0 z1 z2 z3 : Nat} {l : List UInt8} (hk : k < 16) (h0 : (l.getD (4 * k) 0).toNat = z0) (h1 : (l.getD (4 * k + 1) 0).toNat = z1) (h2 : (l.getD (4 * k + 2) 0).toNat = z2) (h3 : (l.getD (4 * k + 3) 0).toNat = z3)
    (hB : w.heap.size ≤ B) (hA : Arr wr (B + 1) k (S2.W l)) (hR : Arr wr B 0 (S2.W l)) (hF : Fr (fun _ => False) w wr) :
    Arr (wr.setCell ⟨B + 1, k, none⟩ (.int .u32 (bits .or .u32 (bits .or .u32 (bits .or .u32 ((z0 : Int) * 16777216) ((z1 : Int) * 65536)) ((z2 : Int) * 256)) (z3 : Int)))).drew (B + 1) (k + 1) (S2.W l) ∧
    Arr (wr.setCell ⟨B + 1, k, none⟩ (.int .u32 (bits .or .u32 (bits .or .u32 (bits .or .u32 ((z0 : Int) * 16777216) ((z1 : Int) * 65536)) ((z2 : Int) * 256)) (z3 : Int)))).drew B 0 (S2.W l) ∧
    Fr (fun _ => False) w (wr.setCell ⟨B + 1, k, none⟩ (.int .u32 (bits .or .u32 (bits .or .u32 (bits .or .u32 ((z0 : Int) * 16777216) ((z1 : Int) * 65536)) ((z2 : Int) * 256)) (z3 : Int)))).drew := by
  have hw : bits .or .u32 (bits .or .u32 (bits .or .u32 ((z0 : Int) * 16777216) ((z1 : Int) * 65536)) ((z2 : Int) * 256)) (z3 : Int) = (S2.W l k : Int) := by
    have := (l.getD (4 * k) 0).toNat_lt
    have := (l.getD (4 * k + 1) 0).toNat_lt
    have := (l.getD (4 * k + 2) 0).toNat_lt
    have := (l.getD (4 * k + 3) 0).toNat_lt
    rw [word_or z0 z1 z2 z3 (by omega) (by omega) (by omega) (by omega), S2.W_lo l k hk]
    unfold S2.word
    rw [h0, h1, h2, h3]
  refine ⟨hA.set (by omega) _ hw, ?_, (hF.setCell (Or.inr (by show _ ≤ B + 1; omega)) _).drew⟩
  exact (hR.fr (Fr.setCell (S := fun k => k = B + 1) (Fr.refl _ wr) (Or.inl rfl) _) (by omega)).fr ((Fr.refl (fun _ => False) _).drew) (fun h => h)

set_option maxRecDepth 100000 in
theorem sched_hi {w wr : World} {B k z0 z1 z2 z3 : Nat} {l : List UInt8} (hk : k < 48) (y0 : z0 < 4294967296) (y1 : z1 < 4294967296) (y2 : z2 < 4294967296) (y3 : z3 < 4294967296) (hW : S2.W l (k + 16) = (z0 + S2.ss0 z1 + z2 + S2.ss1 z3) % 4294967296)
    (hA : Arr wr (B + 1) (k + 16) (S2.W l)) (hR : Arr wr B 0 (S2.W l)) (hF : Fr (fun _ => False) w wr) (hB : w.heap.size ≤ B := by exact Nat.le_refl _) : ∀ q : Nat,
    Arr ((wr.drewN q).setCell ⟨B + 1, k + 16, none⟩ (.int .u32 (IntKind.u32.wrap (IntKind.u32.wrap (IntKind.u32.wrap ((z0 : Int) + (S2.ss0 z1 : Nat)) + (z2 : Int)) + (S2.ss1 z3 : Nat))))) (B + 1) (k + 16 + 1) (S2.W l) ∧
    Arr ((wr.drewN q).setCell ⟨B + 1, k + 16, none⟩ (.int .u32 (IntKind.u32.wrap (IntKind.u32.wrap (IntKind.u32.wrap ((z0 : Int) + (S2.ss0 z1 : Nat)) + (z2 : Int)) + (S2.ss1 z3 : Nat))))) B 0 (S2.W l) ∧
    Fr (fun _ => False) w ((wr.drewN q).setCell ⟨B + 1, k + 16, none⟩ (.int .u32 (IntKind.u32.wrap (IntKind.u32.wrap (IntKind.u32.wrap ((z0 : Int) + (S2.ss0 z1 : Nat)) + (z2 : Int)) + (S2.ss1 z3 : Nat))))) := by
  intro q
  have F0 : Fr (fun _ => False) wr (wr.drewN q) := (Fr.refl _ wr).drewN q
  refine ⟨(hA.fr F0 (fun h => h)).set (by omega) _ ?_, ?_, (hF.drewN q).setCell (Or.inr (by show _ ≤ B + 1; omega)) _⟩
  · rw [hW, IntKind.wrap_u32, IntKind.wrap_u32, IntKind.wrap_u32]; omega
  · exact (hR.fr F0 (fun h => h)).fr (Fr.setCell (S := fun k => k = B + 1) (Fr.refl _ _) (Or.inl rfl) _) (by omega)

set_option maxRecDepth 100000 in
set_option maxHeartbeats 1600000 in
theorem sched_any (b off : Nat) (l : List UInt8) (w : World) (hb : Blk w b off l) (hlt : b < w.heap.size) :
    Calls Tryd.prog 43 #[.pointer (some ⟨b, off, none⟩)] w fun e w' => e = .returned (.agg (uv 64 (S2.W l))) ∧ Fr (fun _ => False) w w' := by
  go_enter Tryd.func43, Tryd.ntmps43
  go_wp2_with fail
  obtain ⟨B, hB⟩ : ∃ B, B = w.heap.size := ⟨_, rfl⟩
  go_loopw [6] (fun i wr => ∃ k : Nat, k ≤ 16 ∧ i = .int .i64 k ∧ Arr wr (w.heap.size + 1) k (S2.W l) ∧ Arr wr w.heap.size 0 (S2.W l) ∧ Fr (fun _ => False) w wr) (fun i _ => 16 - (intOf i).toNat)
  case atStart => exact ⟨0, by omega, by simp, ⟨_, heap_alloc2_new w _ _, rfl, fun j hj => by omega⟩, ⟨_, heap_alloc2_old w _ _, rfl, fun j hj => by omega⟩, ((Fr.refl _ w).alloc _).alloc _⟩
  case round =>
    obtain ⟨k, hk, rfl, hA, hR, hF⟩ := hrel
    by_cases hk16 : k < 16
    · have hbr := hb.fr hF (fun h => h)
      have c0 := hbr (4 * k) (by omega)
      have c1 := hbr (4 * k + 1) (by omega)
      have c2 := hbr (4 * k + 2) (by omega)
      have c3 := hbr (4 * k + 3) (by omega)
      obtain ⟨vo, hvo, hfo⟩ := hA.spot k (by omega)
      have hk0 : (0 : Int) ≤ (k : Int) := by omega
      have hk1 : (k : Int) < 16 := by omega
      have b0 : (((l.getD (4 * k) 0).toNat : Nat) : Int) < 256 := by have := (l.getD (4 * k) 0).toNat_lt; omega
      have b1 : (((l.getD (4 * k + 1) 0).toNat : Nat) : Int) < 256 := by have := (l.getD (4 * k + 1) 0).toNat_lt; omega
      have b2 : (((l.getD (4 * k + 2) 0).toNat : Nat) : Int) < 256 := by have := (l.getD (4 * k + 2) 0).toNat_lt; omega
      have b3 : (((l.getD (4 * k + 3) 0).toNat : Nat) : Int) < 256 := by have := (l.getD (4 * k + 3) 0).toNat_lt; omega
      generalize hz0 : (l.getD (4 * k) 0).toNat = z0 at c0 b0
      generalize hz1 : (l.getD (4 * k + 1) 0).toNat = z1 at c1 b1
      generalize hz2 : (l.getD (4 * k + 2) 0).toNat = z2 at c2 b2
      generalize hz3 : (l.getD (4 * k + 3) 0).toNat = z3 at c3 b3
      have Hz0 := Lib.hid hz0
      have Hz1 := Lib.hid hz1
      have Hz2 := Lib.hid hz2
      have Hz3 := Lib.hid hz3
      clear hz0 hz1 hz2 hz3
      have hk2 : (k : Int) < 64 := by omega
      have w0 : IntKind.i64.wrap (4 * (k : Int)) = 4 * (k : Int) := IntWalk.i64_in _ (by omega)
      have w1 : IntKind.i64.wrap (4 * (k : Int) + 1) = 4 * (k : Int) + 1 := IntWalk.i64_in _ (by omega)
      have w2 : IntKind.i64.wrap (4 * (k : Int) + 2) = 4 * (k : Int) + 2 := IntWalk.i64_in _ (by omega)
      have w3 : IntKind.i64.wrap (4 * (k : Int) + 3) = 4 * (k : Int) + 3 := IntWalk.i64_in _ (by omega)
      have n0 : (4 * (k : Int)).toNat = 4 * k := by omega
      have n1 : (4 * (k : Int) + 1).toNat = 4 * k + 1 := by omega
      have n2 : (4 * (k : Int) + 2).toNat = 4 * k + 2 := by omega
      have n3 : (4 * (k : Int) + 3).toNat = 4 * k + 3 := by omega
      have p0 : (0 : Int) ≤ 4 * (k : Int) := by omega
      have p1 : (0 : Int) ≤ 4 * (k : Int) + 1 := by omega
      have p2 : (0 : Int) ≤ 4 * (k : Int) + 2 := by omega
      have p3 : (0 : Int) ≤ 4 * (k : Int) + 3 := by omega
      have q0 : 4 * (k : Int) < 64 := by omega
      have q1 : 4 * (k : Int) + 1 < 64 := by omega
      have q2 : 4 * (k : Int) + 2 < 64 := by omega
      have q3 : 4 * (k : Int) + 3 < 64 := by omega
      go_wp2_with fail
      go_still_tail 39, (by kernel_rfl)
      change wpList _ _ _ _ _ wr.drew
      clear w0 w1 w2 w3 n0 n1 n2 n3 p0 p1 p2 p3 q0 q1 q2 q3
      have hrel := sched_lo hk16 Hz0.out Hz1.out Hz2.out Hz3.out (Nat.le_refl _) hA hR hF
      have Hrel := Lib.hid hrel
      clear hrel c0 c1 c2 c3
      go_wp2
      go_roundw
      case rel => exact ⟨k + 1, by omega, by go_num, Hrel.out.1, Hrel.out.2.1, Hrel.out.2.2⟩
      case measure => simp [intOf]; omega
    · obtain rfl : k = 16 := by omega
      rw [show ((16 : Nat) : Int) = 16 from rfl]
      go_wp2_with fail
      go_loopw [5] (fun i wr => ∃ k : Nat, k ≤ 48 ∧ i = .int .i64 (k + 16) ∧ Arr wr (w.heap.size + 1) (k + 16) (S2.W l) ∧ Arr wr w.heap.size 0 (S2.W l) ∧ Fr (fun _ => False) w wr) (fun i _ => 64 - (intOf i).toNat)
      case atStart => exact ⟨0, by omega, by simp, hA, hR, hF⟩
      case round =>
        clear hA hR hF
        obtain ⟨k, hk, rfl, hA, hR, hF⟩ := hrel
        by_cases hk48 : k < 48
        · have c0 := hA.cell k (by omega)
          have c1 := hA.cell (k + 1) (by omega)
          have c2 := hA.cell (k + 9) (by omega)
          have c3 := hA.cell (k + 14) (by omega)
          obtain ⟨vo, hvo, hfo⟩ := hA.spot (k + 16) (by omega)
          have hd : decide (((k : Int) + 16) < 64) = true := by simp; omega
          have y0 := S2.W_lt l k (by omega)
          have y1 := S2.W_lt l (k + 1) (by omega)
          have y2 := S2.W_lt l (k + 9) (by omega)
          have y3 := S2.W_lt l (k + 14) (by omega)
          have hW := S2.W_hi l k hk48
          simp only [S2.M] at y0 y1 y2 y3 hW
          generalize hz0 : S2.W l k = z0 at c0 y0 hW
          generalize hz1 : S2.W l (k + 1) = z1 at c1 y1 hW
          generalize hz2 : S2.W l (k + 9) = z2 at c2 y2 hW
          generalize hz3 : S2.W l (k + 14) = z3 at c3 y3 hW
          have Hz : Hid (S2.W l (k + 16) = (z0 + S2.ss0 z1 + z2 + S2.ss1 z3) % 4294967296) := hW
          clear hz0 hz1 hz2 hz3 hW
          have w0 : IntKind.i64.wrap ((k : Int) + 16 - 16) = (k : Int) := by rw [IntWalk.i64_in _ (by omega)]; omega
          have w1 : IntKind.i64.wrap ((k : Int) + 16 - 15) = (k : Int) + 1 := by rw [IntWalk.i64_in _ (by omega)]; omega
          have w2 : IntKind.i64.wrap ((k : Int) + 16 - 7) = (k : Int) + 9 := by rw [IntWalk.i64_in _ (by omega)]; omega
          have w3 : IntKind.i64.wrap ((k : Int) + 16 - 2) = (k : Int) + 14 := by rw [IntWalk.i64_in _ (by omega)]; omega
          have v0 : IntKind.i64.wrap (k : Int) = (k : Int) := IntWalk.i64_in _ (by omega)
          have v1 : IntKind.i64.wrap ((k : Int) + 1) = (k : Int) + 1 := IntWalk.i64_in _ (by omega)
          have v2 : IntKind.i64.wrap ((k : Int) + 9) = (k : Int) + 9 := IntWalk.i64_in _ (by omega)
          have v3 : IntKind.i64.wrap ((k : Int) + 14) = (k : Int) + 14 := IntWalk.i64_in _ (by omega)
          have n1 : ((k : Int) + 1).toNat = k + 1 := by omega
          have n2 : ((k : Int) + 9).toNat = k + 9 := by omega
          have n3 : ((k : Int) + 14).toNat = k + 14 := by omega
          have n4 : ((k : Int) + 16).toNat = k + 16 := by omega
          have p0 : (0 : Int) ≤ (k : Int) := by omega
          have p1 : (0 : Int) ≤ (k : Int) + 1 := by omega
          have p2 : (0 : Int) ≤ (k : Int) + 9 := by omega
          have p3 : (0 : Int) ≤ (k : Int) + 14 := by omega
          have p4 : (0 : Int) ≤ (k : Int) + 16 := by omega
          have q0 : (k : Int) < 64 := by omega
          have q1 : (k : Int) + 1 < 64 := by omega
          have q2 : (k : Int) + 9 < 64 := by omega
          have q3 : (k : Int) + 14 < 64 := by omega
          have q4 : (k : Int) + 16 < 64 := by omega
          go_wp2_with fail
          go_region_held3 (fun w' => w'.cell? ⟨w.heap.size + 1, k, none⟩ = some (.int .u32 z0) ∧ w'.cell? ⟨w.heap.size + 1, k + 1, none⟩ = some (.int .u32 z1) ∧ w'.cell? ⟨w.heap.size + 1, k + 9, none⟩ = some (.int .u32 z2) ∧ w'.cell? ⟨w.heap.size + 1, k + 14, none⟩ = some (.int .u32 z3))
            (first | go_keep | (exact ⟨(World.cell?_setCell_other _ _ _ _ (addr_ne (by omega))).trans (by simp [c0]), (World.cell?_setCell_other _ _ _ _ (addr_ne (by omega))).trans (by simp [c1]), (World.cell?_setCell_other _ _ _ _ (addr_ne (by omega))).trans (by simp [c2]), (World.cell?_setCell_other _ _ _ _ (addr_ne (by omega))).trans (by simp [c3])⟩))
            ((first
              | ((with_reducible refine (ss0_any z1 y1 _).mono ?_); rintro e w' ⟨rfl, nn, rfl⟩)
              | ((with_reducible refine (ss1_any z3 y3 _).mono ?_); rintro e w' ⟨rfl, nn, rfl⟩)))
          have hrel := sched_hi (w := w) (B := w.heap.size) hk48 y0 y1 y2 y3 Hz.out hA hR hF
          have Hrel := Lib.hid hrel
          clear hrel c0 c1 c2 c3 hA hR hF w0 w1 w2 w3 v0 v1 v2 v3 n1 n2 n3 n4 p0 p1 p2 p3 p4 q0 q1 q2 q3 q4
          go_wp2
          go_roundw
          case rel => exact ⟨k + 1, by omega, by go_num, by rw [show k + 1 + 16 = k + 16 + 1 by omega]; exact (Hrel.out _).1, (Hrel.out _).2.1, (Hrel.out _).2.2⟩
          case measure => simp [intOf]; omega
        · have hd : decide (((k : Int) + 16) < 64) = false := by simp; omega
          obtain ⟨cs, g1, g2, g3⟩ := hA
          obtain ⟨rs, g4, g5, g6⟩ := hR
          have e64 : k = 48 := by omega
          have e1 : cs = uv 64 (S2.W l) := arr_eq g2 (fun j hj => g3 j (by omega))
          subst e1
          have E64 := Lib.hid e64
          clear e64 g3 hk hk48 g6
          go_wp2_with (first
            | (with_reducible refine wpList_load_row rfl 96 (.tmp 3) rfl (w.heap.size + 1) rfl 96 (uv 64 (S2.W l)) (0, 0) _ g1 Tryd.underlying96 rfl Tryd.size64 ?_)
            | (with_reducible refine wpList_store_row rfl 96 (.tmp 2) (.tmp 76) rfl w.heap.size (uv 64 (S2.W l)) rfl rfl 96 rs g4 Tryd.size64 (g5.trans (uv_size _ _).symm) (uv_one _ _) ?_))
          refine bodyPost_ret (results_cell_row rfl _ _ w.heap.size 96 (uv 64 (S2.W l)) (0, 0) _ rfl (setRow_heap _ _ _ _ _ _ g4) Tryd.underlying96 rfl Tryd.size64) rfl ?_
          exact ⟨rfl, hF.trans (Fr.setRow (S := fun k => k = w.heap.size) (Fr.refl _ _) rfl _) (fun i hi => Or.inr (by omega))⟩
end Go.Proofs.YtndakfanlgilmaaDoor


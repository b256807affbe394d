/-
  The contracts of plus and difference of package scalar.
-/
import Derived.Test.YtnobobdgoccmcaaNc
import Derived.Test.YtnobobdgoccmcaaFr
import Derived.Deep.RegionHeld3
import Derived.StillTailTactics
import Derived.Deep.RegionWith
namespace Go.Proofs.Ytnobobdgoccmcaa
open Go.RowKit
set_option linter.unusedVariables false

/-- The first n values of f as words. -/
def uq (n : Nat) (f : Nat → Nat) : Array Value := ((List.range n).map fun j => Value.int .u64 (f j : Int)).toArray
theorem uq_size (n : Nat) (f : Nat → Nat) : (uq n f).size = n := by simp [uq]
theorem uq_get (n : Nat) (f : Nat → Nat) (j : Nat) (hj : j < n) : (uq n f)[j]? = some (.int .u64 (f j : Int)) := by simp [uq, hj]
theorem uq_one (n : Nat) (f : Nat → Nat) : (uq n f).all (·.oneCell') = true := by simp [uq, Value.oneCell']
theorem uq_ext {cs : Array Value} {n : Nat} {f : Nat → Nat} (h : cs.size = n) (h2 : ∀ j, j < n → cs[j]? = some (.int .u64 (f j : Int))) : cs = uq n f := by
  apply Array.ext
  · rw [h, uq_size]
  · intro i h3 h4
    have a := h2 i (by omega)
    have b := uq_get n f i (by omega)
    rw [Array.getElem?_eq_getElem h3] at a
    rw [Array.getElem?_eq_getElem h4] at b
    exact (Option.some.inj a).trans (Option.some.inj b).symm
theorem uq_set (n : Nat) (f : Nat → Nat) (i b : Nat) (hi : i < n) : (uq n f).setIfInBounds i (.int .u64 (b : Int)) = uq n (fun j => if j = i then b else f j) := by
  refine uq_ext (by simp [uq_size]) (fun j hj => ?_)
  rw [Array.getElem?_setIfInBounds]
  by_cases h : i = j
  · subst h; simp [uq_size, hj]
  · rw [if_neg h, uq_get n f j hj, if_neg (fun e => h e.symm)]
theorem uq_congr {n : Nat} {f g : Nat → Nat} (h : ∀ j, j < n → f j = g j) : uq n f = uq n g := uq_ext (uq_size n f) (fun j hj => by rw [uq_get n f j hj, h j hj])
theorem nc_uq (X : Nat) : nc X = uq 4 (dig 18446744073709551616 X) := by
  have e : uq 4 (dig 18446744073709551616 X) = #[.int .u64 (dig 18446744073709551616 X 0 : Int), .int .u64 (dig 18446744073709551616 X 1 : Int), .int .u64 (dig 18446744073709551616 X 2 : Int), .int .u64 (dig 18446744073709551616 X 3 : Int)] := rfl
  rw [e]
  unfold nc dig
  rw [Nat.pow_zero, Nat.div_one, show 18446744073709551616 ^ 1 = 18446744073709551616 from rfl, show 18446744073709551616 ^ 2 = 340282366920938463463374607431768211456 from rfl, show 18446744073709551616 ^ 3 = 6277101735386680763835789423207666416102355444464034512896 from rfl]

theorem Fr.setRow {S : Nat → Prop} {a w : World} (h : Fr S a w) {g : Nat} (hg : S g) (cs : Array Value) : Fr S a (w.setRow g cs) :=
  ⟨h.os, h.tape, h.output, by have := h.size; simp; omega, fun k hk hs => (setRow_other w g k cs (fun e => hs (e ▸ hg))).trans (h.block k hk hs)⟩
theorem Try.size4 {X : Nat} : (Try.prog.info? 77).map (·.size) = some (nc X).size := by
  show _ = some 4
  kernel_rfl
theorem heap_at (V : World) (cs : Array Value) (t : TypeId) (b : Nat) (hb : b = V.heap.size) : (V.alloc (.cells cs t)).heap[b]? = some (.cells cs t (0, 0)) := by
  subst hb; exact heap_alloc_new V _

set_option maxRecDepth 100000 in
set_option maxHeartbeats 1600000 in
theorem plus_any (X Y : Nat) (w : World) :
    Calls Try.prog 115 #[.agg (nc X), .agg (nc Y)] w fun e w' => e = .returned (.agg (nc ((X + Y) % 115792089237316195423570985008687907853269984665640564039457584007913129639936))) ∧ Fr (fun _ => False) w w' := by
  rw [nc_uq X, nc_uq Y]
  go_enter Try.func115, Try.ntmps115
  go_wp2_with fail
  have hA0 : (((w.alloc (.cells (uq 4 (dig 18446744073709551616 X)) 77)).alloc (.cells (uq 4 (dig 18446744073709551616 Y)) 77)).alloc (.cells #[.int .u64 0, .int .u64 0, .int .u64 0, .int .u64 0] 77)).heap[w.heap.size]? = some (.cells (uq 4 (dig 18446744073709551616 X)) 77 (0, 0)) := by
    rw [Below.heap_alloc _ _ _ (by simp; omega), Below.heap_alloc _ _ _ (by simp)]; exact heap_alloc_new w _
  have hB0 : (((w.alloc (.cells (uq 4 (dig 18446744073709551616 X)) 77)).alloc (.cells (uq 4 (dig 18446744073709551616 Y)) 77)).alloc (.cells #[.int .u64 0, .int .u64 0, .int .u64 0, .int .u64 0] 77)).heap[w.heap.size + 1]? = some (.cells (uq 4 (dig 18446744073709551616 Y)) 77 (0, 0)) := by
    rw [Below.heap_alloc _ _ _ (by simp)]; exact heap_at _ _ _ _ (by simp)
  have hC0 : (((w.alloc (.cells (uq 4 (dig 18446744073709551616 X)) 77)).alloc (.cells (uq 4 (dig 18446744073709551616 Y)) 77)).alloc (.cells #[.int .u64 0, .int .u64 0, .int .u64 0, .int .u64 0] 77)).heap[w.heap.size + 1 + 1]? = some (.cells #[.int .u64 0, .int .u64 0, .int .u64 0, .int .u64 0] 77 (0, 0)) := heap_at _ _ _ _ (by simp)
  have F0 : Fr (fun _ => False) w (((w.alloc (.cells (uq 4 (dig 18446744073709551616 X)) 77)).alloc (.cells (uq 4 (dig 18446744073709551616 Y)) 77)).alloc (.cells #[.int .u64 0, .int .u64 0, .int .u64 0, .int .u64 0] 77)) := (((Fr.refl _ w).alloc _).alloc _).alloc _
  go_loopw [5, 6, 7] (fun c i k wr => ∃ n : Nat, n ≤ 4 ∧ k = .int .i64 n ∧ c = .int .u64 (cry 18446744073709551616 X Y n : Nat) ∧ wr.heap[w.heap.size]? = some (.cells (uq 4 (fun j => if j < n then dig 18446744073709551616 (X + Y) j else dig 18446744073709551616 X j)) 77 (0, 0)) ∧ wr.heap[w.heap.size + 1]? = some (.cells (uq 4 (dig 18446744073709551616 Y)) 77 (0, 0)) ∧ wr.heap[w.heap.size + 1 + 1]? = some (.cells #[.int .u64 0, .int .u64 0, .int .u64 0, .int .u64 0] 77 (0, 0)) ∧ Fr (fun _ => False) w wr) (fun _ _ k _ => 4 - (intOf k).toNat)
  case atStart => exact ⟨0, by omega, by simp, by simp [cry_zero], by simpa using hA0, hB0, hC0, F0⟩
  case round =>
    clear hA0 hB0 hC0 F0
    obtain ⟨n, hn, rfl, rfl, hA, hB, hC, hF⟩ := hrel
    by_cases h4 : n < 4
    · have q0 : (0 : Int) ≤ (n : Int) := by omega
      have q1 : (n : Int) < 4 := by omega
      have c0 := cell_of_block hA n
      rw [uq_get 4 _ n h4, if_neg (by omega)] at c0
      have c1 := cell_of_block hB n
      rw [uq_get 4 _ n h4] at c1
      have f0 := free_of_block hA n
      have hcl := cry_le 18446744073709551616 X Y n (by decide)
      have hs := cry_succ 18446744073709551616 X Y n (by decide)
      have hd := dig_add 18446744073709551616 X Y n (by decide)
      generalize dig 18446744073709551616 X n = x at c0 hs hd
      generalize dig 18446744073709551616 Y n = y at c1 hs hd
      generalize cry 18446744073709551616 X Y n = c at hcl hs hd ⊢
      have hr := fun W : World => run_A x y c hcl W
      rw [← hd, ← hs] at hr
      have hst : ∀ m : Nat, m = dig 18446744073709551616 (X + Y) n → (wr.setCell ⟨w.heap.size, n, none⟩ (.int .u64 (m : Int))).heap[w.heap.size]? = some (.cells (uq 4 (fun j => if j < n + 1 then dig 18446744073709551616 (X + Y) j else dig 18446744073709551616 X j)) 77 (0, 0)) := fun m hm => by
        rw [block_setCell hA n, uq_set 4 _ n _ h4]
        congr 3
        funext j
        by_cases e : j = n
        · subst e; simp [hm]
        · rw [if_neg e]
          by_cases e2 : j < n
          · rw [if_pos e2, if_pos (by omega)]
          · rw [if_neg e2, if_neg (by omega)]
      generalize hz : dig 18446744073709551616 (X + Y) n = z at hr
      have HS := Lib.hid (hst z hz.symm)
      generalize hc2 : cry 18446744073709551616 X Y (n + 1) = c2 at hr
      have HC2 := Lib.hid hc2
      clear hc2
      clear hst hs hd hz
      go_wp2_with fail
      have E1 : Fr (fun k => k = w.heap.size) wr (wr.setCell ⟨w.heap.size, n, none⟩ (.int .u64 (z : Int))) := Fr.setCell (S := fun k => k = w.heap.size) (Fr.refl _ wr) (Or.inl rfl) _
      have E2 : Fr (fun _ => False) w (wr.setCell ⟨w.heap.size, n, none⟩ (.int .u64 (z : Int))) := hF.setCell (Or.inr (Nat.le_refl _)) _
      have E3 := (E1.block (w.heap.size + 1) (lt_of_block hB) (by omega)).trans hB
      have E4 := (E1.block (w.heap.size + 1 + 1) (lt_of_block hC) (by omega)).trans hC
      have E5 := Lib.hid E3
      have E6 := Lib.hid E4
      clear E1 E3 E4 hA hB hC
      go_region_with (fail)
      all_goals
        clear c0 c1 hr
        go_wp2
        go_roundw
        case rel => exact ⟨n + 1, by omega, by go_num, by rw [HC2.out], HS.out, E5.out, E6.out, E2.drew⟩
        case measure => simp [intOf]; omega
    · obtain rfl : n = 4 := by omega
      have e : (uq 4 (fun j => if j < 4 then dig 18446744073709551616 (X + Y) j else dig 18446744073709551616 X j)) = nc ((X + Y) % 115792089237316195423570985008687907853269984665640564039457584007913129639936) := by
        rw [nc_uq]
        refine uq_congr (fun j hj => ?_)
        rw [if_pos hj, ← dig_of_mod 18446744073709551616 (X + Y) 4 j hj]
      rw [e] at hA
      have hsz : (#[.int .u64 0, .int .u64 0, .int .u64 0, .int .u64 0] : Array Value).size = (nc ((X + Y) % 115792089237316195423570985008687907853269984665640564039457584007913129639936)).size := rfl
      have hone := nc_one ((X + Y) % 115792089237316195423570985008687907853269984665640564039457584007913129639936)
      have hs4 := Try.size4 (X := (X + Y) % 115792089237316195423570985008687907853269984665640564039457584007913129639936)
      have HR := Lib.hid (rfl : nc ((X + Y) % 115792089237316195423570985008687907853269984665640564039457584007913129639936) = nc ((X + Y) % 115792089237316195423570985008687907853269984665640564039457584007913129639936))
      generalize hRR : nc ((X + Y) % 115792089237316195423570985008687907853269984665640564039457584007913129639936) = R at *
      clear e HR
      have HR := Lib.hid hRR
      clear hRR
      go_wp2_with (first
        | (with_reducible refine wpList_load_row rfl 77 (.tmp 2) rfl w.heap.size rfl 77 R (0, 0) _ hA Try.underlying77 rfl hs4 ?_)
        | (with_reducible refine wpList_store_row rfl 77 (.tmp 4) (.tmp 24) rfl (w.heap.size + 1 + 1) R rfl rfl 77 _ hC hs4 hsz hone ?_))
      refine bodyPost_ret (results_cell_row rfl _ _ (w.heap.size + 1 + 1) 77 R (0, 0) _ rfl (setRow_heap _ _ _ _ _ _ hC) Try.underlying77 rfl hs4) rfl ?_
      exact ⟨by rw [HR.out], hF.trans (Fr.setRow (S := fun k => k = w.heap.size + 1 + 1) (Fr.refl _ _) rfl _) (fun i hi => Or.inr (by omega))⟩
theorem set4 {w : World} {b : Nat} {y0 y1 y2 y3 : Value} {t : TypeId} (h : w.heap[b]? = some (.cells #[y0, y1, y2, y3] t (0, 0))) (x0 x1 x2 x3 : Value) :
    ((((w.setCell ⟨b, 0, none⟩ x0).setCell ⟨b, 1, none⟩ x1).setCell ⟨b, 2, none⟩ x2).setCell ⟨b, 3, none⟩ x3).heap[b]? = some (.cells #[x0, x1, x2, x3] t (0, 0)) :=
  block_setCell (block_setCell (block_setCell (block_setCell h 0 x0) 1 x1) 2 x2) 3 x3
theorem results_cell_tmp {P : Program} {fn : Func} {p t : Tmp} {ty : TypeId} (h : fn.results = #[.cell p ty, .tmp t]) (tmps : Array Value) (w : World) (g : Nat) (ct : TypeId) (cs : Array Value) (fr : Nat × Nat) (d : TypeDesc)
    (hp : tmps.getD p undef = .pointer (some ⟨g, 0, none⟩)) (hg : w.heap[g]? = some (.cells cs ct fr))
    (hu : P.underlying ty = some d) (hd : (match d with | .struct _ | .array _ _ => true | _ => false) = true) (hi : (P.info? ty).map (·.size) = some cs.size) :
    (results fn tmps).run P w = .ok (.tuple #[.agg cs, tmps.getD t undef]) w := by
  have hp' : tmps[p]?.getD undef = .pointer (some ⟨g, 0, none⟩) := by simpa using hp
  simp [results, h, hp', asAddr, run_loadVar_row w g ct ty cs fr d hg hu hd hi]

set_option maxRecDepth 100000 in
set_option maxHeartbeats 1600000 in
theorem difference_any (X Y l : Nat) (hl : l = if X < Y then 1 else 0) (hX : X < 115792089237316195423570985008687907853269984665640564039457584007913129639936) (hY : Y < 115792089237316195423570985008687907853269984665640564039457584007913129639936) (w : World) :
    Calls Try.prog 106 #[.agg (nc X), .agg (nc Y)] w fun e w' => e = .returned (.tuple #[.agg (nc ((X + 115792089237316195423570985008687907853269984665640564039457584007913129639936 - Y) % 115792089237316195423570985008687907853269984665640564039457584007913129639936)), .int .u64 (l : Int)]) ∧ Fr (fun _ => False) w w' := by
  rw [nc_uq X, nc_uq Y]
  go_enter Try.func106, Try.ntmps106
  go_wp2_with fail
  have hA0 : (((w.alloc (.cells (uq 4 (dig 18446744073709551616 X)) 77)).alloc (.cells (uq 4 (dig 18446744073709551616 Y)) 77)).alloc (.cells #[.int .u64 0, .int .u64 0, .int .u64 0, .int .u64 0] 77)).heap[w.heap.size]? = some (.cells (uq 4 (dig 18446744073709551616 X)) 77 (0, 0)) := by
    rw [Below.heap_alloc _ _ _ (by simp; omega), Below.heap_alloc _ _ _ (by simp)]; exact heap_alloc_new w _
  have hB0 : (((w.alloc (.cells (uq 4 (dig 18446744073709551616 X)) 77)).alloc (.cells (uq 4 (dig 18446744073709551616 Y)) 77)).alloc (.cells #[.int .u64 0, .int .u64 0, .int .u64 0, .int .u64 0] 77)).heap[w.heap.size + 1]? = some (.cells (uq 4 (dig 18446744073709551616 Y)) 77 (0, 0)) := by
    rw [Below.heap_alloc _ _ _ (by simp)]; exact heap_at _ _ _ _ (by simp)
  have hC0 : (((w.alloc (.cells (uq 4 (dig 18446744073709551616 X)) 77)).alloc (.cells (uq 4 (dig 18446744073709551616 Y)) 77)).alloc (.cells #[.int .u64 0, .int .u64 0, .int .u64 0, .int .u64 0] 77)).heap[w.heap.size + 1 + 1]? = some (.cells #[.int .u64 0, .int .u64 0, .int .u64 0, .int .u64 0] 77 (0, 0)) := heap_at _ _ _ _ (by simp)
  have F0 : Fr (fun _ => False) w (((w.alloc (.cells (uq 4 (dig 18446744073709551616 X)) 77)).alloc (.cells (uq 4 (dig 18446744073709551616 Y)) 77)).alloc (.cells #[.int .u64 0, .int .u64 0, .int .u64 0, .int .u64 0] 77)) := (((Fr.refl _ w).alloc _).alloc _).alloc _
  rw [show (#[.int .u64 0, .int .u64 0, .int .u64 0, .int .u64 0] : Array Value) = uq 4 (fun j => if j < 0 then dig 18446744073709551616 (X + 115792089237316195423570985008687907853269984665640564039457584007913129639936 - Y) j else 0) from rfl] at hC0
  go_loopw [5, 6, 7] (fun c i k wr => ∃ n : Nat, n ≤ 4 ∧ k = .int .i64 n ∧ c = .int .u64 (lck 18446744073709551616 X Y n : Nat) ∧ wr.heap[w.heap.size]? = some (.cells (uq 4 (dig 18446744073709551616 X)) 77 (0, 0)) ∧ wr.heap[w.heap.size + 1]? = some (.cells (uq 4 (dig 18446744073709551616 Y)) 77 (0, 0)) ∧ wr.heap[w.heap.size + 1 + 1]? = some (.cells (uq 4 (fun j => if j < n then dig 18446744073709551616 (X + 115792089237316195423570985008687907853269984665640564039457584007913129639936 - Y) j else 0)) 77 (0, 0)) ∧ Fr (fun _ => False) w wr) (fun _ _ k _ => 4 - (intOf k).toNat)
  case atStart => exact ⟨0, by omega, by simp, by simp [lck_zero], hA0, hB0, hC0, F0⟩
  case round =>
    clear hA0 hB0 hC0 F0
    obtain ⟨n, hn, rfl, rfl, hA, hB, hC, hF⟩ := hrel
    by_cases h4 : n < 4
    · have q0 : (0 : Int) ≤ (n : Int) := by omega
      have q1 : (n : Int) < 4 := by omega
      have c0 := cell_of_block hA n
      rw [uq_get 4 _ n h4] at c0
      have c1 := cell_of_block hB n
      rw [uq_get 4 _ n h4] at c1
      have c2 := cell_of_block hC n
      rw [uq_get 4 _ n h4, if_neg (by omega)] at c2
      have f2 := free_of_block hC n
      have hcl := lck_le 18446744073709551616 X Y n
      have hs := lck_succ 18446744073709551616 X Y n (by decide)
      have hd := dig_sub 18446744073709551616 X Y 4 n (by decide) h4 (by omega)
      rw [show (18446744073709551616 : Nat) ^ 4 = 115792089237316195423570985008687907853269984665640564039457584007913129639936 from rfl] at hd
      have hy1 := dig_lt 18446744073709551616 Y n (by decide)
      generalize dig 18446744073709551616 X n = x at c0 hs hd
      generalize dig 18446744073709551616 Y n = y at c1 hs hd hy1
      generalize lck 18446744073709551616 X Y n = c at hcl hs hd ⊢
      have hr := fun W : World => run_S x y c hcl W
      have hm : (x + 2 * 18446744073709551616 - y - c) % 18446744073709551616 = (x + 18446744073709551616 - y - c) % 18446744073709551616 := by omega
      rw [hm] at hd
      rw [← hd, ← hs] at hr
      have hst : ∀ m : Nat, m = dig 18446744073709551616 (X + 115792089237316195423570985008687907853269984665640564039457584007913129639936 - Y) n → (wr.setCell ⟨w.heap.size + 1 + 1, n, none⟩ (.int .u64 (m : Int))).heap[w.heap.size + 1 + 1]? = some (.cells (uq 4 (fun j => if j < n + 1 then dig 18446744073709551616 (X + 115792089237316195423570985008687907853269984665640564039457584007913129639936 - Y) j else 0)) 77 (0, 0)) := fun m hm => by
        rw [block_setCell hC n, uq_set 4 _ n _ h4]
        congr 3
        funext j
        by_cases e : j = n
        · subst e; simp [hm]
        · rw [if_neg e]
          by_cases e2 : j < n
          · rw [if_pos e2, if_pos (by omega)]
          · rw [if_neg e2, if_neg (by omega)]
      generalize hz : dig 18446744073709551616 (X + 115792089237316195423570985008687907853269984665640564039457584007913129639936 - Y) n = z at hr
      have HS := Lib.hid (hst z hz.symm)
      generalize hc2 : lck 18446744073709551616 X Y (n + 1) = cc at hr
      have HC2 := Lib.hid hc2
      clear hc2 hst hs hd hz
      have E1 : Fr (fun k => k = w.heap.size + 1 + 1) wr (wr.setCell ⟨w.heap.size + 1 + 1, n, none⟩ (.int .u64 (z : Int))) := Fr.setCell (S := fun k => k = w.heap.size + 1 + 1) (Fr.refl _ wr) (Or.inl rfl) _
      have E2 : Fr (fun _ => False) w (wr.setCell ⟨w.heap.size + 1 + 1, n, none⟩ (.int .u64 (z : Int))) := hF.setCell (Or.inr (by simp; omega)) _
      have E3 := (E1.block (w.heap.size + 1) (lt_of_block hB) (by omega)).trans hB
      have E4 := (E1.block (w.heap.size) (lt_of_block hA) (by omega)).trans hA
      have E5 := Lib.hid E3
      have E6 := Lib.hid E4
      clear E1 E3 E4 hA hB hC
      go_wp2_with fail
      go_region_with (fail)
      all_goals
        clear c0 c1 c2 hr
        go_wp2
        go_roundw
        case rel => exact ⟨n + 1, by omega, by go_num, by rw [HC2.out], E6.out, E5.out, HS.out, E2.drew⟩
        case measure => simp [intOf]; omega
    · obtain rfl : n = 4 := by omega
      have e : (uq 4 (fun j => if j < 4 then dig 18446744073709551616 (X + 115792089237316195423570985008687907853269984665640564039457584007913129639936 - Y) j else 0)) = nc ((X + 115792089237316195423570985008687907853269984665640564039457584007913129639936 - Y) % 115792089237316195423570985008687907853269984665640564039457584007913129639936) := by
        rw [nc_uq]
        refine uq_congr (fun j hj => ?_)
        rw [if_pos hj, ← dig_of_mod 18446744073709551616 (X + 115792089237316195423570985008687907853269984665640564039457584007913129639936 - Y) 4 j hj]
      rw [e] at hC
      have hl2 := lck_of_lt 18446744073709551616 X Y 4 hX hY
      rw [hl2, ← hl]
      obtain ⟨r0, r1, r2, r3, b0, b1, b2, b3, hv, hRR⟩ := nc_open ((X + 115792089237316195423570985008687907853269984665640564039457584007913129639936 - Y) % 115792089237316195423570985008687907853269984665640564039457584007913129639936) (Nat.mod_lt _ (by decide))
      rw [hRR] at hC
      have HR := Lib.hid hRR
      have hs4 := Try.size4 (X := (X + 115792089237316195423570985008687907853269984665640564039457584007913129639936 - Y) % 115792089237316195423570985008687907853269984665640564039457584007913129639936)
      rw [hRR] at hs4
      have HS4 := Lib.hid hs4
      have HC := Lib.hid hC
      have g0 := cell_of_block hC 0
      have g1 := cell_of_block hC 1
      have g2 := cell_of_block hC 2
      have g3 := cell_of_block hC 3
      have v0 := free_of_block hC 0
      have v1 := free_of_block hC 1
      have v2 := free_of_block hC 2
      have v3 := free_of_block hC 3
      simp at g0 g1 g2 g3
      have Hb := Lib.hid (And.intro b0 (And.intro b1 (And.intro b2 b3)))
      clear e hRR hl hl2 hs4 hC hA hB hv b0 b1 b2 b3
      go_wp2_with fail
      all_goals
        refine bodyPost_ret (results_cell_tmp rfl _ _ (w.heap.size + 1 + 1) 77 #[.int .u64 (r0 : Int), .int .u64 (r1 : Int), .int .u64 (r2 : Int), .int .u64 (r3 : Int)] (0, 0) _ rfl (set4 HC.out _ _ _ _) Try.underlying77 rfl HS4.out) rfl ?_
        exact ⟨by rw [HR.out]; rfl, (((hF.setCell (Or.inr (by simp; omega)) _).setCell (Or.inr (by simp; omega)) _).setCell (Or.inr (by simp; omega)) _).setCell (Or.inr (by simp; omega)) _⟩
end Go.Proofs.Ytnobobdgoccmcaa


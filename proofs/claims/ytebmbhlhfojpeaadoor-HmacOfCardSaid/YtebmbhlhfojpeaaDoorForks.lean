/-
  The walk of the law Sha2Forks: a hash that goes on from here, and the one it came from, don't know of each other.
-/
import Derived.Test.YtebmbhlhfojpeaaDoorSums
import Derived.Stop.BytesEq
namespace Go.Proofs.YtebmbhlhfojpeaaDoor
open Go.RowKit
set_option linter.unusedVariables false

/-- Bytes that came in as a slice. -/
structure Came (w : World) (a : Option Addr) (n c : Nat) (l : List UInt8) : Prop where
  len : l.length = n
  le : n ≤ c
  mx : c ≤ maxLen
  lies : Lies w a l
  nil : a = none → n = 0 ∧ c = 0

theorem sum_length (l : List UInt8) : (S2.sum l).length = 32 := rfl
theorem sumc_map (l : List UInt8) : sumc l = ((S2.sum l).map Extern.Stop.cell).toArray := by
  refine (ub_ext (by simp [sum_length]) (fun j hj => ?_)).symm
  have hl := sum_length l
  rw [List.getElem?_toArray, List.getElem?_map, List.getElem?_eq_getElem (by omega)]
  have e : S2.out (S2.hw (l ++ S2.pad l.length)) = S2.sum l := rfl
  simp only [Option.map_some, Extern.Stop.cell, e, List.getD, List.getElem?_eq_getElem (show j < (S2.sum l).length by omega), Option.getD_some]
  rfl
theorem eql_sumc (x y : List UInt8) (w : World) : (binOp .eql 25 (.agg (sumc x)) (.agg (sumc y))).run Tryd.prog w = .ok (.bool (S2.sum x == S2.sum y)) w := by
  rw [sumc_map, sumc_map]
  refine run_eql_bytes w 25 5 32 Tryd.underlying25 Tryd.underlying5 ?_ _ _ (sum_length x) (sum_length y)
  intro w2
  obtain ⟨i0, hi, hz⟩ := Option.map_eq_some_iff.1 Tryd.sizeB
  simp [sizeOf, typeInfo, hi, hz]
theorem Tryd.guard32 : Tryd.prog.eqGuardType Tryd.prog.depth 25 = false := by kernel_rfl
theorem min300 (n : Nat) : (if (300 : Int) < (n : Int) then (300 : Int) else (n : Int)).toNat = min n 300 := by
  split <;> omega
theorem Came.cut {w w2 : World} {a : Option Addr} {n c : Nat} {l : List UInt8} (h : Came w a n c l) (m : Nat) (hm : m ≤ n) (hF : Fr (fun _ => False) w w2) : Came w2 a m c (l.take m) :=
  ⟨by rw [List.length_take, h.len]; omega, by have := h.le; omega, h.mx, (h.lies.grow hF).take m, fun e => by have := h.nil e; omega⟩
theorem Came.grow {w w2 : World} {a : Option Addr} {n c : Nat} {l : List UInt8} (h : Came w a n c l) {S : Nat → Prop} (hF : Fr S w w2) (hS : ∀ k, k < w.heap.size → ¬ S k) : Came w2 a n c l := by
  refine ⟨h.len, h.le, h.mx, ?_, h.nil⟩
  by_cases e : l = []
  · exact Or.inl e
  · exact h.lies.fr hF (fun k hk => hS k (h.lies.lt e k hk))
theorem Came.apart {w : World} {a : Option Addr} {n c b : Nat} {l : List UInt8} (h : Came w a n c l) (hb : w.heap.size ≤ b) : l = [] ∨ ¬ inBlk a b := by
  by_cases e : l = []
  · exact Or.inl e
  · exact Or.inr fun hk => by have := h.lies.lt e b hk; omega

theorem parts2 {w : World} {b : Nat} {a a2 : Option Addr} {n n2 c c2 : Nat} {x y : List UInt8} {t : TypeId} {fr : Nat × Nat} (h : w.heap[b]? = some (.cells #[.slice a n c, .slice a2 n2 c2] t fr)) (hx : Came w a n c x) (hy : Came w a2 n2 c2 y) : Parts w (some ⟨b, 0, none⟩) [x, y] := by
  refine Or.inr ⟨b, 0, rfl, fun j hj => ?_⟩
  match j, hj with
  | 0, _ => exact ⟨a, c, by rw [cell_of_block h]; simp [hx.len], hx.lies, by have := hx.le; have := hx.len; simp; omega, hx.mx⟩
  | 1, _ => exact ⟨a2, c2, by rw [cell_of_block h]; simp [hy.len], hy.lies, by have := hy.le; have := hy.len; simp; omega, hy.mx⟩

set_option maxRecDepth 100000 in
set_option maxHeartbeats 1600000 in
theorem forks_any (a1 a2 a3 : Option Addr) (n1 n2 n3 c1 c2 c3 : Nat) (l1 l2 l3 : List UInt8) (w : World) (h1 : Came w a1 n1 c1 l1) (h2 : Came w a2 n2 c2 l2) (h3 : Came w a3 n3 c3 l3) (hE : Env w) :
    Calls Tryd.prog 5 #[.slice a1 n1 c1, .slice a2 n2 c2, .slice a3 n3 c3] w fun e w' => e = .returned (.bool true) ∧ Fr (fun _ => False) w w' := by
  have k1 : n1 ≤ 9223372036854775807 := by have := h1.le; have := h1.mx; unfold maxLen at this; omega
  have k2 : n2 ≤ 9223372036854775807 := by have := h2.le; have := h2.mx; unfold maxLen at this; omega
  have k3 : n3 ≤ 9223372036854775807 := by have := h3.le; have := h3.mx; unfold maxLen at this; omega
  have d1 := h1.le
  have d2 := h2.le
  have d3 := h3.le
  go_enter Tryd.func5, Tryd.ntmps5
  go_wp2_with fail
  refine (sums_any _ hE).mono ?_
  rintro e w1 ⟨rfl, F1⟩
  go_wp2_with fail
  go_quiet (fail)
  simp only [min300]
  generalize (if (300 : Int) < (n1 : Int) then (300 : Int) else (n1 : Int)) = z1
  generalize (if (300 : Int) < (n2 : Int) then (300 : Int) else (n2 : Int)) = z2
  generalize (if (300 : Int) < (n3 : Int) then (300 : Int) else (n3 : Int)) = z3
  have F2 : Fr (fun _ => False) w (w1.drewN nq) := F1.drewN nq
  have g1 := h1.cut (min n1 300) (by omega) F2
  have g2 := h2.cut (min n2 300) (by omega) F2
  have g3 := h3.cut (min n3 300) (by omega) F2
  have b1 : min n1 300 ≤ 300 := by omega
  have b2 : min n2 300 ≤ 300 := by omega
  have b3 : min n3 300 ≤ 300 := by omega
  have hE2 := hE.fr F2 (fun h => h)
  generalize min n1 300 = m1 at g1 b1
  generalize min n2 300 = m2 at g2 b2
  generalize min n3 300 = m3 at g3 b3
  generalize l1.take m1 = x1 at g1
  generalize l2.take m2 = x2 at g2
  generalize l3.take m3 = x3 at g3
  clear h1 h2 h3 k1 k2 k3 d1 d2 d3 F1 hE
  generalize w1.drewN nq = w2 at *
  go_wp2_with fail
  refine (new_any _).mono ?_
  rintro e w3 ⟨rfl, H3, F3⟩
  go_wp2_with fail
  refine (write_any' w2.heap.size [] x1 a1 c1 m1 g1.len w3 H3 (g1.lies.grow F3) g1.le g1.mx (g1.apart (Nat.le_refl _)) (by simp; omega) (hE2.fr F3 (fun h => h)).tab (hE2.fr F3 (fun h => h)).lt (by have := hE2.lt; omega)).mono ?_
  rintro e w4 ⟨rfl, H4, G4⟩
  rw [List.nil_append] at H4
  go_wp2_with fail
  refine (fork_any w2.heap.size x1 w4 H4).mono ?_
  rintro e w5 ⟨rfl, H5, F5⟩
  have H4' := H4.fr F5 (fun h => h)
  have G25 : Fr (fun _ => False) w2 w5 := (F3.trans G4 (fun i hi => Or.inr (by omega))).trans F5 (fun _ h => h.elim)
  have z4 := H4.lt
  have b5 := g2.grow G25 (fun _ _ h => h)
  have b6 := g3.grow G25 (fun _ _ h => h)
  have a5 := g1.grow G25 (fun _ _ h => h)
  have E5 := hE2.fr G25 (fun h => h)
  have e5 := hE2.lt
  have s4 : w2.heap.size ≤ w4.heap.size := by omega
  go_wp2_with fail
  refine (write_any' w2.heap.size x1 x2 a2 c2 m2 b5.len w5 H4' b5.lies b5.le b5.mx (g2.apart (Nat.le_refl _)) (by rw [g1.len]; omega) E5.tab E5.lt (by omega)).mono ?_
  rintro e w6 ⟨rfl, H6, G6⟩
  have H5' := H5.fr G6 (by omega)
  have E6 := E5.fr G6 (by omega)
  have G26 : Fr (fun _ => False) w2 w6 := G25.trans G6 (fun i hi => Or.inr (by omega))
  have b7 := g3.grow G26 (fun _ _ h => h)
  go_wp2_with fail
  refine (write_any' w4.heap.size x1 x3 a3 c3 m3 b7.len w6 H5' b7.lies b7.le b7.mx (g3.apart s4) (by rw [g1.len]; omega) E6.tab E6.lt (by omega)).mono ?_
  rintro e w7 ⟨rfl, H7, G7⟩
  have H6' := H6.fr G7 (by omega)
  have G27 : Fr (fun _ => False) w2 w7 := G26.trans G7 (fun i hi => Or.inr (by omega))
  have E7 := hE2.fr G27 (fun h => h)
  clear H3 F3 H4 G4 H5 F5 H4' G25 b5 b6 a5 E5 H6 G6 H5' E6 G26 b7 G7
  have hl1 : (x1 ++ x2).length = m1 + m2 := by rw [List.length_append, g1.len, g2.len]
  have hl2 : (x1 ++ x3).length = m1 + m3 := by rw [List.length_append, g1.len, g3.len]
  have eq1 := fun (W : World) => eql_sumc (x1 ++ x2) (x1 ++ x2) W
  have eq2 := fun (W : World) => eql_sumc (x1 ++ x3) (x1 ++ x3) W
  simp only [beq_self_eq_true] at eq1 eq2
  have hgd := Tryd.guard32
  have t1 : ((x1.length : Int) + (x2.length : Int) == (m1 : Int) + (m2 : Int)) = true := by rw [g1.len, g2.len]; simp
  have t2 : ((x1.length : Int) + (x3.length : Int) == (m1 : Int) + (m3 : Int)) = true := by rw [g1.len, g3.len]; simp
  have Hl1 := Lib.hid hl1
  have Hl2 := Lib.hid hl2
  clear hl1 hl2
  go_wp2_with fail
  refine (hsum_any w2.heap.size (x1 ++ x2) w7 H6' (by rw [Hl1.out]; omega) E7).mono ?_
  rintro e w8 ⟨rfl, F8⟩
  have G28 := G27.trans F8 (fun _ h => h.elim)
  go_wp2_with fail
  refine (psum_any _ [x1, x2] 2 2 rfl _ (parts2 (heap_alloc_new w8 _) ((g1.grow (G28.alloc _) (fun _ _ h => h))) ((g2.grow (G28.alloc _) (fun _ _ h => h)))) (by unfold maxLen; omega) (by simp [g1.len, g2.len]; omega) (hE2.fr (G28.alloc _) (fun h => h))).mono ?_
  rintro e w9 ⟨rfl, F9⟩
  rw [show [x1, x2].flatten = x1 ++ x2 by simp]
  have G29 : Fr (fun _ => False) w2 w9 := (G28.alloc _).trans F9 (fun _ h => h.elim)
  have H8 := (H7.fr F8 (fun h => h))
  have H9 : HIs w9 w4.heap.size (x1 ++ x3) := (H8.fr ((Fr.refl (fun _ => False) w8).alloc _) (fun h => h)).fr F9 (fun h => h)
  have H29 := (H6'.fr F8 (fun h => h))
  have H39 : HIs w9 w2.heap.size (x1 ++ x2) := (H29.fr ((Fr.refl (fun _ => False) w8).alloc _) (fun h => h)).fr F9 (fun h => h)
  clear H8 H29 H7 H6'
  go_wp2_with fail
  refine (hsum_any w4.heap.size (x1 ++ x3) w9 H9 (by rw [Hl2.out]; omega) (hE2.fr G29 (fun h => h))).mono ?_
  rintro e w10 ⟨rfl, F10⟩
  have G210 := G29.trans F10 (fun _ h => h.elim)
  go_wp2_with fail
  refine (psum_any _ [x1, x3] 2 2 rfl _ (parts2 (heap_alloc_new w10 _) ((g1.grow (G210.alloc _) (fun _ _ h => h))) ((g3.grow (G210.alloc _) (fun _ _ h => h)))) (by unfold maxLen; omega) (by simp [g1.len, g3.len]; omega) (hE2.fr (G210.alloc _) (fun h => h))).mono ?_
  rintro e w11 ⟨rfl, F11⟩
  rw [show [x1, x3].flatten = x1 ++ x3 by simp]
  have G211 : Fr (fun _ => False) w2 w11 := (G210.alloc _).trans F11 (fun _ h => h.elim)
  have H10 := (H39.fr F10 (fun h => h))
  have H11 : HIs w11 w2.heap.size (x1 ++ x2) := (H10.fr ((Fr.refl (fun _ => False) w10).alloc _) (fun h => h)).fr F11 (fun h => h)
  have H10' := (H9.fr F10 (fun h => h))
  have H11' : HIs w11 w4.heap.size (x1 ++ x3) := (H10'.fr ((Fr.refl (fun _ => False) w10).alloc _) (fun h => h)).fr F11 (fun h => h)
  go_wp2_with fail
  refine (len_any w2.heap.size (x1 ++ x2) w11 H11).mono ?_
  rintro e w12 ⟨rfl, rfl⟩
  go_wp2_with fail
  refine (len_any w4.heap.size (x1 ++ x3) _ H11').mono ?_
  rintro e w13 ⟨rfl, rfl⟩
  go_wp2
  go_ret
  exact ⟨rfl, F2.trans G211 (fun _ h => h.elim)⟩
end Go.Proofs.YtebmbhlhfojpeaaDoor

/-
  The loop that adds of Sum of package custumalref01.
-/
import Derived.Test.YtndakfanlgilmaaDoorR5
namespace Go.Proofs.YtndakfanlgilmaaDoor
open Go.RowKit
set_option linter.unusedVariables false

/-- The first k words are added. -/
def addf (s u : S2.St) (k j : Nat) : Nat := if j < k then (swi s j + swi u j) % S2.M else swi s j
set_option maxRecDepth 100000 in
theorem swi_lt (s : S2.St) (h : s.ok) : ∀ j, j < 8 → swi s j < 4294967296 := by
  obtain ⟨h1, h2, h3, h4, h5, h6, h7, h8⟩ := h
  intro j hj
  match j, hj with
  | 0, _ => exact h1
  | 1, _ => exact h2
  | 2, _ => exact h3
  | 3, _ => exact h4
  | 4, _ => exact h5
  | 5, _ => exact h6
  | 6, _ => exact h7
  | 7, _ => exact h8
set_option maxRecDepth 100000 in
theorem addf_8 (s u : S2.St) : iu 8 (addf s u 8) = sti (s.add u) := rfl
set_option maxRecDepth 100000 in
theorem addf_0 (s u : S2.St) : iu 8 (addf s u 0) = sti s := rfl
set_option maxRecDepth 100000 in
theorem addf_step {w : World} {b : Nat} (s u : S2.St) (k : Nat) (hk : k < 8) (h : w.heap[b]? = some (.cells (iu 8 (addf s u k)) 62 (0, 0))) (v : Int) (hv : v = (((swi s k + swi u k) % 4294967296 : Nat) : Int)) :
    (w.setCell ⟨b, k, none⟩ (.int .i64 v)).heap[b]? = some (.cells (iu 8 (addf s u (k + 1))) 62 (0, 0)) := by
  rw [block_setCell h k, hv, iu_set 8 _ k _ hk]
  congr 3
  funext j
  unfold addf S2.M
  by_cases h1 : j = k
  · subst h1; simp
  · rw [if_neg h1]
    by_cases h2 : j < k
    · rw [if_pos h2, if_pos (by omega)]
    · rw [if_neg h2, if_neg (by omega)]

set_option maxRecDepth 100000 in
set_option maxHeartbeats 1600000 in
theorem rs_loop6 {Q : Exit → Act → World → Prop} (s u : S2.St) (hs : s.ok) (hu : u.ok) (g off N c B6 B8 B13 : Nat) (w : World) (hB6 : w.heap[B6]? = some (.cells (sti s) 62 (0, 0))) (hB : w.heap[B13]? = some (.cells (sti u) 62 (0, 0)))
    (hd : B6 ≠ B13) (t : Array Value) (hp : RPin t g N c B6 B8 off) (p13 : t[13]? = some (.pointer (some ⟨B13, 0, none⟩))) (p17 : t[17]? = some (.int .i64 0))
    (hexit : ∀ t' w', RPin t' g N c B6 B8 off → w'.heap[B6]? = some (.cells (sti (s.add u)) 62 (0, 0)) → Fr (fun k => k = B6) w w' → Q (.exit 10) ⟨t', []⟩ w') :
    Code.wp Tryd.prog (.loop (loopAt Tryd.f9 5)) Q ⟨t, []⟩ w := by
  refine wp_loop_up 8 (fun k t w' => RPin t g N c B6 B8 off ∧ t[13]? = some (.pointer (some ⟨B13, 0, none⟩)) ∧ t[17]? = some (.int .i64 (k : Int)) ∧ w'.heap[B6]? = some (.cells (iu 8 (addf s u k)) 62 (0, 0)) ∧ Fr (fun k => k = B6) w w') t w ⟨hp, p13, p17, hB6, Fr.refl _ _⟩ ?_
  clear hB6 hp p13 p17 t
  rintro k t wr hk ⟨hp, p13, p17, hA, hF⟩ K hK
  obtain ⟨f, hf, rfl⟩ := hp.open
  have e13 := hf 13 _ p13
  have e17 := hf 17 _ p17
  clear hf hp p13 p17
  rw [e13, e17]
  clear e13 e17
  conv => arg 2; whnf
  by_cases hk8 : k < 8
  · have hBr := (hF.block _ (lt_of_block hB) (fun h => hd h.symm)).trans hB
    have c0 := cell_of_block hA k
    rw [iu_get 8 _ k hk8, show addf s u k k = swi s k by simp [addf]] at c0
    have c1 := cell_of_block hBr k
    rw [← sti_iu, iu_get 8 _ k hk8] at c1
    have hfo := free_of_block hA k
    have y0 := swi_lt s hs k hk8
    have y1 := swi_lt u hu k hk8
    have hst := addf_step s u k hk8 hA
    generalize swi s k = z0 at c0 y0 hst
    generalize swi u k = z1 at c1 y1 hst
    have b0 : (z0 : Int) < 4294967296 := by omega
    have b1 : (z1 : Int) < 4294967296 := by omega
    have b2 : (0 : Int) ≤ (z0 : Int) + (z1 : Int) := by omega
    have m := mask_nat (z0 + z1) (by omega)
    have q0 : (0 : Int) ≤ (k : Int) := by omega
    have q1 : (k : Int) < 8 := by omega
    have HK := Lib.hid hK
    have HS := Lib.hid hst
    have HM := Lib.hid m
    clear hst hK m
    have ws : IntKind.i64.wrap ((z0 : Int) + (z1 : Int)) = (z0 : Int) + (z1 : Int) := IntWalk.i64_in _ (by omega)
    go_wp2_with fail
    go_still_tail 10, (by kernel_rfl)
    change wpList _ _ _ _ _ wr.drew
    have E1 := HS.out (bits .and .i64 ((z0 : Int) + (z1 : Int)) 4294967295) (by rw [← HM.out]; simp)
    have E2 : Fr (fun k => k = B6) w (wr.setCell ⟨B6, k, none⟩ (.int .i64 (bits .and .i64 ((z0 : Int) + (z1 : Int)) 4294967295))).drew := (hF.setCell (Or.inl rfl) _).drew
    have E3 : (wr.setCell ⟨B6, k, none⟩ (.int .i64 (bits .and .i64 ((z0 : Int) + (z1 : Int)) 4294967295))).drew.heap[B6]? = _ := E1
    have H3 := Lib.hid E3
    clear E1 E3 hA hF hBr HS HM ws
    go_wp2_with fail
    exact HK.out _ _ hk8 ⟨⟨rfl, rfl, rfl, rfl, rfl⟩, rfl, rfl, H3.out, E2⟩
  · obtain rfl : k = 8 := by omega
    rw [addf_8] at hA
    have HE := Lib.hid hexit
    clear hexit
    go_wp2_with fail
    exact HE.out _ _ ⟨rfl, rfl, rfl, rfl, rfl⟩ hA hF
end Go.Proofs.YtndakfanlgilmaaDoor


/-
  The loop that adds of Sum of package custumalref02.
-/
import Derived.Test.YtmoepalhoaekgaaDoorUd
namespace Go.Proofs.YtmoepalhoaekgaaDoor
open Go.RowKit
set_option linter.unusedVariables false

def sx5 (s : S5.St) (j : Nat) : Nat := s.list.getD j 0
theorem stu_uv5 (s : S5.St) : uv5 8 (sx5 s) = stv5 s := rfl
/-- The first k words are added. -/
def addf5 (s u : S5.St) (k j : Nat) : Nat := if j < k then (sx5 s j + sx5 u j) % S5.M else sx5 s j
theorem sx5_lt (s : S5.St) (h : s.ok) : ∀ j, j < 8 → sx5 s j < 18446744073709551616 := by
  obtain ⟨h1, h2, h3, h4, h5, h6, h7, h8⟩ := h
  intro j hj
  match j, hj with
  | 0, _ => exact h1
  | 1, _ => exact h2
  | 2, _ => exact h3
  | 3, _ => exact h4
  | 4, _ => exact h5
  | 5, _ => exact h6
  | 6, _ => exact h7
  | 7, _ => exact h8
theorem addf5_8 (s u : S5.St) : uv5 8 (addf5 s u 8) = stv5 (s.add u) := rfl
theorem addf5_0 (s u : S5.St) : uv5 8 (addf5 s u 0) = stv5 s := rfl
theorem addf5_step {w : World} {b : Nat} (s u : S5.St) (k : Nat) (hk : k < 8) (h : w.heap[b]? = some (.cells (uv5 8 (addf5 s u k)) 65 (0, 0))) (v : Int) (hv : v = (((sx5 s k + sx5 u k) % 18446744073709551616 : Nat) : Int)) :
    (w.setCell ⟨b, k, none⟩ (.int .u64 v)).heap[b]? = some (.cells (uv5 8 (addf5 s u (k + 1))) 65 (0, 0)) := by
  rw [block_setCell h k, hv, uv5_set 8 _ k _ hk]
  congr 3
  funext j
  unfold addf5 S5.M
  by_cases h1 : j = k
  · subst h1; simp
  · rw [if_neg h1]
    by_cases h2 : j < k
    · rw [if_pos h2, if_pos (by omega)]
    · rw [if_neg h2, if_neg (by omega)]

set_option maxRecDepth 100000 in
set_option maxHeartbeats 1600000 in
theorem us_loop6 {Q : Exit → Act → World → Prop} (s u : S5.St) (hs : s.ok) (hu : u.ok) (g off N c B6 B8 B13 : Nat) (w : World) (hB6 : w.heap[B6]? = some (.cells (stv5 s) 65 (0, 0))) (hB : w.heap[B13]? = some (.cells (stv5 u) 65 (0, 0)))
    (hd : B6 ≠ B13) (t : Array Value) (hp : UPin t g N c B6 B8 off) (p13 : t[13]? = some (.pointer (some ⟨B13, 0, none⟩))) (p17 : t[17]? = some (.int .i64 0))
    (hexit : ∀ t' w', UPin t' g N c B6 B8 off → w'.heap[B6]? = some (.cells (stv5 (s.add u)) 65 (0, 0)) → Fr (fun k => k = B6) w w' → Q (.exit 12) ⟨t', []⟩ w') :
    Code.wp Tryd.prog (.loop (loopAt Tryd.f16 6)) Q ⟨t, []⟩ w := by
  refine wp_loop_up 8 (fun k t w' => UPin t g N c B6 B8 off ∧ t[13]? = some (.pointer (some ⟨B13, 0, none⟩)) ∧ t[17]? = some (.int .i64 (k : Int)) ∧ w'.heap[B6]? = some (.cells (uv5 8 (addf5 s u k)) 65 (0, 0)) ∧ Fr (fun k => k = B6) w w') t w ⟨hp, p13, p17, hB6, Fr.refl _ _⟩ ?_
  clear hB6 hp p13 p17 t
  rintro k t wr hk ⟨hp, p13, p17, hA, hF⟩ K hK
  obtain ⟨f, hf, rfl⟩ := hp.open
  have e13 := hf 13 _ p13
  have e17 := hf 17 _ p17
  clear hf hp p13 p17
  rw [e13, e17]
  clear e13 e17
  conv => arg 2; whnf
  by_cases hk8 : k < 8
  · have hBr := (hF.block _ (lt_of_block hB) (fun h => hd h.symm)).trans hB
    have c0 := cell_of_block hA k
    rw [uv_get5 8 _ k hk8, show addf5 s u k k = sx5 s k by simp [addf5]] at c0
    have c1 := cell_of_block hBr k
    rw [← stu_uv5, uv_get5 8 _ k hk8] at c1
    have hfo := free_of_block hA k
    have y0 := sx5_lt s hs k hk8
    have y1 := sx5_lt u hu k hk8
    have hst := addf5_step s u k hk8 hA
    generalize sx5 s k = z0 at c0 y0 hst
    generalize sx5 u k = z1 at c1 y1 hst
    have q0 : (0 : Int) ≤ (k : Int) := by omega
    have q1 : (k : Int) < 8 := by omega
    have HK := Lib.hid hK
    have HS := Lib.hid hst
    clear hst hK
    go_wp2_with fail
    go_still_tail 9, (by kernel_rfl)
    change wpList _ _ _ _ _ wr.drew
    have E1 := HS.out (IntKind.u64.wrap ((z0 : Int) + (z1 : Int))) (by rw [IntKind.wrap_u64]; simp)
    have E2 : Fr (fun k => k = B6) w (wr.setCell ⟨B6, k, none⟩ (.int .u64 (IntKind.u64.wrap ((z0 : Int) + (z1 : Int))))).drew := (hF.setCell (Or.inl rfl) _).drew
    have E3 : (wr.setCell ⟨B6, k, none⟩ (.int .u64 (IntKind.u64.wrap ((z0 : Int) + (z1 : Int))))).drew.heap[B6]? = _ := E1
    have H3 := Lib.hid E3
    clear E1 E3 hA hF hBr HS
    go_wp2_with fail
    exact HK.out _ _ hk8 ⟨⟨rfl, rfl, rfl, rfl, rfl⟩, rfl, rfl, H3.out, E2⟩
  · obtain rfl : k = 8 := by omega
    rw [addf5_8] at hA
    have HE := Lib.hid hexit
    clear hexit
    go_wp2_with fail
    exact HE.out _ _ ⟨rfl, rfl, rfl, rfl, rfl⟩ hA hF
end Go.Proofs.YtmoepalhoaekgaaDoor

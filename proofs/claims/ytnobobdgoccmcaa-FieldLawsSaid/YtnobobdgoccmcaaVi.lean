/-
  The contract of Pow of package custumalref05.
-/
import Derived.Test.YtnobobdgoccmcaaVh
import Derived.Test.YtnobobdgoccmcaaVf
import Derived.Test.YtnobobdgoccmcaaFk
import Derived.Deep.DeepCutAuto
namespace Go.Proofs.Ytnobobdgoccmcaa
open Go.RowKit Pri
set_option linter.unusedVariables false

theorem nd_lit1 : (#[.int .i64 1, .int .i64 0, .int .i64 0, .int .i64 0, .int .i64 0, .int .i64 0, .int .i64 0, .int .i64 0, .int .i64 0, .int .i64 0, .int .i64 0, .int .i64 0, .int .i64 0, .int .i64 0, .int .i64 0, .int .i64 0] : Array Value) = nd 1 := by kernel_rfl
theorem Try.sizeD (X : Nat) : (Try.prog.info? 26).map (·.size) = some (nd X).size := by rw [nd_size]; kernel_rfl
theorem pwr_even (X M m : Nat) (h : M / 2 ^ m % 2 = 0) : pwr X (M / 2 ^ (m + 1)) * pwr X (M / 2 ^ (m + 1)) % p25519 = pwr X (M / 2 ^ m) := by
  rw [pwr_add, Nat.pow_succ, ← Nat.div_div_eq_div_mul]; congr 1; omega
theorem pwr_odd (X M m : Nat) (h : M / 2 ^ m % 2 = 1) : pwr X (M / 2 ^ (m + 1) + M / 2 ^ (m + 1)) * X % p25519 = pwr X (M / 2 ^ m) := by
  rw [pwr_succ, Nat.pow_succ, ← Nat.div_div_eq_div_mul]; congr 1; omega
theorem div_top2 (M : Nat) (hM : M < 115792089237316195423570985008687907853269984665640564039457584007913129639936) : M / 2 ^ 256 = 0 := Nat.div_eq_of_lt (Nat.lt_of_lt_of_le hM (by decide +kernel))
theorem tmod2b (z : Nat) : (z : Int).tmod 2 = ((z % 2 : Nat) : Int) := by rw [Int.tmod_eq_emod_of_nonneg (by omega)]; omega
set_option maxRecDepth 100000 in
set_option maxHeartbeats 3200000 in
theorem pow5_any (X M : Nat) (hX : X < 115792089237316195423570985008687907853269984665640564039457584007913129639936) (hM : M < 115792089237316195423570985008687907853269984665640564039457584007913129639936) (w : World) :
    Calls Try.prog 35 #[.agg (nd X), .agg (nc M)] w fun e w' => e = .returned (.agg (nd (pwr X M))) ∧ Fr (fun _ => False) w w' := by
  have MU := Lib.hid (fun a W => mul5_any (pwr X a) (pwr X a) (pwr_lt X a) (pwr_lt X a) W)
  have MX := Lib.hid (fun a W => mul5_any (pwr X a) X (pwr_lt X a) hX W)
  have D0 := div_top2 M hM
  have HX := Lib.hid ((Below.heap_alloc ((w.alloc (.cells (nd X) 26)).alloc (.cells (nc M) 23)) (.cells #[.int .i64 0, .int .i64 0, .int .i64 0, .int .i64 0, .int .i64 0, .int .i64 0, .int .i64 0, .int .i64 0, .int .i64 0, .int .i64 0, .int .i64 0, .int .i64 0, .int .i64 0, .int .i64 0, .int .i64 0, .int .i64 0] 26) _ (by simp; omega)).trans (heap_alloc2_old w _ _))
  have HM := Lib.hid ((Below.heap_alloc ((w.alloc (.cells (nd X) 26)).alloc (.cells (nc M) 23)) (.cells #[.int .i64 0, .int .i64 0, .int .i64 0, .int .i64 0, .int .i64 0, .int .i64 0, .int .i64 0, .int .i64 0, .int .i64 0, .int .i64 0, .int .i64 0, .int .i64 0, .int .i64 0, .int .i64 0, .int .i64 0, .int .i64 0] 26) _ (by simp)).trans (heap_alloc2_new w _ _))
  have HR := Lib.hid (heap_at ((w.alloc (.cells (nd X) 26)).alloc (.cells (nc M) 23)) #[.int .i64 0, .int .i64 0, .int .i64 0, .int .i64 0, .int .i64 0, .int .i64 0, .int .i64 0, .int .i64 0, .int .i64 0, .int .i64 0, .int .i64 0, .int .i64 0, .int .i64 0, .int .i64 0, .int .i64 0, .int .i64 0] 26 (w.heap.size + 1 + 1) (by simp))
  have HF := Lib.hid (((((Fr.refl (fun _ => False) w).alloc (.cells (nd X) 26)).alloc (.cells (nc M) 23)).alloc (.cells #[.int .i64 0, .int .i64 0, .int .i64 0, .int .i64 0, .int .i64 0, .int .i64 0, .int .i64 0, .int .i64 0, .int .i64 0, .int .i64 0, .int .i64 0, .int .i64 0, .int .i64 0, .int .i64 0, .int .i64 0, .int .i64 0] 26)))
  have sz3 : (((w.alloc (.cells (nd X) 26)).alloc (.cells (nc M) 23)).alloc (.cells #[.int .i64 0, .int .i64 0, .int .i64 0, .int .i64 0, .int .i64 0, .int .i64 0, .int .i64 0, .int .i64 0, .int .i64 0, .int .i64 0, .int .i64 0, .int .i64 0, .int .i64 0, .int .i64 0, .int .i64 0, .int .i64 0] 26)).heap.size = w.heap.size + 1 + 1 + 1 := by simp
  clear hX hM
  go_enter Try.func35, Try.ntmps35
  go_upto_region 1 with fail
  generalize (((w.alloc (.cells (nd X) 26)).alloc (.cells (nc M) 23)).alloc (.cells #[.int .i64 0, .int .i64 0, .int .i64 0, .int .i64 0, .int .i64 0, .int .i64 0, .int .i64 0, .int .i64 0, .int .i64 0, .int .i64 0, .int .i64 0, .int .i64 0, .int .i64 0, .int .i64 0, .int .i64 0, .int .i64 0] 26)) = w1 at *
  have zl := lt_of_block HR.out
  have F4 := (Fr.refl (fun _ => False) w1).alloc (.cells #[.int .i64 1, .int .i64 0, .int .i64 0, .int .i64 0, .int .i64 0, .int .i64 0, .int .i64 0, .int .i64 0, .int .i64 0, .int .i64 0, .int .i64 0, .int .i64 0, .int .i64 0, .int .i64 0, .int .i64 0, .int .i64 0] 26)
  have X4 := F4.keep HX.out
  have M4 := F4.keep HM.out
  have R4 := F4.keep HR.out
  have Q4 := heap_alloc_new w1 (.cells #[.int .i64 1, .int .i64 0, .int .i64 0, .int .i64 0, .int .i64 0, .int .i64 0, .int .i64 0, .int .i64 0, .int .i64 0, .int .i64 0, .int .i64 0, .int .i64 0, .int .i64 0, .int .i64 0, .int .i64 0, .int .i64 0] 26)
  have G4 := HF.out.trans F4 (fun _ h => h.elim)
  have HH := Lib.hid (And.intro Q4 (And.intro X4 (And.intro M4 (And.intro R4 G4))))
  clear HX HM HR HF F4 X4 M4 R4 Q4 G4
  go_wp2_with fail
  obtain ⟨Q4, X4, M4, R4, G4⟩ := HH.out
  clear HH
  rw [sz3] at Q4 zl
  clear sz3
  generalize hg3 : w.heap.size + 1 + 1 + 1 = g at *
  generalize w1.alloc (.cells #[.int .i64 1, .int .i64 0, .int .i64 0, .int .i64 0, .int .i64 0, .int .i64 0, .int .i64 0, .int .i64 0, .int .i64 0, .int .i64 0, .int .i64 0, .int .i64 0, .int .i64 0, .int .i64 0, .int .i64 0, .int .i64 0] 26) = w4 at *
  have Q4' : w4.heap[g]? = some (.cells (nd (pwr X (M / 2 ^ 256))) 26 (0, 0)) := Q4.trans (congrArg (fun a => some (Obj.cells a 26 (0, 0))) (by rw [D0, pwr_zero]; exact nd_lit1))
  clear D0 hg3 Q4
  go_loopw [6] (fun i wr => ∃ n : Nat, n ≤ 256 ∧ i = .int .i64 ((n : Int) - 1) ∧ wr.heap[g]? = some (.cells (nd (pwr X (M / 2 ^ n))) 26 (0, 0)) ∧ wr.heap[w.heap.size]? = some (.cells (nd X) 26 (0, 0)) ∧ wr.heap[w.heap.size + 1]? = some (.cells (nc M) 23 (0, 0)) ∧ wr.heap[w.heap.size + 1 + 1]? = some (.cells #[.int .i64 0, .int .i64 0, .int .i64 0, .int .i64 0, .int .i64 0, .int .i64 0, .int .i64 0, .int .i64 0, .int .i64 0, .int .i64 0, .int .i64 0, .int .i64 0, .int .i64 0, .int .i64 0, .int .i64 0, .int .i64 0] 26 (0, 0)) ∧ Fr (fun _ => False) w wr) (fun i _ => (intOf i + 1).toNat)
  case atStart => exact ⟨256, by omega, by simp, Q4', X4, M4, R4, G4⟩
  case round =>
    clear Q4' X4 M4 R4 G4
    obtain ⟨n, hn, rfl, hQ, hX, hM, hR, hF⟩ := hrel
    by_cases h0 : n = 0
    · subst h0
      rw [Nat.pow_zero, Nat.div_one] at hQ
      have sR := Try.sizeD (pwr X M)
      have zR' : (#[.int .i64 0, .int .i64 0, .int .i64 0, .int .i64 0, .int .i64 0, .int .i64 0, .int .i64 0, .int .i64 0, .int .i64 0, .int .i64 0, .int .i64 0, .int .i64 0, .int .i64 0, .int .i64 0, .int .i64 0, .int .i64 0] : Array Value).size = (nd (pwr X M)).size := by rw [nd_size]; rfl
      have oR : (nd (pwr X M)).all (·.oneCell') = true := iq_one 16 _
      clear hX hM MU MX
      rw [show ((0 : Nat) : Int) - 1 = -1 from rfl]
      go_wp2_with (first
        | (with_reducible refine wpList_load_row rfl 26 (.tmp 5) rfl g rfl 26 (nd (pwr X M)) (0, 0) _ hQ Try.underlying26 rfl sR ?_)
        | (with_reducible refine wpList_store_row rfl 26 (.tmp 4) (.tmp 27) rfl (w.heap.size + 1 + 1) (nd (pwr X M)) rfl rfl 26 #[.int .i64 0, .int .i64 0, .int .i64 0, .int .i64 0, .int .i64 0, .int .i64 0, .int .i64 0, .int .i64 0, .int .i64 0, .int .i64 0, .int .i64 0, .int .i64 0, .int .i64 0, .int .i64 0, .int .i64 0, .int .i64 0] hR sR zR' oR ?_))
      refine bodyPost_ret (results_cell_row rfl _ _ (w.heap.size + 1 + 1) 26 (nd (pwr X M)) (0, 0) _ rfl (setRow_heap _ _ _ _ _ _ hR) Try.underlying26 rfl sR) rfl ?_
      exact ⟨rfl, hF.trans (Fr.setRow (S := fun k => k = w.heap.size + 1 + 1) (Fr.refl _ _) rfl _) (fun i hi => Or.inr (by have : i = w.heap.size + 1 + 1 := hi; omega))⟩
    · obtain ⟨m, rfl⟩ : ∃ m, n = m + 1 := ⟨n - 1, by omega⟩
      rw [show ((m + 1 : Nat) : Int) - 1 = (m : Int) by omega]
      have ma : (0 : Int) ≤ (m : Int) := by omega
      have hm256 : m < 256 := by omega
      have he := pwr_even X M m
      have ho := pwr_odd X M m
      obtain ⟨N, hN⟩ : ∃ N, N = M / 2 ^ (m + 1) := ⟨_, rfl⟩
      rw [← hN] at hQ he ho
      have MV := fun W => MU.out N W
      rw [pwr_add] at MV he
      have MW := fun W => MX.out (N + N) W
      have hbit := bit_dig M m
      have hz := dig_lt 18446744073709551616 M (m / 64) (by decide)
      have cB : (nc M)[m / 64]? = some (.int .u64 (dig 18446744073709551616 M (m / 64) : Int)) := by rw [nc_uq]; exact uq_get 4 _ _ (by omega)
      have hd4 : m / 64 < 4 := by omega
      have hr64 : m % 64 < 64 := by omega
      have hq : ((m : Int)).tdiv 64 = ((m / 64 : Nat) : Int) := by rw [Int.tdiv_eq_ediv_of_nonneg (by omega)]; omega
      have hr : ((m : Int)).tmod 64 = ((m % 64 : Nat) : Int) := by rw [Int.tmod_eq_emod_of_nonneg (by omega)]; omega
      generalize dig 18446744073709551616 M (m / 64) = z at cB hbit hz
      generalize m / 64 = d at hq hd4 cB
      generalize m % 64 = r at hr hr64 hbit
      have da : (0 : Int) ≤ (d : Int) := by omega
      have db : (d : Int) < 4 := by omega
      have ra : (0 : Int) ≤ (r : Int) := by omega
      have rb : (r : Int) < 64 := by omega
      have hsh : (z : Int) / 2 ^ r = ((z / 2 ^ r : Nat) : Int) := by simp
      have hba := tmod2b (z / 2 ^ r)
      rw [hbit] at hba
      generalize z / 2 ^ r = y at hsh hba
      obtain ⟨V, hV⟩ : ∃ V, V = M / 2 ^ m := ⟨_, rfl⟩
      rw [← hV] at he ho hba
      have HV := Lib.hid hV
      have sQ := Try.sizeD (pwr X N)
      have sQ2 := Try.sizeD (pwr X (N + N))
      have sV := Try.sizeD (pwr X V)
      have sX := Try.sizeD X
      have zQ : (nd (pwr X N)).size = (nd (pwr X (N + N))).size := by rw [nd_size, nd_size]
      have oQ : (nd (pwr X (N + N))).all (·.oneCell') = true := iq_one 16 _
      have zV : (nd (pwr X (N + N))).size = (nd (pwr X V)).size := by rw [nd_size, nd_size]
      have oV : (nd (pwr X V)).all (·.oneCell') = true := iq_one 16 _
      have HX := Lib.hid hX
      have HM := Lib.hid hM
      have HR := Lib.hid hR
      have HF := Lib.hid hF
      have HQ := Lib.hid hQ
      have HE := Lib.hid he
      have HO := Lib.hid ho
      clear hX hM hR hF hQ MU MX hN hbit hz hV he ho h0 hn
      go_wp2_with (with_reducible refine wpList_load_row rfl 26 (.tmp 5) rfl g rfl 26 (nd (pwr X N)) (0, 0) _ HQ.out Try.underlying26 rfl sQ ?_)
      refine (MV _).mono ?_
      rintro e w5 ⟨rfl, F5⟩
      have Q5 := F5.keep HQ.out
      have X5 := F5.keep HX.out
      have M5 := F5.keep HM.out
      have R5 := F5.keep HR.out
      have G5 := HF.out.trans F5 (fun _ h => h.elim)
      clear HQ HX HM HR HF F5 MV
      have F6 : Fr (fun k => k = g) w5 (w5.setRow g (nd (pwr X (N + N)))) := Fr.setRow (S := fun k => k = g) (Fr.refl _ _) rfl _
      have Q6 := setRow_heap _ _ _ (nd (pwr X (N + N))) _ _ Q5
      have X6 := (F6.block _ (lt_of_block X5) (by show w.heap.size ≠ g; omega)).trans X5
      have M6 := (F6.block _ (lt_of_block M5) (by show w.heap.size + 1 ≠ g; omega)).trans M5
      have R6 := (F6.block _ (lt_of_block R5) (by show w.heap.size + 1 + 1 ≠ g; omega)).trans R5
      have G6 := G5.trans F6 (fun i hi => Or.inr (by have : i = g := hi; omega))
      have cM := (cell_of_block M6 d).trans cB
      have HQ6 := Lib.hid Q6
      have HX6 := Lib.hid X6
      have HM6 := Lib.hid M6
      have HR6 := Lib.hid R6
      have HG6 := Lib.hid G6
      clear Q6 X6 M6 R6 G6 F6 X5 M5 R5 G5 cB
      rcases Nat.mod_two_eq_zero_or_one V with hb | hb
      · rw [hb] at hba
        have Hb := Lib.hid hb
        clear hb sX sV zV oV MW
        go_wp2_with (with_reducible refine wpList_store_row rfl 26 (.tmp 5) (.tmp 14) rfl g (nd (pwr X (N + N))) rfl rfl 26 (nd (pwr X N)) Q5 sQ2 zQ oQ ?_)
        go_roundw
        case rel => exact ⟨m, by omega, rfl, HQ6.out.trans (by rw [HE.out Hb.out, HV.out]), HX6.out, HM6.out, HR6.out, HG6.out⟩
        case measure => simp [intOf]
      · rw [hb] at hba
        rw [HO.out hb] at MW
        clear hb
        go_wp2_with (first
          | (with_reducible refine wpList_store_row rfl 26 (.tmp 5) (.tmp 14) rfl g (nd (pwr X (N + N))) rfl rfl 26 (nd (pwr X N)) Q5 sQ2 zQ oQ ?_)
          | (with_reducible refine wpList_load_row rfl 26 (.tmp 5) rfl g rfl 26 (nd (pwr X (N + N))) (0, 0) _ HQ6.out Try.underlying26 rfl sQ2 ?_)
          | (with_reducible refine wpList_load_row rfl 26 (.tmp 2) rfl w.heap.size rfl 26 (nd X) (0, 0) _ HX6.out Try.underlying26 rfl sX ?_))
        refine (MW _).mono ?_
        rintro e w7 ⟨rfl, F7⟩
        have Q7 := F7.keep HQ6.out
        have X7 := F7.keep HX6.out
        have M7 := F7.keep HM6.out
        have R7 := F7.keep HR6.out
        have G7 := HG6.out.trans F7 (fun _ h => h.elim)
        clear HQ6 HX6 HM6 HR6 HG6 F7 cM Q5 MW
        go_wp2_with (with_reducible refine wpList_store_row rfl 26 (.tmp 5) (.tmp 26) rfl g (nd (pwr X V)) rfl rfl 26 (nd (pwr X (N + N))) Q7 sV zV oV ?_)
        have F8 : Fr (fun k => k = g) w7 (w7.setRow g (nd (pwr X V))) := Fr.setRow (S := fun k => k = g) (Fr.refl _ _) rfl _
        go_roundw
        case rel => exact ⟨m, by omega, rfl, (setRow_heap _ _ _ _ _ _ Q7).trans (by rw [HV.out]), (F8.block _ (lt_of_block X7) (by show w.heap.size ≠ g; omega)).trans X7, (F8.block _ (lt_of_block M7) (by show w.heap.size + 1 ≠ g; omega)).trans M7, (F8.block _ (lt_of_block R7) (by show w.heap.size + 1 + 1 ≠ g; omega)).trans R7, G7.trans F8 (fun i hi => Or.inr (by have : i = g := hi; omega))⟩
        case measure => simp [intOf]
end Go.Proofs.Ytnobobdgoccmcaa


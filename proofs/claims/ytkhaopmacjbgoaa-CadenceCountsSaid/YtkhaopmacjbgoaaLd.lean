/-
  CadenceCounts.
-/
import Derived.Test.YtkhaopmacjbgoaaLc
import Derived.Test.YtkhaopmacjbgoaaLp
namespace Go.Proofs.Ytkhaopmacjbgoaa
open Go.RowKit
set_option linter.unusedVariables false
set_option linter.unusedSimpArgs false
theorem fr_new {w w1 w2 : World} {S : Nat → Prop} (h : Fr (fun _ => False) w w1) (k : Fr S w1 w2) (hS : ∀ i, S i → w.heap.size ≤ i) : Fr (fun _ => False) w w2 := h.trans k (fun i e => .inr (hS i e))
set_option maxRecDepth 100000 in
set_option maxHeartbeats 1600000 in
theorem beats_any (w : World) : Calls Try.prog 6 #[] w fun e w' => e = .returned (.bool true) ∧ Fr (fun _ => False) w w' := by
  go_enter Try.func6, Try.ntmps6
  go_wp2_with fail
  refine (new0 w).mono ?_
  rintro e w1 ⟨rfl, hB, F1⟩
  have HB := Lib.hid hB
  have HF1 := Lib.hid F1
  clear hB F1
  obtain ⟨ps, hps⟩ : ∃ ps, ps = w.heap.size := ⟨_, rfl⟩
  rw [← hps] at HB ⊢
  have HPS := Lib.hid hps
  clear hps
  go_wp2_with fail
  refine (add_new ps 0 2 0 ⟨#[97]⟩ w1 HB.out (by decide) (by decide) (by decide)).mono ?_
  rintro e w2 ⟨rfl, gm, c, hS, hgm, F2⟩
  have HS2 := Lib.hid hS
  have hgw : w.heap.size ≤ gm := Nat.le_trans HF1.out.size hgm
  have HGW := Lib.hid hgw
  have HF2 := Lib.hid (fr_new HF1.out F2 (fun i e => by have := HPS.out; omega))
  clear hS hgm F2 hgw
  go_wp2_with fail
  refine (tick_no ps gm c 0 2 0 (r := 1) (by decide) rfl ⟨#[97]⟩ (by decide) (by decide) (by decide) (by decide) (by decide) w2 HS2.out).mono ?_
  rintro e w3 ⟨rfl, hS3, F3⟩
  have HS3 := Lib.hid (show S1 w3 ps gm c 1 ⟨#[97]⟩ 2 1 from hS3)
  have HF3 := Lib.hid (fr_new HF2.out F3 (fun i e => by have := HPS.out; have := HGW.out; omega))
  clear hS3 F3
  go_wp2_with fail
  refine (tick_yes ps gm c 1 2 1 (by decide) ⟨#[97]⟩ (by decide) (by decide) (by decide) (by decide) (by decide) w3 HS3.out).mono ?_
  rintro e w4 ⟨g, c', rfl, hc0, hg, hS4, F4⟩
  have HS4 := Lib.hid (show S1 w4 ps gm c 2 ⟨#[97]⟩ 2 2 from hS4)
  have HF4 := Lib.hid (fr_new HF3.out F4 (fun i e => by have := HPS.out; have := HGW.out; omega))
  clear hS4 F4 hg
  go_wp2_with fail
  refine (now_any ps 2 _ w4 HS4.out.blk).mono ?_
  rintro e w5 ⟨rfl, rfl⟩
  go_wp2_with fail
  go_ret
  exact ⟨rfl, HF4.out⟩
theorem spot (m : Nat) (hm : 0 < m) (s : Int) : ∃ z : Int, ∃ q : Nat, IntKind.u64.wrap s = z ∧ z.tmod (m : Int) = (q : Int) ∧ q < m := by
  obtain ⟨u, hu⟩ : ∃ u : Nat, IntKind.u64.wrap s = (u : Int) := ⟨(IntKind.u64.wrap s).toNat, by rw [IntKind.wrap_u64]; omega⟩
  refine ⟨u, u % m, hu, ?_, Nat.mod_lt _ hm⟩
  rw [Int.tmod_eq_emod_of_nonneg (by omega)]; rfl
theorem bnd (q m : Nat) (h : q < m) (hm : m ≤ 1000) : (q : Int) < (m : Int) ∧ (0 : Int) ≤ (q : Int) ∧ IntKind.i64.wrap (q : Int) = (q : Int) ∧ wrap64 (1 + (q : Int)) = 1 + (q : Int) :=
  ⟨by omega, by omega, IntWalk.i64_in _ (by omega), IntWalk.wrap64_in _ (by omega)⟩
theorem at_due {t : Int} {k P r : Nat} (h : t = (k : Int) + ((P : Int) - (r : Int))) (hr : r = P - 1) (hP : 1 ≤ P) : t = (k : Int) + 1 := by omega
theorem at_not {t : Int} {k P r : Nat} (h : t = (k : Int) + ((P : Int) - (r : Int))) (hr : r ≠ P - 1) (hP : r < P) : t ≠ (k : Int) + 1 := by omega
theorem div_step {A k P : Nat} (e2 : (A + k + 1) / P = (A + k) / P + 1) : (((A + k) / P - A / P : Nat) : Int) + 1 = (((A + (k + 1)) / P - A / P : Nat) : Int) := by
  have h9 : A / P ≤ (A + k) / P := Nat.div_le_div_right (by omega)
  have : A + (k + 1) = A + k + 1 := by omega
  rw [this, e2]
  generalize (A + k) / P = x at *
  generalize A / P = y at *
  omega
theorem div_bnd {A k P : Nat} (hA : A < 1000) (hk : k ≤ 99) : (((A + k) / P - A / P : Nat) : Int) ≤ 100000 := by
  have := Nat.div_le_self (A + k) P
  generalize (A + k) / P = x at *
  generalize A / P = y at *
  omega
theorem cnt_due (P n : Nat) (hP : 0 < P) (h : (n + 1) % P = 0) : n % P = P - 1 ∧ (n + 1) / P = n / P + 1 := by
  have h1 := Nat.div_add_mod (n + 1) P
  have h2 := Nat.div_add_mod n P
  have h3 := Nat.mod_lt n hP
  have e : (n + 1) / P = n / P + if P ∣ n + 1 then 1 else 0 := Nat.succ_div
  rw [if_pos (Nat.dvd_of_mod_eq_zero h)] at e
  refine ⟨?_, e⟩
  rw [e, h] at h1
  rw [Nat.mul_add] at h1
  omega
theorem cnt_not (P n : Nat) (hP : 0 < P) (h : (n + 1) % P ≠ 0) : n % P ≠ P - 1 ∧ (n + 1) / P = n / P := by
  have e : (n + 1) / P = n / P + if P ∣ n + 1 then 1 else 0 := Nat.succ_div
  rw [if_neg (fun d => h (Nat.mod_eq_zero_of_dvd d)), Nat.add_zero] at e
  refine ⟨fun hh => h ?_, e⟩
  rw [Nat.add_mod, hh]
  by_cases h1 : P = 1
  · subst h1; simp [Nat.mod_one]
  · rw [Nat.mod_eq_of_lt (show 1 < P by omega), show P - 1 + 1 = P by omega, Nat.mod_self]
def cnt (A P k : Nat) : Int := (((A + k) / P - A / P : Nat) : Int)
def agk (A k : Nat) : Int := ((A + k : Nat) : Int)
theorem cnt_zero (A P : Nat) : cnt A P 0 = 0 := by unfold cnt; simp
theorem agk_zero (A : Nat) : agk A 0 = (A : Int) := by unfold agk; simp
theorem agk_succ (A k : Nat) : agk A k + 1 = agk A (k + 1) := by unfold agk; omega
theorem agk_bnd (A k : Nat) (hA : A < 1000) (hk : k ≤ 99) : 0 ≤ agk A k ∧ agk A k ≤ 1000000 := by unfold agk; omega
theorem succ_wrap (k : Nat) (hk : k ≤ 99) : wrap64 ((k : Int) + 1) = (k : Int) + 1 := IntWalk.wrap64_in _ (by omega)
theorem cnt_wrap0 (A P k : Nat) (hA : A < 1000) (hk : k ≤ 99) : wrap64 (cnt A P k) = cnt A P k := by
  have h := div_bnd (P := P) hA hk
  have h0 : (0 : Int) ≤ cnt A P k := Int.natCast_nonneg _
  have h1 : cnt A P k ≤ 100000 := h
  generalize cnt A P k = x at *
  exact IntWalk.wrap64_in _ (by omega)
theorem cnt_wrap (A P k : Nat) (hA : A < 1000) (hk : k ≤ 99) : wrap64 (cnt A P k + 1) = cnt A P k + 1 := by
  have h := div_bnd (P := P) hA hk
  have h0 : (0 : Int) ≤ cnt A P k := Int.natCast_nonneg _
  have h1 : cnt A P k ≤ 100000 := h
  generalize cnt A P k = x at *
  exact IntWalk.wrap64_in _ (by omega)
theorem at_any (A P k : Nat) (hP : 1 ≤ P) : ∃ (r : Nat) (t : Int), (agk A k).tmod (P : Int) = (r : Int) ∧ r < P ∧ (k : Int) + ((P : Int) - (r : Int)) = t ∧
    (((agk A k + 1).tmod (P : Int) = 0 ∧ t = (k : Int) + 1 ∧ cnt A P k + 1 = cnt A P (k + 1) ∧ True) ∨ (∃ r' : Int, (agk A k + 1).tmod (P : Int) = r' ∧ (r' == 0) = false ∧ (t == (k : Int) + 1) = false ∧ cnt A P k = cnt A P (k + 1) ∧ True)) := by
  have hrP : (A + k) % P < P := Nat.mod_lt _ hP
  have e0 : (agk A k).tmod (P : Int) = (((A + k) % P : Nat) : Int) := by
    unfold agk
    rw [Int.tmod_eq_emod_of_nonneg (Int.natCast_nonneg _)]; rfl
  have e1 : (agk A k + 1).tmod (P : Int) = (((A + k + 1) % P : Nat) : Int) := by
    rw [agk_succ]
    unfold agk
    rw [Int.tmod_eq_emod_of_nonneg (Int.natCast_nonneg _)]; rfl
  refine ⟨(A + k) % P, _, e0, hrP, rfl, ?_⟩
  by_cases hd : (A + k + 1) % P = 0
  · obtain ⟨h1, h2⟩ := cnt_due P (A + k) hP hd
    refine .inl ⟨by rw [e1, hd]; rfl, at_due rfl h1 hP, div_step h2, trivial⟩
  · obtain ⟨h1, h2⟩ := cnt_not P (A + k) hP hd
    refine .inr ⟨_, e1, beq_eq_false_iff_ne.2 (fun hh => hd (by exact_mod_cast hh)), beq_eq_false_iff_ne.2 (at_not rfl h1 hrP), ?_, trivial⟩
    unfold cnt
    rw [show A + (k + 1) = A + k + 1 by omega, h2]
theorem fin_any (A P k : Nat) (hP : 1 ≤ P) (hA : A < 1000) (hk : k ≤ 99) : wrap64 ((A : Int) + (k : Int)) = agk A k ∧ ∃ x y : Int, (agk A k).tdiv (P : Int) = x ∧ (A : Int).tdiv (P : Int) = y ∧ wrap64 x = x ∧ wrap64 y = y ∧ wrap64 (x - y) = cnt A P k := by
  have e : (A : Int) + (k : Int) = agk A k := by unfold agk; omega
  have b1 : (A + k) / P ≤ 1099 := by
    have := Nat.div_le_self (A + k) P
    generalize (A + k) / P = x at *
    omega
  have b2 : A / P ≤ (A + k) / P := Nat.div_le_div_right (by omega)
  refine ⟨by rw [e]; have := agk_bnd A k hA hk; generalize agk A k = x at *; exact IntWalk.wrap64_in _ (by omega), (((A + k) / P : Nat) : Int), ((A / P : Nat) : Int), ?_, ?_, ?_, ?_, ?_⟩
  · unfold agk; rw [Int.tdiv_eq_ediv_of_nonneg (Int.natCast_nonneg _)]; rfl
  · rw [Int.tdiv_eq_ediv_of_nonneg (Int.natCast_nonneg _)]; rfl
  · generalize (A + k) / P = x at *; generalize A / P = y at *; exact IntWalk.wrap64_in _ (by omega)
  · generalize (A + k) / P = x at *; generalize A / P = y at *; exact IntWalk.wrap64_in _ (by omega)
  · unfold cnt
    generalize (A + k) / P = x at *
    generalize A / P = y at *
    rw [show (x : Int) - (y : Int) = ((x - y : Nat) : Int) by omega]
    exact IntWalk.wrap64_in _ (by omega)
end Go.Proofs.Ytkhaopmacjbgoaa

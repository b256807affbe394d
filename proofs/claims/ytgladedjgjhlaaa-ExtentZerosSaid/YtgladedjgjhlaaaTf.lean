/-
  What is told of none; Fine of the document's answer; Of of both, as one number.
-/
import Derived.Test.YtgladedjgjhlaaaTe
namespace Go.Proofs.Ytgladedjgjhlaaa
open Go.RowKit
set_option linter.unusedVariables false
set_option linter.unusedSimpArgs false

set_option maxRecDepth 100000 in
theorem none12 (w : World) : Calls Try.prog 40 #[] w fun e w' => e = .returned (.pointer none) ∧ Fr (fun _ => False) w w' := by
  go_enter Try.func40, Try.ntmps40
  go_wp2_with fail
  go_ret
  exact ⟨rfl, Fr.refl _ _⟩
theorem area_nil (w : World) : Calls Try.prog 41 #[.pointer none, .int .i64 0] w fun e w' => e = .returned (.tuple #[.int .i64 0, .int .i64 0, .int .i64 1]) ∧ Fr (fun _ => False) w w' :=
  area_bad (.pointer none) 0 0 (Or.inr (by omega)) w (fun W _ => count_nil W)
set_option maxRecDepth 100000 in
theorem clear_nil (w : World) : Calls Try.prog 42 #[.pointer none, .int .i64 0] w fun e w' => e = .returned (.tuple #[.bool false, .int .i64 1]) ∧ Fr (fun _ => False) w w' := by
  go_enter Try.func42, Try.ntmps42
  go_wp2_with fail
  refine (area_nil w).mono ?_
  rintro e w2 ⟨rfl, F2⟩
  go_wp2_with fail
  go_returns
  exact ⟨rfl, F2⟩
set_option maxRecDepth 100000 in
theorem foul_nil (w : World) : Calls Try.prog 43 #[.pointer none] w fun e w' => e = .returned (.tuple #[.slice none 0 0, .int .i64 1]) ∧ Fr (fun _ => False) w w' := by
  go_enter Try.func43, Try.ntmps43
  go_wp2_with fail
  go_returns
  exact ⟨rfl, Fr.refl _ _⟩
set_option maxRecDepth 100000 in
theorem zero_nil (w : World) : Calls Try.prog 45 #[.pointer none, .int .i64 0] w fun e w' => e = .returned (.int .i64 1) ∧ Fr (fun _ => False) w w' := by
  go_enter Try.func45, Try.ntmps45
  go_wp2_with fail
  refine (area_nil w).mono ?_
  rintro e w2 ⟨rfl, F2⟩
  go_wp2_with fail
  go_ret
  exact ⟨rfl, F2⟩
/-- The document's condition. -/
def FineP (n : Nat) (f c s : Int) : Prop := 1 ≤ c ∧ 1 ≤ s ∧ 0 ≤ f ∧ c ≤ n ∧ s ≤ n ∧ f ≤ n - c * s
theorem mul_in {n : Nat} {c s : Int} (hn : n ≤ 1000) (h1 : 0 ≤ c) (h2 : c ≤ n) (h3 : 0 ≤ s) (h4 : s ≤ n) : 0 ≤ c * s ∧ c * s ≤ 1000000 := by
  refine ⟨Int.mul_nonneg h1 h3, ?_⟩
  have := Int.mul_le_mul (show c ≤ 1000 by omega) (show s ≤ 1000 by omega) h3 (by omega)
  omega
set_option maxRecDepth 100000 in
set_option maxHeartbeats 1600000 in
theorem fine_ok (n : Nat) (f c s : Int) (hn : n ≤ 1000) (h : FineP n f c s) (w : World) :
    Calls Try.prog 48 #[.int .i64 (n : Int), .int .i64 f, .int .i64 c, .int .i64 s] w fun e w' => e = .returned (.bool true) ∧ Fr (fun _ => False) w w' := by
  obtain ⟨h1, h2, h3, h4, h5, h6⟩ := h
  obtain ⟨m0, m1⟩ := mul_in hn (by omega) h4 (by omega) h5
  have t0 : decide (c < 1) = false := by simp; omega
  have t1 : decide (s < 1) = false := by simp; omega
  have t2 : decide (f < 0) = false := by simp; omega
  have t3 : decide ((n : Int) < c) = false := by simp; omega
  have t4 : decide ((n : Int) < s) = false := by simp; omega
  have t5 : decide (f ≤ (n : Int) - c * s) = true := by simpa using h6
  have r1 : In64 (c * s) := ⟨by omega, by omega⟩
  have r2 : In64 ((n : Int) - c * s) := ⟨by omega, by omega⟩
  have w1 := r1.w
  have w2 := r1.k
  have w3 := r2.w
  have w4 := r2.k
  clear h1 h2 h3 h4 h5 h6 m0 m1 r1 r2
  go_enter Try.func48, Try.ntmps48
  go_wp2_with fail
  go_ret
  exact ⟨rfl, Fr.refl _ _⟩
set_option maxRecDepth 100000 in
set_option maxHeartbeats 1600000 in
theorem fine_bad (n : Nat) (f c s : Int) (hn : n ≤ 1000) (h : ¬ FineP n f c s) (w : World) :
    Calls Try.prog 48 #[.int .i64 (n : Int), .int .i64 f, .int .i64 c, .int .i64 s] w fun e w' => e = .returned (.bool false) ∧ Fr (fun _ => False) w w' := by
  go_enter Try.func48, Try.ntmps48
  by_cases h1 : c < 1
  · have t0 : decide (c < 1) = true := by simpa using h1
    clear h
    go_wp2_with fail
    go_ret
    exact ⟨rfl, Fr.refl _ _⟩
  have t0 : decide (c < 1) = false := by simpa using h1
  by_cases h2 : s < 1
  · have t1 : decide (s < 1) = true := by simpa using h2
    clear h
    go_wp2_with fail
    go_ret
    exact ⟨rfl, Fr.refl _ _⟩
  have t1 : decide (s < 1) = false := by simpa using h2
  by_cases h3 : f < 0
  · have t2 : decide (f < 0) = true := by simpa using h3
    clear h
    go_wp2_with fail
    go_ret
    exact ⟨rfl, Fr.refl _ _⟩
  have t2 : decide (f < 0) = false := by simpa using h3
  by_cases h4 : (n : Int) < c
  · have t3 : decide ((n : Int) < c) = true := by simpa using h4
    clear h
    go_wp2_with fail
    go_ret
    exact ⟨rfl, Fr.refl _ _⟩
  have t3 : decide ((n : Int) < c) = false := by simpa using h4
  by_cases h5 : (n : Int) < s
  · have t4 : decide ((n : Int) < s) = true := by simpa using h5
    clear h
    go_wp2_with fail
    go_ret
    exact ⟨rfl, Fr.refl _ _⟩
  have t4 : decide ((n : Int) < s) = false := by simpa using h5
  have h6 : ¬ (f ≤ (n : Int) - c * s) := fun e => h ⟨by omega, by omega, by omega, by omega, by omega, e⟩
  obtain ⟨m0, m1⟩ := mul_in (c := c) (s := s) hn (by omega) (by omega) (by omega) (by omega)
  have t5 : decide (f ≤ (n : Int) - c * s) = false := by simpa using h6
  have r1 : In64 (c * s) := ⟨by omega, by omega⟩
  have r2 : In64 ((n : Int) - c * s) := ⟨by omega, by omega⟩
  have w1 := r1.w
  have w2 := r1.k
  have w3 := r2.w
  have w4 := r2.k
  clear h h1 h2 h3 h4 h5 h6 m0 m1 r1 r2
  go_wp2_with fail
  go_ret
  exact ⟨rfl, Fr.refl _ _⟩
theorem fine_iff (n : Nat) (f c s : Int) : FineP n f c s ↔ (0 ≤ f ∧ 1 ≤ c ∧ 1 ≤ s ∧ s ≤ ((n : Int) - f).tdiv c) := by
  constructor
  · rintro ⟨h1, h2, h3, h4, h5, h6⟩
    refine ⟨h3, h1, h2, ?_⟩
    have m0 : 0 ≤ c * s := Int.mul_nonneg (by omega) (by omega)
    rw [Int.tdiv_eq_ediv_of_nonneg (by omega)]
    exact (Int.le_ediv_iff_mul_le (by omega)).2 (by rw [Int.mul_comm]; omega)
  · rintro ⟨h1, h2, h3, h4⟩
    have hnn : 0 ≤ (n : Int) - f := by
      by_cases h : (n : Int) - f < 0
      · have : ((n : Int) - f).tdiv c ≤ 0 := by
          rw [show (n : Int) - f = -(f - n) by omega, Int.neg_tdiv]
          have := Int.tdiv_nonneg (show 0 ≤ f - (n : Int) by omega) (show 0 ≤ c by omega)
          omega
        omega
      · omega
    rw [Int.tdiv_eq_ediv_of_nonneg hnn] at h4
    have h5 := (Int.le_ediv_iff_mul_le (show (0 : Int) < c by omega)).1 h4
    have e1 : c ≤ s * c := by
      have := Int.mul_le_mul_of_nonneg_right h3 (show (0 : Int) ≤ c by omega)
      omega
    have e2 : s ≤ s * c := by
      have := Int.mul_le_mul_of_nonneg_left h2 (show (0 : Int) ≤ s by omega)
      omega
    exact ⟨h2, h3, h1, by omega, by omega, by rw [Int.mul_comm]; omega⟩
/-- In which extent a block is. -/
def ofv (f c s b : Int) : Int := if f ≤ b ∧ b < f + c * s then (b - f).tdiv s else -1
theorem of_any (x : Nat) (pd : Value) (f c s : Nat) (b : Int) (hf : f ≤ 1000) (hc : c ≤ 1000) (hs : s ≤ 1000) (h1 : 1 ≤ s) (w : World) (h : Ext w x pd f c s) :
    Calls Try.prog 47 #[.pointer (some ⟨x, 0, none⟩), .int .i64 b] w fun e w' => e = .returned (.int .i64 (ofv f c s b)) ∧ Fr (fun _ => False) w w' := by
  have m1 : c * s ≤ 1000000 := Nat.le_trans (Nat.mul_le_mul hc hs) (by decide)
  have e : (c : Int) * (s : Int) = ((c * s : Nat) : Int) := by simp
  have r1 : In64 ((c : Int) * s) := by rw [e]; exact ⟨by omega, by omega⟩
  have r2 : In64 ((f : Int) + c * s) := by rw [e]; exact ⟨by omega, by omega⟩
  by_cases hb : (f : Int) ≤ b ∧ b < f + c * s
  · rw [show ofv f c s b = (b - f).tdiv s by unfold ofv; rw [if_pos hb]]
    exact of_in x pd f c s b w h (by omega) r1 r2 (by have := hb.2; rw [e] at this; exact ⟨by omega, by omega⟩) hb.1 hb.2
  · rw [show ofv f c s b = -1 by unfold ofv; rw [if_neg hb]]
    exact of_out x pd f c s b w h r1 r2 (by omega)
theorem rof_val (f c s : Nat) (b : Int) (hf : f ≤ 1000) (hc : c ≤ 1000) (hs : s ≤ 1000) (h1 : 1 ≤ s) (w : World) :
    Calls Try.prog 49 #[.int .i64 (f : Int), .int .i64 (c : Int), .int .i64 (s : Int), .int .i64 b] w fun e w' => e = .returned (.int .i64 (ofv f c s b)) ∧ Fr (fun _ => False) w w' := by
  refine (rof12_any f c s b hf hs hc w).mono ?_
  rintro e w' ⟨v, rfl, hv, rfl⟩
  refine ⟨?_, Fr.refl _ _⟩
  congr 2
  rcases hv with ⟨i, k, hi, hk, hb, rfl⟩ | ⟨hno, rfl⟩
  · have hik : i * s + k < c * s := by
      have := Nat.mul_le_mul_right s (show i + 1 ≤ c by omega)
      rw [Nat.add_mul] at this
      omega
    have e : (c : Int) * (s : Int) = ((c * s : Nat) : Int) := by simp
    have hin : (f : Int) ≤ b ∧ b < f + c * s := by rw [e]; exact ⟨by omega, by omega⟩
    unfold ofv
    rw [if_pos hin, Int.tdiv_eq_ediv_of_nonneg (by omega), show b - (f : Int) = ((i * s + k : Nat) : Int) by omega]
    rw [show ((i * s + k : Nat) : Int) / (s : Int) = (((i * s + k) / s : Nat) : Int) by simp]
    congr 1
    rw [Nat.mul_comm, Nat.mul_add_div (by omega), Nat.div_eq_of_lt hk]
    rfl
  · unfold ofv
    rw [if_neg]
    rintro ⟨h2, h3⟩
    have e : (c : Int) * (s : Int) = ((c * s : Nat) : Int) := by simp
    rw [e] at h3
    obtain ⟨m, hm⟩ : ∃ m : Nat, b = (f : Int) + m := ⟨(b - f).toNat, by omega⟩
    have hm2 : m < c * s := by omega
    refine hno (m / s) (m % s) ((Nat.div_lt_iff_lt_mul (by omega)).2 hm2) (Nat.mod_lt _ (by omega)) ?_
    have := Nat.div_add_mod m s
    rw [Nat.mul_comm] at this
    omega
end Go.Proofs.Ytgladedjgjhlaaa

/-
  The contract of codec's Reader: Num.
-/
import Derived.Test.YtdlmfodnookmhaaCt
namespace Go.Proofs.Ytdlmfodnookmhaa
open Go.RowKit
set_option linter.unusedVariables false

/-- The number that bytes are, the highest first. -/
def beN (l : List UInt8) : Nat := l.foldl (fun n b => n * 256 + b.toNat) 0
theorem beN_snoc (l : List UInt8) (b : UInt8) : beN (l ++ [b]) = beN l * 256 + b.toNat := by simp [beN]
theorem beN_from : (l : List UInt8) → (a m : Nat) → a < 256 ^ m → l.foldl (fun n b => n * 256 + b.toNat) a < 256 ^ (m + l.length)
  | [], a, m, h => h
  | b :: l, a, m, h => by
    have hb := b.toNat_lt
    have := beN_from l (a * 256 + b.toNat) (m + 1) (by rw [Nat.pow_succ]; omega)
    simpa [Nat.add_assoc, Nat.add_comm 1] using this
theorem beN_lt (l : List UInt8) : beN l < 256 ^ l.length := by
  have := beN_from l 0 0 (by decide)
  rw [Nat.zero_add] at this
  exact this
theorem wraps_u64' (n : Int) (h₀ : 0 ≤ n) (h₁ : n < 2 ^ 64) : IntKind.u64.wrap n = n := by rw [IntKind.wrap_u64]; omega
theorem u64_or8 (x y : Int) (hx₀ : 0 ≤ x) (hx : x % 256 = 0) (hx₁ : x < 18446744073709551616) (h₀ : 0 ≤ y) (h₁ : y < 256) : bits .or .u64 x y = x + y :=
  bits_join .u64 64 (by decide) wraps_u64' 8 x y hx₀ (by omega) (by omega) h₀ (by omega) (by omega)
theorem beN_or (m : Nat) (y : UInt8) (h : m < 72057594037927936) : bits .or .u64 ((m : Int) * 256) y.toNat = ((m * 256 + y.toNat : Nat) : Int) := by
  have := y.toNat_lt
  rw [u64_or8 _ _ (by omega) (by omega) (by omega) (by omega) (by omega)]
  omega
theorem beN_step (l : List UInt8) (k : Nat) (h : k < l.length) : beN (l.take (k + 1)) = beN (l.take k) * 256 + (l[k]).toNat := by
  rw [List.take_succ_eq_append_getElem h, beN_snoc]
theorem beN_small (l : List UInt8) (k : Nat) (h : k < 8) : beN (l.take k) < 72057594037927936 := by
  have h1 := beN_lt (l.take k)
  have h2 : (l.take k).length ≤ 7 := by simp; omega
  have h3 : 256 ^ (l.take k).length ≤ 256 ^ 7 := Nat.pow_le_pow_right (by decide) h2
  have h4 : (256 : Nat) ^ 7 = 72057594037927936 := by decide
  omega

set_option maxRecDepth 100000 in
set_option maxHeartbeats 1600000 in
theorem rnum_ok (br c g off : Nat) (l : List UInt8) (hl : 8 ≤ l.length) (w : World) (h : Rd w br (some ⟨g, off, none⟩) c l 0) :
    Calls Try.prog 27 #[.pointer (some ⟨br, 0, none⟩)] w fun e w' => e = .returned (.int .i64 (wrap64 (beN (l.take 8) : Nat))) ∧ RdPost w w' br g (c - 8) (l.drop 8) 0 := by
  go_enter Try.func27, Try.ntmps27
  go_wp2_with fail
  refine (has_yes br c _ l 8 _ h (by omega)).mono ?_
  rintro e w1 ⟨rfl, rfl⟩
  go_wp2_with fail
  refine (take_any br c g off l 0 8 8 rfl _ h hl).mono ?_
  rintro e w2 ⟨rfl, o2, hr, hF⟩
  have hg : g ≠ br := fun e => h.ne ⟨_, rfl, e⟩
  have hl2 : Lies w2 (some ⟨g, off, none⟩) l := h.lies.fr hF (fun k ⟨ad, e, hb⟩ e2 => hg (by cases e; exact hb.trans e2))
  go_wp2_with fail
  go_loopw [3, 12] (fun v i wr => ∃ k : Nat, k ≤ 8 ∧ i = .int .i64 k ∧ v = .int .u64 (beN (l.take k) : Nat) ∧ Fr (fun _ => False) w2 wr) (fun _ i _ => 8 - (intOf i).toNat)
  case atStart => exact ⟨0, by omega, by simp, by simp [beN], Fr.refl _ w2⟩
  case round =>
    obtain ⟨k, hk, rfl, rfl, hF2⟩ := hrel
    by_cases hlt : k < 8
    · have hx : k < l.length := by omega
      have cx := hl2.fr hF2 (fun _ _ h => h)
      obtain ⟨g2, o3, e, hc⟩ := cx.resolve_left (fun e => by rw [e] at hx; simp at hx)
      obtain ⟨rfl, rfl⟩ : g = g2 ∧ off = o3 := by simpa using Option.some.inj e
      have k1 := hc k hx
      have hs := beN_step l k hx
      have hm := beN_small l k hlt
      generalize l[k] = y at k1 hs
      have b1 : (y.toNat : Int) < 256 := by have := y.toNat_lt; omega
      clear hc cx e
      go_wp2
      refine ⟨⟨k + 1, by omega, by go_num, by rw [beN_or _ y hm, hs], hF2⟩, ?_⟩
      simp [intOf]; omega
    · obtain rfl : k = 8 := by omega
      go_wp2
      go_ret
      exact ⟨rfl, o2, hr.fr hF2 (fun h => h) (fun _ _ h => h), hF.trans hF2 (fun i hi => hi.elim)⟩
end Go.Proofs.Ytdlmfodnookmhaa


/-
  The contract of Same of package hmac; an append as a step of a region.
-/
import Derived.Test.YtpgbghnjeonmjaaDoorHo
import Derived.Laws.OwnMore
namespace Go.Proofs.YtpgbghnjeonmjaaDoor
open Go.RowKit
set_option linter.unusedVariables false

set_option maxRecDepth 100000 in
theorem wp_app {P : Program} {o : Oper} {a : Act} {w : World} {K : Act → World → Prop} {Q : Exit → Act → World → Prop} (s x : Operand) (t tx : TypeId)
    (ho : o.op = .call { callee := .builtin .append, args := #[s, x], argTypes := #[t, tx] })
    (base : Nat) (e : TypeId) (i : TypeInfo) (z : Value) (size bytes : Nat) (ht : P.underlying t = some (.slice e)) (hi : P.info? e = some i) (hz : i.zero = some z)
    (hsize : i.size = size) (hby : i.bytes = bytes) (hzs : z.cells.size = size) (hsz : 0 < size)
    (v : Value) (n : Nat) (xs : List Value) (hs : a.eval s = v) (hown : w.ownsRow base e size v n xs)
    (xv : Value) (hx : a.eval x = xv) (m : Nat) (news : List Value) (hsrc : Src P size tx xv m news w)
    (h63 : n + m ≤ maxLen) (hbytes : (n + m) * bytes ≤ 140737488355328) (hbase : base ≤ w.heap.size)
    (h : ∀ v2 w2, w2.ownsRow base e size v2 (n + m) (xs ++ news) → w.grownBy w2 v.ownBlock → (v2.ownBlock = v.ownBlock ∨ v2.ownBlock = some w.heap.size) → K (a.put o.dst v2) w2) : o.wp P a w K Q := by
  obtain ⟨v2, w2, hr, h2, h3, h4⟩ := run_app (P := P) w base t tx o.type e i z size bytes ht hi hz hsize hby hzs hsz v n xs hown xv m news hsrc h63 hbytes hbase
  unfold Oper.wp execOp
  simp only [ho, resolve, invoke, builtin, Sem.run_bind, Sem.run_pure, Result.andThen_ok, List.map_toArray, List.map_cons, List.map_nil, hs, hx, hr]
  exact h v2 w2 h2 h3 h4

set_option maxRecDepth 100000 in
theorem bits_u8 (x y : UInt8) : bits .xor .u8 (x.toNat : Int) (y.toNat : Int) = (((x ^^^ y).toNat : Nat) : Int) ∧ bits .or .u8 (x.toNat : Int) (y.toNat : Int) = (((x ||| y).toNat : Nat) : Int) := by
  refine ⟨xor_u8 x y, ?_⟩
  have h1 := x.toNat_lt
  have h2 := y.toNat_lt
  have x3 : x.toNat ||| y.toNat < 2 ^ 8 := Nat.or_lt_two_pow (by omega) (by omega)
  have e1 : (BitVec.ofInt 8 (x.toNat : Int)).toNat = x.toNat := by
    rw [BitVec.ofInt_natCast, BitVec.toNat_ofNat]; exact Nat.mod_eq_of_lt (by omega)
  have e2 : (BitVec.ofInt 8 (y.toNat : Int)).toNat = y.toNat := by
    rw [BitVec.ofInt_natCast, BitVec.toNat_ofNat]; exact Nat.mod_eq_of_lt (by omega)
  show IntKind.u8.wrap ((BitVec.ofInt 8 (x.toNat : Int) ||| BitVec.ofInt 8 (y.toNat : Int)).toNat : Int) = _
  rw [BitVec.toNat_or, e1, e2, UInt8.toNat_or, IntKind.wrap_u8]; omega
set_option maxRecDepth 100000 in
theorem or_zero (u x y : UInt8) : u ||| (x ^^^ y) = 0 ↔ u = 0 ∧ x = y := by
  constructor
  · intro h
    constructor
    · have := congrArg UInt8.toBitVec h
      apply UInt8.eq_of_toBitVec_eq
      simp at this ⊢
      bv_omega
    · have := congrArg UInt8.toBitVec h
      apply UInt8.eq_of_toBitVec_eq
      simp at this ⊢
      bv_omega
  · rintro ⟨rfl, rfl⟩
    simp
set_option maxRecDepth 100000 in
theorem took (x y : List UInt8) (k : Nat) (hx : k < x.length) (hy : k < y.length) : (x.take (k + 1) = y.take (k + 1)) ↔ x.take k = y.take k ∧ x[k] = y[k] := by
  rw [List.take_succ_eq_append_getElem hx, List.take_succ_eq_append_getElem hy]
  constructor
  · intro h
    have := List.append_inj h (by simp; omega)
    exact ⟨this.1, by simpa using this.2⟩
  · rintro ⟨h1, h2⟩
    rw [h1, h2]

set_option maxRecDepth 100000 in
set_option maxHeartbeats 1600000 in
theorem same_any (a a2 : Option Addr) (x y : List UInt8) (n n2 c c2 : Nat) (w : World) (h : Came w a n c x) (h2 : Came w a2 n2 c2 y) :
    Calls Tryd.prog 33 #[.slice a n c, .slice a2 n2 c2] w fun e w' => e = .returned (.bool (decide (x = y))) ∧ Fr (fun _ => False) w w' := by
  have hn3 : n ≤ 9223372036854775807 := by have := h.le; have := h.mx; unfold maxLen at this; omega
  have hl1 := h.len
  have hl2 := h2.len
  go_enter Tryd.func33, Tryd.ntmps33
  go_upto_if 11 with fail
  by_cases hne : n = n2
  · subst hne
    go_wp2_with fail
    go_loopw [5, 14] (fun v i wr => ∃ (k : Nat) (u : UInt8), k ≤ n ∧ i = .int .i64 k ∧ v = .int .u8 (u.toNat : Int) ∧ (u = 0 ↔ x.take k = y.take k) ∧ Fr (fun _ => False) w wr) (fun _ i _ => n - (intOf i).toNat)
    case atStart => exact ⟨0, 0, by omega, by simp, rfl, by simp, Fr.refl _ w⟩
    case round =>
      obtain ⟨k, u, hk, rfl, rfl, hu, hF⟩ := hrel
      by_cases hlt : k < n
      · have hx : k < x.length := by omega
        have hy : k < y.length := by omega
        have cx := h.lies.grow hF
        have cy := h2.lies.grow hF
        obtain ⟨g, o, rfl, hc⟩ := cx.resolve_left (fun e => by rw [e] at hx; simp at hx)
        obtain ⟨g2, o2, rfl, hc2⟩ := cy.resolve_left (fun e => by rw [e] at hy; simp at hy)
        have k1 := hc k hx
        have k2 := hc2 k hy
        have ht := took x y k hx hy
        generalize x[k] = xk at k1 ht
        generalize y[k] = yk at k2 ht
        clear hc hc2 cx cy
        go_wp2_with fail
        go_quiet (fail)
        go_wp2
        go_roundw
        case rel =>
          refine ⟨k + 1, u ||| (xk ^^^ yk), by omega, by go_num, ?_, ?_, hF.drewN _⟩
          · first | (rw [(bits_u8 xk yk).1, (bits_u8 u _).2]) | (simp only [← UInt8.toNat_xor, (bits_u8 u (xk ^^^ yk)).2])
          · rw [or_zero, hu, ht]
        case measure => simp [intOf]; omega
      · have e1 : x.take k = x := List.take_of_length_le (by omega)
        have e2 : y.take k = y := List.take_of_length_le (by omega)
        rw [e1, e2] at hu
        have ht : decide ((k : Int) < (n : Int)) = false := by simp; omega
        have hz : ((u.toNat : Int) == 0) = decide (x = y) := by
          rw [Bool.eq_iff_iff]
          simp only [beq_iff_eq, decide_eq_true_eq, ← hu]
          constructor
          · intro h
            exact UInt8.toNat_inj.1 (by simpa using h)
          · rintro rfl; rfl
        go_wp2
        go_ret
        exact ⟨rfl, hF⟩
  · have ht : ((n : Int) != (n2 : Int)) = true := by simp; omega
    have e : decide (x = y) = false := decide_eq_false (fun e => hne (by rw [← hl1, ← hl2, e]))
    go_wp2
    go_ret
    exact ⟨by rw [e]; rfl, Fr.refl _ _⟩
end Go.Proofs.YtpgbghnjeonmjaaDoor


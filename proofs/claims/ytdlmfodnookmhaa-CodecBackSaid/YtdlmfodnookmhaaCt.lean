/-
  The contracts of codec's Reader: Text, and Read.
-/
import Derived.Test.YtdlmfodnookmhaaCr
import Derived.Lib.Hide
namespace Go.Proofs.Ytdlmfodnookmhaa
open Go.RowKit
set_option linter.unusedVariables false

theorem Rd.two {w : World} {br g off c : Nat} {x y : UInt8} {l : List UInt8} {er : Int} (h : Rd w br (some ⟨g, off, none⟩) c (x :: y :: l) er) : w.cell? ⟨g, off, none⟩ = some (.int .u8 x.toNat) ∧ w.cell? ⟨g, off + 1, none⟩ = some (.int .u8 y.toNat) := by
  rcases h.lies with e | ⟨g2, off2, e, hc⟩
  · cases e
  · obtain ⟨rfl, rfl⟩ : g = g2 ∧ off = off2 := by simpa using Option.some.inj e
    exact ⟨hc 0 (by simp), hc 1 (by simp)⟩


theorem wraps_i64' (n : Int) (h₀ : 0 ≤ n) (h₁ : n < 2 ^ 63) : IntKind.i64.wrap n = n := by rw [IntKind.wrap_i64]; omega
theorem i64_or8 (x y : Int) (hx₀ : 0 ≤ x) (hx : x % 256 = 0) (hx₁ : x < 9223372036854775808) (h₀ : 0 ≤ y) (h₁ : y < 256) : bits .or .i64 x y = x + y :=
  bits_join .i64 63 (by decide) wraps_i64' 8 x y hx₀ (by omega) (by omega) h₀ (by omega) (by omega)
/-- The count of bytes that stands before a text. -/
def cnt (x y : UInt8) : Nat := x.toNat * 256 + y.toNat
theorem cnt_le (x y : UInt8) : cnt x y ≤ 65535 := by
  have := x.toNat_lt; have := y.toNat_lt
  unfold cnt; omega
theorem or_two (x y : UInt8) : bits .or .i64 ((x.toNat : Int) * 256) y.toNat = (cnt x y : Int) := by
  have := x.toNat_lt; have := y.toNat_lt
  rw [i64_or8 _ _ (by omega) (by omega) (by omega) (by omega) (by omega)]
  unfold cnt; omega

set_option maxHeartbeats 800000 in
theorem rtext_big (br c g off : Nat) (x y : UInt8) (l : List UInt8) (most : Int) (w : World) (h : Rd w br (some ⟨g, off, none⟩) c (x :: y :: l) 0) (hm : most < (cnt x y : Int)) :
    Calls Try.prog 29 #[.pointer (some ⟨br, 0, none⟩), .int .i64 most] w fun e w' => e = .returned (.slice none 0 0) ∧ Rd w' br (some ⟨g, off, none⟩) c (x :: y :: l) 5 ∧ Fr (fun k => k = br) w w' := by
  have hc0 := cell_of_block h.blk 0
  have hc1 := cell_of_block h.blk 1
  have hf1 := free_of_block h.blk 1
  simp at hc0 hc1
  obtain ⟨k0, k1⟩ := h.two
  have b0 : (x.toNat : Int) < 256 := by have := x.toNat_lt; omega
  have b1 : (y.toNat : Int) < 256 := by have := y.toNat_lt; omega
  have hor := or_two x y
  have hcc := cnt_le x y
  go_enter Try.func29, Try.ntmps29
  go_wp2_with fail
  refine (has_yes br c _ (x :: y :: l) 2 _ h (by simp; omega)).mono ?_
  rintro e w1 ⟨rfl, rfl⟩
  go_wp2
  go_quiet (fail)
  go_wp2
  go_ret
  exact ⟨rfl, (h.fr ((Fr.refl (fun _ => False) w).drewN nq) (fun h => h) (fun _ _ h => h)).err 5, ((Fr.refl (fun k => k = br) w).drewN nq).setCell (Or.inl rfl) _⟩

set_option maxRecDepth 100000 in
set_option maxHeartbeats 800000 in
theorem rtext_short (br c g off : Nat) (x y : UInt8) (l : List UInt8) (most : Int) (w : World) (h : Rd w br (some ⟨g, off, none⟩) c (x :: y :: l) 0) (hm : (cnt x y : Int) ≤ most) (hs : l.length < cnt x y) :
    Calls Try.prog 29 #[.pointer (some ⟨br, 0, none⟩), .int .i64 most] w fun e w' => e = .returned (.slice none 0 0) ∧ Rd w' br (some ⟨g, off, none⟩) c (x :: y :: l) 3 ∧ Fr (fun k => k = br) w w' := by
  have hc0 := cell_of_block h.blk 0
  have hc1 := cell_of_block h.blk 1
  have hf1 := free_of_block h.blk 1
  simp at hc0 hc1
  obtain ⟨k0, k1⟩ := h.two
  have b0 : (x.toNat : Int) < 256 := by have := x.toNat_lt; omega
  have b1 : (y.toNat : Int) < 256 := by have := y.toNat_lt; omega
  have hor := or_two x y
  have hcc := cnt_le x y
  go_enter Try.func29, Try.ntmps29
  go_wp2_with fail
  refine (has_yes br c _ (x :: y :: l) 2 _ h (by simp; omega)).mono ?_
  rintro e w1 ⟨rfl, rfl⟩
  go_wp2
  go_quiet (fail)
  have h2 : Rd (w.drewN nq) br (some ⟨g, off, none⟩) c (x :: y :: l) 0 := h.fr ((Fr.refl (fun _ => False) w).drewN nq) (fun h => h) (fun _ _ h => h)
  go_wp2_with fail
  refine (has_no br c _ (x :: y :: l) _ _ h2 (by simp; omega)).mono ?_
  rintro e w1 ⟨rfl, rfl⟩
  go_wp2
  go_ret
  exact ⟨rfl, h2.err 3, ((Fr.refl (fun k => k = br) w).drewN nq).setCell (Or.inl rfl) _⟩

set_option maxHeartbeats 800000 in
theorem rtext_none (br c : Nat) (a : Option Addr) (l : List UInt8) (most : Int) (w : World) (h : Rd w br a c l 0) (hs : l.length < 2) :
    Calls Try.prog 29 #[.pointer (some ⟨br, 0, none⟩), .int .i64 most] w fun e w' => e = .returned (.slice none 0 0) ∧ Rd w' br a c l 3 ∧ Fr (fun k => k = br) w w' := by
  go_enter Try.func29, Try.ntmps29
  go_wp2_with fail
  refine (has_no br c _ l 2 _ h (by omega)).mono ?_
  rintro e w1 ⟨rfl, rfl⟩
  go_wp2
  go_ret
  exact ⟨rfl, h.err 3, (Fr.refl (fun k => k = br) w).setCell (Or.inl rfl) _⟩

set_option maxHeartbeats 800000 in
theorem rtext_err (br c : Nat) (a : Option Addr) (l : List UInt8) (er most : Int) (w : World) (h : Rd w br a c l er) (hn : (er == 0) = false) :
    Calls Try.prog 29 #[.pointer (some ⟨br, 0, none⟩), .int .i64 most] w fun e w' => e = .returned (.slice none 0 0) ∧ w = w' := by
  go_enter Try.func29, Try.ntmps29
  go_wp2_with fail
  refine (has_err br c _ l 2 er _ h hn).mono ?_
  rintro e w1 ⟨rfl, rfl⟩
  go_wp2
  go_ret
  exact ⟨rfl, rfl⟩

theorem rtext_end {w w2 w3 : World} {br g o2 c n : Nat} {l l2 : List UInt8} {v : Value} (hF0 : Fr (fun k => k = br) w w2) (hr : Rd w2 br (some ⟨g, o2, none⟩) c l 0) (hF3 : Fr (fun _ => False) w2 w3)
    (hown : w3.ownsRow w2.heap.size 5 1 v n (bv l2)) : w3.ownsRow w.heap.size 5 1 v n (bv l2) ∧ RdPost w w3 br g c l 0 := by
  refine ⟨⟨hown.1, hown.2.imp_right ?_⟩, o2, hr.fr hF3 (fun h => h) (fun _ _ h => h), hF0.trans hF3 (fun i hi => hi.elim)⟩
  rintro ⟨g3, cap, cur, hv, hb, r⟩
  exact ⟨g3, cap, cur, hv, Nat.le_trans hF0.size hb, r⟩

set_option maxRecDepth 100000 in
set_option maxHeartbeats 1600000 in
theorem rtext_ok (br c g off : Nat) (x y : UInt8) (l : List UInt8) (most : Int) (w : World) (h : Rd w br (some ⟨g, off, none⟩) c (x :: y :: l) 0) (hm : (cnt x y : Int) ≤ most) (hs : cnt x y ≤ l.length) :
    Calls Try.prog 29 #[.pointer (some ⟨br, 0, none⟩), .int .i64 most] w fun e w' => ∃ v, e = .returned v ∧ w'.ownsRow w.heap.size 5 1 v (cnt x y) (bv (l.take (cnt x y))) ∧ RdPost w w' br g (c - (2 + cnt x y)) (l.drop (cnt x y)) 0 := by
  have hc0 := cell_of_block h.blk 0
  have hc1 := cell_of_block h.blk 1
  have hf1 := free_of_block h.blk 1
  simp at hc0 hc1
  obtain ⟨k0, k1⟩ := h.two
  have b0 : (x.toNat : Int) < 256 := by have := x.toNat_lt; omega
  have b1 : (y.toNat : Int) < 256 := by have := y.toNat_lt; omega
  have hor := or_two x y
  have hcc := cnt_le x y
  have hcl := h.le
  have hmx := h.mx
  simp at hcl
  simp only [maxLen, Nat.reducePow, Nat.reduceSub] at hmx
  go_enter Try.func29, Try.ntmps29
  go_wp2_with fail
  refine (has_yes br c _ (x :: y :: l) 2 _ h (by simp; omega)).mono ?_
  rintro e w1 ⟨rfl, rfl⟩
  go_wp2
  go_quiet (fail)
  have h2 : Rd (w.drewN nq) br (some ⟨g, off, none⟩) c (x :: y :: l) 0 := h.fr ((Fr.refl (fun _ => False) w).drewN nq) (fun h => h) (fun _ _ h => h)
  go_wp2_with fail
  refine (has_yes br c _ (x :: y :: l) _ _ h2 (by simp; omega)).mono ?_
  rintro e w1 ⟨rfl, rfl⟩
  go_wp2_with fail
  refine (take_any br c g off (x :: y :: l) 0 (2 + cnt x y) _ (by omega) _ h2 (by simp; omega)).mono ?_
  rintro e w2 ⟨rfl, o2, hr, hF⟩
  have hF0 : Fr (fun k => k = br) w w2 := ((Fr.refl (fun k => k = br) w).drewN nq).trans hF (fun i hi => Or.inl hi)
  have hg : g ≠ br := fun e => h.ne ⟨_, rfl, e⟩
  have hl2 : Lies w2 (some ⟨g, off + 2, none⟩) (l.take (cnt x y)) := ((h.lies.drop 2).take (cnt x y)).fr hF0 (fun k ⟨ad, e, hb⟩ e2 => hg (by cases e; exact hb.trans e2))
  have hlen : (l.take (cnt x y)).length = cnt x y := by simp; omega
  have hr' : Rd w2 br (some ⟨g, o2, none⟩) (c - (2 + cnt x y)) (l.drop (cnt x y)) 0 := by
    have e : (x :: y :: l).drop (2 + cnt x y) = l.drop (cnt x y) := by rw [Nat.add_comm]; rfl
    rw [← e]; exact hr
  clear hr
  have Hlen := Lib.hid hlen
  clear hlen
  go_wp2_with fail
  · refine (clone_lies ⟨g, off, none⟩ (l.take (cnt x y)) (cnt x y) _ Hlen.out w2 (Or.inl (List.eq_nil_of_length_eq_zero (by rw [Hlen.out]; omega))) (by omega)).mono ?_
    rintro e w3 ⟨g3, c3, rfl, hown, hF3⟩
    go_wp2
    go_ret
    exact ⟨_, rfl, rtext_end hF0 hr' hF3 hown⟩
  · refine (clone_lies ⟨g, off + 2, none⟩ (l.take (cnt x y)) (cnt x y) _ Hlen.out w2 hl2 (by omega)).mono ?_
    rintro e w3 ⟨g3, c3, rfl, hown, hF3⟩
    go_wp2
    go_ret
    exact ⟨_, rfl, rtext_end hF0 hr' hF3 hown⟩

/-- Read makes a reader of its own bytes. -/
def ReadPost (w w2 : World) (l : List UInt8) (e : Ending) : Prop :=
  ∃ br a c, e = .returned (.pointer (some ⟨br, 0, none⟩)) ∧ Rd w2 br a c l 0 ∧ (l = [] ∨ ∃ g o, a = some ⟨g, o, none⟩) ∧ w.heap.size ≤ br ∧ (∀ k, inBlk a k → w.heap.size ≤ k) ∧ Fr (fun _ => False) w w2

theorem read_end {w w2 : World} {l : List UInt8} {a : Option Addr} {c : Nat} (hF : Fr (fun _ => False) w w2) (hown : w2.ownsRow w.heap.size 5 1 (.slice a l.length c) l.length (bv l)) :
    ReadPost w (w2.alloc (.cells #[.slice a l.length c, .int .i64 0] 56)) l (.returned (.pointer (some ⟨w2.heap.size, 0, none⟩))) := by
  obtain ⟨_, h1, h2, h3⟩ := lies_own hown
  have hlt : ∀ k, inBlk a k → w.heap.size ≤ k ∧ k < w2.heap.size := by
    rintro k ⟨ad, rfl, rfl⟩
    exact hown.lt _ rfl
  refine ⟨w2.heap.size, a, c, rfl, ⟨heap_alloc_new w2 _, h1, h2, fun h => by have := (hlt _ h).2; omega, h3.fr ((Fr.refl (fun _ => False) w2).alloc _) (fun _ _ h => h)⟩, ?_, hF.size, fun k hk => (hlt k hk).1, hF.alloc _⟩
  rcases h3 with h | ⟨g, o, h, _⟩
  · exact Or.inl h
  · exact Or.inr ⟨g, o, h⟩

set_option maxRecDepth 100000 in
set_option maxHeartbeats 800000 in
theorem read_any (a : Option Addr) (c : Nat) (l : List UInt8) (n : Nat) (hn : l.length = n) (w : World) (h : Lies w a l) (ha : a = none → l = [] ∧ c = 0) (hm : n ≤ 140737488355328) :
    Calls Try.prog 12 #[.slice a n c] w fun e w' => ReadPost w w' l e := by
  subst hn
  cases a with
  | none =>
    obtain ⟨rfl, rfl⟩ := ha rfl
    go_enter Try.func12, Try.ntmps12
    go_wp2_with fail
    refine (clone_nil _).mono ?_
    rintro e w1 ⟨rfl, rfl⟩
    go_wp2
    go_ret
    exact read_end (l := []) (a := none) (c := 0) (Fr.refl _ w) (World.ownsRow_nil _ _ _ _)
  | some ad =>
    go_enter Try.func12, Try.ntmps12
    go_wp2_with fail
    refine (clone_lies ad l l.length c rfl w h hm).mono ?_
    rintro e w1 ⟨g, c1, rfl, hown, hF⟩
    go_wp2
    go_ret
    exact read_end hF hown
end Go.Proofs.Ytdlmfodnookmhaa


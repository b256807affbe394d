/-
  A schedule of any length: its memory; what is compared.
-/
import Derived.Test.YtcpapielklplcaaLaw
import Derived.Test.YtcpapielklplcaaKo
import Derived.Test.YtcpapielklplcaaKw
import Derived.Test.YtcpapielklplcaaLp
import Derived.Laws.MakeOwn
import Derived.Handy
namespace Go.Proofs.Ytcpapielklplcaa
open Go.RowKit
set_option linter.unusedVariables false
set_option linter.unusedSimpArgs false

/-- Somebody. -/
structure Mb where
  id : ByteArray
  per : Int
  age : Int
def mc (L : List Mb) : List Value := L.flatMap fun x => [.string x.id, .int .i64 x.per, .int .i64 x.age]
theorem mc_nil : mc [] = [] := rfl
theorem mc_cons (x : Mb) (L : List Mb) : mc (x :: L) = .string x.id :: .int .i64 x.per :: .int .i64 x.age :: mc L := rfl
theorem mc_app (A B : List Mb) : mc (A ++ B) = mc A ++ mc B := by simp [mc]
theorem mc_len : ∀ L : List Mb, (mc L).length = L.length * 3
  | [] => rfl
  | x :: L => by rw [mc_cons]; simp only [List.length_cons, mc_len L]; omega
theorem mc_get : ∀ (L : List Mb) (k : Nat) (x : Mb), L[k]? = some x → (mc L)[k * 3]? = some (.string x.id) ∧ (mc L)[k * 3 + 1]? = some (.int .i64 x.per) ∧ (mc L)[k * 3 + 2]? = some (.int .i64 x.age)
  | y :: L, 0, x, h => by
    obtain rfl : y = x := by simpa using h
    exact ⟨rfl, rfl, rfl⟩
  | y :: L, k + 1, x, h => by
    have := mc_get L k x (by simpa using h)
    rw [mc_cons, show (k + 1) * 3 = k * 3 + 1 + 1 + 1 by omega, show k * 3 + 1 + 1 + 1 + 1 = (k * 3 + 1) + 1 + 1 + 1 by omega, show k * 3 + 1 + 1 + 1 + 2 = (k * 3 + 2) + 1 + 1 + 1 by omega]
    simpa using this
theorem mc_take (L : List Mb) (k : Nat) : (mc L).take (k * 3) = mc (L.take k) := by
  induction L generalizing k with
  | nil => simp [mc]
  | cons x L ih =>
    cases k with
    | zero => simp [mc]
    | succ k => rw [mc_cons, show (k + 1) * 3 = k * 3 + 1 + 1 + 1 by omega, List.take_succ_cons, List.take_succ_cons, List.take_succ_cons, List.take_succ_cons, mc_cons, ih]
theorem mc_drop (L : List Mb) (k : Nat) : (mc L).drop (k * 3) = mc (L.drop k) := by
  induction L generalizing k with
  | nil => simp [mc]
  | cons x L ih =>
    cases k with
    | zero => simp
    | succ k => rw [mc_cons, show (k + 1) * 3 = k * 3 + 1 + 1 + 1 by omega, List.drop_succ_cons, List.drop_succ_cons, List.drop_succ_cons, List.drop_succ_cons, ih]
theorem mc_one (L : List Mb) : ∀ u ∈ mc L, u.oneCell' = true := by
  intro u hu
  obtain ⟨x, _, hx⟩ := List.mem_flatMap.1 hu
  simp only [List.mem_cons, List.not_mem_nil, or_false] at hx
  rcases hx with rfl | rfl | rfl <;> rfl
/-- The members' row. -/
abbrev MR (w : World) (base : Nat) (v : Value) (L : List Mb) : Prop := w.ownsRow base 43 3 v L.length (mc L)
theorem mr_form {w : World} {base : Nat} {v : Value} {L : List Mb} (h : MR w base v L) : ∃ a c, v = .slice a L.length c := by
  rcases h.2 with ⟨rfl, h0⟩ | ⟨g, cap, gc, rfl, _⟩
  · exact ⟨none, 0, by rw [h0]⟩
  · exact ⟨_, cap, rfl⟩
theorem mr_cells {w : World} {base c : Nat} {a : Option Addr} {L : List Mb} (h : MR w base (.slice a L.length c) L) {k : Nat} {x : Mb} (hx : L[k]? = some x) : ∃ g, a = some ⟨g, 0, none⟩ ∧ base ≤ g ∧ w.cell? ⟨g, k * 3, none⟩ = some (.string x.id) ∧ w.cell? ⟨g, k * 3 + 1, none⟩ = some (.int .i64 x.per) ∧ w.cell? ⟨g, k * 3 + 2, none⟩ = some (.int .i64 x.age) := by
  have hk := (List.getElem?_eq_some_iff.1 hx).1
  obtain ⟨e0, e1, e2⟩ := mc_get L k x hx
  rcases h.2 with ⟨_, h0⟩ | ⟨g, cap, gc, e, hb, hg, _, _, _, ht⟩
  · omega
  · obtain ⟨rfl, rfl⟩ : a = some ⟨g, 0, none⟩ ∧ c = cap := by simpa using e
    rw [← ht, List.getElem?_take_of_lt (by omega), Array.getElem?_toList] at e0 e1 e2
    exact ⟨g, rfl, hb, (cell_of_block hg _).trans e0, (cell_of_block hg _).trans e1, (cell_of_block hg _).trans e2⟩
def SB (w : World) (ps : Nat) (now : Int) (v : Value) : Prop := w.heap[ps]? = some (.cells #[.int .i64 now, v] 38 (0, 0))
theorem SB.c {w : World} {ps : Nat} {now : Int} {v : Value} (h : SB w ps now v) : w.cell? ⟨ps, 0, none⟩ = some (.int .i64 now) ∧ w.cell? ⟨ps, 1, none⟩ = some v ∧ w.frozen? ⟨ps, 0, none⟩ = false ∧ w.frozen? ⟨ps, 1, none⟩ = false :=
  ⟨(cell_of_block h 0).trans rfl, (cell_of_block h 1).trans rfl, free_of_block h 0, free_of_block h 1⟩
theorem SB.fr {w w' : World} {ps : Nat} {now : Int} {v : Value} {S : Nat → Prop} (h : SB w ps now v) (F : Fr S w w') (hS : ¬ S ps) : SB w' ps now v := (F.block ps (lt_of_block h) hS).trans h
theorem SB.set0 {w : World} {ps : Nat} {now : Int} {v : Value} (h : SB w ps now v) (n' : Int) : SB (w.setCell ⟨ps, 0, none⟩ (.int .i64 n')) ps n' v := (block_setCell h 0 _).trans rfl
theorem SB.set1 {w : World} {ps : Nat} {now : Int} {v : Value} (h : SB w ps now v) (v' : Value) : SB (w.setCell ⟨ps, 1, none⟩ v') ps now v' := (block_setCell h 1 _).trans rfl
/-- A schedule. -/
structure Sd (w : World) (base ps : Nat) (now : Int) (v : Value) (L : List Mb) : Prop where
  blk : SB w ps now v
  own : MR w base v L
  ne : v.ownBlock ≠ some ps
  b : base ≤ ps
theorem Sd.fr {w w' : World} {base ps : Nat} {now : Int} {v : Value} {L : List Mb} {S : Nat → Prop} (h : Sd w base ps now v L) (F : Fr S w w') (h1 : ¬ S ps) (h2 : ∀ k, v.ownBlock = some k → ¬ S k) : Sd w' base ps now v L :=
  ⟨h.blk.fr F h1, F.own h.own h2, h.ne, h.b⟩
theorem Sd.ext {w w' : World} {base ps : Nat} {now : Int} {v : Value} {L : List Mb} (h : Sd w base ps now v L) (F : Fr (fun _ => False) w w') : Sd w' base ps now v L := h.fr F (fun h => h) (fun _ _ h => h)

theorem less_eq : ∀ a b : List UInt8, Op.bytesLess a b = false → Op.bytesLess b a = false → a = b
  | [], [], _, _ => rfl
  | [], y :: b, h, _ => by simp [Op.bytesLess] at h
  | x :: a, [], _, h => by simp [Op.bytesLess] at h
  | x :: a, y :: b, h1, h2 => by
    simp only [Op.bytesLess, Bool.or_eq_false_iff, decide_eq_false_iff_not, Bool.and_eq_false_iff, beq_eq_false_iff_ne] at h1 h2
    obtain ⟨l1, r1⟩ := h1
    obtain ⟨l2, r2⟩ := h2
    have e : x = y := by
      have h1 : ¬ x.toNat < y.toNat := fun h => l1 (UInt8.lt_iff_toNat_lt.2 h)
      have h2 : ¬ y.toNat < x.toNat := fun h => l2 (UInt8.lt_iff_toNat_lt.2 h)
      exact UInt8.toNat_inj.1 (by omega)
    subst e
    rcases r1 with h | r1
    · exact absurd rfl h
    rcases r2 with h | r2
    · exact absurd rfl h
    rw [less_eq a b r1 r2]
set_option maxRecDepth 100000 in
theorem nan_any (s : ByteArray) (w : World) : Calls Try.prog 20 #[.string s] w fun e w' => e = .returned (.bool false) ∧ w = w' := by
  have h1 : (s.toList == s.toList) = true := beq_self_eq_true _
  go_enter Try.func20, Try.ntmps20
  go_wp2_with fail
  go_ret
  exact ⟨rfl, rfl⟩
set_option maxRecDepth 100000 in
theorem cmp_any (s t : ByteArray) (w : World) : Calls Try.prog 17 #[.string s, .string t] w fun e w' => (∃ r : Int, e = .returned (.int .i64 r) ∧ (r = 0 → s.toList = t.toList)) ∧ w = w' := by
  by_cases h1 : Op.bytesLess s.toList t.toList = true
  · go_enter Try.func17, Try.ntmps17
    go_wp2_with fail
    refine (nan_any s w).mono ?_
    rintro e w1 ⟨rfl, rfl⟩
    go_wp2_with fail
    refine (nan_any t w).mono ?_
    rintro e w1 ⟨rfl, rfl⟩
    go_wp2_with fail
    go_ret
    exact ⟨⟨-1, rfl, fun h => absurd h (by decide)⟩, rfl⟩
  have h1' : Op.bytesLess s.toList t.toList = false := by simpa using h1
  clear h1
  by_cases h2 : (s.toList == t.toList) = true
  · have HE := Lib.hid h2
    have hg : ∀ W : World, (binOp .gtr 9 (.string s) (.string t)).run Try.prog W = .ok (.bool false) W := fun W => by simp [binOp, Op.stringOp, h1', h2]
    clear h2
    go_enter Try.func17, Try.ntmps17
    go_wp2_with fail
    refine (nan_any s w).mono ?_
    rintro e w1 ⟨rfl, rfl⟩
    go_wp2_with fail
    refine (nan_any t w).mono ?_
    rintro e w1 ⟨rfl, rfl⟩
    go_wp2_with fail
    go_ret
    exact ⟨⟨0, rfl, fun _ => eq_of_beq HE.out⟩, rfl⟩
  have h2' : (s.toList == t.toList) = false := by simpa using h2
  have hg : ∀ W : World, (binOp .gtr 9 (.string s) (.string t)).run Try.prog W = .ok (.bool true) W := fun W => by simp [binOp, Op.stringOp, h1', h2']
  clear h2 h2'
  go_enter Try.func17, Try.ntmps17
  go_wp2_with fail
  refine (nan_any s w).mono ?_
  rintro e w1 ⟨rfl, rfl⟩
  go_wp2_with fail
  refine (nan_any t w).mono ?_
  rintro e w1 ⟨rfl, rfl⟩
  go_wp2_with fail
  go_ret
  exact ⟨⟨1, rfl, fun h => absurd h (by decide)⟩, rfl⟩
set_option maxRecDepth 100000 in
theorem clos_any (s t : ByteArray) (p a : Int) (w : World) : Calls Try.prog 16 #[.agg #[.string s, .int .i64 p, .int .i64 a], .string t] w fun e w' => (∃ r : Int, e = .returned (.int .i64 r) ∧ (r = 0 → s.toList = t.toList)) ∧ Fr (fun _ => False) w w' := by
  have c0 : (w.alloc (.cells #[.string s, .int .i64 p, .int .i64 a] 43)).cell? ⟨w.heap.size, 0, none⟩ = some (.string s) := (cell_of_block (heap_alloc_new w _) 0).trans rfl
  have F := Lib.hid ((Fr.refl (fun _ => False) w).alloc (.cells #[.string s, .int .i64 p, .int .i64 a] 43))
  go_enter Try.func16, Try.ntmps16
  go_wp2_with fail
  refine (cmp_any s t _).mono ?_
  rintro e w1 ⟨⟨r, rfl, hr⟩, rfl⟩
  have HR := Lib.hid hr
  clear hr
  go_wp2_with fail
  go_ret
  exact ⟨⟨r, rfl, HR.out⟩, F.out⟩
end Go.Proofs.Ytcpapielklplcaa

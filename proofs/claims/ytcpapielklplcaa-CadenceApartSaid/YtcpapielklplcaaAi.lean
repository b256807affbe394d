/-
  A schedule of any length: a tick.
-/
import Derived.Test.YtcpapielklplcaaAf
namespace Go.Proofs.Ytcpapielklplcaa
open Go.RowKit
set_option linter.unusedVariables false
set_option linter.unusedSimpArgs false
/-- One tick older; due. -/
def gr (m : Mb) : Mb := ⟨m.id, m.per, if m.age < 9223372036854775807 then m.age + 1 else m.age⟩
def dueM (m : Mb) : Bool := m.age.tmod m.per == 0
def dueL (L : List Mb) : List ByteArray := ((L.map gr).filter dueM).map (·.id)
def sv (l : List ByteArray) : List Value := l.map Value.string
def tk (L : List Mb) (k : Nat) : List Mb := (L.take k).map gr ++ L.drop k
def Good (L : List Mb) : Prop := ∀ x ∈ L, 1 ≤ x.per ∧ x.per ≤ 1000 ∧ 0 ≤ x.age ∧ x.age ≤ 9223372036854775807
theorem Good.gr {L : List Mb} (h : Good L) : Good (L.map gr) := by
  intro x hx
  obtain ⟨y, hy, rfl⟩ := List.mem_map.1 hx
  obtain ⟨h1, h2, h3, h4⟩ := h y hy
  refine ⟨h1, h2, ?_, ?_⟩ <;> (show _ ≤ _; unfold Go.Proofs.Ytcpapielklplcaa.gr; simp only; split <;> omega)
theorem tk_len (L : List Mb) (k : Nat) : (tk L k).length = L.length := by
  simp only [tk, List.length_append, List.length_map, List.length_take, List.length_drop]; omega
theorem tk_get {L : List Mb} {k : Nat} {m : Mb} (h : L[k]? = some m) : (tk L k)[k]? = some m := by
  have hk := (List.getElem?_eq_some_iff.1 h).1
  unfold tk
  rw [List.getElem?_append_right (by simp; omega), List.length_map, List.length_take, Nat.min_eq_left (by omega), Nat.sub_self, List.getElem?_drop, Nat.add_zero, h]
theorem take_snoc {L : List Mb} {k : Nat} {m : Mb} (h : L[k]? = some m) : L.take (k + 1) = L.take k ++ [m] := by
  rw [List.take_add_one, h]; rfl
theorem tk_succ {L : List Mb} {k : Nat} {m : Mb} (h : L[k]? = some m) : (tk L k).set k (gr m) = tk L (k + 1) := by
  have hk := (List.getElem?_eq_some_iff.1 h).1
  have hd : L.drop k = m :: L.drop (k + 1) := by
    rw [List.drop_eq_getElem_cons hk]
    congr 1
    have := (List.getElem?_eq_some_iff.1 h).2
    exact this
  unfold tk
  rw [List.set_append_right _ _ (by simp; omega), List.length_map, List.length_take, Nat.min_eq_left (by omega), Nat.sub_self, hd, List.set_cons_zero, take_snoc h, List.map_append, List.append_assoc]
  rfl
theorem due_succ {L : List Mb} {k : Nat} {m : Mb} (h : L[k]? = some m) : dueL (L.take (k + 1)) = dueL (L.take k) ++ (if dueM (gr m) = true then [m.id] else []) := by
  unfold dueL
  rw [take_snoc h, List.map_append, List.filter_append, List.map_append]
  congr 1
  show (List.filter dueM [gr m]).map (·.id) = _
  rw [List.filter_cons]
  split <;> rfl
theorem mc_set : ∀ (A : List Mb) (k : Nat) (m : Mb), A[k]? = some m → ∀ a' : Int, (mc A).set (k * 3 + 2) (.int .i64 a') = mc (A.set k ⟨m.id, m.per, a'⟩)
  | y :: A, 0, m, h, a' => by
    obtain rfl : y = m := by simpa using h
    rfl
  | y :: A, k + 1, m, h, a' => by
    have ih := mc_set A k m (by simpa using h) a'
    rw [mc_cons, show (k + 1) * 3 + 2 = (k * 3 + 2) + 1 + 1 + 1 by omega, List.set_cons_succ, List.set_cons_succ, List.set_cons_succ, ih]
    rfl
theorem mr_set {w : World} {base g c n k : Nat} {A : List Mb} {m : Mb} (h : w.ownsRow base 43 3 (.slice (some ⟨g, 0, none⟩) n c) A.length (mc A)) (hm : A[k]? = some m) (a' : Int) : (w.setCell ⟨g, k * 3 + 2, none⟩ (.int .i64 a')).ownsRow base 43 3 (.slice (some ⟨g, 0, none⟩) n c) A.length (mc (A.set k ⟨m.id, m.per, a'⟩)) := by
  have hl : (A.set k ⟨m.id, m.per, a'⟩).length = A.length := List.length_set
  rcases h.2 with ⟨e, _⟩ | ⟨g2, cap, cur, e, hb, hg, hnc, hcm, hcs, ht⟩
  · simp at e
  · obtain ⟨rfl, e2, rfl⟩ : g = g2 ∧ n = A.length ∧ c = cap := by simpa using e
    refine ⟨by rw [mc_len, hl], .inr ⟨g, c, _, by rw [e2], hb, block_setCell hg _ _, hnc, hcm, by rw [Array.size_setIfInBounds]; exact hcs, ?_⟩⟩
    rw [Array.toList_setIfInBounds, List.take_set, ht]
    exact mc_set A k m hm a'
set_option maxRecDepth 100000 in
set_option maxHeartbeats 1600000 in
theorem grow_row {w : World} {base g c n k : Nat} {A : List Mb} {m : Mb} (h : w.ownsRow base 43 3 (.slice (some ⟨g, 0, none⟩) n c) A.length (mc A)) (hn : n = A.length) (hm : A[k]? = some m) (a0 : 0 ≤ m.age) (a1 : m.age ≤ 9223372036854775807) : Calls Try.prog 13 #[.pointer (some ⟨g, k * 3, none⟩)] w fun e w' => e = .returned (.tuple #[]) ∧ w'.ownsRow base 43 3 (.slice (some ⟨g, 0, none⟩) n c) A.length (mc (A.set k (gr m))) ∧ Fr (fun b => b = g) w w' := by
  subst hn
  obtain ⟨g2, e, hb, c0, c1, c2⟩ := mr_cells h hm
  obtain rfl : g = g2 := by simpa using e
  have f2 : w.frozen? ⟨g, k * 3 + 2, none⟩ = false := by
    rcases h.2 with ⟨e, _⟩ | ⟨g2, cap, cur, e, hb, hg, _⟩
    · simp at e
    · obtain ⟨rfl, _⟩ : g = g2 ∧ c = cap := by simpa using e
      exact free_of_block hg _
  obtain ⟨mi, mp, ma⟩ := m
  simp only at c0 c1 c2 a0 a1
  have hms : ∀ a', gr ⟨mi, mp, ma⟩ = ⟨mi, mp, a'⟩ → (A.set k (gr ⟨mi, mp, ma⟩)) = A.set k ⟨mi, mp, a'⟩ := fun a' e => by rw [e]
  by_cases hlt : ma < 9223372036854775807
  · have m1 : wrap64 (ma + 1) = ma + 1 := IntWalk.wrap64_in _ (by omega)
    have e1 : gr ⟨mi, mp, ma⟩ = ⟨mi, mp, ma + 1⟩ := by simp [gr, hlt]
    have HM := Lib.hid (mr_set h hm (ma + 1))
    have HE := Lib.hid (hms _ e1)
    clear h hm e1 hms c0 c1 e
    go_enter Try.func13, Try.ntmps13
    go_wp2_with fail
    go_end0
    refine ⟨rfl, ?_, Fr.setCell (S := fun k => k = g) (Fr.refl _ w) (Or.inl rfl) _⟩
    rw [HE.out]
    exact HM.out
  · have e1 : gr ⟨mi, mp, ma⟩ = ⟨mi, mp, ma⟩ := by simp [gr, hlt]
    have e2 : A.set k ⟨mi, mp, ma⟩ = A := by
      apply List.ext_getElem?
      intro j
      by_cases hj : j = k
      · subst hj; rw [List.getElem?_set_self (List.getElem?_eq_some_iff.1 hm).1, hm]
      · rw [List.getElem?_set_ne (fun e => hj e.symm)]
    have HM := Lib.hid h
    have HE := Lib.hid ((hms _ e1).trans e2)
    clear h hm e1 e2 hms c0 c1 e
    go_enter Try.func13, Try.ntmps13
    go_wp2_with fail
    go_end0
    refine ⟨rfl, ?_, Fr.refl _ w⟩
    rw [HE.out]
    exact HM.out
set_option maxRecDepth 100000 in
set_option maxHeartbeats 1600000 in
theorem due_row (g off : Nat) (p a r : Int) (hp : 1 ≤ p) (hr : a.tmod p = r) (w : World) (q1 : w.cell? ⟨g, off + 1, none⟩ = some (.int .i64 p)) (q2 : w.cell? ⟨g, off + 2, none⟩ = some (.int .i64 a)) : Calls Try.prog 14 #[.pointer (some ⟨g, off, none⟩)] w fun e w' => e = .returned (.bool (r == 0)) ∧ Fr (fun _ => False) w w' := by
  have hp0 : ¬ (p = 0) := by omega
  have c1 : ∀ y : Wd w, y.w.cell? ⟨g, off + 1, none⟩ = some (.int .i64 p) := fun y => y.h.cellSome (fun h => h) q1
  have c2 : ∀ y : Wd w, y.w.cell? ⟨g, off + 2, none⟩ = some (.int .i64 a) := fun y => y.h.cellSome (fun h => h) q2
  clear q1 q2 hp
  go_enter Try.func14, Try.ntmps14
  go_wp2_with fail
  refine wp_region_keep (by kernel_rfl) (by kernel_rfl) ?_
  repeat (any_goals (first | go_big_quiet_step (fail) | quiet_step (fail)))
  refine wpQuiet_nil ?_
  intro _ hwz
  obtain ⟨y, rfl⟩ := hwz
  have HF := Lib.hid y.h
  go_wp2_with fail
  go_ret
  exact ⟨rfl, HF.out⟩
end Go.Proofs.Ytcpapielklplcaa

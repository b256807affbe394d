/-
  Who is due, whoever else is there: lists.
-/
import Derived.Test.YtcpapielklplcaaAj
namespace Go.Proofs.Ytcpapielklplcaa
open Go.RowKit
set_option linter.unusedVariables false
set_option linter.unusedSimpArgs false
/-- The one that is looked at. -/
def isM (s : ByteArray) : Bool := s.toList == [109]
structure RR (A B : List Mb) : Prop where
  ga : Good A
  gb : Good B
  la : A.length ≤ 1
  two : (A = [] ∧ ∀ x ∈ B, isM x.id = false) ∨ (∃ m, A = [m] ∧ isM m.id = true ∧ m ∈ B ∧ ∀ x ∈ B, isM x.id = true → x = m)
theorem ins_mem {L : List Mb} {i : Nat} {x y : Mb} : y ∈ ins L i x ↔ y = x ∨ y ∈ L := by
  unfold ins
  constructor
  · intro h
    rcases List.mem_append.1 h with h | h
    · exact .inr (List.mem_of_mem_take h)
    · rcases List.mem_cons.1 h with h | h
      · exact .inl h
      · exact .inr (List.mem_of_mem_drop h)
  · rintro (rfl | h)
    · exact List.mem_append_right _ (List.mem_cons_self ..)
    · rw [← List.take_append_drop i L] at h
      rcases List.mem_append.1 h with h | h
      · exact List.mem_append_left _ h
      · exact List.mem_append_right _ (List.mem_cons_of_mem _ h)
theorem RR.ins {A B : List Mb} (R : RR A B) (i : Nat) (x : Mb) (hx : isM x.id = false) (p1 : 1 ≤ x.per) (p2 : x.per ≤ 1000) (a0 : 0 ≤ x.age) (a1 : x.age ≤ 9223372036854775807) : RR A (ins B i x) := by
  refine ⟨R.ga, fun y hy => ?_, R.la, ?_⟩
  · rcases ins_mem.1 hy with rfl | h
    · exact ⟨p1, p2, a0, a1⟩
    · exact R.gb y h
  · rcases R.two with ⟨e, h⟩ | ⟨m, e, hm, hmb, hu⟩
    · refine .inl ⟨e, fun y hy => ?_⟩
      rcases ins_mem.1 hy with rfl | h2
      · exact hx
      · exact h y h2
    · refine .inr ⟨m, e, hm, ins_mem.2 (.inr hmb), fun y hy h2 => ?_⟩
      rcases ins_mem.1 hy with rfl | h3
      · rw [hx] at h2; cases h2
      · exact hu y h3 h2
theorem RR.era {A B : List Mb} (R : RR A B) (k : Nat) (n : Mb) (hk : B[k]? = some n) (hn : isM n.id = false) : RR A (B.eraseIdx k) := by
  refine ⟨R.ga, fun y hy => R.gb y (List.mem_of_mem_eraseIdx hy), R.la, ?_⟩
  rcases R.two with ⟨e, h⟩ | ⟨m, e, hm, hmb, hu⟩
  · exact .inl ⟨e, fun y hy => h y (List.mem_of_mem_eraseIdx hy)⟩
  · refine .inr ⟨m, e, hm, ?_, fun y hy h2 => hu y (List.mem_of_mem_eraseIdx hy) h2⟩
    obtain ⟨j, hj⟩ := List.mem_iff_getElem?.1 hmb
    have hjk : j ≠ k := fun e2 => by
      subst e2
      rw [hj] at hk
      injection hk with hk
      rw [hk, hn] at hm
      cases hm
    rw [List.mem_iff_getElem?]
    rcases Nat.lt_or_gt_of_ne hjk with h | h
    · exact ⟨j, by rw [List.getElem?_eraseIdx_of_lt h, hj]⟩
    · exact ⟨j - 1, by rw [List.getElem?_eraseIdx_of_ge (by omega), show j - 1 + 1 = j by omega, hj]⟩
theorem RR.tick {A B : List Mb} (R : RR A B) : RR (A.map gr) (B.map gr) := by
  refine ⟨R.ga.gr, R.gb.gr, by rw [List.length_map]; exact R.la, ?_⟩
  rcases R.two with ⟨e, h⟩ | ⟨m, e, hm, hmb, hu⟩
  · refine .inl ⟨by rw [e]; rfl, fun y hy => ?_⟩
    obtain ⟨z, hz, rfl⟩ := List.mem_map.1 hy
    exact h z hz
  · refine .inr ⟨gr m, by rw [e]; rfl, hm, List.mem_map_of_mem hmb, fun y hy h2 => ?_⟩
    obtain ⟨z, hz, rfl⟩ := List.mem_map.1 hy
    rw [hu z hz h2]
theorem RR.due {A B : List Mb} (R : RR A B) : (dueL B).any isM = ((dueL A).length == 1) := by
  have hany : (dueL B).any isM = true ↔ ∃ x ∈ B, dueM (gr x) = true ∧ isM x.id = true := by
    unfold dueL
    rw [List.any_eq_true]
    constructor
    · rintro ⟨s, hs, h⟩
      obtain ⟨y, hy, rfl⟩ := List.mem_map.1 hs
      obtain ⟨hy1, hy2⟩ := List.mem_filter.1 hy
      obtain ⟨z, hz, rfl⟩ := List.mem_map.1 hy1
      exact ⟨z, hz, hy2, h⟩
    · rintro ⟨x, hx, h1, h2⟩
      exact ⟨(gr x).id, List.mem_map_of_mem (List.mem_filter.2 ⟨List.mem_map_of_mem hx, h1⟩), h2⟩
  rcases R.two with ⟨rfl, h⟩ | ⟨m, rfl, hm, hmb, hu⟩
  · have : ¬ ((dueL B).any isM = true) := fun h2 => by
      obtain ⟨x, hx, _, h3⟩ := hany.1 h2
      rw [h x hx] at h3; cases h3
    rw [Bool.not_eq_true] at this
    rw [this]; rfl
  · cases hd : dueM (gr m) with
    | true =>
      have e1 : dueL [m] = [m.id] := by
        show (List.filter dueM [gr m]).map (·.id) = _
        rw [List.filter_cons, hd]; rfl
      rw [hany.2 ⟨m, hmb, hd, hm⟩, e1]; rfl
    | false =>
      have e1 : dueL [m] = [] := by
        show (List.filter dueM [gr m]).map (·.id) = _
        rw [List.filter_cons, hd]; rfl
      have : ¬ ((dueL B).any isM = true) := fun h2 => by
        obtain ⟨x, hx, h3, h4⟩ := hany.1 h2
        rw [hu x hx h4, hd] at h3; cases h3
      rw [Bool.not_eq_true] at this
      rw [this, e1]; rfl
end Go.Proofs.Ytcpapielklplcaa

/-
  What is kept by the program, and by the document: lists turned about. Plain.
-/
import Derived.Test.YtkigdgkklninoaaWr2
namespace Go.Proofs.Ytkigdgkklninoaa
open Go.RowKit
set_option linter.unusedVariables false
set_option linter.unusedSimpArgs false
def pr (x : ByteArray × ByteArray) : List UInt8 × ByteArray := (x.1.toList, x.2)
abbrev PL := List (List UInt8 × ByteArray)
/-- Related: the document's is the program's, turned about; no name twice. -/
structure Rl (L M : List (ByteArray × ByteArray)) : Prop where
  eq : M.map pr = (L.map pr).reverse
  nd : (L.map fun x => x.1.toList).Nodup
theorem Rl.nil : Rl [] [] := ⟨rfl, List.nodup_nil⟩
theorem Rl.len {L M : List (ByteArray × ByteArray)} (h : Rl L M) : M.length = L.length := by
  have := congrArg List.length h.eq
  simpa using this
theorem Rl.at_ {L M : List (ByteArray × ByteArray)} (h : Rl L M) (j : Nat) (x y : ByteArray × ByteArray) (hx : L.reverse[j]? = some x) (hy : M[j]? = some y) : (x.1.toList == y.1.toList) = true := by
  have e := congrArg (fun l => l[j]?) h.eq
  simp only [List.getElem?_map, ← List.map_reverse, hx, hy, Option.map_some, pr] at e
  injection e with e
  injection e with e1 e2
  rw [e1]; exact beq_self_eq_true _
def fil (u : List UInt8) (A : PL) : PL := A.filter fun p => !(p.1 == u)
theorem fil_era (u : List UInt8) : ∀ (A : PL) (k : Nat), (A.map (·.1)).Nodup → A.findIdx? (fun p => p.1 == u) = some k → A.eraseIdx k = fil u A
  | [], k, _, h => by simp at h
  | p :: A, k, hn, h => by
    have hn' : p.1 ∉ A.map (·.1) ∧ (A.map (·.1)).Nodup := List.nodup_cons.1 hn
    cases hp : (p.1 == u) with
    | true =>
      rw [List.findIdx?_cons, hp] at h
      obtain rfl : 0 = k := by simpa using h
      have e : p.1 = u := by simpa using hp
      have : fil u A = A := List.filter_eq_self.2 (fun q hq => by
        have : q.1 ≠ u := fun e2 => hn'.1 (by rw [e, ← e2]; exact List.mem_map_of_mem hq)
        simpa using this)
      show A = fil u (p :: A)
      unfold fil at this ⊢
      rw [List.filter_cons, if_neg (by simp [hp]), this]
    | false =>
      rw [List.findIdx?_cons, hp] at h
      simp only [Bool.false_eq_true, if_false, Option.map_eq_some_iff] at h
      obtain ⟨k', hk', rfl⟩ := h
      have ih := fil_era u A k' hn'.2 hk'
      rw [List.eraseIdx_cons_succ, ih]
      unfold fil
      rw [List.filter_cons, if_pos (by simp [hp])]
theorem fil_none (u : List UInt8) (A : PL) (h : A.findIdx? (fun p => p.1 == u) = none) : fil u A = A := by
  rw [List.findIdx?_eq_none_iff] at h
  exact List.filter_eq_self.2 (fun q hq => by simp [h q hq])
theorem fil_nd (u : List UInt8) {A : PL} (h : (A.map (·.1)).Nodup) : ((fil u A).map (·.1)).Nodup ∧ u ∉ (fil u A).map (·.1) := by
  refine ⟨h.sublist ((List.filter_sublist).map _), fun hm => ?_⟩
  obtain ⟨p, hp, e⟩ := List.mem_map.1 hm
  have := (List.mem_filter.1 hp).2
  rw [e] at this
  simp at this
def whB (u : List UInt8) (B : PL) (w : ByteArray) : ByteArray := B.foldl (fun w p => if p.1 == u then p.2 else w) w
theorem whB_all (u : List UInt8) (y : ByteArray) : ∀ (B : PL) (w : ByteArray), (∀ p ∈ B, (p.1 == u) = true → p.2 = y) → w = y → whB u B w = y
  | [], w, _, h => h
  | p :: B, w, h, hw => by
    show whB u B (if p.1 == u then p.2 else w) = y
    refine whB_all u y B _ (fun q hq => h q (List.mem_cons_of_mem _ hq)) ?_
    split
    · rename_i hp; exact h p (List.mem_cons_self ..) hp
    · exact hw
theorem whB_some (u : List UInt8) (y : ByteArray) : ∀ (B : PL) (w : ByteArray), (∀ p ∈ B, (p.1 == u) = true → p.2 = y) → (∃ p ∈ B, (p.1 == u) = true) → whB u B w = y
  | [], w, _, h => by obtain ⟨p, hp, _⟩ := h; cases hp
  | p :: B, w, h, hex => by
    show whB u B (if p.1 == u then p.2 else w) = y
    cases hp : (p.1 == u) with
    | true => exact whB_all u y B _ (fun q hq => h q (List.mem_cons_of_mem _ hq)) (h p (List.mem_cons_self ..) hp)
    | false =>
      refine whB_some u y B _ (fun q hq => h q (List.mem_cons_of_mem _ hq)) ?_
      obtain ⟨q, hq, e⟩ := hex
      rcases List.mem_cons.1 hq with rfl | hq
      · rw [hp] at e; cases e
      · exact ⟨q, hq, e⟩
theorem find_pr (s : ByteArray) (L : List (ByteArray × ByteArray)) : L.findIdx? (nm s) = (L.map pr).findIdx? (fun p => p.1 == s.toList) := by
  rw [List.findIdx?_map]; rfl
theorem wo_pr (s : ByteArray) (M : List (ByteArray × ByteArray)) : (wo s M).map pr = fil s.toList (M.map pr) := by
  unfold wo fil
  rw [List.filter_map]; rfl
theorem has_pr (s : ByteArray) (M : List (ByteArray × ByteArray)) : hasS s M = (M.map pr).any (fun p => p.1 == s.toList) := by
  unfold hasS
  rw [List.any_map]; rfl
theorem wh_pr (s : ByteArray) (M : List (ByteArray × ByteArray)) : whS s M = whB s.toList (M.map pr) ⟨#[]⟩ := by
  unfold whS whB
  rw [List.foldl_map]; rfl
theorem fil_rev (u : List UInt8) (A : PL) : fil u A.reverse = (fil u A).reverse := by unfold fil; rw [List.filter_reverse]
theorem key_map (L : List (ByteArray × ByteArray)) : (L.map pr).map (·.1) = L.map fun x => x.1.toList := by rw [List.map_map]; rfl
theorem era_map (L : List (ByteArray × ByteArray)) (k : Nat) : (L.eraseIdx k).map pr = (L.map pr).eraseIdx k := by
  rw [List.eraseIdx_eq_take_drop_succ, List.eraseIdx_eq_take_drop_succ, List.map_append, List.map_take, List.map_drop]
theorem cut_pr {L : List (ByteArray × ByteArray)} (s : ByteArray) (h : (L.map fun x => x.1.toList).Nodup) : (cutOf s L).map pr = fil s.toList (L.map pr) := by
  rw [← key_map] at h
  unfold cutOf
  split
  · rename_i k hk
    rw [find_pr] at hk
    rw [era_map, fil_era _ _ _ h hk]
  · rename_i hk
    rw [find_pr] at hk
    rw [fil_none _ _ hk]
theorem put_rl {L M : List (ByteArray × ByteArray)} (R : Rl L M) (sz : Nat) (h1 : 1 ≤ sz) (hl : L.length ≤ sz) (s t : ByteArray) : Rl (putL sz s t L) (dpL sz s t M) := by
  have hc := cut_pr s R.nd
  have hn := R.nd
  rw [← key_map] at hn
  have hfn := fil_nd s.toList hn
  have hcl := congrArg List.length hc
  rw [List.length_map] at hcl
  have hle : (cutOf s L).length ≤ sz := Nat.le_trans (cutOf_len s L) hl
  constructor
  · unfold dpL putL
    rw [List.map_take, List.map_cons, wo_pr, R.eq, fil_rev, ← hc, List.map_append, List.reverse_append]
    show ((s.toList, t) :: ((cutOf s L).map pr).reverse).take sz = _
    obtain ⟨n, rfl⟩ : ∃ n, sz = n + 1 := ⟨sz - 1, by omega⟩
    rw [List.take_succ_cons]
    show _ = (s.toList, t) :: (List.map pr (if (cutOf s L).length = n + 1 then (cutOf s L).eraseIdx 0 else cutOf s L)).reverse
    congr 1
    split
    · rename_i e
      rw [era_map]
      cases hx : (cutOf s L).map pr with
      | nil => rw [← List.length_map (f := pr), hx] at e; simp at e
      | cons x X =>
        have : X.length = n := by rw [← List.length_map (f := pr), hx] at e; simpa using e
        rw [List.reverse_cons, List.eraseIdx_cons_zero, List.take_append_of_le_length (by simp [this]), List.take_of_length_le (by simp [this])]
    · rw [List.take_of_length_le (by simp; omega)]
  · rw [← key_map]
    unfold putL
    rw [List.map_append, List.map_append, List.nodup_append]
    have hsub : (List.map (·.1) (List.map pr (if (cutOf s L).length = sz then (cutOf s L).eraseIdx 0 else cutOf s L))).Sublist (List.map (·.1) (fil s.toList (L.map pr))) := by
      rw [← hc]
      split
      · exact ((List.eraseIdx_sublist _ _).map _).map _
      · exact List.Sublist.refl _
    refine ⟨hfn.1.sublist hsub, by simp, fun a ha b hb => ?_⟩
    have hb2 : b = s.toList := by simpa [pr] using hb
    rw [hb2]
    intro e
    exact hfn.2 (by have h9 := hsub.subset ha; rw [e] at h9; exact h9)
theorem get_rl {L M : List (ByteArray × ByteArray)} (R : Rl L M) (s : ByteArray) : getB s L = hasS s M ∧ getV s L = dgV s M ∧ Rl (getL s L) (dgL s M) := by
  have hn := R.nd
  rw [← key_map] at hn
  have hany : hasS s M = (L.map pr).any (fun p => p.1 == s.toList) := by rw [has_pr, R.eq, List.any_reverse]
  cases hf : L.findIdx? (nm s) with
  | none =>
    have e1 : getB s L = false := by unfold getB; rw [hf]; rfl
    have e2 : getV s L = ⟨#[]⟩ := by unfold getV; rw [hf]
    have e3 : getL s L = L := by unfold getL; rw [hf]
    have hh : hasS s M = false := by
      rw [hany]
      rw [find_pr, List.findIdx?_eq_none_iff] at hf
      exact List.any_eq_false.2 (fun p hp => by simp [hf p hp])
    refine ⟨by rw [e1, hh], by rw [e2]; unfold dgV; rw [hh]; rfl, ?_⟩
    rw [e3]; unfold dgL; rw [hh]; exact R
  | some k =>
    obtain ⟨hk, k1, k2⟩ := List.findIdx?_eq_some_iff_getElem.1 hf
    have hx : L[k]? = some L[k] := List.getElem?_eq_getElem hk
    have hkey : L[k].1.toList = s.toList := by simpa [nm] using k1
    have e1 : getB s L = true := by unfold getB; rw [hf]; rfl
    have e2 : getV s L = L[k].2 := by unfold getV; rw [hf]; simp only [hx]; rfl
    have e3 : getL s L = L.eraseIdx k ++ [L[k]] := by unfold getL; rw [hf]; simp only [hx]; rfl
    have hmem : pr L[k] ∈ L.map pr := List.mem_map_of_mem (List.getElem_mem hk)
    have hh : hasS s M = true := by
      rw [hany]
      exact List.any_eq_true.2 ⟨pr L[k], hmem, by simp [pr, hkey]⟩
    have hw : whS s M = L[k].2 := by
      rw [wh_pr, R.eq]
      refine whB_some _ _ _ _ (fun p hp e => ?_) ⟨pr L[k], by simpa using hmem, by simp [pr, hkey]⟩
      have hp' : p ∈ L.map pr := by simpa using hp
      have e' : p.1 = (pr L[k]).1 := by
        have : p.1 = s.toList := by simpa using e
        rw [this]; exact hkey.symm
      obtain ⟨i, hi, rfl⟩ := List.getElem_of_mem hp'
      obtain ⟨j, hj, ej⟩ := List.getElem_of_mem hmem
      have hij : i = j := by
        have hi2 : i < ((L.map pr).map (·.1)).length := by simpa using hi
        have hj2 : j < ((L.map pr).map (·.1)).length := by simpa using hj
        have hpw := List.pairwise_iff_getElem.1 hn
        have hee : ((L.map pr).map (·.1))[i] = ((L.map pr).map (·.1))[j] := by
          have e3 : (List.map pr L)[i].1 = (pr L[k]).1 := e'
          have e4 : (List.map pr L)[j].1 = (pr L[k]).1 := by rw [ej]
          exact (List.getElem_map _).trans (e3.trans (e4.symm.trans (List.getElem_map _).symm))
        rcases Nat.lt_trichotomy i j with h | h | h
        · exact absurd hee (hpw i j hi2 hj2 h)
        · exact h
        · exact absurd hee.symm (hpw j i hj2 hi2 h)
      subst hij
      rw [ej]; rfl
    have hc : (L.eraseIdx k).map pr = fil s.toList (L.map pr) := by
      rw [era_map]
      refine fil_era _ _ _ hn ?_
      rw [← find_pr]; exact hf
    refine ⟨by rw [e1, hh], by rw [e2]; unfold dgV; rw [hh]; exact hw.symm, ?_⟩
    rw [e3]
    constructor
    · unfold dgL
      rw [hh, if_pos rfl, List.map_cons, wo_pr, R.eq, fil_rev, ← hc, hw, List.map_append, List.reverse_append]
      show (s.toList, L[k].2) :: _ = (L[k].1.toList, L[k].2) :: _
      rw [hkey]; rfl
    · rw [← key_map, List.map_append, List.map_append, hc, List.nodup_append]
      have hfn := fil_nd s.toList hn
      refine ⟨hfn.1, by simp, fun a ha b hb => ?_⟩
      have hb2 : b = L[k].1.toList := by simpa [pr] using hb
      rw [hb2, hkey]
      intro e
      exact hfn.2 (by have h9 := ha; rw [e] at h9; exact h9)
end Go.Proofs.Ytkigdgkklninoaa

/-
  The contract of Few of package custumalref01: the walk.
-/
import Derived.Test.YtjndkjgbplpfeaaDoorFw
namespace Go.Proofs.YtjndkjgbplpfeaaDoor
open Go.RowKit
set_option linter.unusedVariables false

/-- No more than some parts, of no more than some bytes each. -/
def fewL (L : List (List UInt8)) (m z : Nat) : List (List UInt8) := (L.take m).map fun l => l.take z
set_option maxRecDepth 100000 in
theorem fewL_get (L : List (List UInt8)) (m z k : Nat) (hk : k < m) (hL : k < L.length) : (fewL L m z).getD k [] = (L[k]).take z := by
  unfold fewL
  rw [List.getD_eq_getElem?_getD, List.getElem?_map, List.getElem?_take, if_pos hk, List.getElem?_eq_getElem hL]; rfl
set_option maxRecDepth 100000 in
theorem fewL_len (L : List (List UInt8)) (m z : Nat) : (fewL L m z).length = min m L.length := by unfold fewL; simp
set_option maxRecDepth 100000 in
theorem src_sl {w : World} {k : Nat} {a : Option Addr} {n c : Nat} {t : TypeId} {fr : Nat × Nat} (h : w.heap[k]? = some (.cells #[.slice a n c] t fr)) : Src Tryd.prog 1 22 (.slice (some ⟨k, 0, none⟩) 1 1) 1 [.slice a n c] w := by
  refine Src.ofSlice w Tryd.underlying22 _ _ _ _ (by simp) ?_ (by simp [Value.oneCell'])
  intro j u hj
  rw [addr_add, Nat.zero_add, cell_of_block h]
  match j, hj with
  | 0, hj => exact hj
set_option maxRecDepth 100000 in
set_option maxHeartbeats 1600000 in
theorem few_any (a : Option Addr) (L : List (List UInt8)) (n c m z : Nat) (M Z : Int) (hM : M = m) (hZ : Z = z) (hm16 : m ≤ 100) (hz16 : z ≤ 10000) (hn : L.length = n) (w : World) (h : Parts w a L) (hn2 : n ≤ maxLen) :
    Calls Tryd.prog 25 #[.slice a n c, .int .i64 M, .int .i64 Z] w fun e w' => ∃ a2 c2 A C, e = .returned (.slice a2 (min m n) c2) ∧ FewR w' w.heap.size (.slice a2 (min m n) c2) A C (fewL L m z) (min m n) ∧ Fr (fun _ => False) w w' := by
  subst hM
  subst hZ
  have hn3 : n ≤ 9223372036854775807 := by unfold maxLen at hn2; omega
  obtain ⟨iS, s1, s2, s3, s4⟩ := info_parts Tryd.infoS
  go_enter Tryd.func25, Tryd.ntmps25
  go_wp2_with fail
  go_loopw [7, 8] (fun v i wr => ∃ k : Nat, k ≤ min m n ∧ i = .int .i64 k ∧ (∃ A C, FewR wr w.heap.size v A C (fewL L m z) k) ∧ Fr (fun _ => False) w wr) (fun _ i _ => n - (intOf i).toNat)
  case atStart => exact ⟨0, by omega, by simp, ⟨fun _ => none, fun _ => 0, FewR.zero _ _ _ _ _⟩, Fr.refl _ _⟩
  case round =>
    obtain ⟨k, hk, rfl, ⟨A, C, hR⟩, hF⟩ := hrel
    obtain ⟨a7, c7, rfl⟩ := ownsRow_slice hR.row
    by_cases hlt : k < min m n
    · have hkL : k < L.length := by omega
      have hP := fewL_get L m z k (by omega) hkL
      obtain ⟨p, hp⟩ : ∃ p, p = L[k]'hkL := ⟨_, rfl⟩
      obtain ⟨g, o, ha, hc⟩ := h.resolve_left (fun e => by rw [e] at hn; simp at hn; omega)
      obtain ⟨aj, cj, h1, h2, h3, h4⟩ := hc k hkL
      rw [← hp] at h1 h2 h3 hP
      clear hp
      subst ha
      have h1' := hF.cellSome (p := ⟨g, o + k, none⟩) (fun h => h) h1
      have hpn : p.length ≤ 9223372036854775807 := by unfold maxLen at h4; omega
      obtain ⟨q, hq⟩ : ∃ q, q = min z p.length := ⟨_, rfl⟩
      have hqi : min (p.length : Int) (z : Int) = (q : Int) := by omega
      have hql : (p.take z).length = q := by simp; omega
      have hlies := (h2.take z).grow hF
      generalize hpl : p.take z = x at hP hql hlies
      clear hpl
      have hqc : (q : Int) ≤ (cj : Int) := by omega
      have hqz : q ≤ 10000 := by omega
      have hq0 : (0 : Int) ≤ (q : Int) := by omega
      have hcj : (cj : Int) ≤ 9223372036854775807 := by unfold maxLen at h4; omega
      have q0 : (0 : Int) ≤ (k : Int) := by omega
      have q1 : (k : Int) < (n : Int) := by omega
      have q2 : (k : Int) < (m : Int) := by omega
      generalize p.length = pn at *
      have HP := Lib.hid hP
      have Hq := Lib.hid hq
      have HR := Lib.hid hR
      have HQ := Lib.hid hql
      clear hP hq hR hql
      have hBz := hF.size
      have hgw : g < w.heap.size := World.block_lt_of_cell? w _ h1
      have hgB : ¬ ((Value.slice a7 k c7).ownBlock = some g) := fun e => by have := (ownsRow_lt HR.out.row g e).1; omega
      have hsrc : ∀ ob, Src Tryd.prog 1 35 (.slice aj q cj) x.length (bv x) (wr.drew.alloc ob) := fun ob => by
        have := (hlies.grow (((Fr.refl (fun _ => False) wr).drew).alloc ob)).src cj
        rw [HQ.out] at this ⊢
        exact this
      have own0 : Own (wr.drew.alloc (.cells #[] 5)) wr.heap.size (.slice (some ⟨wr.heap.size, 0, none⟩) 0 0) [] := Or.inr ⟨wr.heap.size, 0, #[], (0, 0), rfl, Nat.le_refl _, heap_alloc_new wr.drew _, Or.inl rfl, Nat.le_refl _, Nat.zero_le _, rfl, rfl⟩
      have hb1 : ([] : List UInt8).length + x.length ≤ 140737488355328 := by rw [HQ.out]; simp; omega
      have hz1 : wr.heap.size ≤ (wr.drew.alloc (.cells #[] 5)).heap.size := by simp
      clear hlies
      go_wp2_with fail
      go_region_held3 (fun w' => w'.cell? ⟨g, o + k, none⟩ = some (.slice aj pn cj))
        (first
          | go_keep
          | (exact F3.cellSome (p := ⟨g, o + k, none⟩) hgB h1')
          | (exact F2.cellSome (p := ⟨g, o + k, none⟩) (fun h => h) h1'))
        (first
          | (refine wp_own _ (.tmp 21) (.tmp 33) 35 rfl wr.heap.size (.slice (some ⟨wr.heap.size, 0, none⟩) 0 0) [] x rfl own0 (.slice aj q cj) rfl (hsrc _) hb1 hz1 ?_
             intro v2 w2 own2 hg2 hb2
             have F2 : Fr (fun _ => False) wr w2 := (((Fr.refl (fun _ => False) wr).drew).alloc _).trans (Fr.ofGrown hg2) (fun i hi => Or.inr (by have := Option.some.inj hi; simp at this; omega))
             rw [List.nil_append] at own2
             obtain ⟨a2, c2, rfl⟩ := own2.slice)
          | (refine wp_appF (.tmp 20) (.tmp 35) 22 22 rfl w.heap.size 35 iS (.slice none 0 0) 1 24 Tryd.underlying22 s1 s2 s3 s4 rfl (by decide) (.slice a7 k c7) k (sls A C (fewL L m z) k) rfl ((F2.alloc _).own HR.out.row (fun _ _ h => h)) (.slice (some ⟨w2.heap.size, 0, none⟩) 1 1) rfl 1 [.slice a2 x.length c2] (src_sl (heap_alloc_new w2 _)) (by unfold maxLen; omega) (by omega) (by have := F2.size; simp; omega) ?_
             intro v3 w3 own3 hg3 hb3
             have F3 : Fr (fun b => (Value.slice a7 k c7).ownBlock = some b) wr w3 := ((F2.mono (T := fun b => (Value.slice a7 k c7).ownBlock = some b) (fun _ _ h => h.elim)).alloc _).trans (Fr.ofGrown hg3) (fun i hi => Or.inl hi)))
      all_goals
        have hlt7 := ownsRow_lt HR.out.row
        have G3 : Fr (fun _ => False) w w3 := hF.trans F3 (fun i hi => Or.inr (hlt7 i hi).1)
        have O3 : Own w3 w.heap.size (.slice a2 x.length c2) x := ((own2.fr (((Fr.refl (fun _ => False) w2)).alloc _) (fun _ _ h => h)).fr (Fr.ofGrown hg3) (fun b hb hb2 => by have := (own2.lt b hb).1; have := (hlt7 b hb2).2; omega)).up hBz
        rw [← HP.out] at O3 own3
        have R3 := HR.out.step F2.size hBz F3 O3 (fun b hb => own2.lt b (by rw [ob_own]; exact hb)) own3 (hb3.imp id (fun h => ⟨_, h, by simp⟩))
        have H3 := Lib.hid R3
        clear R3 O3 own3 own2 hg2 hb2 hg3 hb3 HR hF F2 F3 h1 h1' hsrc own0 hlt7 HP
        go_wp2
        go_roundw
        case rel => exact ⟨k + 1, by omega, by go_num, ⟨_, _, H3.out⟩, G3⟩
        case measure => simp [intOf]; omega
    · obtain rfl : k = min m n := by omega
      have HR := Lib.hid hR
      clear hR
      by_cases hmn : m < n
      · have q1 : ((min m n : Nat) : Int) < (n : Int) := by omega
        have q2 : ¬ ((min m n : Nat) : Int) < (m : Int) := by omega
        go_wp2
        go_ret
        exact ⟨_, _, rfl, ⟨A, C, HR.out⟩, hF⟩
      · have q1 : ¬ ((min m n : Nat) : Int) < (n : Int) := by omega
        go_wp2
        go_ret
        exact ⟨_, _, rfl, ⟨A, C, HR.out⟩, hF⟩
end Go.Proofs.YtjndkjgbplpfeaaDoor



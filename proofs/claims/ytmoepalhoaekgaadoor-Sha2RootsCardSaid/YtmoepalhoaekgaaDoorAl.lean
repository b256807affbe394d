/-
  The contracts of All and Few of package custumalref01.
-/
import Derived.Test.YtmoepalhoaekgaaDoorSz
namespace Go.Proofs.YtmoepalhoaekgaaDoor
open Go.RowKit
set_option linter.unusedVariables false

set_option maxRecDepth 100000 in
set_option maxHeartbeats 1600000 in
theorem all_any (a : Option Addr) (L : List (List UInt8)) (n c : Nat) (hn : L.length = n) (w : World) (h : Parts w a L) (hn2 : n ≤ maxLen) (hl : L.flatten.length ≤ 100000000000) :
    Calls Tryd.prog 13 #[.slice a n c] w fun e w' => e = .returned (.string ⟨L.flatten.toArray⟩) ∧ Fr (fun _ => False) w w' := by
  have hn3 : n ≤ 9223372036854775807 := by unfold maxLen at hn2; omega
  go_enter Tryd.func13, Tryd.ntmps13
  go_wp2_with fail
  go_loopw [3, 4] (fun v i wr => ∃ k : Nat, k ≤ n ∧ i = .int .i64 k ∧ Own wr w.heap.size v (L.take k).flatten ∧ Fr (fun _ => False) w wr) (fun _ i _ => n - (intOf i).toNat)
  case atStart => exact ⟨0, by omega, by simp, Own.nil _ _, Fr.refl _ _⟩
  case round =>
    obtain ⟨k, hk, rfl, hO, hF⟩ := hrel
    by_cases hlt : k < n
    · have hkL : k < L.length := by omega
      obtain ⟨p, hp⟩ : ∃ p, p = L[k]'hkL := ⟨_, rfl⟩
      have e2 : L.take (k + 1) = L.take k ++ [p] := by rw [hp, List.take_succ_eq_append_getElem hkL]
      have e4 : (L.take (k + 1)).flatten = (L.take k).flatten ++ p := by rw [e2, List.flatten_append]; simp
      have hsub : ((L.take k).flatten).length + p.length ≤ 100000000000 := by
        have e3 : L.flatten = (L.take (k + 1)).flatten ++ (L.drop (k + 1)).flatten := by rw [← List.flatten_append, List.take_append_drop]
        rw [e3, e4, List.length_append, List.length_append] at hl
        omega
      obtain ⟨g, o, ha, hc⟩ := h.resolve_left (fun e => by rw [e] at hn; simp at hn; omega)
      obtain ⟨aj, cj, h1, h2, h3, h4⟩ := hc k hkL
      rw [← hp] at h1 h2 h3
      clear hp
      subst ha
      have h1' := hF.cellSome (p := ⟨g, o + k, none⟩) (fun h => h) h1
      have hsrc := (h2.grow hF).src cj
      have hz := hF.size
      have H4 := Lib.hid e4
      generalize (L.take k).flatten = x0 at *
      have hb1 : x0.length + p.length ≤ 140737488355328 := by omega
      clear e2 e4 hl
      have q0 : (0 : Int) ≤ (k : Int) := by omega
      have q1 : (k : Int) < (n : Int) := by omega
      go_wp2_with (at_builtin; refine wpList_own _ rfl (.tmp 11) (.tmp 15) 22 rfl w.heap.size _ x0 p rfl hO _ rfl hsrc hb1 hz ?k)
      case k =>
      intro v3 w3 own3 hg3 hb3
      have F3 : Fr (fun _ => False) w w3 := hF.trans (Fr.ofGrown hg3) (fun k hk => Or.inr (hO.lt k hk).1)
      rw [← H4.out] at own3
      clear hO hF hsrc hg3 hb3 h1 h1' H4
      go_wp2
      go_roundw
      case rel => exact ⟨k + 1, by omega, by go_num, own3, F3⟩
      case measure => simp [intOf]; omega
    · have e1 : L.take k = L := List.take_of_length_le (by omega)
      rw [e1] at hO
      clear e1
      obtain ⟨fl, hfl⟩ : ∃ fl, fl = L.flatten := ⟨_, rfl⟩
      rw [← hfl] at hO
      have Hfl := Lib.hid hfl
      clear hfl
      obtain ⟨a7, c7, rfl⟩ := hO.slice
      obtain ⟨_, _, _, hl7⟩ := hO.lies
      have hs7 := run_str hl7 c7 9 Tryd.underlying9
      have ht : decide ((k : Int) < (n : Int)) = false := by simp; omega
      go_wp2
      go_ret
      exact ⟨by rw [← Hfl.out]; rfl, hF⟩
end Go.Proofs.YtmoepalhoaekgaaDoor



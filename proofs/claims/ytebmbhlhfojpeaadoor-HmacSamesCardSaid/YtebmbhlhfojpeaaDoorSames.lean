/-
  The walk of the law HmacSames.
-/
import Derived.Test.YtebmbhlhfojpeaaDoorMarks
import Derived.Deep.RegionHeld3
namespace Go.Proofs.YtebmbhlhfojpeaaDoor
open Go.RowKit
set_option linter.unusedVariables false

theorem infoB' : ∃ i, Tryd.prog.info? 5 = some i ∧ i.zero = some (.int .u8 0) ∧ i.size = 1 ∧ i.bytes = 1 := by
  have h := Tryd.infoB
  cases hi : Tryd.prog.info? 5 with
  | none => rw [hi] at h; cases h
  | some i =>
    rw [hi] at h
    simp only [Option.map_some, Option.some.injEq, Prod.mk.injEq] at h
    exact ⟨i, rfl, h.1, h.2.1, h.2.2⟩
theorem str_eq (x y : List UInt8) : ((⟨x.toArray⟩ : ByteArray) == (⟨y.toArray⟩ : ByteArray)) = decide (x = y) := by
  rw [Bool.eq_iff_iff]
  show (x.toArray == y.toArray) = true ↔ _
  simp
/-- Owned bytes have come. -/
theorem came_own {w : World} {B n c : Nat} {a : Option Addr} {l : List UInt8} (h : w.ownsRow B 5 1 (.slice a n c) n (bv l)) : Came w a n c l := by
  obtain ⟨h1, h2, h3, h4⟩ := lies_own h
  refine ⟨h1.symm, h2, h3, h4, fun e => ?_⟩
  subst e
  rcases h.2 with ⟨e, h0⟩ | ⟨g, cap, cur, e, _⟩
  · cases e; exact ⟨h0, rfl⟩
  · cases e

theorem Lies.set {w : World} {g : Nat} {l : List UInt8} (h : Lies w (some ⟨g, 0, none⟩) l) (q : Nat) (b : UInt8) (hq : q < l.length) : Lies (w.setCell ⟨g, q, none⟩ (.int .u8 (b.toNat : Int))) (some ⟨g, 0, none⟩) (l.set q b) := by
  obtain ⟨g2, o, e, hc⟩ := h.resolve_left (fun e => by rw [e] at hq; simp at hq)
  cases e
  refine Or.inr ⟨g, 0, rfl, fun j hj => ?_⟩
  rw [List.length_set] at hj
  rw [Nat.zero_add]
  have h1 := hc j hj
  rw [Nat.zero_add] at h1
  by_cases e : q = j
  · subst e
    rw [World.cell?_setCell_same _ _ _ h1]
    simp
  · rw [World.cell?_setCell_other _ _ _ _ (by intro e2; cases e2; exact e rfl), h1]
    simp [e]
theorem Came.src {w : World} {a : Option Addr} {n c : Nat} {l : List UInt8} (h : Came w a n c l) : Src Tryd.prog 1 28 (.slice a n c) n (bv l) w := by
  have := h.lies.src c
  rwa [h.len] at this
theorem Came.str {w : World} {a : Option Addr} {n c : Nat} {l : List UInt8} (h : Came w a n c l) : (convert 28 9 (.slice a n c)).run Tryd.prog w = .ok (.string ⟨l.toArray⟩) w := by
  have := run_str h.lies c 9 Tryd.underlying9
  rwa [h.len] at this
theorem slice_of_own {w : World} {B n : Nat} {t : TypeId} {v : Value} {xs : List Value} (h : w.ownsRow B t 1 v n xs) : ∃ a c, v = .slice a n c := by
  rcases h.2 with ⟨e, h0⟩ | ⟨g, cap, cur, e, _⟩
  · exact ⟨none, 0, by rw [e, h0]⟩
  · exact ⟨_, _, e⟩
theorem own_empty (w : World) (B : Nat) (h : B ≤ w.heap.size) : (w.alloc (.cells #[] 5)).ownsRow B 5 1 (.slice (some ⟨w.heap.size, 0, none⟩) 0 0) 0 [] :=
  World.ownsRow_lit w #[] 0 h (by unfold maxLen; omega) rfl
theorem src_one {w : World} {k : Nat} {b : UInt8} {t : TypeId} {fr : Nat × Nat} (h : w.heap[k]? = some (.cells #[.int .u8 (b.toNat : Int)] t fr)) : Src Tryd.prog 1 28 (.slice (some ⟨k, 0, none⟩) 1 1) 1 (bv [b]) w :=
  src_block h (by simp [Value.oneCell']) 1
theorem mod_nat (z : Int) (m : Nat) (hm : 0 < m) : ∃ q : Nat, (IntKind.u64.wrap z).tmod (m : Int) = (q : Int) ∧ q < m := by
  rw [IntKind.wrap_u64]
  have h1 : 0 ≤ z % 18446744073709551616 := Int.emod_nonneg _ (by decide)
  have h2 := Int.emod_nonneg (z % 18446744073709551616) (b := (m : Int)) (by omega)
  have h3 := Int.emod_lt_of_pos (z % 18446744073709551616) (b := (m : Int)) (by omega)
  refine ⟨((z % 18446744073709551616) % (m : Int)).toNat, ?_, by omega⟩
  rw [Int.tmod_eq_emod_of_nonneg h1]
  omega

set_option maxRecDepth 100000 in
set_option maxHeartbeats 1600000 in
theorem sames_any (a1 a2 : Option Addr) (n1 n2 c1 c2 : Nat) (l1 l2 : List UInt8) (at_ : Int) (w : World) (h1 : Came w a1 n1 c1 l1) (h2 : Came w a2 n2 c2 l2) (hat : (Lit.int .i64 at_).wf = true) (hE : Env w) :
    Calls Tryd.prog 14 #[.slice a1 n1 c1, .slice a2 n2 c2, .int .i64 at_] w fun e w' => e = .returned (.bool true) ∧ Fr (fun _ => False) w w' := by
  have k1 : n1 ≤ 9223372036854775807 := by have := h1.le; have := h1.mx; unfold maxLen at this; omega
  have k2 : n2 ≤ 9223372036854775807 := by have := h2.le; have := h2.mx; unfold maxLen at this; omega
  have d1 := h1.le
  have d2 := h2.le
  obtain ⟨iB, i1, i2, i3, i4⟩ := infoB'
  obtain ⟨b, hb⟩ : ∃ b : UInt8, at_ % 256 = (b.toNat : Int) := ⟨UInt8.ofNat (at_ % 256).toNat, by rw [UInt8.toNat_ofNat']; omega⟩
  go_enter Tryd.func14, Tryd.ntmps14
  go_wp2_with fail
  go_quiet (fail)
  simp only [min300]
  generalize (if (300 : Int) < (n1 : Int) then (300 : Int) else (n1 : Int)) = z1
  generalize (if (300 : Int) < (n2 : Int) then (300 : Int) else (n2 : Int)) = z2
  have F2 : Fr (fun _ => False) w (w.drewN nq) := (Fr.refl _ w).drewN nq
  have g1 := h1.cut (min n1 300) (by omega) F2
  have g2 := h2.cut (min n2 300) (by omega) F2
  have b1 : min n1 300 ≤ 300 := Nat.min_le_right _ _
  have b2 : min n2 300 ≤ 300 := Nat.min_le_right _ _
  have hE2 := hE.fr F2 (fun h => h)
  generalize min n1 300 = m1 at g1 b1
  generalize min n2 300 = m2 at g2 b2
  generalize l1.take m1 = x1 at g1
  generalize l2.take m2 = x2 at g2
  clear h1 h2 k1 k2 d1 d2 hE
  generalize w.drewN nq = w2 at *
  have hm1 := g1.len
  have own0 : (w2.alloc (.cells #[] 5)).ownsRow w2.heap.size 5 1 (.slice (some ⟨w2.heap.size, 0, none⟩) 0 0) 0 [] := World.ownsRow_lit w2 #[] 0 (Nat.le_refl _) (by unfold maxLen; omega) rfl
  have s1 := (g1.grow ((Fr.refl (fun _ => False) w2).alloc (.cells #[] 5)) (fun _ _ h => h)).lies.src c1
  rw [hm1] at s1
  go_wp2_with (at_builtin; refine wpList_app _ rfl (.tmp 21) (.tmp 22) 28 28 rfl w2.heap.size 5 iB (.int .u8 0) 1 1 Tryd.underlying28 i1 i2 i3 i4 rfl (by decide) _ 0 [] rfl own0 _ rfl m1 (bv x1) s1 (by unfold maxLen; omega) (by omega) (by simp) ?k)
  case k =>
  intro v3 w3 own3 hg3 hb3
  have F3 : Fr (fun _ => False) w2 w3 := ((Fr.refl (fun _ => False) w2).alloc (.cells #[] 5)).trans (Fr.ofGrown hg3) (fun k hk => Or.inr (by
    have : w2.heap.size = k := by simpa [Value.ownBlock] using hk
    omega))
  have hv3 : ∃ a3 c3, v3 = .slice a3 m1 c3 := by
    rcases own3.2 with ⟨e, h0⟩ | ⟨g, cap, cur, e, _⟩
    · exact ⟨none, 0, by rw [e, h0]⟩
    · exact ⟨_, _, e⟩
  obtain ⟨a3, c3, rfl⟩ := hv3
  have g3 := came_own own3
  have hc3 : (m1 : Int) ≤ 300 := by omega
  clear own0 s1 hg3 hb3
  go_upto_if 26 with fail
  go_cut [38] (fun _ wx => ∃ x3, Came wx a3 m1 c3 x3 ∧ Fr (fun _ => False) w2 wx)
  case first =>
    by_cases h0 : 0 < m1
    · have hx1 : 0 < x1.length := by omega
      obtain ⟨g, cap, cur, e, hbg, hblk, hcap, hcm, hcs, htk⟩ := own3.2.resolve_left (fun e => by omega)
      obtain ⟨rfl, rfl⟩ : a3 = some ⟨g, 0, none⟩ ∧ c3 = cap := by simpa using e
      have ht : decide ((0 : Int) < (m1 : Int)) = true := by simp; omega
      have hz : ((m1 : Int) == 0) = false := by simp; omega
      obtain ⟨q, hq, hqm⟩ := mod_nat at_ m1 h0
      have hqx : q < x1.length := by omega
      have hcell : w3.cell? ⟨g, q, none⟩ = some (.int .u8 ((x1[q]).toNat : Int)) := by
        obtain ⟨g2, o2, e2, hc⟩ := g3.lies.resolve_left (fun e => by rw [e] at hx1; simp at hx1)
        cases e2
        have := hc q hqx
        rwa [Nat.zero_add] at this
      have hfz := free_of_block hblk q
      have hst := bits_u8 x1[q] b
      have hL := g3.lies.set q (x1[q] ^^^ b) hqx
      rw [UInt8.toNat_xor] at hL
      generalize x1[q] = xq at hcell hst hL
      have hgg : ¬ g < w2.heap.size := by omega
      go_wp2_with fail
      go_meet
      refine ⟨x1.set q (xq ^^^ b), ⟨by rw [List.length_set, hm1], g3.le, g3.mx, hL, fun e => by cases e⟩, F3.setCell (Or.inr (by omega)) _⟩
    · have ht : decide ((0 : Int) < (m1 : Int)) = false := by simp; omega
      go_wp2
      go_meet
      exact ⟨x1, g3, F3⟩
  case rest =>
    obtain ⟨x3, G3, Fc⟩ := hcut
    have G1 := g1.grow Fc (fun _ _ h => h)
    have G2 := g2.grow Fc (fun _ _ h => h)
    have hEc := hE2.fr Fc (fun h => h)
    have F0c : Fr (fun _ => False) w wc := F2.trans Fc (fun _ h => h.elim)
    have e12 : (x1 == x2) = decide (x1 = x2) := by rw [Bool.eq_iff_iff]; simp
    have e13 : (x1 == x3) = decide (x1 = x3) := by rw [Bool.eq_iff_iff]; simp
    clear g1 g2 g3 hE2 Fc F3 own3 F2
    have hS : ∀ w' : World, Fr (fun _ => False) wc w' → (Fr (fun _ => False) wc w' ∧ (convert 28 9 (.slice a1 m1 c1)).run Tryd.prog w' = .ok (.string ⟨x1.toArray⟩) w' ∧ (convert 28 9 (.slice a2 m2 c2)).run Tryd.prog w' = .ok (.string ⟨x2.toArray⟩) w' ∧ (convert 28 9 (.slice a3 m1 c3)).run Tryd.prog w' = .ok (.string ⟨x3.toArray⟩) w') :=
      fun w' hF => ⟨hF, (G1.grow hF (fun _ _ h => h)).str, (G2.grow hF (fun _ _ h => h)).str, (G3.grow hF (fun _ _ h => h)).str⟩
    go_wp2_with fail
    go_region_held3 (fun w' => Fr (fun _ => False) wc w' ∧ (convert 28 9 (.slice a1 m1 c1)).run Tryd.prog w' = .ok (.string ⟨x1.toArray⟩) w' ∧ (convert 28 9 (.slice a2 m2 c2)).run Tryd.prog w' = .ok (.string ⟨x2.toArray⟩) w' ∧ (convert 28 9 (.slice a3 m1 c3)).run Tryd.prog w' = .ok (.string ⟨x3.toArray⟩) w')
      (first
        | (exact hS _ (by assumption))
        | (exact hS _ (Fr.refl _ wc).drew)
        | (exact hS _ ((‹Fr (fun _ => False) wc _ ∧ _›).1.alloc _)))
      (first
        | (go_at_call 32; refine (marks_any _ (hEc.fr (‹Fr (fun _ => False) wc _ ∧ _›).1 (fun h => h))).mono ?_; rintro e w5 ⟨rfl, F5⟩; have F55 := (‹Fr (fun _ => False) wc _ ∧ _›).1.trans F5 (fun _ h => h.elim))
        | (go_at_call 36; with_reducible refine (same_any a1 a2 x1 x2 m1 m2 c1 c2 _ (G1.grow (‹Fr (fun _ => False) wc _ ∧ _›).1 (fun _ _ h => h)) (G2.grow (‹Fr (fun _ => False) wc _ ∧ _›).1 (fun _ _ h => h))).mono ?_; rintro e w6 ⟨rfl, F6⟩; have F66 := (‹Fr (fun _ => False) wc _ ∧ _›).1.trans F6 (fun _ h => h.elim))
        | (go_at_call 36; with_reducible refine (same_any a1 a3 x1 x3 m1 m1 c1 c3 _ (G1.grow (‹Fr (fun _ => False) wc _ ∧ _›).1 (fun _ _ h => h)) (G3.grow (‹Fr (fun _ => False) wc _ ∧ _›).1 (fun _ _ h => h))).mono ?_; rintro e w7 ⟨rfl, F7⟩; have F77 := (‹Fr (fun _ => False) wc _ ∧ _›).1.trans F7 (fun _ h => h.elim))
        | (rw [if_pos (by rfl)]
           refine wp_app (.tmp 65) (.tmp 66) 28 28 rfl wc.heap.size 5 iB (.int .u8 0) 1 1 Tryd.underlying28 i1 i2 i3 i4 rfl (by decide) (.slice (some ⟨_, 0, none⟩) 0 0) 0 [] rfl (by have hz := F77.size; first | exact own_empty w7 wc.heap.size hz | exact (own_empty w7 wc.heap.size hz).alloc _ | (have h9 := own_empty (w7.alloc (.cells #[.int .u8 (b.toNat : Int)] 5)) wc.heap.size (Nat.le_trans hz (by simp)); rw [World.size_alloc] at h9; exact h9)) _ rfl m1 (bv x1) (G1.grow (‹Fr (fun _ => False) wc _ ∧ _›).1 (fun _ _ h => h)).src (by unfold maxLen; omega) (by omega) (‹Fr (fun _ => False) wc _ ∧ _›).1.size ?_
           intro v8 w8 own8 hg8 hb8
           have F88 := (‹Fr (fun _ => False) wc _ ∧ _›).1.trans (Fr.ofGrown hg8) (fun k hk => Or.inr (by have hz := F77.size; simp [Value.ownBlock] at hk; omega))
           rw [Nat.zero_add, List.nil_append] at own8
           obtain ⟨a8, c8, rfl⟩ := slice_of_own own8)
        | (rw [if_pos (by rfl)]
           refine wp_app (.tmp 67) (.tmp 69) 28 28 rfl wc.heap.size 5 iB (.int .u8 0) 1 1 Tryd.underlying28 i1 i2 i3 i4 rfl (by decide) (.slice a8 m1 c8) m1 (bv x1) rfl (by first | exact own8 | exact own8.alloc _) (.slice (some ⟨_, 0, none⟩) 1 1) rfl 1 (bv [b]) (by first | exact src_one (heap_alloc_new w8 _) | exact src_one (((Fr.ofGrown hg8).block _ (lt_of_block (heap_alloc2_new w7 _ _)) (by simp [Value.ownBlock])).trans (heap_alloc2_new w7 _ _)) | exact src_one (((Fr.ofGrown hg8).block _ (lt_of_block (heap_alloc2_old w7 _ _)) (by simp [Value.ownBlock])).trans (heap_alloc2_old w7 _ _))) (by unfold maxLen; omega) (by omega) (‹Fr (fun _ => False) wc _ ∧ _›).1.size ?_
           intro v9 w9 own9 hg9 hb9
           have F99 := (‹Fr (fun _ => False) wc _ ∧ _›).1.trans (Fr.ofGrown hg9) (fun k hk => Or.inr (own8.lt k hk).1)
           rw [← bv_append] at own9
           obtain ⟨a9, c9, rfl⟩ := slice_of_own own9)
        | (go_at_call 36; with_reducible refine (same_any a1 a9 x1 (x1 ++ [b]) m1 (m1 + 1) c1 c9 _ (G1.grow (‹Fr (fun _ => False) wc _ ∧ _›).1 (fun _ _ h => h)) (came_own own9)).mono ?_; rintro e w10 ⟨rfl, F10⟩; have F100 := (‹Fr (fun _ => False) wc _ ∧ _›).1.trans F10 (fun _ h => h.elim)))
    all_goals
      go_wp2
      go_ret
      exact ⟨rfl, F0c.trans F100 (fun _ h => h.elim)⟩
end Go.Proofs.YtebmbhlhfojpeaaDoor

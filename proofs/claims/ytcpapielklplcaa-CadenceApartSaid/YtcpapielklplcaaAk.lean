/-
  Two schedules beside each other; beats.
-/
import Derived.Test.YtcpapielklplcaaAg
import Derived.Test.YtcpapielklplcaaAh
import Derived.Test.YtcpapielklplcaaAj
namespace Go.Proofs.Ytcpapielklplcaa
open Go.RowKit
set_option linter.unusedVariables false
set_option linter.unusedSimpArgs false
theorem fr_up {w0 w w' : World} {T : Nat → Prop} (F : Fr (fun _ => False) w0 w) (G : Fr T w w') (h : ∀ k, T k → w0.heap.size ≤ k) : Fr (fun _ => False) w0 w' := F.trans G (fun k e => .inr (h k e))
theorem own_down {w : World} {b b' : Nat} {e : TypeId} {size : Nat} {v : Value} {n : Nat} {xs : List Value} (h : w.ownsRow b e size v n xs) (hb : b' ≤ b) : w.ownsRow b' e size v n xs := by
  refine ⟨h.1, ?_⟩
  rcases h.2 with h2 | ⟨g, c, gc, e1, e2, r⟩
  · exact .inl h2
  · exact .inr ⟨g, c, gc, e1, Nat.le_trans hb e2, r⟩
theorem Sd.down {w : World} {b b' ps : Nat} {now : Int} {v : Value} {L : List Mb} (h : Sd w b ps now v L) (hb : b' ≤ b) : Sd w b' ps now v L := ⟨h.blk, own_down h.own hb, h.ne, Nat.le_trans hb h.b⟩
def BS (p : Nat) (v : Value) (k : Nat) : Prop := k = p ∨ v.ownBlock = some k
theorem Sd.lt {w : World} {b ps : Nat} {now : Int} {v : Value} {L : List Mb} (h : Sd w b ps now v L) (k : Nat) (hk : BS ps v k) : b ≤ k ∧ k < w.heap.size := by
  rcases hk with rfl | e
  · exact ⟨h.b, lt_of_block h.blk⟩
  · exact h.own.lt k e
theorem tick_sl (ps base : Nat) (now : Int) (v : Value) (L : List Mb) (n0 : 0 ≤ now) (n1 : now ≤ 1000000) (hl : L.length ≤ 1000) (good : Good L) (w : World) (h : Sd w base ps now v L) : Calls Try.prog 8 #[.pointer (some ⟨ps, 0, none⟩)] w fun e w' => ∃ a c, e = .returned (.tuple #[.slice a (dueL L).length c, .int .i64 0]) ∧ DR w' w.heap.size (.slice a (dueL L).length c) (dueL L) ∧ Sd w' base ps (now + 1) v (L.map gr) ∧ Fr (fun k => k = ps ∨ v.ownBlock = some k) w w' := by
  refine (tick_any ps base now v L n0 n1 hl good w h).mono ?_
  rintro e w' ⟨u, rfl, hD, r⟩
  obtain ⟨x, y, rfl⟩ : ∃ x y, u = .slice x (dueL L).length y := by
    rcases hD.2 with ⟨rfl, h0⟩ | ⟨g, cap, cur, rfl, _⟩
    · exact ⟨none, 0, by rw [h0]⟩
    · exact ⟨_, cap, rfl⟩
  exact ⟨x, y, rfl, hD, r⟩
/-- Two. -/
structure Tw (w0 w : World) (pa pb : Nat) (na nb : Int) (A B : List Mb) : Prop where
  ex : ∃ va vb, Sd w w0.heap.size pa na va A ∧ Sd w w0.heap.size pb nb vb B ∧ (∀ k, BS pa va k → ¬ BS pb vb k)
  fr : Fr (fun _ => False) w0 w
section
variable {w0 w : World} {pa pb : Nat} {na nb : Int} {A B : List Mb}
theorem Tw.swap (T : Tw w0 w pa pb na nb A B) : Tw w0 w pb pa nb na B A := by
  obtain ⟨⟨va, vb, a, b, D⟩, F⟩ := T
  exact ⟨⟨vb, va, b, a, fun k h1 h2 => D k h2 h1⟩, F⟩
theorem Tw.ext (T : Tw w0 w pa pb na nb A B) {w' : World} (G : Fr (fun _ => False) w w') : Tw w0 w' pa pb na nb A B := by
  obtain ⟨⟨va, vb, a, b, D⟩, F⟩ := T
  exact ⟨⟨va, vb, a.ext G, b.ext G, D⟩, F.trans G (fun _ h => h.elim)⟩
theorem tw_step {va vb va' : Value} {w' : World} {na' : Int} {A' : List Mb} (a : Sd w w0.heap.size pa na va A) (b : Sd w w0.heap.size pb nb vb B) (D : ∀ k, BS pa va k → ¬ BS pb vb k) (F : Fr (fun _ => False) w0 w) (a' : Sd w' w0.heap.size pa na' va' A') (own : va'.ownBlock = va.ownBlock ∨ ∃ k, va'.ownBlock = some k ∧ w.heap.size ≤ k) (G : Fr (fun k => k = pa ∨ va.ownBlock = some k) w w') : Tw w0 w' pa pb na' nb A' B := by
  refine ⟨⟨va', vb, a', b.fr G (fun h => D _ h (.inl rfl)) (fun k e h => D k h (.inr e)), fun k h1 h2 => ?_⟩, fr_up F G (fun k h => (a.lt k h).1)⟩
  rcases h1 with rfl | e
  · exact D _ (.inl rfl) h2
  · rcases own with h | ⟨j, h, hj⟩
    · exact D k (.inr (h ▸ e)) h2
    · have h3 := (b.lt k h2).2
      have : j = k := by rw [h] at e; simpa using e
      omega
theorem Tw.tick (T : Tw w0 w pa pb na nb A B) (n0 : 0 ≤ na) (n1 : na ≤ 1000000) (hl : A.length ≤ 1000) (hg : Good A) : Calls Try.prog 8 #[.pointer (some ⟨pa, 0, none⟩)] w fun e w' => (∃ a c, e = .returned (.tuple #[.slice a (dueL A).length c, .int .i64 0]) ∧ DR w' w.heap.size (.slice a (dueL A).length c) (dueL A)) ∧ Tw w0 w' pa pb (na + 1) nb (A.map gr) B := by
  obtain ⟨⟨va, vb, a, b, D⟩, F⟩ := T
  refine (tick_sl pa _ na va A n0 n1 hl hg w a).mono ?_
  rintro e w' ⟨x, y, rfl, hD, a', G⟩
  exact ⟨⟨x, y, rfl, hD⟩, tw_step a b D F a' (.inl rfl) G⟩
/-- What Add does to the row. -/
def AddRel (B B' : List Mb) (x : Mb) : Prop := B' = B ∨ (1 ≤ x.per ∧ x.per ≤ 1000 ∧ 0 ≤ x.age ∧ ∃ i, i ≤ B.length ∧ B' = ins B i x)
theorem Tw.add (T : Tw w0 w pa pb na nb A B) (hl : A.length ≤ 999) (s : ByteArray) (p a : Int) : Calls Try.prog 5 #[.pointer (some ⟨pa, 0, none⟩), .string s, .int .i64 p, .int .i64 a] w fun e w' => (∃ er A', e = .returned (.int .i64 er) ∧ Tw w0 w' pa pb na nb A' B ∧ AddRel A A' ⟨s, p, a⟩) ∧ Fr (fun k => w0.heap.size ≤ k) w w' := by
  obtain ⟨⟨va, vb, sa, sb, D⟩, F⟩ := T
  by_cases hbad : p < 1 ∨ 1000 < p ∨ a < 0
  · refine (add_bad pa s p a w hbad).mono ?_
    rintro e w' ⟨rfl, rfl⟩
    exact ⟨⟨1, A, rfl, ⟨⟨va, vb, sa, sb, D⟩, F⟩, .inl rfl⟩, Fr.refl _ _⟩
  · refine (add_good pa _ na va A s p a w sa hl (by omega) (by omega) (by omega)).mono ?_
    rintro e w' ⟨er, v', A', rfl, a', hr, own, G⟩
    refine ⟨⟨er, A', rfl, tw_step sa sb D F a' own G, ?_⟩, G.mono (fun k _ h => (sa.lt k h).1)⟩
    rcases hr with ⟨_, e, _⟩ | ⟨_, i, hi, e⟩
    · exact .inl e
    · exact .inr ⟨by show 1 ≤ p; omega, by show p ≤ 1000; omega, by show 0 ≤ a; omega, i, hi, e⟩
/-- The first one. -/
theorem Tw.addm (T : Tw w0 w pa pb na nb [] B) (s : ByteArray) (p a : Int) : Calls Try.prog 5 #[.pointer (some ⟨pa, 0, none⟩), .string s, .int .i64 p, .int .i64 a] w fun e w' => e = .returned (.int .i64 (if p < 1 ∨ 1000 < p ∨ a < 0 then 1 else 0)) ∧ Tw w0 w' pa pb na nb (if p < 1 ∨ 1000 < p ∨ a < 0 then [] else [⟨s, p, a⟩]) B := by
  obtain ⟨⟨va, vb, sa, sb, D⟩, F⟩ := T
  by_cases hbad : p < 1 ∨ 1000 < p ∨ a < 0
  · rw [if_pos hbad, if_pos hbad]
    refine (add_bad pa s p a w hbad).mono ?_
    rintro e w' ⟨rfl, rfl⟩
    exact ⟨rfl, ⟨⟨va, vb, sa, sb, D⟩, F⟩⟩
  · rw [if_neg hbad, if_neg hbad]
    refine (add_good pa _ na va [] s p a w sa (by decide) (by omega) (by omega) (by omega)).mono ?_
    rintro e w' ⟨er, v', A', rfl, a', hr, own, G⟩
    rcases hr with ⟨_, _, m, hm, _⟩ | ⟨rfl, i, hi, e⟩
    · cases hm
    · have : A' = [⟨s, p, a⟩] := by rw [e]; unfold ins; simp
      rw [this] at a'
      exact ⟨rfl, tw_step sa sb D F a' own G⟩
def RemRel (B B' : List Mb) (s : ByteArray) : Prop := B' = B ∨ ∃ k m, B[k]? = some m ∧ m.id.toList = s.toList ∧ B' = B.eraseIdx k
theorem Tw.rem (T : Tw w0 w pa pb na nb A B) (hl : A.length ≤ 1000) (s : ByteArray) : Calls Try.prog 7 #[.pointer (some ⟨pa, 0, none⟩), .string s] w fun e w' => (∃ er A', e = .returned (.int .i64 er) ∧ Tw w0 w' pa pb na nb A' B ∧ RemRel A A' s) ∧ Fr (fun k => w0.heap.size ≤ k) w w' := by
  obtain ⟨⟨va, vb, sa, sb, D⟩, F⟩ := T
  refine (rem_any pa _ na va A s w sa hl).mono ?_
  rintro e w' ⟨er, v', A', rfl, a', hr, own, G⟩
  exact ⟨⟨er, A', rfl, tw_step sa sb D F a' (.inl own) G, hr⟩, G.mono (fun k _ h => (sa.lt k h).1)⟩
end
theorem new_tw (w0 w1 : World) {pa : Nat} {va : Value} {A : List Mb} {na : Int} (a : Sd w1 w0.heap.size pa na va A) (F : Fr (fun _ => False) w0 w1) : Calls Try.prog 4 #[.int .i64 5] w1 fun e w' => ∃ pb, e = .returned (.tuple #[.pointer (some ⟨pb, 0, none⟩), .int .i64 0]) ∧ Tw w0 w' pa pb na 5 A [] := by
  refine (new5 w1).mono ?_
  rintro e w' ⟨rfl, b, G⟩
  refine ⟨_, rfl, ⟨⟨va, _, a.ext G, b.down F.size, fun k h1 h2 => ?_⟩, F.trans G (fun _ h => h.elim)⟩⟩
  have h3 := (a.lt k h1).2
  have h4 := (b.lt k h2).1
  omega
set_option maxRecDepth 100000 in
set_option maxHeartbeats 1600000 in
theorem beats_any (w : World) : Calls Try.prog 6 #[] w fun e w' => e = .returned (.bool true) ∧ Fr (fun _ => False) w w' := by
  go_enter Try.func6, Try.ntmps6
  go_wp2_with fail
  refine (new0 w).mono ?_
  rintro e w1 ⟨rfl, hB, F1⟩
  obtain ⟨ps, hps⟩ : ∃ ps, ps = w.heap.size := ⟨_, rfl⟩
  rw [← hps] at hB ⊢
  have HB := Lib.hid hB
  have HPS := Lib.hid (Nat.le_of_eq hps.symm)
  have HF1 := Lib.hid F1
  clear hB F1 hps
  go_wp2_with fail
  refine (add_good ps _ 0 _ [] ⟨#[97]⟩ 2 0 w1 HB.out (by decide) (by decide) (by decide) (by decide)).mono ?_
  rintro e w2 ⟨er, v2, L2, rfl, hS, hr, own2, F2⟩
  rcases hr with ⟨_, _, m, hm, _⟩ | ⟨rfl, i, hi, e⟩
  · cases hm
  have e2 : L2 = [⟨⟨#[97]⟩, 2, 0⟩] := by rw [e]; unfold ins; simp
  rw [e2] at hS
  have HS2 := Lib.hid hS
  have HF2 := Lib.hid (fr_up HF1.out F2 (fun k h => by
    rcases h with rfl | h
    · exact HPS.out
    · simp [Value.ownBlock] at h))
  clear hS F2 own2 e e2 hi
  go_wp2_with fail
  have HV2 := Lib.hid (fun k => (HS2.out.lt k))
  refine (tick_sl ps _ 0 v2 _ (by decide) (by decide) (by decide) (fun x hx => by
    obtain rfl : x = _ := List.mem_singleton.1 hx
    exact ⟨by decide, by decide, by decide, by decide⟩) w2 HS2.out).mono ?_
  rintro e w3 ⟨xa, xc, rfl, hD3, hS3, F3⟩
  rw [show (dueL [⟨⟨#[97]⟩, 2, 0⟩]).length = 0 from rfl]
  rw [show List.map gr [⟨⟨#[97]⟩, 2, 0⟩] = [⟨⟨#[97]⟩, 2, 1⟩] from rfl] at hS3
  have HS3 := Lib.hid (show Sd w3 ps ps 1 v2 [⟨⟨#[97]⟩, 2, 1⟩] from hS3)
  have HF3 := Lib.hid (fr_up HF2.out F3 (fun k h => Nat.le_trans HPS.out (HV2.out k h).1))
  clear hS3 F3 hD3
  go_wp2_with fail
  refine (tick_sl ps _ 1 v2 _ (by decide) (by decide) (by decide) (fun x hx => by
    obtain rfl : x = _ := List.mem_singleton.1 hx
    exact ⟨by decide, by decide, by decide, by decide⟩) w3 HS3.out).mono ?_
  rintro e w4 ⟨ya, yc, rfl, hD4, hS4, F4⟩
  have HS4 := Lib.hid (show SB w4 ps 2 v2 from hS4.blk)
  have HF4 := Lib.hid (fr_up HF3.out F4 (fun k h => Nat.le_trans HPS.out (HV2.out k h).1))
  have hdl : (dueL [⟨⟨#[97]⟩, 2, 1⟩]) = [⟨#[97]⟩] := rfl
  rw [hdl] at hD4 ⊢
  obtain ⟨g, hg, c0⟩ : ∃ g, ya = some ⟨g, 0, none⟩ ∧ w4.cell? ⟨g, 0, none⟩ = some (.string ⟨#[97]⟩) := by
    rcases hD4.2 with ⟨_, h0⟩ | ⟨g, cap, cur, e, _, hg, _, _, _, ht⟩
    · cases h0
    · obtain ⟨rfl, _⟩ : ya = some ⟨g, 0, none⟩ ∧ yc = cap := by simpa using e
      refine ⟨g, rfl, ?_⟩
      rw [cell_of_block hg, ← Array.getElem?_toList, ← List.getElem?_take_of_lt (show 0 < ([⟨#[97]⟩] : List ByteArray).length * 1 by decide), ht]
      rfl
  subst hg
  rw [show ([⟨#[97]⟩] : List ByteArray).length = 1 from rfl]
  clear hD4 hS4 F4 hdl
  go_wp2_with fail
  refine (now_any ps 2 _ w4 HS4.out).mono ?_
  rintro e w5 ⟨rfl, rfl⟩
  go_wp2_with fail
  go_ret
  exact ⟨rfl, HF4.out⟩
end Go.Proofs.Ytcpapielklplcaa

/-
  CacheApart: two caches beside each other.
-/
import Derived.Test.YtkigdgkklninoaaWk
namespace Go.Proofs.Ytkigdgkklninoaa
open Go.RowKit
set_option linter.unusedVariables false
set_option linter.unusedSimpArgs false
structure Dt where
  L : List (ByteArray × ByteArray)
  h : Int
  m : Int
def dput (s t : ByteArray) (d : Dt) : Dt := ⟨putL 3 s t d.L, d.h, d.m⟩
def dget (s : ByteArray) (d : Dt) : Dt := ⟨getL s d.L, if getB s d.L then d.h + 1 else d.h, if getB s d.L then d.m else d.m + 1⟩
def At (f : Nat → Ps) (d : Dt) : Prop := (f 0).L = d.L ∧ (f 0).h = d.h ∧ (f 0).m = d.m
/-- Two caches, and blocks that neither has. -/
structure Two (w0 w : World) (ca cb : Nat) (q : Int) (a b : Dt) (js : List (Nat × Obj)) : Prop where
  ex : ∃ pa xa fa pb xb fb, CS w w0.heap.size ca pa 2 3 xa fa q ∧ CS w w0.heap.size cb pb 2 3 xb fb q ∧ At fa a ∧ At fb b ∧ (∀ k, BK ca pa 2 fa k → ¬ BK cb pb 2 fb k) ∧ (∀ p ∈ js, w.heap[p.1]? = some p.2 ∧ ¬ BK ca pa 2 fa p.1 ∧ ¬ BK cb pb 2 fb p.1)
  fr : Fr (fun _ => False) w0 w
theorem Two.swap {w0 w : World} {ca cb : Nat} {q : Int} {a b : Dt} {js : List (Nat × Obj)} (T : Two w0 w ca cb q a b js) : Two w0 w cb ca q b a js := by
  obtain ⟨⟨pa, xa, fa, pb, xb, fb, CA, CB, ha, hb, D, J⟩, F⟩ := T
  exact ⟨⟨pb, xb, fb, pa, xa, fa, CB, CA, hb, ha, fun k h1 h2 => D k h2 h1, fun p hp => ⟨(J p hp).1, (J p hp).2.2, (J p hp).2.1⟩⟩, F⟩
theorem Two.more {w0 w : World} {ca cb : Nat} {q : Int} {a b : Dt} {js : List (Nat × Obj)} (T : Two w0 w ca cb q a b js) (q' : Int) (h : q ≤ q') : Two w0 w ca cb q' a b js := by
  obtain ⟨⟨pa, xa, fa, pb, xb, fb, CA, CB, r⟩, F⟩ := T
  exact ⟨⟨pa, xa, fa, pb, xb, fb, CA.more q' h, CB.more q' h, r⟩, F⟩
theorem Two.fewer {w0 w : World} {ca cb : Nat} {q : Int} {a b : Dt} {js : List (Nat × Obj)} (T : Two w0 w ca cb q a b js) : Two w0 w ca cb q a b [] := by
  obtain ⟨⟨pa, xa, fa, pb, xb, fb, CA, CB, ha, hb, D, J⟩, F⟩ := T
  exact ⟨⟨pa, xa, fa, pb, xb, fb, CA, CB, ha, hb, D, fun p hp => by cases hp⟩, F⟩
theorem Two.ext {w0 w w' : World} {ca cb : Nat} {q : Int} {a b : Dt} {js : List (Nat × Obj)} (T : Two w0 w ca cb q a b js) (G : Fr (fun _ => False) w w') : Two w0 w' ca cb q a b js := by
  obtain ⟨⟨pa, xa, fa, pb, xb, fb, CA, CB, ha, hb, D, J⟩, F⟩ := T
  exact ⟨⟨pa, xa, fa, pb, xb, fb, CA.fr G (fun _ _ h => h), CB.fr G (fun _ _ h => h), ha, hb, D, fun p hp => ⟨(G.block p.1 (lt_of_block (J p hp).1) (fun h => h)).trans (J p hp).1, (J p hp).2⟩⟩, F.trans G (fun _ h => h.elim)⟩
/-- A new block beside them. -/
theorem Two.add {w0 w : World} {ca cb : Nat} {q : Int} {a b : Dt} (T : Two w0 w ca cb q a b []) (o : Obj) : Two w0 (w.alloc o) ca cb q a b [(w.heap.size, o)] := by
  obtain ⟨⟨pa, xa, fa, pb, xb, fb, CA, CB, ha, hb, D, J⟩, F⟩ := T
  have G := (Fr.refl (fun _ => False) w).alloc o
  refine ⟨⟨pa, xa, fa, pb, xb, fb, CA.fr G (fun _ _ h => h), CB.fr G (fun _ _ h => h), ha, hb, D, fun p hp => ?_⟩, F.alloc o⟩
  obtain rfl : p = (w.heap.size, o) := by simpa using hp
  exact ⟨heap_alloc_new w o, fun h => by have := (CA.lt _ h).2; simp at this, fun h => by have := (CB.lt _ h).2; simp at this⟩
theorem Two.job {w0 w : World} {ca cb : Nat} {q : Int} {a b : Dt} {g : Nat} {o : Obj} (T : Two w0 w ca cb q a b [(g, o)]) : w.heap[g]? = some o := by
  obtain ⟨⟨pa, xa, fa, pb, xb, fb, CA, CB, ha, hb, D, J⟩, F⟩ := T
  exact (J (g, o) (List.mem_singleton.2 rfl)).1
theorem own_of {v v' : Value} {n : Nat} (h : v'.ownBlock = v.ownBlock ∨ ∃ k, v'.ownBlock = some k ∧ n ≤ k) : ∀ k, v'.ownBlock = some k → v.ownBlock = some k ∨ n ≤ k := fun k e => by
  rcases h with e1 | ⟨k1, e1, hk⟩
  · exact .inl (by rw [← e1]; exact e)
  · rw [e1] at e; obtain rfl := Option.some.inj e; exact .inr hk
/-- What a step of the first one leaves. -/
theorem two_up {w0 w w' : World} {ca cb pa pb : Nat} {q q' : Int} {b a' : Dt} {js : List (Nat × Obj)} {xa xb x' : Array Value} {fa fb : Nat → Ps} {p : Ps} (CA : CS w w0.heap.size ca pa 2 3 xa fa q) (CB : CS w w0.heap.size cb pb 2 3 xb fb q) (hb : At fb b) (D : ∀ k, BK ca pa 2 fa k → ¬ BK cb pb 2 fb k) (J : ∀ p ∈ js, w.heap[p.1]? = some p.2 ∧ ¬ BK ca pa 2 fa p.1 ∧ ¬ BK cb pb 2 fb p.1) (F : Fr (fun _ => False) w0 w)
    (i : Nat) (hi : i < 2) (hq : q ≤ q') (C' : CS w' w0.heap.size ca pa 2 3 x' (upd fa i p) q') (own : ∀ k, p.v.ownBlock = some k → (fa i).v.ownBlock = some k ∨ w.heap.size ≤ k) (G : Fr (fun b => b = pa ∨ (fa i).v.ownBlock = some b) w w') (ha' : At (upd fa i p) a') : Two w0 w' ca cb q' a' b js := by
  have hT : ∀ k, (k = pa ∨ (fa i).v.ownBlock = some k) → BK ca pa 2 fa k := fun k h => h.elim (fun e => .inr (.inl e)) (fun e => .inr (.inr ⟨i, hi, e⟩))
  have hnew : ∀ k, BK ca pa 2 (upd fa i p) k → BK ca pa 2 fa k ∨ w.heap.size ≤ k := fun k h => by
    rcases h with h | h | ⟨j, hj, e⟩
    · exact .inl (.inl h)
    · exact .inl (.inr (.inl h))
    · by_cases hji : j = i
      · subst hji
        rw [upd_same] at e
        rcases own k e with e1 | e1
        · exact .inl (.inr (.inr ⟨j, hj, e1⟩))
        · exact .inr e1
      · rw [upd_ne _ _ _ _ hji] at e
        exact .inl (.inr (.inr ⟨j, hj, e⟩))
  refine ⟨⟨pa, x', upd fa i p, pb, xb, fb, C', (CB.fr G (fun k h1 h2 => D k (hT k h2) h1)).more q' hq, ha', hb, fun k h1 h2 => ?_, fun p hp => ?_⟩, fr_up F G (fun k h => (CA.lt k (hT k h)).1)⟩
  · rcases hnew k h1 with h | h
    · exact D k h h2
    · have := (CB.lt k h2).2; omega
  · obtain ⟨j1, j2, j3⟩ := J p hp
    have hl := lt_of_block j1
    refine ⟨(G.block p.1 hl (fun h => j2 (hT _ h))).trans j1, fun h => ?_, j3⟩
    rcases hnew _ h with h | h
    · exact j2 h
    · omega
section
variable {w0 w : World} {ca cb : Nat} {q : Int} {a b : Dt} {js : List (Nat × Obj)}
theorem Two.put0 (T : Two w0 w ca cb q a b js) (s t : ByteArray) : Calls Try.prog 10 #[.pointer (some ⟨ca, 0, none⟩), .int .i64 0, .string s, .string t] w fun e w' => e = .returned (.int .i64 0) ∧ Two w0 w' ca cb q (dput s t a) b js := by
  obtain ⟨⟨pa, xa, fa, pb, xb, fb, CA, CB, ha, hb, D, J⟩, F⟩ := T
  refine (CA.put 0 (by decide) s t).mono ?_
  rintro e w' ⟨rfl, x', v', C', own, G⟩
  exact ⟨rfl, two_up CA CB hb D J F 0 (by decide) (Int.le_refl _) C' (own_of own) G ⟨by rw [upd_same]; show putL 3 s t (fa 0).L = _; rw [ha.1]; rfl, by rw [upd_same]; exact ha.2.1, by rw [upd_same]; exact ha.2.2⟩⟩
theorem Two.put1 (T : Two w0 w ca cb q a b js) (s t : ByteArray) : Calls Try.prog 10 #[.pointer (some ⟨ca, 0, none⟩), .int .i64 1, .string s, .string t] w fun e w' => e = .returned (.int .i64 0) ∧ Two w0 w' ca cb q a b js ∧ Fr (fun b => w0.heap.size ≤ b) w w' := by
  obtain ⟨⟨pa, xa, fa, pb, xb, fb, CA, CB, ha, hb, D, J⟩, F⟩ := T
  refine (CA.put 1 (by decide) s t).mono ?_
  rintro e w' ⟨rfl, x', v', C', own, G⟩
  refine ⟨rfl, ?_, G.mono (fun k _ h => (CA.lt k (h.elim (fun e => .inr (.inl e)) (fun e => .inr (.inr ⟨1, by decide, e⟩)))).1)⟩
  exact two_up CA CB hb D J F 1 (by decide) (Int.le_refl _) C' (own_of own) G ⟨by rw [upd_ne _ _ _ _ (by decide)]; exact ha.1, by rw [upd_ne _ _ _ _ (by decide)]; exact ha.2.1, by rw [upd_ne _ _ _ _ (by decide)]; exact ha.2.2⟩
theorem Two.drop1 (T : Two w0 w ca cb q a b js) : Calls Try.prog 11 #[.pointer (some ⟨ca, 0, none⟩), .int .i64 1] w fun e w' => e = .returned (.int .i64 0) ∧ Two w0 w' ca cb q a b js := by
  obtain ⟨⟨pa, xa, fa, pb, xb, fb, CA, CB, ha, hb, D, J⟩, F⟩ := T
  refine (CA.drop 1 (by decide)).mono ?_
  rintro e w' ⟨rfl, x', C', G⟩
  exact ⟨rfl, two_up CA CB hb D J F 1 (by decide) (Int.le_refl _) C' (fun k e => by simp [Value.ownBlock] at e) G ⟨by rw [upd_ne _ _ _ _ (by decide)]; exact ha.1, by rw [upd_ne _ _ _ _ (by decide)]; exact ha.2.1, by rw [upd_ne _ _ _ _ (by decide)]; exact ha.2.2⟩⟩
theorem Two.get0 (T : Two w0 w ca cb q a b js) (hq : q ≤ 1000000) (s : ByteArray) : Calls Try.prog 7 #[.pointer (some ⟨ca, 0, none⟩), .int .i64 0, .string s] w fun e w' => e = .returned (.tuple #[.string (getV s a.L), .bool (getB s a.L)]) ∧ Two w0 w' ca cb (q + 1) (dget s a) b js := by
  obtain ⟨⟨pa, xa, fa, pb, xb, fb, CA, CB, ha, hb, D, J⟩, F⟩ := T
  rw [← ha.1]
  refine (CA.get hq 0 (by decide) s).mono ?_
  rintro e w' ⟨rfl, x', v', C', own, G⟩
  refine ⟨rfl, two_up CA CB hb D J F 0 (by decide) (by omega) C' (own_of own) G ⟨?_, ?_, ?_⟩⟩
  · rw [upd_same]; show getL s (fa 0).L = _; rw [ha.1]; rfl
  · rw [upd_same]; show (if getB s (fa 0).L then (fa 0).h + 1 else (fa 0).h) = _; rw [ha.1, ha.2.1]; rfl
  · rw [upd_same]; show (if getB s (fa 0).L then (fa 0).m else (fa 0).m + 1) = _; rw [ha.1, ha.2.2]; rfl
theorem Two.get1 (T : Two w0 w ca cb q a b js) (hq : q ≤ 1000000) (s : ByteArray) : Calls Try.prog 7 #[.pointer (some ⟨ca, 0, none⟩), .int .i64 1, .string s] w fun e w' => (∃ x y, e = .returned (.tuple #[.string x, .bool y])) ∧ Two w0 w' ca cb (q + 1) a b js := by
  obtain ⟨⟨pa, xa, fa, pb, xb, fb, CA, CB, ha, hb, D, J⟩, F⟩ := T
  refine (CA.get hq 1 (by decide) s).mono ?_
  rintro e w' ⟨rfl, x', v', C', own, G⟩
  exact ⟨⟨_, _, rfl⟩, two_up CA CB hb D J F 1 (by decide) (by omega) C' (own_of own) G ⟨by rw [upd_ne _ _ _ _ (by decide)]; exact ha.1, by rw [upd_ne _ _ _ _ (by decide)]; exact ha.2.1, by rw [upd_ne _ _ _ _ (by decide)]; exact ha.2.2⟩⟩
theorem Two.hits0 (T : Two w0 w ca cb q a b js) : Calls Try.prog 8 #[.pointer (some ⟨ca, 0, none⟩), .int .i64 0] w fun e w' => e = .returned (.tuple #[.int .i64 a.h, .int .i64 a.m]) ∧ Two w0 w' ca cb q a b js := by
  have T' := T
  obtain ⟨⟨pa, xa, fa, pb, xb, fb, CA, CB, ha, hb, D, J⟩, F⟩ := T
  rw [← ha.2.1, ← ha.2.2]
  refine (CA.hits 0 (by decide)).mono ?_
  rintro e w' ⟨rfl, G⟩
  exact ⟨rfl, T'.ext G⟩
end
end Go.Proofs.Ytkigdgkklninoaa

/-
  The loops of the law Sha2Goes.
-/
import Derived.Test.YtpgbghnjeonmjaaDoorNi
namespace Go.Proofs.YtpgbghnjeonmjaaDoor
open Go.RowKit
set_option linter.unusedVariables false

set_option maxRecDepth 100000 in
theorem lit87 (f : Nat → Value) : ((List.range 87).map f).toArray = #[f 0, f 1, f 2, f 3, f 4, f 5, f 6, f 7, f 8, f 9, f 10, f 11, f 12, f 13, f 14, f 15, f 16, f 17, f 18, f 19, f 20, f 21, f 22, f 23, f 24, f 25, f 26, f 27, f 28, f 29, f 30, f 31, f 32, f 33, f 34, f 35, f 36, f 37, f 38, f 39, f 40, f 41, f 42, f 43, f 44, f 45, f 46, f 47, f 48, f 49, f 50, f 51, f 52, f 53, f 54, f 55, f 56, f 57, f 58, f 59, f 60, f 61, f 62, f 63, f 64, f 65, f 66, f 67, f 68, f 69, f 70, f 71, f 72, f 73, f 74, f 75, f 76, f 77, f 78, f 79, f 80, f 81, f 82, f 83, f 84, f 85, f 86] := by kernel_rfl

theorem Own.set {w : World} {B c g : Nat} {l : List UInt8} (h : Own w B (.slice (some ⟨g, 0, none⟩) l.length c) l) (i : Nat) (hi : i < l.length) (b : UInt8) :
    Own (w.setCell ⟨g, i, none⟩ (.int .u8 (b.toNat : Int))) B (.slice (some ⟨g, 0, none⟩) l.length c) (l.set i b) ∧ w.cell? ⟨g, i, none⟩ = some (.int .u8 (l[i].toNat : Int)) ∧ w.frozen? ⟨g, i, none⟩ = false := by
  have hL := h.lies.2.2.2
  rcases h with ⟨e, rfl⟩ | ⟨g2, cap, cur, fz, e, h1, h2, h3, h4, h5, h6, h7⟩
  · simp at hi
  · obtain ⟨rfl, rfl⟩ : g = g2 ∧ c = cap := by injection e with e1 e2 e3; injection e1 with e1; injection e1 with e1 e4; exact ⟨e1, e3⟩
    refine ⟨Or.inr ⟨g, c, _, fz, by rw [List.length_set], h1, block_setCellF h2 i _, ?_, by rw [List.length_set]; exact h4, h5, by simpa using h6, ?_⟩, ?_, ?_⟩
    · rcases h3 with h3 | h3
      · exact Or.inl h3
      · exact Or.inr (by simpa using h3)
    · rw [List.length_set]
      have : (cur.setIfInBounds i (.int .u8 (b.toNat : Int))).toList = cur.toList.set i (.int .u8 (b.toNat : Int)) := by simp
      rw [this, List.take_set, h7]
      simp [bv, List.map_set]
    · rcases hL with e | ⟨g3, off, e, hc⟩
      · rw [e] at hi; simp at hi
      · injection e with e; injection e with e1 e2
        subst e1; subst e2
        have := hc i hi
        rwa [Nat.zero_add] at this
    · rcases h3 with e | e
      · subst e; simp [World.frozen?, h2]
      · simp [World.frozen?, h2]; omega
set_option maxRecDepth 100000 in
/-- A byte of a part is written. -/
theorem FewR.set {w : World} {B k n g : Nat} {v : Value} {A : Nat → Option Addr} {C : Nat → Nat} {L : List (List UInt8)} (h : FewR w B v A C L n) (hL : L.length = n) (hk : k < n) (hA : A k = some ⟨g, 0, none⟩) (i : Nat) (hi : i < (L.getD k []).length) (b : UInt8) :
    FewR (w.setCell ⟨g, i, none⟩ (.int .u8 (b.toNat : Int))) B v A C (L.set k ((L.getD k []).set i b)) n := by
  have hlen : ∀ j, ((L.set k ((L.getD k []).set i b)).getD j []).length = (L.getD j []).length := by
    intro j
    simp only [List.getD_eq_getElem?_getD, List.getElem?_set]
    by_cases e : k = j
    · subst e; simp [hL, hk]
    · simp [e]
  have hoth : ∀ j, j ≠ k → (L.set k ((L.getD k []).set i b)).getD j [] = L.getD j [] := by
    intro j hj
    simp only [List.getD_eq_getElem?_getD, List.getElem?_set]
    rw [if_neg (fun e => hj e.symm)]
  have hself : (L.set k ((L.getD k []).set i b)).getD k [] = (L.getD k []).set i b := by
    rw [List.getD_eq_getElem?_getD, List.getElem?_set]; simp [hL, hk]
  have hsl : sls A C (L.set k ((L.getD k []).set i b)) n = sls A C L n := by
    unfold sls
    apply List.map_congr_left
    intro j _
    rw [hlen j]
  have hob : ob (A k) = some g := by rw [hA]; rfl
  have hF : Fr (fun x => x = g) w (w.setCell ⟨g, i, none⟩ (.int .u8 (b.toNat : Int))) := (Fr.refl (fun x => x = g) w).setCell (Or.inl rfl) _
  refine ⟨?_, ?_, h.off, h.apart⟩
  · rw [hsl]
    exact hF.own h.row (fun x hx e => h.off k hk g hob (by rw [← e]; exact hx))
  · intro j hj
    rw [hlen j]
    by_cases e : j = k
    · subst e
      rw [hself]
      have hp := h.part j hk
      rw [hA] at hp ⊢
      exact (hp.set i hi b).1
    · rw [hoth j e]
      refine (h.part j hj).fr hF (fun x hx e2 => ?_)
      rw [ob_own] at hx
      subst e2
      rcases Nat.lt_or_ge j k with h2 | h2
      · exact h.apart j k h2 hk x hx hob
      · exact h.apart k j (by omega) hj x hob hx
set_option maxRecDepth 100000 in
/-- The cell of the row of slices. -/
theorem FewR.slot {w : World} {B k n : Nat} {a : Option Addr} {c : Nat} {A : Nat → Option Addr} {C : Nat → Nat} {L : List (List UInt8)} (h : FewR w B (.slice a n c) A C L n) (hk : k < n) : ∃ g, a = some ⟨g, 0, none⟩ ∧ w.cell? ⟨g, k, none⟩ = some (.slice (A k) (L.getD k []).length (C k)) := by
  rcases h.row.2 with ⟨_, h0⟩ | ⟨g, cap, cur, e, _, hg, hc, hm, _, ht⟩
  · omega
  · injection e with e1 e2 e3
    subst e1
    refine ⟨g, rfl, ?_⟩
    rw [cell_of_block hg, ← Array.getElem?_toList]
    have : (cur.toList.take (n * 1))[k]? = (sls A C L n)[k]? := by rw [ht]
    rw [List.getElem?_take, if_pos (by omega)] at this
    rw [this]
    unfold sls
    rw [List.getElem?_map, List.getElem?_range hk]; rfl
set_option maxRecDepth 100000 in
theorem xor33 (x : UInt8) : bits .xor .u8 (x.toNat : Int) 51 = ((x ^^^ 51).toNat : Int) := by
  have h1 := x.toNat_lt
  have x3 : x.toNat ^^^ 51 < 2 ^ 8 := Nat.xor_lt_two_pow (by omega) (by omega)
  have e1 : (BitVec.ofInt 8 (x.toNat : Int)).toNat = x.toNat := by
    rw [BitVec.ofInt_natCast, BitVec.toNat_ofNat]; exact Nat.mod_eq_of_lt (by omega)
  show IntKind.u8.wrap ((BitVec.ofInt 8 (x.toNat : Int) ^^^ BitVec.ofInt 8 51).toNat : Int) = _
  rw [BitVec.toNat_xor, e1, show (BitVec.ofInt 8 51).toNat = 51 from rfl, UInt8.toNat_xor, IntKind.wrap_u8, show (51 : UInt8).toNat = 51 from rfl]
  omega

/-- The frame's pins through the inner loop. -/
structure GPin (t : Array Value) (bh : Nat) (a : Option Addr) (n c k : Nat) (s : List UInt8) : Prop where
  sz : t.size = 87
  p4 : t[4]? = some (.pointer (some ⟨bh, 0, none⟩))
  p5 : t[5]? = some (.string ⟨s.toArray⟩)
  p6 : t[6]? = some (.slice a n c)
  p7 : t[7]? = some (.int .i64 (k : Int))
set_option maxRecDepth 100000 in
theorem GPin.open {t : Array Value} {bh : Nat} {a : Option Addr} {n c k : Nat} {s : List UInt8} (h : GPin t bh a n c k s) : ∃ f : Nat → Value, (∀ i v, t[i]? = some v → f i = v) ∧ t = #[f 0, f 1, f 2, f 3, .pointer (some ⟨bh, 0, none⟩), .string ⟨s.toArray⟩, .slice a n c, .int .i64 (k : Int), f 8, f 9, f 10, f 11, f 12, f 13, f 14, f 15, f 16, f 17, f 18, f 19, f 20, f 21, f 22, f 23, f 24, f 25, f 26, f 27, f 28, f 29, f 30, f 31, f 32, f 33, f 34, f 35, f 36, f 37, f 38, f 39, f 40, f 41, f 42, f 43, f 44, f 45, f 46, f 47, f 48, f 49, f 50, f 51, f 52, f 53, f 54, f 55, f 56, f 57, f 58, f 59, f 60, f 61, f 62, f 63, f 64, f 65, f 66, f 67, f 68, f 69, f 70, f 71, f 72, f 73, f 74, f 75, f 76, f 77, f 78, f 79, f 80, f 81, f 82, f 83, f 84, f 85, f 86] := by
  obtain ⟨f, hf, ht⟩ := frame_open h.sz
  rw [lit87] at ht
  refine ⟨f, hf, ?_⟩
  rw [ht, hf 4 _ h.p4, hf 5 _ h.p5, hf 6 _ h.p6, hf 7 _ h.p7]

set_option maxRecDepth 100000 in
theorem FewR.fr {w w2 : World} {B n : Nat} {v : Value} {A : Nat → Option Addr} {C : Nat → Nat} {L : List (List UInt8)} {S : Nat → Prop} (h : FewR w B v A C L n) (hF : Fr S w w2) (hS : ∀ x, B ≤ x → ¬ S x) : FewR w2 B v A C L n :=
  ⟨hF.own h.row (fun x hx => hS x (ownsRow_lt h.row x hx).1), fun j hj => (h.part j hj).fr hF (fun x hx => hS x ((h.part j hj).lt x hx).1), h.off, h.apart⟩
theorem take_flat (X : List (List UInt8)) (k : Nat) : (X.take k).flatten.length ≤ X.flatten.length := by
  conv => rhs; rw [← List.take_append_drop k X]
  rw [List.flatten_append, List.length_append]; omega
set_option maxRecDepth 100000 in
theorem flat_succ (X : List (List UInt8)) (k : Nat) (hk : k < X.length) : (X.take (k + 1)).flatten = (X.take k).flatten ++ X.getD k [] := by
  rw [List.take_succ_eq_append_getElem hk, List.flatten_append, List.getD_eq_getElem?_getD, List.getElem?_eq_getElem hk]; simp

end Go.Proofs.YtpgbghnjeonmjaaDoor


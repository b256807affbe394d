/-
  ExtentZeros: the second loop: each extent's look.
-/
import Derived.Test.YtgladedjgjhlaaaXq
namespace Go.Proofs.Ytgladedjgjhlaaa
open Go.RowKit
set_option linter.unusedVariables false
set_option linter.unusedSimpArgs false
theorem zr_b127 (y : UInt8) : zr (b127 y) = (y == 0) := by
  rw [Bool.eq_iff_iff, zr_iff, beq_iff_eq]
  constructor
  · intro h; have := h 127 (by decide); simpa [b127] using this
  · intro h j _; rw [h, b127_zero]
theorem clr_dty {N : Nat → Nat → UInt8} {Wf : Nat → UInt8} (hN : ∀ j, j < 20 → N j = b127 (Wf j)) (i : Nat) (hi : i < 4) : clr N (2 + i * 4) 4 = !(dty Wf i 4) := by
  rw [Bool.eq_iff_iff, clr_iff]
  have e : (!(dty Wf i 4)) = true ↔ ∀ k, k < 4 → Wf (2 + 4 * i + k) = 0 := by
    simp only [dty, Bool.not_eq_true', List.any_eq_false, List.mem_range]
    constructor
    · intro h k hk; simpa using h k hk
    · intro h k hk; simpa using h k hk
  rw [e]
  constructor
  · intro h k hk
    have := h (2 + 4 * i + k) (by omega) (by omega)
    rw [hN _ (by omega), zr_b127] at this
    simpa using this
  · intro h j h1 h2
    rw [hN _ (by omega), zr_b127]
    have := h (j - (2 + 4 * i)) (by omega)
    rw [show 2 + 4 * i + (j - (2 + 4 * i)) = j by omega] at this
    rw [this]; rfl
def dirtyl (Wf : Nat → UInt8) (k : Nat) : List Nat := (List.range k).filter fun i => dty Wf i 4
theorem dirtyl_yes {Wf : Nat → UInt8} {k : Nat} (h : dty Wf k 4 = true) : dirtyl Wf (k + 1) = dirtyl Wf k ++ [k] := by simp [dirtyl, List.range_succ, h]
theorem dirtyl_no {Wf : Nat → UInt8} {k : Nat} (h : dty Wf k 4 = false) : dirtyl Wf (k + 1) = dirtyl Wf k := by simp [dirtyl, List.range_succ, h]
theorem dirtyl_len (Wf : Nat → UInt8) (k : Nat) : (dirtyl Wf k).length ≤ k := by
  have := List.length_filter_le (fun i => dty Wf i 4) (List.range k)
  simpa [dirtyl] using this
set_option maxRecDepth 100000 in
set_option maxHeartbeats 6400000 in
theorem zeros2 {Q : Exit → Act → World → Prop} {w : World} {d bn bl x gt : Nat} {s1 s2 s14 : Value} {Wf : Nat → UInt8} {N L : Nat → Nat → UInt8} {ws : List (Nat × (Nat → UInt8))} {wv : Value} {wr ar : Int} {base : Nat} (hx : Ext w x (.pointer (some ⟨d, 0, none⟩)) 2 4 4) (D : DA w d bn bl 20 N L ws wv wr ar false base) (G : w.heap[gt]? = some (.cells (ub 20 Wf) 82 (0, 0))) (hN : ∀ j, j < 20 → N j = b127 (Wf j)) (t : Array Value) (hn : t.size = 211)
    (p1 : t[1]? = some s1) (p2 : t[2]? = some s2) (p7 : t[7]? = some (.pointer (some ⟨d, 0, none⟩))) (p9 : t[9]? = some (.pointer (some ⟨x, 0, none⟩))) (p11 : t[11]? = some (.pointer (some ⟨gt, 0, none⟩))) (p14 : t[14]? = some s14) (p15 : t[15]? = some (.slice none 0 0)) (p16 : t[16]? = some (.int .i64 0))
    (hexit : ∀ t' w' v', t'.size = 211 → t'[2]? = some s2 → t'[7]? = some (.pointer (some ⟨d, 0, none⟩)) → t'[9]? = some (.pointer (some ⟨x, 0, none⟩)) → t'[11]? = some (.pointer (some ⟨gt, 0, none⟩)) → t'[14]? = some s14 → t'[15]? = some v' → w'.ownsRow w.heap.size 3 1 v' (dirtyl Wf 4).length (ints (dirtyl Wf 4)) → Fr (fun _ => False) w w' → Q (.exit 2) ⟨t', []⟩ w') :
    Code.wp Try.prog (.loop (loopAt Try.f8 1)) Q ⟨t, []⟩ w := by
  refine wp_loop_up 4 (fun k t w' => t.size = 211 ∧ t[1]? = some s1 ∧ t[2]? = some s2 ∧ t[7]? = some (.pointer (some ⟨d, 0, none⟩)) ∧ t[9]? = some (.pointer (some ⟨x, 0, none⟩)) ∧ t[11]? = some (.pointer (some ⟨gt, 0, none⟩)) ∧ t[14]? = some s14 ∧ t[16]? = some (.int .i64 (k : Int)) ∧ (∃ v, t[15]? = some v ∧ w'.ownsRow w.heap.size 3 1 v (dirtyl Wf k).length (ints (dirtyl Wf k))) ∧ Fr (fun _ => False) w w') t w ⟨hn, p1, p2, p7, p9, p11, p14, p16, ⟨_, p15, World.ownsRow_nil _ _ _ _⟩, Fr.refl _ _⟩ ?_
  clear hn p1 p2 p7 p9 p11 p14 p15 p16 t
  rintro k t w1 hk ⟨hn, p1, p2, p7, p9, p11, p14, p16, ⟨v, p15, O⟩, F1⟩ K hK
  obtain ⟨f, hff, rfl⟩ := frame_open hn
  have e1 := hff 1 _ p1
  have e2 := hff 2 _ p2
  have e7 := hff 7 _ p7
  have e9 := hff 9 _ p9
  have e11 := hff 11 _ p11
  have e14 := hff 14 _ p14
  have e15 := hff 15 _ p15
  have e16 := hff 16 _ p16
  clear hff hn p1 p2 p7 p9 p11 p14 p15 p16
  rw [lit211, e1, e2, e7, e9, e11, e14, e15, e16]
  clear e1 e2 e7 e9 e11 e14 e15 e16
  conv => arg 2; whnf
  have HE := Lib.hid hexit
  have HK := Lib.hid hK
  have HX := Lib.hid (hx.fr F1)
  have HD := Lib.hid (D.fr F1 (fun _ _ h => h))
  have HG := Lib.hid (F1.kp G)
  have HO := Lib.hid O
  have HF := Lib.hid F1
  clear hexit hK hx D O F1 G
  by_cases hlt : k < 4
  · have q1 : (k : Int) < 4 := by omega
    have e1 : (2 : Int) + (k : Int) * 4 = ((2 + k * 4 : Nat) : Int) := by simp
    have HC := Lib.hid (clear_clr HX.out HD.out (k : Int) (Int.natCast_nonneg k) q1 (2 + k * 4) 4 e1 rfl (by unfold In64; omega) (by unfold In64; omega) (by omega))
    have hcd := clr_dty hN k hlt
    have HCD := Lib.hid hcd
    have HL := Lib.hid (dirtyl_len Wf k)
    clear e1 hcd
    have r1 := wrs k (by omega)
    have r2 := wrs2 k (by omega)
    go_wp2_with fail
    refine zeros3 hlt HG.out _ rfl rfl rfl rfl rfl rfl rfl rfl rfl rfl rfl ?_
    intro t hn p1 p2 p7 p9 p11 p14 p15 p16 p17
    obtain ⟨f, hff, rfl⟩ := frame_open hn
    have e1 := hff 1 _ p1
    have e2 := hff 2 _ p2
    have e7 := hff 7 _ p7
    have e9 := hff 9 _ p9
    have e11 := hff 11 _ p11
    have e14 := hff 14 _ p14
    have e15 := hff 15 _ p15
    have e16 := hff 16 _ p16
    have e17 := hff 17 _ p17
    clear hff hn p1 p2 p7 p9 p11 p14 p15 p16 p17
    rw [lit211, e1, e2, e7, e9, e11, e14, e15, e16, e17]
    clear e1 e2 e7 e9 e11 e14 e15 e16 e17
    go_wp2_with fail
    refine HC.out.mono ?_
    rintro e w2 ⟨rfl, F2⟩
    rw [HCD.out]
    have G2 := HF.out.trans F2 (fun _ h => h.elim)
    have O2 := own_fr HO.out F2 (fun _ _ h => h)
    cases hz : dty Wf k 4 with
    | false =>
      have HN := Lib.hid (dirtyl_no hz)
      clear hz F2
      have HO2 := Lib.hid O2
      clear O2
      go_wp2_with fail
      exact HK.out _ _ hlt ⟨rfl, rfl, rfl, rfl, rfl, rfl, rfl, by simp, ⟨v, rfl, by rw [HN.out]; exact HO2.out⟩, G2⟩
    | true =>
      have HN := Lib.hid (dirtyl_yes hz)
      have O3 := own_fr O2 ((Fr.refl (fun _ => False) w2).alloc (.cells #[.int .i64 (k : Int)] 3)) (fun _ _ h => h)
      have HO3 := Lib.hid O3
      have R3 : (w2.alloc (.cells #[.int .i64 (k : Int)] 3)).heap[w2.heap.size]? = some (.cells #[.int .i64 (k : Int)] 3 (0, 0)) := heap_alloc_new _ _
      have HG2 := Lib.hid G2
      obtain ⟨ti, z, t1, t2, t3, t4, t5⟩ := intInfo
      have hsrc : ∀ X : World, X.heap[w2.heap.size]? = some (.cells #[.int .i64 (k : Int)] 3 (0, 0)) → Src Try.prog 1 74 (.slice (some ⟨w2.heap.size, 0, none⟩) 1 1) 1 [Value.int .i64 (k : Int)] X := fun X hX => Src.ofSlice X Try.underlying74 ⟨w2.heap.size, 0, none⟩ 1 1 [Value.int .i64 (k : Int)] rfl (fun j u hj => by
        rw [Addr.add_mid, Nat.zero_add, cell_of_block hX]
        match j, hj with
        | 0, hj => simpa using hj
        | j + 1, hj => simp at hj) (fun u hu => by have : u = .int .i64 (k : Int) := by simpa using hu
                                                   rw [this]; rfl)
      have HSRC := Lib.hid (hsrc _ R3)
      have HT := Lib.hid (And.intro t1 (And.intro t2 (And.intro t3 (And.intro t4 t5))))
      have hk8 : k ≤ 8192 := by omega
      clear hz F2 O2 O3 R3 G2 hsrc t1 t2 t3 t4 t5
      go_wp2_with (focus ((refine wpList_app _ rfl (.tmp 122) (.tmp 124) 74 74 rfl w.heap.size 3 ti z 1 8 Try.underlying74 HT.out.1 HT.out.2.1 HT.out.2.2.1 HT.out.2.2.2.1 HT.out.2.2.2.2 (by decide) v (dirtyl Wf k).length (ints (dirtyl Wf k)) rfl HO3.out _ rfl 1 [Value.int .i64 (k : Int)] HSRC.out (app_max HL.out hk8) (app_bytes HL.out hk8) (Nat.le_trans HG2.out.size (by simp)) ?_); intro v2 w3 O4 G4 G4x; simp only [Act.put, List.setIfInBounds_toArray, List.set_cons_zero, List.set_cons_succ]))
      refine HK.out _ _ hlt ⟨rfl, rfl, rfl, rfl, rfl, rfl, rfl, by simp, ⟨v2, rfl, ?_⟩, ?_⟩
      · rw [HN.out, ints_app, List.length_append]; exact O4
      · refine (HG2.out.alloc (.cells #[.int .i64 (k : Int)] 3)).trans (Fr.ofGrown G4) (fun j hj => Or.inr ?_)
        rcases HO3.out.2 with ⟨e0, _⟩ | ⟨g, cap, cur, e0, hb, _⟩
        · rw [e0] at hj; exact absurd hj (by simp [Value.ownBlock])
        · rw [e0] at hj
          have : g = j := by simpa [Value.ownBlock] using hj
          omega
  · obtain rfl : k = 4 := by omega
    go_wp2_with fail
    exact HE.out _ _ v rfl rfl rfl rfl rfl rfl rfl HO.out HF.out
end Go.Proofs.Ytgladedjgjhlaaa

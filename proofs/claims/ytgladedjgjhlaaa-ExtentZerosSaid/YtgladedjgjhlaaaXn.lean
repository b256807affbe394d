/-
  Foul: those extents that aren't of noughts.
-/
import Derived.Test.YtgladedjgjhlaaaXk
namespace Go.Proofs.Ytgladedjgjhlaaa
open Go.RowKit
set_option linter.unusedVariables false
set_option linter.unusedSimpArgs false
/-- Is an extent of noughts? -/
def clr (N : Nat → Nat → UInt8) (b0 sz : Nat) : Bool := (List.range sz).all fun j => zr (N (b0 + j))
theorem clr_iff (N : Nat → Nat → UInt8) (b0 sz : Nat) : clr N b0 sz = true ↔ ∀ j, b0 ≤ j → j < b0 + sz → zr (N j) = true := by
  unfold clr
  rw [List.all_eq_true]
  constructor
  · intro h j h1 h2
    have := h (j - b0) (List.mem_range.2 (by omega))
    rwa [show b0 + (j - b0) = j by omega] at this
  · intro h j hj
    exact h _ (Nat.le_add_right _ _) (by have := List.mem_range.1 hj; omega)
theorem clear_clr {w : World} {x d bn bl n : Nat} {xf xc xs : Int} {N L : Nat → Nat → UInt8} {ws : List (Nat × (Nat → UInt8))} {wv : Value} {wr ar : Int} {base : Nat} (hx : Ext w x (.pointer (some ⟨d, 0, none⟩)) xf xc xs) (D : DA w d bn bl n N L ws wv wr ar false base) (i : Int) (i0 : 0 ≤ i) (i1 : i < xc) (b0 sz : Nat) (e1 : xf + i * xs = (b0 : Int)) (e2 : xs = (sz : Int)) (g1 : In64 (i * xs)) (g2 : In64 (xf + i * xs)) (hb : b0 + sz ≤ n) :
    Calls Try.prog 42 #[(.pointer (some ⟨x, 0, none⟩)), .int .i64 i] w fun e w' => e = .returned (.tuple #[.bool (clr N b0 sz), .int .i64 0]) ∧ Fr (fun _ => False) w w' := by
  refine (clear_any hx D i i0 i1 b0 sz e1 e2 g1 g2 hb).mono ?_
  rintro e w' ⟨b, rfl, hbb, F⟩
  have : b = clr N b0 sz := by
    rw [Bool.eq_iff_iff, hbb, clr_iff]
  rw [this]
  exact ⟨rfl, F⟩
/-- Those among the first k. -/
def fouls (N : Nat → Nat → UInt8) (f s k : Nat) : List Nat := (List.range k).filter fun i => !(clr N (f + i * s) s)
def ints (l : List Nat) : List Value := l.map fun (i : Nat) => Value.int .i64 (i : Int)
theorem fouls_yes {N : Nat → Nat → UInt8} {f s k : Nat} (h : clr N (f + k * s) s = false) : fouls N f s (k + 1) = fouls N f s k ++ [k] := by simp [fouls, List.range_succ, h]
theorem fouls_no {N : Nat → Nat → UInt8} {f s k : Nat} (h : clr N (f + k * s) s = true) : fouls N f s (k + 1) = fouls N f s k := by simp [fouls, List.range_succ, h]
theorem fouls_len (N : Nat → Nat → UInt8) (f s k : Nat) : (fouls N f s k).length ≤ k := by
  have := List.length_filter_le (fun i => !(clr N (f + i * s) s)) (List.range k)
  simpa [fouls] using this
theorem ints_app (l : List Nat) (k : Nat) : ints (l ++ [k]) = ints l ++ [.int .i64 (k : Int)] := by simp [ints]
theorem app_max {l k : Nat} (h : l ≤ k) (hk : k ≤ 8192) : l + 1 ≤ maxLen := by simp only [maxLen]; omega
theorem app_bytes {l k : Nat} (h : l ≤ k) (hk : k ≤ 8192) : (l + 1) * 8 ≤ 140737488355328 := by omega
set_option maxRecDepth 100000 in
theorem intInfo : ∃ ti z, Try.prog.info? 3 = some ti ∧ ti.zero = some z ∧ ti.size = 1 ∧ ti.bytes = 8 ∧ z.cells.size = 1 := ⟨_, .int .i64 0, rfl, by kernel_rfl, by kernel_rfl, by kernel_rfl, by kernel_rfl⟩
theorem wrs (k : Nat) (h : k ≤ 8192) : IntKind.i64.wrap ((k : Int) + 1) = (k : Int) + 1 := IntWalk.i64_in _ (by omega)
theorem wrs2 (k : Nat) (h : k ≤ 8192) : wrap64 ((k : Int) + 1) = (k : Int) + 1 := IntWalk.wrap64_in _ (by omega)
set_option maxRecDepth 100000 in
theorem lit34 (f : Nat → Value) : ((List.range 34).map f).toArray = (f 0 :: f 1 :: f 2 :: f 3 :: f 4 :: f 5 :: f 6 :: f 7 :: f 8 :: f 9 :: f 10 :: f 11 :: f 12 :: f 13 :: f 14 :: f 15 :: f 16 :: f 17 :: f 18 :: f 19 :: f 20 :: f 21 :: f 22 :: f 23 :: f 24 :: f 25 :: f 26 :: f 27 :: f 28 :: f 29 :: f 30 :: f 31 :: f 32 :: f 33 :: []).toArray := by kernel_rfl
set_option maxRecDepth 100000 in
set_option maxHeartbeats 6400000 in
theorem foul_loop {Q : Exit → Act → World → Prop} {w : World} {x d bn bl n f c s : Nat} {N L : Nat → Nat → UInt8} {ws : List (Nat × (Nat → UInt8))} {wv : Value} {wr ar : Int} {base : Nat} (hx : Ext w x (.pointer (some ⟨d, 0, none⟩)) (f : Int) (c : Int) (s : Int)) (D : DA w d bn bl n N L ws wv wr ar false base) (hfit : f + c * s ≤ n) (hc : c ≤ 8192) (hs : 1 ≤ s) (t : Array Value) (hn : t.size = 34)
    (p0 : t[0]? = some (.pointer (some ⟨x, 0, none⟩))) (p4 : t[4]? = some (.slice none 0 0)) (p13 : t[13]? = some (.int .i64 (c : Int))) (p14 : t[14]? = some (.int .i64 0))
    (hexit : ∀ t' w' v', t'.size = 34 → t'[4]? = some v' → w'.ownsRow w.heap.size 3 1 v' (fouls N f s c).length (ints (fouls N f s c)) → Fr (fun _ => False) w w' → Q (.exit 0) ⟨t', []⟩ w') :
    Code.wp Try.prog (.loop (loopAt Try.f43 0)) Q ⟨t, []⟩ w := by
  refine wp_loop_up c (fun k t w' => t.size = 34 ∧ t[0]? = some (.pointer (some ⟨x, 0, none⟩)) ∧ t[13]? = some (.int .i64 (c : Int)) ∧ t[14]? = some (.int .i64 (k : Int)) ∧ (∃ v, t[4]? = some v ∧ w'.ownsRow w.heap.size 3 1 v (fouls N f s k).length (ints (fouls N f s k))) ∧ Fr (fun _ => False) w w') t w ⟨hn, p0, p13, p14, ⟨_, p4, World.ownsRow_nil _ _ _ _⟩, Fr.refl _ _⟩ ?_
  clear hn p0 p4 p13 p14 t
  rintro k t w1 hk ⟨hn, p0, p13, p14, ⟨v, p4, O⟩, F1⟩ K hK
  have hn8 := D.hn
  have hks : k < c → f + k * s + s ≤ n := fun h => by
    have : (k + 1) * s ≤ c * s := Nat.mul_le_mul_right s h
    rw [Nat.succ_mul] at this
    omega
  obtain ⟨fr, hff, rfl⟩ := frame_open hn
  have e0 := hff 0 _ p0
  have e4 := hff 4 _ p4
  have e13 := hff 13 _ p13
  have e14 := hff 14 _ p14
  clear hff hn p0 p4 p13 p14
  rw [lit34, e0, e4, e13, e14]
  clear e0 e4 e13 e14
  conv => arg 2; whnf
  have HE := Lib.hid hexit
  have HK := Lib.hid hK
  have HX := Lib.hid (hx.fr F1)
  have HD := Lib.hid (D.fr F1 (fun _ _ h => h))
  have HO := Lib.hid O
  have HF := Lib.hid F1
  have hk8 : k ≤ 8192 := by omega
  clear hexit hK hx D O F1
  by_cases hlt : k < c
  · have q1 : (k : Int) < (c : Int) := Int.ofNat_lt.2 hlt
    have hfk := hks hlt
    have e1 : (f : Int) + (k : Int) * (s : Int) = ((f + k * s : Nat) : Int) := by simp
    have g0 : k * s ≤ 8192 := by omega
    have g1 : In64 ((k : Int) * (s : Int)) := by
      have : (k : Int) * (s : Int) = ((k * s : Nat) : Int) := by simp
      rw [this]; unfold In64; omega
    have g2 : In64 ((f : Int) + (k : Int) * (s : Int)) := by rw [e1]; unfold In64; omega
    have HC := Lib.hid (clear_clr HX.out HD.out (k : Int) (Int.natCast_nonneg k) q1 (f + k * s) s e1 rfl g1 g2 hfk)
    have hlen := fouls_len N f s k
    have HL := Lib.hid hlen
    clear e1 g0 g1 g2 hfk hks hfit hn8 hlen
    have r1 := wrs k hk8
    have r2 := wrs2 k hk8
    go_wp2_with fail
    refine HC.out.mono ?_
    rintro e w2 ⟨rfl, F2⟩
    have G2 := HF.out.trans F2 (fun _ h => h.elim)
    have O2 := own_fr HO.out F2 (fun _ _ h => h)
    cases hz : clr N (f + k * s) s with
    | true =>
      have HN := Lib.hid (fouls_no hz)
      clear hz F2
      have HO2 := Lib.hid O2
      clear O2
      go_wp2_with fail
      exact HK.out _ _ hlt ⟨rfl, rfl, rfl, by simp, ⟨v, rfl, by rw [HN.out]; exact HO2.out⟩, G2⟩
    | false =>
      have HN := Lib.hid (fouls_yes hz)
      have O3 := own_fr O2 ((Fr.refl (fun _ => False) w2).alloc (.cells #[.int .i64 (k : Int)] 3)) (fun _ _ h => h)
      have HO3 := Lib.hid O3
      have R3 : (w2.alloc (.cells #[.int .i64 (k : Int)] 3)).heap[w2.heap.size]? = some (.cells #[.int .i64 (k : Int)] 3 (0, 0)) := heap_alloc_new _ _
      have HR3 := Lib.hid R3
      have HG2 := Lib.hid G2
      obtain ⟨ti, z, t1, t2, t3, t4, t5⟩ := intInfo
      have hsrc : ∀ X : World, X.heap[w2.heap.size]? = some (.cells #[.int .i64 (k : Int)] 3 (0, 0)) → Src Try.prog 1 74 (.slice (some ⟨w2.heap.size, 0, none⟩) 1 1) 1 [Value.int .i64 (k : Int)] X := fun X hX => Src.ofSlice X Try.underlying74 ⟨w2.heap.size, 0, none⟩ 1 1 [Value.int .i64 (k : Int)] rfl (fun j u hj => by
        rw [Addr.add_mid, Nat.zero_add, cell_of_block hX]
        match j, hj with
        | 0, hj => simpa using hj
        | j + 1, hj => simp at hj) (fun u hu => by have : u = .int .i64 (k : Int) := by simpa using hu
                                                   rw [this]; rfl)
      have HSRC := Lib.hid (hsrc _ R3)
      have HT := Lib.hid (And.intro t1 (And.intro t2 (And.intro t3 (And.intro t4 t5))))
      clear hz F2 O2 O3 R3 G2 hsrc t1 t2 t3 t4 t5
      go_wp2_with (focus ((refine wpList_app _ rfl (.tmp 28) (.tmp 30) 74 74 rfl w.heap.size 3 ti z 1 8 Try.underlying74 HT.out.1 HT.out.2.1 HT.out.2.2.1 HT.out.2.2.2.1 HT.out.2.2.2.2 (by decide) v (fouls N f s k).length (ints (fouls N f s k)) rfl HO3.out _ rfl 1 [Value.int .i64 (k : Int)] HSRC.out (app_max HL.out hk8) (app_bytes HL.out hk8) (Nat.le_trans HG2.out.size (by simp)) ?_); intro v2 w3 O4 G4 G4x; simp only [Act.put, List.setIfInBounds_toArray, List.set_cons_zero, List.set_cons_succ]))
      refine HK.out _ _ hlt ⟨rfl, rfl, rfl, by simp, ⟨v2, rfl, ?_⟩, ?_⟩
      · rw [HN.out, ints_app, List.length_append]; exact O4
      · refine (HG2.out.alloc (.cells #[.int .i64 (k : Int)] 3)).trans (Fr.ofGrown G4) (fun j hj => Or.inr ?_)
        rcases HO3.out.2 with ⟨e0, _⟩ | ⟨g, cap, cur, e0, hb, _⟩
        · rw [e0] at hj; exact absurd hj (by simp [Value.ownBlock])
        · rw [e0] at hj
          have : g = j := by simpa [Value.ownBlock] using hj
          omega
  · obtain rfl : k = c := by omega
    clear hks hfit hn8
    go_wp2_with fail
    exact HE.out _ _ v rfl rfl HO.out HF.out
end Go.Proofs.Ytgladedjgjhlaaa

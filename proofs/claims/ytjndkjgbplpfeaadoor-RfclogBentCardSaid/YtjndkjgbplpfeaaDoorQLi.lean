/-
  A claim that came in as an argument: two places, rows of 32, two sums.
  What both sides tell of all claims: places that are any numbers.
  The law RfclogChecks.
-/
import Derived.Test.YtjndkjgbplpfeaaDoorQLa
import Derived.Deep.Slices
import Derived.Deep.Strs
import Derived.Test.YtjndkjgbplpfeaaDoorQLh
import Derived.Test.YtjndkjgbplpfeaaDoorQLd
import Derived.Test.YtjndkjgbplpfeaaDoorQLg
import Derived.Test.YtjndkjgbplpfeaaDoorQLe
namespace Go.Proofs.YtjndkjgbplpfeaaDoor
open Go.ChangeShapes Go.WideShapes Go.ChangeAt Go.RowKit
set_option linter.unusedVariables false

section
variable {H : Type} {enc : TypeId × Value → H} {W : World} {base : Nat} {v : Value} {d : DataW H} {p : List MemPlace}
set_option maxRecDepth 100000 in
theorem cells_row32 {n : Nat} {cs : List Value} {y : DataW H × List MemPlace} (hf : DataW.trod enc Tryd.prog W 0 (fun _ => true) true n 31 cs = some y) : ∃ l : List UInt8, cs = bv l ∧ l.length = 32 := by
  have A : WideMaps.ArrKey Tryd.prog 31 5 32 := ⟨Tryd.underlying31, by kernel_rfl, by kernel_rfl, by kernel_rfl⟩
  have hce : Tryd.prog.cellsOf 5 = 1 := A.one
  have hct : Tryd.prog.cellsOf 31 = 32 := A.size
  cases n with
  | zero => simp [DataW.trod] at hf
  | succ fuel =>
    simp only [DataW.trod, A.hu, hce, hct, Nat.mul_one] at hf
    split at hf
    · rename_i hlen
      obtain ⟨xs, hm, hx⟩ := Option.map_eq_some_iff.1 hf
      have key : ∀ i, i < 32 → ∃ y : UInt8, cs[i]? = some (.int .u8 (y.toNat : Int)) := by
        intro i hi
        obtain ⟨b, hb, hf2⟩ := Lib.mapM_at hm i i (by simp [hi])
        obtain ⟨z, hc, _, hwf⟩ := DataW.trod_int Tryd.underlying5 hf2
        have hb8 := bounds_u8 hwf
        refine ⟨UInt8.ofNat z.toNat, ?_⟩
        have h2 : cs[i]? = some (.int .u8 z) := by
          have := congrArg (·[0]?) hc
          simpa [List.getElem?_take, List.getElem?_drop] using this
        rw [h2]
        congr 2
        have : (UInt8.ofNat z.toNat).toNat = z.toNat % 256 := rfl
        omega
      obtain ⟨f, hf⟩ : ∃ f : Nat → UInt8, ∀ j, j < 32 → cs[j]? = some (.int .u8 ((f j).toNat : Int)) := ⟨fun i => if h : i < 32 then Classical.choose (key i h) else 0, fun j hj => by
        simp only [dif_pos hj]; exact Classical.choose_spec (key j hj)⟩
      refine ⟨(List.range 32).map f, ?_, by simp⟩
      apply List.ext_getElem?
      intro j
      by_cases hj : j < 32
      · rw [hf j hj, bv_get]; simp [hj]
      · rw [List.getElem?_eq_none (by omega), List.getElem?_eq_none (by simp; omega)]
    · cases hf
set_option maxRecDepth 100000 in
theorem trod_struct6 {P : Program} {w : World} {b : Nat} {spare : Nat → Bool} {held : Bool} {t : TypeId} {f0 f1 f2 f3 f4 f5 : Field} {fuel : Nat} {cs : List Value} {x : DataW H × List MemPlace} (ht : P.underlying t = some (.struct #[f0, f1, f2, f3, f4, f5])) (h : DataW.trod enc P w b spare held fuel t cs = some x) :
    ∃ y0 y1 y2 y3 y4 y5 n, cs.length = P.cellsOf t ∧ DataW.trod enc P w b spare held n f0.type ((cs.drop f0.offset).take (P.cellsOf f0.type)) = some y0 ∧ DataW.trod enc P w b spare held n f1.type ((cs.drop f1.offset).take (P.cellsOf f1.type)) = some y1 ∧
      DataW.trod enc P w b spare held n f2.type ((cs.drop f2.offset).take (P.cellsOf f2.type)) = some y2 ∧ DataW.trod enc P w b spare held n f3.type ((cs.drop f3.offset).take (P.cellsOf f3.type)) = some y3 ∧
      DataW.trod enc P w b spare held n f4.type ((cs.drop f4.offset).take (P.cellsOf f4.type)) = some y4 ∧ DataW.trod enc P w b spare held n f5.type ((cs.drop f5.offset).take (P.cellsOf f5.type)) = some y5 := by
  obtain ⟨xs, n, _, rfl, hl, hlen, hf⟩ := DataW.trod_struct ht h
  match xs, hlen with
  | [y0, y1, y2, y3, y4, y5], _ => exact ⟨y0, y1, y2, y3, y4, y5, n, hl, by simpa using hf 0 f0 rfl, by simpa using hf 1 f1 rfl, by simpa using hf 2 f2 rfl, by simpa using hf 3 f3 rfl, by simpa using hf 4 f4 rfl, by simpa using hf 5 f5 rfl⟩
set_option maxRecDepth 100000 in
theorem cells_rows32 {n : Nat} {cs : List Value} {y : DataW H × List MemPlace} (hf : DataW.trod enc Tryd.prog W 0 (fun _ => true) true n 38 cs = some y) :
    ∃ a m c P, cs = [.slice a m c] ∧ P.length = m ∧ m ≤ c ∧ c ≤ maxLen ∧ Kv W a P := by
  have c32 : Tryd.prog.cellsOf 31 = 32 := by kernel_rfl
  rcases Deep.open_slice Tryd.underlying38 hf with ⟨hcs, hx⟩ | ⟨a, len, cap, m, n, D, Pl, hcs, hb, hl, hm, hmm, hx, hc⟩
  · exact ⟨none, 0, 0, [], hcs, rfl, Nat.le_refl _, Nat.zero_le _, Kv.nil _ _⟩
  · simp only [if_true] at hmm
    rw [c32] at hc
    have each : ∀ i, ∃ x : List UInt8, i < len → W.cells? 0 (a.add (i * 32)) 32 = some (bv x) ∧ x.length = 32 := fun i => by
      by_cases hi : i < len
      · obtain ⟨cs', h1, h2⟩ := hc i (by omega)
        obtain ⟨x, e, hk⟩ := cells_row32 h2
        exact ⟨x, fun _ => ⟨by rw [h1, e], hk⟩⟩
      · exact ⟨[], fun h => absurd h hi⟩
    obtain ⟨B, hB⟩ := Classical.axiomOfChoice each
    have hall : Lg.All32 ((List.range len).map B) := fun x hx => by
      obtain ⟨j, hj, rfl⟩ := List.mem_map.1 hx
      exact (hB j (by simpa using hj)).2
    refine ⟨some a, len, cap, (List.range len).map B, hcs, by simp, hl, hm, ?_, hall⟩
    by_cases h0 : len = 0
    · subst h0; exact Or.inl rfl
    · refine Or.inr ?_
      have hs0 := ((World.cells?_some (hB 0 (by omega)).1).2.2 0 (by decide)).trans (bv_get' _ 0 (by rw [(hB 0 (by omega)).2]; decide))
      obtain ⟨ab, ao, spot⟩ := a
      have hspot : spot = none := by simpa [Addr.add] using World.cell?_spot hs0
      subst hspot
      refine ⟨ab, ao, rfl, fun j hj => ?_⟩
      have hfl := hall.flat
      rw [hfl] at hj
      simp only [List.length_map, List.length_range] at hj
      have hq : j / 32 < len := by omega
      have hr : j % 32 < 32 := Nat.mod_lt _ (by decide)
      obtain ⟨h4, hx32⟩ := hB (j / 32) hq
      have hs := (World.cells?_some h4).2.2 (j % 32) hr
      have hat := hall.at (k := j / 32) (x := B (j / 32)) (by simp [hq]) (j % 32) hr
      rw [show j / 32 * 32 + j % 32 = j by omega] at hat
      rw [show (bv (B (j / 32)))[j % 32]? = some (.int .u8 ((B (j / 32))[j % 32]'(by omega)).toNat) from bv_get' _ _ (by omega)] at hs
      rw [List.getElem?_eq_getElem (by omega), List.getElem?_eq_getElem (by rw [hx32]; omega)] at hat
      rw [Option.some.inj hat]
      rw [Addr.add_mid, Addr.add_mid, Nat.add_assoc, show j / 32 * 32 + j % 32 = j by omega] at hs
      exact hs
/-- A claim's 68 cells. -/
def claimRow (i n : Int) (s : Value) (old root : List UInt8) (b : Value) : Array Value := (.int .i64 i :: .int .i64 n :: s :: (bv old ++ (bv root ++ [b]))).toArray
set_option maxRecDepth 100000 in
theorem open_claim (hval : Value.okWide Tryd.prog W .any base 48 v) (h1 : DataW.Trod enc Tryd.prog W 0 (fun _ => true) true 48 v d p) :
    ∃ (i n : Int) (a : Option Addr) (m c : Nat) (P : List (List UInt8)) (old root : List UInt8) (b : Value), v = .agg (claimRow i n (.slice a m c) old root b) ∧ (Lit.int .i64 i).wf = true ∧ (Lit.int .i64 n).wf = true ∧ P.length = m ∧ m ≤ c ∧ c ≤ maxLen ∧ Kv W a P ∧ old.length = 32 ∧ root.length = 32 := by
  obtain ⟨cs, rfl, hsz⟩ := okWide_struct Tryd.underlying48 hval
  obtain ⟨fuel, hf⟩ := h1
  have hc : Tryd.prog.cellsOf 48 = 68 := by kernel_rfl
  rw [hc] at hsz
  obtain ⟨y0, y1, y2, y3, y4, y5, n, hlen, t0, t1, t2, t3, t4, t5⟩ := trod_struct6 Tryd.underlying48 hf
  obtain ⟨z0, e0, _, w0⟩ := DataW.trod_int Tryd.underlying3 t0
  obtain ⟨z1, e1, _, w1⟩ := DataW.trod_int Tryd.underlying3 t1
  obtain ⟨a, m, c, P, e2, k0, k1, k2, k3⟩ := cells_rows32 t2
  obtain ⟨old, e3, l3⟩ := cells_row32 t3
  obtain ⟨root, e4, l4⟩ := cells_row32 t4
  have c32 : Tryd.prog.cellsOf 31 = 32 := by kernel_rfl
  have c1 : Tryd.prog.cellsOf 3 = 1 := by kernel_rfl
  have c2 : Tryd.prog.cellsOf 38 = 1 := by kernel_rfl
  simp only [c32, c1, c2, Value.cells] at e0 e1 e2 e3 e4
  have hl : cs.toList.length = 68 := by simpa using hsz
  obtain ⟨b, hb⟩ : ∃ b, (cs.toList.drop 67) = [b] := by
    have : (cs.toList.drop 67).length = 1 := by rw [List.length_drop]; omega
    match cs.toList.drop 67, this with
    | [b], _ => exact ⟨b, rfl⟩
  refine ⟨z0, z1, a, m, c, P, old, root, b, ?_, w0, w1, k0, k1, k2, k3, l3, l4⟩
  congr 1
  apply Array.toList_inj.1
  unfold claimRow
  generalize cs.toList = L at *
  show L = [Value.int .i64 z0] ++ ([Value.int .i64 z1] ++ ([Value.slice a m c] ++ (bv old ++ (bv root ++ [b]))))
  rw [← e0, ← e1, ← e2, ← e3, ← e4, ← hb]
  have f4 : (L.drop 35).take 32 ++ L.drop 67 = L.drop 35 := by
    have := List.take_append_drop 32 (L.drop 35); rwa [List.drop_drop] at this
  have f3 : (L.drop 3).take 32 ++ L.drop 35 = L.drop 3 := by
    have := List.take_append_drop 32 (L.drop 3); rwa [List.drop_drop] at this
  have f2 : (L.drop 2).take 1 ++ L.drop 3 = L.drop 2 := by
    have := List.take_append_drop 1 (L.drop 2); rwa [List.drop_drop] at this
  have f1 : (L.drop 1).take 1 ++ L.drop 2 = L.drop 1 := by
    have := List.take_append_drop 1 (L.drop 1); rwa [List.drop_drop] at this
  show L = (L.drop 0).take 1 ++ ((L.drop 1).take 1 ++ ((L.drop 2).take 1 ++ ((L.drop 3).take 32 ++ ((L.drop 35).take 32 ++ L.drop 67))))
  rw [f4, f3, f2, f1]
  have := List.take_append_drop 1 (L.drop 0); rw [List.drop_drop] at this
  rw [List.drop_zero] at *
  exact this.symm
end
end Go.Proofs.YtjndkjgbplpfeaaDoor
namespace Go.Proofs.YtjndkjgbplpfeaaDoor
open Go.RowKit
set_option linter.unusedVariables false
set_option linter.unusedSimpArgs false
def kI (l : List UInt8) (y z : Int) (P : List (List UInt8)) (root : List UInt8) : Int := if 0 ≤ y ∧ y < z then chkI (Lg.leaf l) y.toNat z.toNat P root else 1
def kC (y z : Int) (P : List (List UInt8)) (old root : List UInt8) : Int := if y < 0 ∨ z < y then 1 else if y = 0 then chkN z P old root else chkC y.toNat z.toNat P old root
set_option maxRecDepth 100000 in
theorem ki_any (a a2 : Option Addr) (n1 c1 c2 : Nat) (l : List UInt8) (P : List (List UInt8)) (y z : Int) (root : List UInt8) (hr : root.length = 32) (z9 : z ≤ 9223372036854775807) (w : World) (hC : Came w a n1 c1 l) (hn1 : n1 ≤ 100000) (hP : P.length ≤ c2) (hm : c2 ≤ maxLen) (hK : Kv w a2 P) (hE : Env w) : Calls Tryd.prog 20 #[.slice a n1 c1, .int .i64 y, .int .i64 z, .slice a2 P.length c2, .agg (krow root)] w fun e w' => e = .returned (.int .i64 (kI l y z P root)) ∧ Fr (fun _ => False) w w' := by
  unfold kI
  by_cases h : 0 ≤ y ∧ y < z
  · rw [if_pos h]
    obtain ⟨i, rfl⟩ : ∃ i : Nat, y = i := ⟨y.toNat, by omega⟩
    obtain ⟨n, rfl⟩ : ∃ n : Nat, z = n := ⟨z.toNat, by omega⟩
    exact chki_any a a2 n1 c1 c2 l P i n root hr (by omega) (by omega) w hC hn1 hP hm hK hE
  · rw [if_neg h]
    exact chki_bad a a2 n1 c1 _ c2 y z root hr (by omega) w
set_option maxRecDepth 100000 in
theorem dki_any (l root : List UInt8) (hl : l.length ≤ 1000) (y z : Int) (z9 : z ≤ 9223372036854775807) (a : Option Addr) (c : Nat) (P : List (List UInt8)) (hP : ∀ x ∈ P, x.length ≤ 100000) (hc : P.length ≤ c) (hm : c ≤ maxLen) (w : World) (hK : Sv w a P) (hE : REnv w) : Calls Tryd.prog 23 #[str l, .int .i64 y, .int .i64 z, .slice a P.length c, str root] w fun e w' => e = .returned (.int .i64 (kI l y z P root)) ∧ Fr (fun _ => False) w w' := by
  unfold kI
  by_cases h : 0 ≤ y ∧ y < z
  · rw [if_pos h, chkI_chkD]
    obtain ⟨i, rfl⟩ : ∃ i : Nat, y = i := ⟨y.toNat, by omega⟩
    obtain ⟨n, rfl⟩ : ∃ n : Nat, z = n := ⟨z.toNat, by omega⟩
    exact dchki_any l root hl i n (by omega) (by omega) a c P hP hc hm w hK hE
  · rw [if_neg h]
    exact dchki_bad l root y z a _ c h w
set_option maxRecDepth 100000 in
theorem kc_any (y z : Int) (z9 : z ≤ 9223372036854775807) (a : Option Addr) (P : List (List UInt8)) (c : Nat) (hc : P.length ≤ c) (hm : c ≤ maxLen) (old root : List UInt8) (ho : old.length = 32) (hr : root.length = 32) (w : World) (hK : Kv w a P) (hE : Env w) : Calls Tryd.prog 22 #[.int .i64 y, .int .i64 z, .slice a P.length c, .agg (krow old), .agg (krow root)] w fun e w' => e = .returned (.int .i64 (kC y z P old root)) ∧ Fr (fun _ => False) w w' := by
  unfold kC
  by_cases h : y < 0 ∨ z < y
  · rw [if_pos h]; exact chkc_bad y z a P c old root ho hr h w
  · rw [if_neg h]
    by_cases h0 : y = 0
    · subst h0; rw [if_pos rfl]; exact chkc_zero z (by omega) a P c old root ho hr w hE
    · rw [if_neg h0]
      obtain ⟨i, rfl⟩ : ∃ i : Nat, y = i := ⟨y.toNat, by omega⟩
      obtain ⟨n, rfl⟩ : ∃ n : Nat, z = n := ⟨z.toNat, by omega⟩
      exact chkc_any i n (by omega) (by omega) (by omega) a P c hc hm old root ho hr w hK hE
set_option maxRecDepth 100000 in
theorem dkc_any (old root : List UInt8) (ho : old.length ≤ 100000) (y z : Int) (z9 : z ≤ 9223372036854775807) (a : Option Addr) (c : Nat) (P : List (List UInt8)) (hP : ∀ x ∈ P, x.length ≤ 100000) (hc : P.length ≤ c) (hm : c ≤ maxLen) (w : World) (hK : Sv w a P) (hE : REnv w) : Calls Tryd.prog 24 #[.int .i64 y, .int .i64 z, .slice a P.length c, str old, str root] w fun e w' => e = .returned (.int .i64 (kC y z P old root)) ∧ Fr (fun _ => False) w w' := by
  unfold kC
  by_cases h : y < 0 ∨ z < y
  · rw [if_pos h]; exact dchkc_bad old root y z a _ c h w
  · rw [if_neg h]
    by_cases h0 : y = 0
    · subst h0; rw [if_pos rfl]; exact dchkc_zero old root z (by omega) a _ c P rfl w hE
    · rw [if_neg h0, chkC_chkE]
      obtain ⟨i, rfl⟩ : ∃ i : Nat, y = i := ⟨y.toNat, by omega⟩
      obtain ⟨n, rfl⟩ : ∃ n : Nat, z = n := ⟨z.toNat, by omega⟩
      exact dchkc_any old root ho i n (by omega) (by omega) (by omega) a c P hP hc hm w hK hE
set_option maxRecDepth 100000 in
theorem src_kv {w : World} {a : Option Addr} {P : List (List UInt8)} (h : Kv w a P) (c : Nat) : Src Tryd.prog 32 38 (.slice a P.length c) P.length (bv P.flatten) w := by
  have hfl := h.all.flat
  rcases h.lies with h0 | ⟨g, off, rfl, hc⟩
  · rw [h0] at hfl ⊢
    have h1 : P.length = 0 := by simp at hfl; omega
    rw [h1]
    cases a with
    | none => exact Src.ofNil _ Tryd.underlying38 c
    | some ad => exact Src.ofSlice _ Tryd.underlying38 ad 0 c [] rfl (by simp) (by simp)
  · exact Src.ofSlice _ Tryd.underlying38 ⟨g, off, none⟩ _ c _ (by rw [bv_length, hfl]) (fun j u hj => by
      rw [bv_get] at hj
      obtain ⟨b, h1, h2⟩ := Option.map_eq_some_iff.1 hj
      obtain ⟨hl, h3⟩ := List.getElem?_eq_some_iff.1 h1
      have h4 := hc j hl
      rw [Addr.add_mid, h4, ← h2, h3]) (bv_one _)
set_option maxRecDepth 100000 in
theorem own0_rows (w : World) : (w.alloc (.cells #[] 31)).ownsRow w.heap.size 31 32 (.slice (some ⟨w.heap.size, 0, none⟩) 0 0) 0 [] :=
  ⟨rfl, .inr ⟨w.heap.size, 0, #[], rfl, Nat.le_refl _, heap_alloc_new w _, Nat.le_refl _, Nat.zero_le _, rfl, rfl⟩⟩
end Go.Proofs.YtjndkjgbplpfeaaDoor
namespace Go.Proofs.YtjndkjgbplpfeaaDoor
open Go.RowKit
set_option linter.unusedVariables false
set_option linter.unusedSimpArgs false
set_option maxRecDepth 100000 in
theorem claim_facts (y z : Int) (s b : Value) (old root : List UInt8) (ho : old.length = 32) (hr : root.length = 32) : ∃ C, C = claimRow y z s old root b ∧ C.size = 68 ∧ C[0]? = some (.int .i64 y) ∧ C[1]? = some (.int .i64 z) ∧ C[2]? = some s ∧ Part C 3 (krow old) ∧ Part C 35 (krow root) := by
  refine ⟨_, rfl, by simp [claimRow, ho, hr], rfl, rfl, rfl, fun j u hj => ?_, fun j u hj => ?_⟩
  · obtain ⟨x, hx, rfl⟩ := krow_get u hj
    have hl := (List.getElem?_eq_some_iff.1 hx).1
    unfold claimRow
    rw [List.getElem?_toArray, show 3 + j = j + 1 + 1 + 1 by omega, List.getElem?_cons_succ, List.getElem?_cons_succ, List.getElem?_cons_succ, List.getElem?_append_left (by rw [bv_length]; omega), bv_get, hx]; rfl
  · obtain ⟨x, hx, rfl⟩ := krow_get u hj
    have hl := (List.getElem?_eq_some_iff.1 hx).1
    unfold claimRow
    rw [List.getElem?_toArray, show 35 + j = 32 + j + 1 + 1 + 1 by omega, List.getElem?_cons_succ, List.getElem?_cons_succ, List.getElem?_cons_succ, List.getElem?_append_right (by rw [bv_length]; omega), bv_length, ho, show 32 + j - 32 = j by omega, List.getElem?_append_left (by rw [bv_length]; omega), bv_get, hx]; rfl
set_option maxRecDepth 100000 in
theorem came_part {w : World} {g : Nat} {C : Array Value} {T : TypeId} {fr : Nat × Nat} {o : Nat} {r : List UInt8} (h : w.heap[g]? = some (.cells C T fr)) (hp : Part C o (krow r)) (hr : r.length = 32) : Came w (some ⟨g, o, none⟩) 32 32 r :=
  ⟨hr, Nat.le_refl _, by unfold maxLen; omega, .inr ⟨g, o, rfl, fun j hj => by
    rw [cell_of_block h]
    exact hp j _ (by rw [krow, List.getElem?_toArray, bv_get' _ _ hj])⟩, fun e => by cases e⟩
set_option maxRecDepth 100000 in
set_option maxHeartbeats 6400000 in
theorem checks_any (a0 : Option Addr) (n0 c0 : Nat) (l0 : List UInt8) (y z : Int) (a : Option Addr) (n c : Nat) (P : List (List UInt8)) (old root : List UInt8) (b : Value) (w : World) (h0 : Came w a0 n0 c0 l0) (hPn : P.length = n) (hnc : n ≤ c) (hcm : c ≤ maxLen) (hKv : Kv w a P) (ho : old.length = 32) (hr : root.length = 32) (z9 : z ≤ 9223372036854775807) (hE : Env w) (hR : REnv w) :
    Calls Tryd.prog 5 #[.slice a0 n0 c0, .agg (claimRow y z (.slice a n c) old root b)] w fun e w' => e = .returned (.bool true) ∧ Fr (fun _ => False) w w' := by
  obtain ⟨C, hC, hC68, hC0, hC1, hC2, hC3, hC35⟩ := claim_facts y z (.slice a n c) b old root ho hr
  rw [← hC]
  obtain ⟨q, hq⟩ : ∃ q, q = min n0 100 := ⟨_, rfl⟩
  obtain ⟨m, hm⟩ : ∃ m, m = min n 70 := ⟨_, rfl⟩
  have q1 : min (n0 : Int) 100 = (q : Int) := by omega
  have q2 : min (n : Int) 70 = (m : Int) := by omega
  have q3 : q ≤ c0 := by have := h0.le; omega
  have q4 : (q : Int) ≤ (c0 : Int) := by omega
  have q5 : m ≤ c := by omega
  have q6 : (m : Int) ≤ (c : Int) := by omega
  have q7 : (0 : Int) ≤ (q : Int) := by omega
  have q8 : (0 : Int) ≤ (m : Int) := by omega
  have hc0 : c0 ≤ maxLen := h0.mx
  have HB := Lib.hid (And.intro ho (And.intro hr (And.intro z9 hcm)))
  have HM := Lib.hid (show m ≤ 70 ∧ q ≤ 100 from ⟨by omega, by omega⟩)
  have HX := Lib.hid (h0.cut q (by omega) (Fr.refl _ w))
  have HPK := Lib.hid (hKv.take m)
  have HPL := Lib.hid (show (P.take m).length = m by rw [List.length_take, hPn]; omega)
  generalize hx : l0.take q = x at *
  generalize hp : P.take m = PP at *
  have HE := Lib.hid hE
  have HR := Lib.hid hR
  have HC := Lib.hid (And.intro hC68 (And.intro hC3 hC35))
  have K0 := Kn.start w
  clear hC ho hr z9 hcm hx hp hE hR hC68 hC3 hC35 hPn hnc hKv h0 hq hm hc0
  have hown : ∀ o, ((w.alloc o).alloc (.cells #[] 31)).ownsRow (w.heap.size + 1) 31 32 (.slice (some ⟨w.heap.size + 1, 0, none⟩) 0 0) 0 [] := fun o => by have := own0_rows (w.alloc o); simpa using this
  have hsrc : ∀ o o2, Src Tryd.prog 32 38 (.slice a m c) m (bv PP.flatten) ((w.alloc o).alloc o2) := fun o o2 => by
    have := src_kv (HPK.out.ext (((Fr.refl (fun _ => False) w).alloc o).alloc o2)) c
    rwa [HPL.out] at this
  obtain ⟨ti, zz, HI⟩ := rI
  go_enter Tryd.func5, Tryd.ntmps5
  go_wp2_with (at_builtin; refine wpList_app _ rfl (.tmp 14) (.tmp 21) 38 38 rfl (w.heap.size + 1) 31 ti zz 32 32 Tryd.underlying38 HI.h1 HI.h2 HI.h3 HI.h4 HI.h5 (by decide) (.slice (some ⟨w.heap.size + 1, 0, none⟩) 0 0) 0 [] rfl (hown _) (.slice a m c) rfl m (bv PP.flatten) (hsrc _ _) (by have := HM.out; unfold maxLen; omega) (by have := HM.out; omega) (by simp) ?_; intro v5 w2 O5 G5 G5x; simp only [Act.put, List.setIfInBounds_toArray, List.set_cons_zero, List.set_cons_succ]; refine Hid.out ?_)
  have HB1 := heap_alloc2_old w (.cells C 48) (.cells #[] 31)
  have Fa := ((Fr.refl (fun _ => False) w).alloc (.cells C 48)).alloc (.cells #[] 31)
  have hB2 := ((Fr.ofGrown G5).block _ (lt_of_block HB1) (fun e => by simp [Value.ownBlock] at e)).trans HB1
  have F2 : Fr (fun _ => False) w w2 := Fa.trans (Fr.ofGrown G5) (fun i hi => .inr (by simp [Value.ownBlock] at hi; omega))
  have F2w := Lib.hid F2
  have K2 := K0.made w.heap.size 68 C 48 F2 (Nat.le_refl _) hB2 HC.out.1
  rw [List.nil_append, Nat.zero_add] at O5
  have hO5 : Or32 w2 (w.heap.size + 1) v5 PP := by unfold Or32; rw [HPL.out]; exact O5
  obtain ⟨a5, c5, rfl, h5a, h5b, hK5, _⟩ := hO5.view HPK.out.all
  rw [HPL.out]
  have H5 := Lib.hid (And.intro h5a h5b)
  have HK5 := Lib.hid hK5
  have HX2 := Lib.hid (HX.out.ext F2)
  have HE2 := Lib.hid (HE.out.ext F2)
  have HR2 := Lib.hid (HR.out.ext F2)
  have HTX := Lib.hid (texts_any a5 c5 m PP HPL.out (by have := HM.out; omega) w2 hK5)
  generalize w.heap.size = g at *
  clear HB1 Fa hB2 O5 G5 G5x hO5 h5a h5b hK5 hown hsrc K0 HI HE HR HX F2 HPK q1 q2 q3 q4 q5 q6
  refine Lib.hid ?_
  go_wp2_with fail
  refine HTX.out.mono ?_
  rintro e w3 ⟨⟨v6, rfl, hO6⟩, F3⟩
  clear HTX
  obtain ⟨a6, c6, rfl, h6a, h6b, hS6, _⟩ := Os.view hO6
  rw [HPL.out]
  have H6 := Lib.hid (And.intro h6a h6b)
  have HS6 := Lib.hid hS6
  have K3 := K2.call F3
  have HF03 := Lib.hid (F2w.out.trans F3 (fun _ h => h.elim))
  have HX3 := Lib.hid (HX2.out.ext F3)
  have HE3 := Lib.hid (HE2.out.ext F3)
  have HR3 := Lib.hid (HR2.out.ext F3)
  have HK3 := Lib.hid (HK5.out.ext F3)
  clear hO6 h6a h6b hS6 F3 HX2 HE2 HR2 HK5 K2
  obtain ⟨D1, hD1⟩ : ∃ D1, D1 = kI x y z PP root := ⟨_, rfl⟩
  obtain ⟨D2, hD2⟩ : ∃ D2, D2 = kC y z PP old root := ⟨_, rfl⟩
  have HP1 := Lib.hid (show ∀ u ∈ PP, u.length ≤ 100000 from fun u hu => by rw [HK3.out.all u hu]; decide)
  have HI1 := Lib.hid (fun (V : World) (F : Fr (fun _ => False) w3 V) => ki_any a0 a5 q c0 c5 x PP y z root HB.out.2.1 HB.out.2.2.1 V (HX3.out.ext F) (by have := HM.out; omega) H5.out.1 H5.out.2 (HK3.out.ext F) (HE3.out.ext F))
  have HI2 := Lib.hid (fun (V : World) (F : Fr (fun _ => False) w3 V) => kc_any y z HB.out.2.2.1 a5 PP c5 H5.out.1 H5.out.2 old root HB.out.1 HB.out.2.1 V (HK3.out.ext F) (HE3.out.ext F))
  have HI3 := Lib.hid (fun (V : World) (F : Fr (fun _ => False) w3 V) => dki_any x root (by have := HX3.out.len; have := HM.out; omega) y z HB.out.2.2.1 a6 c6 PP HP1.out H6.out.1 H6.out.2 V (HS6.out.ext F) (HR3.out.ext F))
  have HI4 := Lib.hid (fun (V : World) (F : Fr (fun _ => False) w3 V) => dkc_any old root (by rw [HB.out.1]; decide) y z HB.out.2.2.1 a6 c6 PP HP1.out H6.out.1 H6.out.2 V (HS6.out.ext F) (HR3.out.ext F))
  rw [← hD1, HPL.out] at HI1 HI3
  rw [← hD2, HPL.out] at HI2 HI4
  have HLG := Lib.hid (fun (V : World) (F : Fr (fun _ => False) w3 V) => logs_any V (HE3.out.ext F) (HR3.out.ext F))
  have HCR := Lib.hid (came_part (K3.heap 0 rfl) HC.out.2.2 HB.out.2.1)
  have HCO := Lib.hid (came_part (K3.heap 0 rfl) HC.out.2.1 HB.out.1)
  have k0 := K3.cell 0 rfl 0 hC0
  have k1 := K3.cell 0 rfl 1 hC1
  have HK0 := Lib.hid k0
  have HK1 := Lib.hid k1
  have s32 : (Tryd.prog.info? 31).map (·.size) = some 32 := sz32
  have HL := Lib.hid (And.intro (show (krow old).size = 32 by rw [krow_size]; exact HB.out.1) (show (krow root).size = 32 by rw [krow_size]; exact HB.out.2.1))
  clear hD1 hD2 HP1 HS6 HK3 HR3 hC0 hC1 hC2
  go_wp2_with (first | (focus (refine wpList_load_pt K3 rfl 31 (.tmp 31) rfl 0 g 68 35 32 C (krow root) 48 rfl _ Tryd.underlying31 rfl s32 rfl HC.out.2.2 HL.out.2 ?_; (try simp only [Act.put, List.setIfInBounds_toArray, List.set_cons_zero, List.set_cons_succ]))) | fail)
  refine (HI1.out w3 (Fr.refl _ _)).mono ?_
  rintro e w4 ⟨rfl, F4⟩
  clear HI1
  have K4 := K3.call F4
  have HF4 := Lib.hid F4
  have k0 := F4.cellSome (p := ⟨g, 0, none⟩) (fun h => h) HK0.out
  have k1 := F4.cellSome (p := ⟨g, 1, none⟩) (fun h => h) HK1.out
  clear F4 K3
  go_wp2_with (first | (focus (refine wpList_load_pt K4 rfl 31 (.tmp 39) rfl 0 g 68 3 32 C (krow old) 48 rfl _ Tryd.underlying31 rfl s32 rfl HC.out.2.1 HL.out.1 ?_; (try simp only [Act.put, List.setIfInBounds_toArray, List.set_cons_zero, List.set_cons_succ]))) | fail | (focus (refine wpList_load_pt K4 rfl 31 (.tmp 41) rfl 0 g 68 35 32 C (krow root) 48 rfl _ Tryd.underlying31 rfl s32 rfl HC.out.2.2 HL.out.2 ?_; (try simp only [Act.put, List.setIfInBounds_toArray, List.set_cons_zero, List.set_cons_succ]))) | fail)
  refine (HI2.out w4 HF4.out).mono ?_
  rintro e w5 ⟨rfl, F5⟩
  have HF5 := Lib.hid (HF4.out.trans F5 (fun _ h => h.elim))
  clear HI2 F5 k0 k1
  go_wp2_with fail
  refine Ks.wp_region_mono (fun _ => False) ((0, true) :: (sg 1 12 ++ ((13, true) :: (sg 14 15 ++ ((29, true) :: (sg 30 2 ++ ((32, true) :: ([])))))))) (by kernel_rfl) (by kernel_rfl) ?_
  refine Ks.Wk.call rfl (by kernel_rfl) 9 #[] (fun W => by first | kernel_rfl | rfl) (fun v V => v = .bool true) (fun V hx => (HLG.out V (HF5.out.trans hx (fun _ h => h.elim))).mono (fun e w' he => ⟨_, he.1, he.2, rfl⟩)) ?_
  rintro v6 w6 X6 rfl
  (try simp only [List.getElem_toArray, List.getElem_cons_succ, List.getElem_cons_zero, Act.put, List.setIfInBounds_toArray, List.set_cons_zero, List.set_cons_succ])
  have HF6 := Lib.hid (HF5.out.trans X6 (fun _ h => h.elim))
  clear X6
  refine Ks.Wk.seg 1 12 (by kernel_rfl) (by kernel_rfl) ?_
  apply Exists.intro
  refine ⟨?wk1, ?fin1⟩
  case wk1 =>
    intro γ
    have cx : ∀ u : Ks.Ws γ, (convert 35 9 (.slice a0 q c0)).run Tryd.prog u.w = .ok (.string ⟨x.toArray⟩) u.w := fun u => (HX3.out.ext (HF6.out.trans u.h (fun _ h => h.elim))).str2
    have cr : ∀ u : Ks.Ws γ, (convert 35 9 (.slice (some ⟨g, 35, none⟩) 32 32)).run Tryd.prog u.w = .ok (.string ⟨root.toArray⟩) u.w := fun u => (HCR.out.ext (HF6.out.trans u.h (fun _ h => h.elim))).str2
    have k0 : ∀ u : Ks.Ws γ, u.w.cell? ⟨g, 0, none⟩ = some (.int .i64 y) := fun u => (HF6.out.trans u.h (fun _ h => h.elim)).cellSome (p := ⟨g, 0, none⟩) (fun h => h) HK0.out
    have k1 : ∀ u : Ks.Ws γ, u.w.cell? ⟨g, 1, none⟩ = some (.int .i64 z) := fun u => (HF6.out.trans u.h (fun _ h => h.elim)).cellSome (p := ⟨g, 1, none⟩) (fun h => h) HK1.out
    simp only [List.drop_succ_cons, List.drop_zero, List.take_succ_cons, List.take_zero]
    repeat (any_goals (first | go_big_quiet_step (fail) | quiet_step (fail)))
    exact wpQuiet_nil rfl
  case fin1 =>
  (try simp only [Act.put, List.setIfInBounds_toArray, List.set_cons_zero, List.set_cons_succ])
  refine Ks.Wk.call rfl (by kernel_rfl) 23 #[.string ⟨x.toArray⟩, .int .i64 y, .int .i64 z, .slice a6 m c6, .string ⟨root.toArray⟩] (fun W => by first | kernel_rfl | rfl) (fun v V => v = .int .i64 D1) (fun V hx => (HI3.out V (HF6.out.trans hx (fun _ h => h.elim))).mono (fun e w' he => ⟨_, he.1, he.2, rfl⟩)) ?_
  rintro v7 w7 X7 rfl
  (try simp only [List.getElem_toArray, List.getElem_cons_succ, List.getElem_cons_zero, Act.put, List.setIfInBounds_toArray, List.set_cons_zero, List.set_cons_succ])
  have HF7 := Lib.hid (HF6.out.trans X7 (fun _ h => h.elim))
  clear X7
  refine Ks.Wk.seg 14 15 (by kernel_rfl) (by kernel_rfl) ?_
  apply Exists.intro
  refine ⟨?wk3, ?fin3⟩
  case wk3 =>
    intro γ
    have cr : ∀ u : Ks.Ws γ, (convert 35 9 (.slice (some ⟨g, 35, none⟩) 32 32)).run Tryd.prog u.w = .ok (.string ⟨root.toArray⟩) u.w := fun u => (HCR.out.ext (HF7.out.trans u.h (fun _ h => h.elim))).str2
    have k0 : ∀ u : Ks.Ws γ, u.w.cell? ⟨g, 0, none⟩ = some (.int .i64 y) := fun u => (HF7.out.trans u.h (fun _ h => h.elim)).cellSome (p := ⟨g, 0, none⟩) (fun h => h) HK0.out
    have k1 : ∀ u : Ks.Ws γ, u.w.cell? ⟨g, 1, none⟩ = some (.int .i64 z) := fun u => (HF7.out.trans u.h (fun _ h => h.elim)).cellSome (p := ⟨g, 1, none⟩) (fun h => h) HK1.out
    have co : ∀ u : Ks.Ws γ, (convert 35 9 (.slice (some ⟨g, 3, none⟩) 32 32)).run Tryd.prog u.w = .ok (.string ⟨old.toArray⟩) u.w := fun u => (HCO.out.ext (HF7.out.trans u.h (fun _ h => h.elim))).str2
    simp only [List.drop_succ_cons, List.drop_zero, List.take_succ_cons, List.take_zero]
    repeat (any_goals (first | go_big_quiet_step (fail) | quiet_step (fail)))
    exact wpQuiet_nil rfl
  case fin3 =>
  (try simp only [Act.put, List.setIfInBounds_toArray, List.set_cons_zero, List.set_cons_succ])
  refine Ks.Wk.call rfl (by kernel_rfl) 24 #[.int .i64 y, .int .i64 z, .slice a6 m c6, .string ⟨old.toArray⟩, .string ⟨root.toArray⟩] (fun W => by first | kernel_rfl | rfl) (fun v V => v = .int .i64 D2) (fun V hx => (HI4.out V (HF7.out.trans hx (fun _ h => h.elim))).mono (fun e w' he => ⟨_, he.1, he.2, rfl⟩)) ?_
  rintro v8 w8 X8 rfl
  (try simp only [List.getElem_toArray, List.getElem_cons_succ, List.getElem_cons_zero, Act.put, List.setIfInBounds_toArray, List.set_cons_zero, List.set_cons_succ])
  have HF8 := Lib.hid (HF7.out.trans X8 (fun _ h => h.elim))
  clear X8
  refine Ks.Wk.seg 30 2 (by kernel_rfl) (by kernel_rfl) ?_
  apply Exists.intro
  refine ⟨?wk5, ?fin5⟩
  case wk5 =>
    intro γ
    simp only [List.drop_succ_cons, List.drop_zero, List.take_succ_cons, List.take_zero]
    repeat (any_goals (first | go_big_quiet_step (fail) | quiet_step (fail)))
    exact wpQuiet_nil rfl
  case fin5 =>
  (try simp only [Act.put, List.setIfInBounds_toArray, List.set_cons_zero, List.set_cons_succ])
  refine Ks.Wk.one rfl (fun w9 Xw9 => ?_)
  go_wp2_with fail
  refine ⟨Ks.Es.of (Fr.refl _ _), ?_⟩
  (try simp only [List.getElem_toArray, List.getElem_cons_succ, List.getElem_cons_zero, Act.put, List.setIfInBounds_toArray, List.set_cons_zero, List.set_cons_succ])
  intro w10 X10
  have HX10 := Lib.hid (HF03.out.trans (HF8.out.trans (Xw9.trans X10 (fun _ h => h.elim)) (fun _ h => h.elim)) (fun _ h => h.elim))
  clear X10 Xw9
  go_wp2_with fail
  go_ret
  exact ⟨rfl, HX10.out⟩
end Go.Proofs.YtjndkjgbplpfeaaDoor

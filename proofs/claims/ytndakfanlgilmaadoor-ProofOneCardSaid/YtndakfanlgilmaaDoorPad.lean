/-
  The contracts of padding and joined of package sha2.
-/
import Derived.Test.YtndakfanlgilmaaDoorWr
import Derived.Test.YtndakfanlgilmaaDoorZv
namespace Go.Proofs.YtndakfanlgilmaaDoor
open Go.RowKit
set_option linter.unusedVariables false

/-- The first n values of f as bytes. -/
def ub (n : Nat) (f : Nat → UInt8) : Array Value := ((List.range n).map fun j => Value.int .u8 ((f j).toNat : Int)).toArray
set_option maxRecDepth 100000 in
theorem ub_size (n : Nat) (f : Nat → UInt8) : (ub n f).size = n := by simp [ub]
set_option maxRecDepth 100000 in
theorem ub_get (n : Nat) (f : Nat → UInt8) (j : Nat) (hj : j < n) : (ub n f)[j]? = some (.int .u8 ((f j).toNat : Int)) := by simp [ub, hj]
set_option maxRecDepth 100000 in
theorem ub_one (n : Nat) (f : Nat → UInt8) : (ub n f).all (·.oneCell') = true := by simp [ub, Value.oneCell']
set_option maxRecDepth 100000 in
theorem ub_ext {cs : Array Value} {n : Nat} {f : Nat → UInt8} (h : cs.size = n) (h2 : ∀ j, j < n → cs[j]? = some (.int .u8 ((f j).toNat : Int))) : cs = ub n f := by
  apply Array.ext
  · rw [h, ub_size]
  · intro i h3 h4
    have a := h2 i (by omega)
    have b := ub_get n f i (by omega)
    rw [Array.getElem?_eq_getElem h3] at a
    rw [Array.getElem?_eq_getElem h4] at b
    exact (Option.some.inj a).trans (Option.some.inj b).symm
set_option maxRecDepth 100000 in
theorem ub_set (n : Nat) (f : Nat → UInt8) (i : Nat) (b : UInt8) (hi : i < n) : (ub n f).setIfInBounds i (.int .u8 (b.toNat : Int)) = ub n (fun j => if j = i then b else f j) := by
  refine ub_ext (by simp [ub_size]) (fun j hj => ?_)
  rw [Array.getElem?_setIfInBounds]
  by_cases h : i = j
  · subst h; simp [ub_size, hj]
  · rw [if_neg h, ub_get n f j hj, if_neg (fun e => h e.symm)]
set_option maxRecDepth 100000 in
theorem ub_congr {n : Nat} {f g : Nat → UInt8} (h : ∀ j, j < n → f j = g j) : ub n f = ub n g := ub_ext (ub_size n f) (fun j hj => by rw [ub_get n f j hj, h j hj])

/-- Byte idx of a padding of which the last j bytes of the count of bits are laid. -/
def pf (c j idx : Nat) : UInt8 := if idx = 0 then 0x80 else if S2.padLen c ≤ idx + j ∧ idx < S2.padLen c then UInt8.ofNat (8 * c / 256 ^ (S2.padLen c - 1 - idx)) else 0

set_option maxRecDepth 100000 in
theorem zero72 : Tryd.zeroCells87.setIfInBounds 0 (.int .u8 128) = ub 72 (fun idx => if idx = 0 then 0x80 else 0) := by kernel_rfl
set_option maxRecDepth 100000 in
theorem pf_zero (c : Nat) : Tryd.zeroCells87.setIfInBounds 0 (.int .u8 128) = ub 72 (pf c 0) := by
  have e : ub 72 (pf c 0) = ub 72 (fun idx => if idx = 0 then 0x80 else 0) := ub_congr fun j hj => by
    unfold pf
    split
    · rfl
    · rw [if_neg (by omega)]
  exact zero72.trans e.symm
set_option maxRecDepth 100000 in
theorem pf_succ (c j : Nat) (hj : j < 8) (v : Int) (hv : v = ((8 * c / 256 ^ j % 256 : Nat) : Int)) : (ub 72 (pf c j)).setIfInBounds (S2.padLen c - 1 - j) (.int .u8 v) = ub 72 (pf c (j + 1)) := by
  have hp : S2.padLen c = 64 - (c % 64 + 8) % 64 + 8 := rfl
  have h8 : (UInt8.ofNat (8 * c / 256 ^ j)).toNat = 8 * c / 256 ^ j % 256 := by rw [UInt8.toNat_ofNat']
  rw [hv, ← h8, ub_set _ _ _ _ (by omega)]
  refine ub_congr fun i hi => ?_
  unfold pf
  by_cases h0 : i = 0
  · rw [if_pos h0, if_pos h0, if_neg (by omega)]
  · rw [if_neg h0, if_neg h0]
    by_cases h1 : i = S2.padLen c - 1 - j
    · rw [if_pos h1, if_pos (by omega), show S2.padLen c - 1 - i = j by omega]
    · rw [if_neg h1]
      by_cases h2 : S2.padLen c ≤ i + j ∧ i < S2.padLen c
      · rw [if_pos h2, if_pos (by omega)]
      · rw [if_neg h2, if_neg (by omega)]
set_option maxRecDepth 100000 in
theorem pf_end (c j : Nat) (hj : j ≤ 8) (h : 8 * c / 256 ^ j = 0) : ub 72 (pf c j) = ub 72 (pf c 8) := by
  have hp : S2.padLen c = 64 - (c % 64 + 8) % 64 + 8 := rfl
  refine ub_congr fun i hi => ?_
  unfold pf
  by_cases h0 : i = 0
  · rw [if_pos h0, if_pos h0]
  · rw [if_neg h0, if_neg h0]
    by_cases h1 : S2.padLen c ≤ i + j ∧ i < S2.padLen c
    · rw [if_pos h1, if_pos (by omega)]
    · rw [if_neg h1]
      by_cases h2 : S2.padLen c ≤ i + 8 ∧ i < S2.padLen c
      · rw [if_pos h2]
        obtain ⟨d, hd⟩ : ∃ d, S2.padLen c - 1 - i = j + d := ⟨S2.padLen c - 1 - i - j, by omega⟩
        rw [hd, Nat.pow_add, ← Nat.div_div_eq_div_mul, h]
        simp
      · rw [if_neg h2]

set_option maxRecDepth 100000 in
theorem results_cell_tmp {P : Program} {fn : Func} {p q : Tmp} {ty : TypeId} (h : fn.results = #[.cell p ty, .tmp q]) (tmps : Array Value) (w : World) (g : Nat) (t : TypeId) (cs : Array Value) (fr : Nat × Nat) (d : TypeDesc)
    (hp : tmps.getD p undef = .pointer (some ⟨g, 0, none⟩)) (hg : w.heap[g]? = some (.cells cs t fr))
    (hu : P.underlying ty = some d) (hd : (match d with | .struct _ | .array _ _ => true | _ => false) = true) (hi : (P.info? ty).map (·.size) = some cs.size) :
    (results fn tmps).run P w = .ok (.tuple #[.agg cs, tmps.getD q undef]) w := by
  have hp' : tmps[p]?.getD undef = .pointer (some ⟨g, 0, none⟩) := by simpa using hp
  simp [results, h, hp', asAddr, run_loadVar_row w g t ty cs fr d hg hu hd hi]
set_option maxRecDepth 100000 in
theorem Tryd.size72 {f : Nat → UInt8} : (Tryd.prog.info? 87).map (·.size) = some (ub 72 f).size := by
  rw [ub_size]; kernel_rfl

set_option maxRecDepth 100000 in
set_option maxHeartbeats 1600000 in
theorem padding_any (c : Nat) (hc : c ≤ 1152921504606846976) (w : World) :
    Calls Tryd.prog 38 #[.int .i64 c] w fun e w' => e = .returned (.tuple #[.agg (ub 72 (pf c 8)), .int .i64 (S2.padLen c)]) ∧ Fr (fun _ => False) w w' := by
  have hp : S2.padLen c = 64 - (c % 64 + 8) % 64 + 8 := rfl
  have hp1 : 9 ≤ S2.padLen c := by omega
  have hp2 : S2.padLen c ≤ 72 := by omega
  have eP : (64 : Int) - ((c : Int) + 8) % 64 + 8 = (S2.padLen c : Int) := by omega
  have HP := Lib.hid eP
  clear eP hp
  have e4 : IntKind.u64.wrap (c : Int) = (c : Int) := by rw [IntKind.wrap_u64]; omega
  have hzv := zv72
  have hzn := zn72
  go_enter Tryd.func38, Tryd.ntmps38
  go_wp2_with fail
  simp only [HP.out]
  rw [pf_zero c]
  generalize hPl : S2.padLen c = L at hp1 hp2
  have HL := Lib.hid hPl
  clear hPl
  go_loopw [4, 5] (fun vi vn wr => ∃ j : Nat, j ≤ 8 ∧ vi = .int .i64 ((L : Int) - 1 - j) ∧ vn = .int .u64 ((8 * c / 256 ^ j : Nat) : Int) ∧ wr.heap[w.heap.size]? = some (.cells (ub 72 (pf c j)) 87 (0, 0)) ∧ Fr (fun _ => False) w wr) (fun _ vn _ => (intOf vn).toNat)
  case atStart => exact ⟨0, by omega, by simp, by go_num, heap_alloc_new w _, (Fr.refl _ w).alloc _⟩
  case round =>
    obtain ⟨j, hj, rfl, rfl, hB, hF⟩ := hrel
    by_cases hn : 0 < 8 * c / 256 ^ j
    · have hj8 : j < 8 := by
        rcases Nat.lt_or_ge j 8 with h | h
        · exact h
        · obtain rfl : j = 8 := by omega
          have : 8 * c / 256 ^ 8 = 0 := Nat.div_eq_of_lt (by omega)
          omega
      have hsu := pf_succ c j hj8 (((8 * c / 256 ^ j : Nat) : Int) % 256) (by simp)
      rw [HL.out] at hsu
      have hne : 8 * c / 256 ^ (j + 1) = 8 * c / 256 ^ j / 256 := by rw [Nat.pow_succ, Nat.div_div_eq_div_mul]
      generalize hN : 8 * c / 256 ^ j = N at hn hsu hne
      have Hsu := Lib.hid hsu
      have Hne := Lib.hid hne
      clear hsu hne hN
      have hc0 := cell_of_block hB (L - 1 - j)
      have hf0 := free_of_block hB (L - 1 - j)
      rw [ub_get 72 _ _ (by omega)] at hc0
      have i0 : (0 : Int) ≤ (L : Int) - 1 - j := by omega
      have i1 : (L : Int) - 1 - j < 72 := by omega
      have i2 : ((L : Int) - 1 - j).toNat = L - 1 - j := by omega
      have t1 : decide ((0 : Int) < (N : Int)) = true := by simp; omega
      have hB2 : (wr.setCell ⟨w.heap.size, L - 1 - j, none⟩ (.int .u8 ((N : Int) % 256))).heap[w.heap.size]? = some (.cells (ub 72 (pf c (j + 1))) 87 (0, 0)) := by
        rw [block_setCell hB, Hsu.out]
      have HB2 := Lib.hid hB2
      clear hB2
      go_wp2
      go_roundw
      case rel => exact ⟨j + 1, by omega, by go_num, by rw [Hne.out]; go_num, HB2.out, hF.setCell (Or.inr (Nat.le_refl _)) _⟩
      case measure => simp [intOf]; omega
    · have hz : 8 * c / 256 ^ j = 0 := Nat.eq_zero_of_not_pos hn
      have he := pf_end c j hj hz
      rw [he] at hB
      rw [hz, show ((0 : Nat) : Int) = 0 from rfl]
      clear hz he hn
      go_wp2_with (first
        | (with_reducible refine wpList_load_row rfl 87 (.tmp 2) rfl w.heap.size rfl 87 (ub 72 (pf c 8)) (0, 0) _ hB Tryd.underlying87 rfl Tryd.size72 ?_)
        | (with_reducible refine wpList_store_row rfl 87 (.tmp 2) (.tmp 28) rfl w.heap.size (ub 72 (pf c 8)) rfl rfl 87 _ hB Tryd.size72 rfl (ub_one _ _) ?_))
      refine bodyPost_ret (results_cell_tmp rfl _ _ w.heap.size 87 (ub 72 (pf c 8)) (0, 0) _ rfl (setRow_heap _ _ _ _ _ _ hB) Tryd.underlying87 rfl Tryd.size72) rfl ?_
      exact ⟨by rw [HL.out]; rfl, hF.trans (Fr.setRow (S := fun k => k = w.heap.size) (Fr.refl _ _) rfl _) (fun i hi => Or.inr (by omega))⟩
end Go.Proofs.YtndakfanlgilmaaDoor


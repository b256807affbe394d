/-
  The contracts of padding and joined of package sha2.
  The contract of joined of package sha2; the bytes of a padding.
  The contracts of (*Hash).Sum, New, Fork, Len and Sum of package sha2.
  The contract of Sum of package sha2, of any parts.
  The contract of padding of package sha5.
  Plain laws of this verifier: bytes that a call owns in a row of its own, whether the row was made by a conversion (and bears its mark behind its end) or not; appends onto them, from any source.
  The contract of turn of package custumalref01; bits of whole numbers.
-/
import Derived.Test.YtbpblheaiancaaaDoorQD
import Derived.Test.YtbpblheaiancaaaDoorWr5
import Derived.Test.YtbpblheaiancaaaDoorQA
import Derived.Lib.ConvBytes
import Derived.Laws.IdiomCopy
namespace Go.Proofs.YtbpblheaiancaaaDoor
open Go.RowKit
set_option linter.unusedVariables false

/-- The first n values of f as bytes. -/
def ub (n : Nat) (f : Nat → UInt8) : Array Value := ((List.range n).map fun j => Value.int .u8 ((f j).toNat : Int)).toArray
theorem ub_size (n : Nat) (f : Nat → UInt8) : (ub n f).size = n := by simp [ub]
theorem ub_get (n : Nat) (f : Nat → UInt8) (j : Nat) (hj : j < n) : (ub n f)[j]? = some (.int .u8 ((f j).toNat : Int)) := by simp [ub, hj]
theorem ub_one (n : Nat) (f : Nat → UInt8) : (ub n f).all (·.oneCell') = true := by simp [ub, Value.oneCell']
theorem ub_ext {cs : Array Value} {n : Nat} {f : Nat → UInt8} (h : cs.size = n) (h2 : ∀ j, j < n → cs[j]? = some (.int .u8 ((f j).toNat : Int))) : cs = ub n f := by
  apply Array.ext
  · rw [h, ub_size]
  · intro i h3 h4
    have a := h2 i (by omega)
    have b := ub_get n f i (by omega)
    rw [Array.getElem?_eq_getElem h3] at a
    rw [Array.getElem?_eq_getElem h4] at b
    exact (Option.some.inj a).trans (Option.some.inj b).symm
theorem ub_set (n : Nat) (f : Nat → UInt8) (i : Nat) (b : UInt8) (hi : i < n) : (ub n f).setIfInBounds i (.int .u8 (b.toNat : Int)) = ub n (fun j => if j = i then b else f j) := by
  refine ub_ext (by simp [ub_size]) (fun j hj => ?_)
  rw [Array.getElem?_setIfInBounds]
  by_cases h : i = j
  · subst h; simp [ub_size, hj]
  · rw [if_neg h, ub_get n f j hj, if_neg (fun e => h e.symm)]
theorem ub_congr {n : Nat} {f g : Nat → UInt8} (h : ∀ j, j < n → f j = g j) : ub n f = ub n g := ub_ext (ub_size n f) (fun j hj => by rw [ub_get n f j hj, h j hj])

/-- Byte idx of a padding of which the last j bytes of the count of bits are laid. -/
def pf (c j idx : Nat) : UInt8 := if idx = 0 then 0x80 else if S2.padLen c ≤ idx + j ∧ idx < S2.padLen c then UInt8.ofNat (8 * c / 256 ^ (S2.padLen c - 1 - idx)) else 0

theorem zero72 : Tryd.zeroCells115.setIfInBounds 0 (.int .u8 128) = ub 72 (fun idx => if idx = 0 then 0x80 else 0) := by kernel_rfl
theorem pf_zero (c : Nat) : Tryd.zeroCells115.setIfInBounds 0 (.int .u8 128) = ub 72 (pf c 0) := by
  have e : ub 72 (pf c 0) = ub 72 (fun idx => if idx = 0 then 0x80 else 0) := ub_congr fun j hj => by
    unfold pf
    split
    · rfl
    · rw [if_neg (by omega)]
  exact zero72.trans e.symm
theorem pf_succ (c j : Nat) (hj : j < 8) (v : Int) (hv : v = ((8 * c / 256 ^ j % 256 : Nat) : Int)) : (ub 72 (pf c j)).setIfInBounds (S2.padLen c - 1 - j) (.int .u8 v) = ub 72 (pf c (j + 1)) := by
  have hp : S2.padLen c = 64 - (c % 64 + 8) % 64 + 8 := rfl
  have h8 : (UInt8.ofNat (8 * c / 256 ^ j)).toNat = 8 * c / 256 ^ j % 256 := by rw [UInt8.toNat_ofNat']
  rw [hv, ← h8, ub_set _ _ _ _ (by omega)]
  refine ub_congr fun i hi => ?_
  unfold pf
  by_cases h0 : i = 0
  · rw [if_pos h0, if_pos h0, if_neg (by omega)]
  · rw [if_neg h0, if_neg h0]
    by_cases h1 : i = S2.padLen c - 1 - j
    · rw [if_pos h1, if_pos (by omega), show S2.padLen c - 1 - i = j by omega]
    · rw [if_neg h1]
      by_cases h2 : S2.padLen c ≤ i + j ∧ i < S2.padLen c
      · rw [if_pos h2, if_pos (by omega)]
      · rw [if_neg h2, if_neg (by omega)]
theorem pf_end (c j : Nat) (hj : j ≤ 8) (h : 8 * c / 256 ^ j = 0) : ub 72 (pf c j) = ub 72 (pf c 8) := by
  have hp : S2.padLen c = 64 - (c % 64 + 8) % 64 + 8 := rfl
  refine ub_congr fun i hi => ?_
  unfold pf
  by_cases h0 : i = 0
  · rw [if_pos h0, if_pos h0]
  · rw [if_neg h0, if_neg h0]
    by_cases h1 : S2.padLen c ≤ i + j ∧ i < S2.padLen c
    · rw [if_pos h1, if_pos (by omega)]
    · rw [if_neg h1]
      by_cases h2 : S2.padLen c ≤ i + 8 ∧ i < S2.padLen c
      · rw [if_pos h2]
        obtain ⟨d, hd⟩ : ∃ d, S2.padLen c - 1 - i = j + d := ⟨S2.padLen c - 1 - i - j, by omega⟩
        rw [hd, Nat.pow_add, ← Nat.div_div_eq_div_mul, h]
        simp
      · rw [if_neg h2]

theorem results_cell_tmp {P : Program} {fn : Func} {p q : Tmp} {ty : TypeId} (h : fn.results = #[.cell p ty, .tmp q]) (tmps : Array Value) (w : World) (g : Nat) (t : TypeId) (cs : Array Value) (fr : Nat × Nat) (d : TypeDesc)
    (hp : tmps.getD p undef = .pointer (some ⟨g, 0, none⟩)) (hg : w.heap[g]? = some (.cells cs t fr))
    (hu : P.underlying ty = some d) (hd : (match d with | .struct _ | .array _ _ => true | _ => false) = true) (hi : (P.info? ty).map (·.size) = some cs.size) :
    (results fn tmps).run P w = .ok (.tuple #[.agg cs, tmps.getD q undef]) w := by
  have hp' : tmps[p]?.getD undef = .pointer (some ⟨g, 0, none⟩) := by simpa using hp
  simp [results, h, hp', asAddr, run_loadVar_row w g t ty cs fr d hg hu hd hi]
theorem Tryd.size72 {f : Nat → UInt8} : (Tryd.prog.info? 115).map (·.size) = some (ub 72 f).size := by
  rw [ub_size]; kernel_rfl

set_option maxRecDepth 100000 in
set_option maxHeartbeats 1600000 in
theorem padding_any (c : Nat) (hc : c ≤ 1152921504606846976) (w : World) :
    Calls Tryd.prog 72 #[.int .i64 c] w fun e w' => e = .returned (.tuple #[.agg (ub 72 (pf c 8)), .int .i64 (S2.padLen c)]) ∧ Fr (fun _ => False) w w' := by
  have hp : S2.padLen c = 64 - (c % 64 + 8) % 64 + 8 := rfl
  have hp1 : 9 ≤ S2.padLen c := by omega
  have hp2 : S2.padLen c ≤ 72 := by omega
  have eP : (64 : Int) - ((c : Int) + 8) % 64 + 8 = (S2.padLen c : Int) := by omega
  have HP := Lib.hid eP
  clear eP hp
  have e4 : IntKind.u64.wrap (c : Int) = (c : Int) := by rw [IntKind.wrap_u64]; omega
  go_enter Tryd.func72, Tryd.ntmps72
  go_wp2_with fail
  simp only [HP.out]
  rw [pf_zero c]
  generalize hPl : S2.padLen c = L at hp1 hp2
  have HL := Lib.hid hPl
  clear hPl
  go_loopw [4, 5] (fun vi vn wr => ∃ j : Nat, j ≤ 8 ∧ vi = .int .i64 ((L : Int) - 1 - j) ∧ vn = .int .u64 ((8 * c / 256 ^ j : Nat) : Int) ∧ wr.heap[w.heap.size]? = some (.cells (ub 72 (pf c j)) 115 (0, 0)) ∧ Fr (fun _ => False) w wr) (fun _ vn _ => (intOf vn).toNat)
  case atStart => exact ⟨0, by omega, by simp, by go_num, heap_alloc_new w _, (Fr.refl _ w).alloc _⟩
  case round =>
    obtain ⟨j, hj, rfl, rfl, hB, hF⟩ := hrel
    by_cases hn : 0 < 8 * c / 256 ^ j
    · have hj8 : j < 8 := by
        rcases Nat.lt_or_ge j 8 with h | h
        · exact h
        · obtain rfl : j = 8 := by omega
          have : 8 * c / 256 ^ 8 = 0 := Nat.div_eq_of_lt (by omega)
          omega
      have hsu := pf_succ c j hj8 (((8 * c / 256 ^ j : Nat) : Int) % 256) (by simp)
      rw [HL.out] at hsu
      have hne : 8 * c / 256 ^ (j + 1) = 8 * c / 256 ^ j / 256 := by rw [Nat.pow_succ, Nat.div_div_eq_div_mul]
      generalize hN : 8 * c / 256 ^ j = N at hn hsu hne
      have Hsu := Lib.hid hsu
      have Hne := Lib.hid hne
      clear hsu hne hN
      have hc0 := cell_of_block hB (L - 1 - j)
      have hf0 := free_of_block hB (L - 1 - j)
      rw [ub_get 72 _ _ (by omega)] at hc0
      have i0 : (0 : Int) ≤ (L : Int) - 1 - j := by omega
      have i1 : (L : Int) - 1 - j < 72 := by omega
      have i2 : ((L : Int) - 1 - j).toNat = L - 1 - j := by omega
      have t1 : decide ((0 : Int) < (N : Int)) = true := by simp; omega
      have hB2 : (wr.setCell ⟨w.heap.size, L - 1 - j, none⟩ (.int .u8 ((N : Int) % 256))).heap[w.heap.size]? = some (.cells (ub 72 (pf c (j + 1))) 115 (0, 0)) := by
        rw [block_setCell hB, Hsu.out]
      have HB2 := Lib.hid hB2
      clear hB2
      go_wp2
      go_roundw
      case rel => exact ⟨j + 1, by omega, by go_num, by rw [Hne.out]; go_num, HB2.out, hF.setCell (Or.inr (Nat.le_refl _)) _⟩
      case measure => simp [intOf]; omega
    · have hz : 8 * c / 256 ^ j = 0 := Nat.eq_zero_of_not_pos hn
      have he := pf_end c j hj hz
      rw [he] at hB
      rw [hz, show ((0 : Nat) : Int) = 0 from rfl]
      clear hz he hn
      go_wp2_with (first
        | (with_reducible refine wpList_load_row rfl 115 (.tmp 2) rfl w.heap.size rfl 115 (ub 72 (pf c 8)) (0, 0) _ hB Tryd.underlying115 rfl Tryd.size72 ?_)
        | (with_reducible refine wpList_store_row rfl 115 (.tmp 2) (.tmp 28) rfl w.heap.size (ub 72 (pf c 8)) rfl rfl 115 _ hB Tryd.size72 rfl (ub_one _ _) ?_))
      refine bodyPost_ret (results_cell_tmp rfl _ _ w.heap.size 115 (ub 72 (pf c 8)) (0, 0) _ rfl (setRow_heap _ _ _ _ _ _ hB) Tryd.underlying115 rfl Tryd.size72) rfl ?_
      exact ⟨by rw [HL.out]; rfl, hF.trans (Fr.setRow (S := fun k => k = w.heap.size) (Fr.refl _ _) rfl _) (fun i hi => Or.inr (by omega))⟩
end Go.Proofs.YtbpblheaiancaaaDoor
namespace Go.Proofs.YtbpblheaiancaaaDoor
open Go.RowKit
set_option linter.unusedVariables false

theorem pf_pad (c : Nat) : (List.range (S2.padLen c)).map (pf c 8) = S2.pad c := by
  have hp : S2.padLen c = 64 - (c % 64 + 8) % 64 + 8 := rfl
  have hl : (S2.pad c).length = S2.padLen c := by simp [S2.pad, S2.be8]; omega
  apply List.ext_getElem?
  intro i
  by_cases h1 : i < S2.padLen c
  · rw [List.getElem?_map, List.getElem?_range h1, Option.map_some]
    unfold pf S2.pad
    by_cases h0 : i = 0
    · subst h0; simp
    · rw [if_neg h0]
      obtain ⟨d, rfl⟩ : ∃ d, i = d + 1 := ⟨i - 1, by omega⟩
      rw [List.getElem?_cons_succ]
      by_cases h3 : S2.padLen c ≤ d + 1 + 8
      · rw [if_pos ⟨h3, h1⟩, List.getElem?_append_right (by simp; omega)]
        simp only [List.length_replicate, S2.be8]
        rw [List.getElem?_map, List.getElem?_range (by omega), Option.map_some]
        congr 2
        rw [show 56 - 8 * (d - (S2.padLen c - 9)) = 8 * (S2.padLen c - 1 - (d + 1)) by omega, Nat.pow_mul]
      · rw [if_neg (by omega), List.getElem?_append_left (by simp; omega), List.getElem?_replicate, if_pos (by omega)]
  · rw [List.getElem?_eq_none (by simp; omega), List.getElem?_eq_none (by omega)]

theorem heap_three (w : World) (A B C : Obj) : (((w.alloc A).alloc B).alloc C).heap[w.heap.size]? = some A := by
  rw [Below.heap_alloc _ _ _ (by simp; omega), Below.heap_alloc _ _ _ (by simp), heap_alloc_new]
theorem heap_three1 (w : World) (A B C : Obj) : (((w.alloc A).alloc B).alloc C).heap[w.heap.size + 1]? = some B := by
  rw [Below.heap_alloc _ _ _ (by simp)]
  exact heap_alloc2_new w A B
theorem heap_three2 (w : World) (A B C : Obj) : (((w.alloc A).alloc B).alloc C).heap[w.heap.size + 1 + 1]? = some C := by
  have h := heap_alloc_new ((w.alloc A).alloc B) C
  rw [show ((w.alloc A).alloc B).heap.size = w.heap.size + 2 by simp] at h
  exact h
theorem Tryd.size8' {f : Nat → Nat} : (Tryd.prog.info? 91).map (·.size) = some (uv 8 f).size := by
  rw [uv_size]; kernel_rfl
/-- Word j of a state. -/
def sw (s : S2.St) (j : Nat) : Nat := s.list.getD j 0
theorem stv_uv (s : S2.St) : stv s = uv 8 (sw s) := rfl
theorem run_index8 (f : Nat → Nat) (k : Nat) (hk : k < 8) (w : World) : (Instr.index 91 (.agg (uv 8 f)) (.int .i64 (k : Int))).run Tryd.prog w = .ok (.int .u32 (f k : Int)) w := by
  have h1 := uv_get 8 f k hk
  obtain ⟨i0, hi, hz⟩ := Option.map_eq_some_iff.1 (show (Tryd.prog.info? 90).map (·.size) = some 1 by kernel_rfl)
  simp [Instr.index, asIntOf, run_underlying Tryd.underlying91, hk, part, sizeOf, typeInfo, hi, hz, h1]

/-- Byte idx of the words' bytes, of which the first k words are laid. -/
def jf (s : S2.St) (k idx : Nat) : UInt8 := if idx < 4 * k then (S2.out s).getD idx 0 else 0
theorem out_get (s : S2.St) (k : Nat) (hk : k < 8) (j : Nat) (hj : j < 4) : (S2.out s).getD (4 * k + j) 0 = (S2.be4 (s.list.getD k 0)).getD j 0 := by
  rcases s with ⟨a, b, c, d, e, f, g, h⟩
  match k, hk, j, hj with
  | 0, _, 0, _ | 0, _, 1, _ | 0, _, 2, _ | 0, _, 3, _ | 1, _, 0, _ | 1, _, 1, _ | 1, _, 2, _ | 1, _, 3, _ | 2, _, 0, _ | 2, _, 1, _ | 2, _, 2, _ | 2, _, 3, _ | 3, _, 0, _ | 3, _, 1, _ | 3, _, 2, _ | 3, _, 3, _
  | 4, _, 0, _ | 4, _, 1, _ | 4, _, 2, _ | 4, _, 3, _ | 5, _, 0, _ | 5, _, 1, _ | 5, _, 2, _ | 5, _, 3, _ | 6, _, 0, _ | 6, _, 1, _ | 6, _, 2, _ | 6, _, 3, _ | 7, _, 0, _ | 7, _, 1, _ | 7, _, 2, _ | 7, _, 3, _ => rfl
theorem jf_step (s : S2.St) (k n : Nat) (hk : k < 8) (hn : s.list.getD k 0 = n) (v0 v1 v2 v3 : Int) (h0 : v0 = ((n / 16777216 % 256 : Nat) : Int)) (h1 : v1 = ((n / 65536 % 256 : Nat) : Int)) (h2 : v2 = ((n / 256 % 256 : Nat) : Int)) (h3 : v3 = ((n % 256 : Nat) : Int)) :
    ((((ub 32 (jf s k)).setIfInBounds (4 * k) (.int .u8 v0)).setIfInBounds (4 * k + 1) (.int .u8 v1)).setIfInBounds (4 * k + 2) (.int .u8 v2)).setIfInBounds (4 * k + 3) (.int .u8 v3) = ub 32 (jf s (k + 1)) := by
  have e : ∀ m : Nat, ((m % 256 : Nat) : Int) = ((UInt8.ofNat m).toNat : Int) := fun m => by rw [UInt8.toNat_ofNat']
  rw [h0, h1, h2, h3, e, e, e, e, ub_set _ _ _ _ (by omega), ub_set _ _ _ _ (by omega), ub_set _ _ _ _ (by omega), ub_set _ _ _ _ (by omega)]
  refine ub_congr fun i hi => ?_
  have g0 := out_get s k hk 0 (by omega)
  have g1 := out_get s k hk 1 (by omega)
  have g2 := out_get s k hk 2 (by omega)
  have g3 := out_get s k hk 3 (by omega)
  rw [hn] at g0 g1 g2 g3
  unfold jf
  by_cases i3 : i = 4 * k + 3
  · subst i3; rw [if_pos rfl, if_pos (by omega), g3]; rfl
  · rw [if_neg i3]
    by_cases i2 : i = 4 * k + 2
    · subst i2; rw [if_pos rfl, if_pos (by omega), g2]; rfl
    · rw [if_neg i2]
      by_cases i1 : i = 4 * k + 1
      · subst i1; rw [if_pos rfl, if_pos (by omega), g1]; rfl
      · rw [if_neg i1]
        by_cases i0 : i = 4 * k
        · subst i0; rw [if_pos rfl, if_pos (by omega)]; rw [Nat.add_zero] at g0; rw [g0]; rfl
        · rw [if_neg i0]
          by_cases h : i < 4 * k
          · rw [if_pos h, if_pos (by omega)]
          · rw [if_neg h, if_neg (by omega)]
theorem Tryd.size32 {f : Nat → UInt8} : (Tryd.prog.info? 22).map (·.size) = some (ub 32 f).size := by
  rw [ub_size]; kernel_rfl
/-- A sum as 32 cells. -/
def sumv (s : S2.St) : Array Value := ub 32 (fun j => (S2.out s).getD j 0)
theorem zero32 : (#[.int .u8 0, .int .u8 0, .int .u8 0, .int .u8 0, .int .u8 0, .int .u8 0, .int .u8 0, .int .u8 0, .int .u8 0, .int .u8 0, .int .u8 0, .int .u8 0, .int .u8 0, .int .u8 0, .int .u8 0, .int .u8 0, .int .u8 0, .int .u8 0, .int .u8 0, .int .u8 0, .int .u8 0, .int .u8 0, .int .u8 0, .int .u8 0, .int .u8 0, .int .u8 0, .int .u8 0, .int .u8 0, .int .u8 0, .int .u8 0, .int .u8 0, .int .u8 0] : Array Value) = ub 32 (fun _ => 0) := by kernel_rfl

theorem sumv_size (s : S2.St) : (sumv s).size = 32 := ub_size _ _
theorem sumv_one (s : S2.St) : (sumv s).all (·.oneCell') = true := ub_one _ _
theorem Tryd.sizeS {s : S2.St} : (Tryd.prog.info? 22).map (·.size) = some (sumv s).size := by
  rw [sumv_size]; kernel_rfl
theorem join_end {w wr : World} {cs cs2 : Array Value} (hB : wr.heap[w.heap.size + 1 + 1]? = some (.cells cs 22 (0, 0))) (hR : ∃ rs, wr.heap[w.heap.size + 1]? = some (.cells rs 22 (0, 0)) ∧ rs.size = 32) (hF : Fr (fun _ => False) w wr)
    (a b c d : Nat) (v0 v1 v2 v3 : Int) (h : (((cs.setIfInBounds a (.int .u8 v0)).setIfInBounds b (.int .u8 v1)).setIfInBounds c (.int .u8 v2)).setIfInBounds d (.int .u8 v3) = cs2) :
    ((((wr.setCell ⟨w.heap.size + 1 + 1, a, none⟩ (.int .u8 v0)).setCell ⟨w.heap.size + 1 + 1, b, none⟩ (.int .u8 v1)).setCell ⟨w.heap.size + 1 + 1, c, none⟩ (.int .u8 v2)).setCell ⟨w.heap.size + 1 + 1, d, none⟩ (.int .u8 v3)).heap[w.heap.size + 1 + 1]? = some (.cells cs2 22 (0, 0)) ∧
    (∃ rs, ((((wr.setCell ⟨w.heap.size + 1 + 1, a, none⟩ (.int .u8 v0)).setCell ⟨w.heap.size + 1 + 1, b, none⟩ (.int .u8 v1)).setCell ⟨w.heap.size + 1 + 1, c, none⟩ (.int .u8 v2)).setCell ⟨w.heap.size + 1 + 1, d, none⟩ (.int .u8 v3)).heap[w.heap.size + 1]? = some (.cells rs 22 (0, 0)) ∧ rs.size = 32) ∧
    Fr (fun _ => False) w ((((wr.setCell ⟨w.heap.size + 1 + 1, a, none⟩ (.int .u8 v0)).setCell ⟨w.heap.size + 1 + 1, b, none⟩ (.int .u8 v1)).setCell ⟨w.heap.size + 1 + 1, c, none⟩ (.int .u8 v2)).setCell ⟨w.heap.size + 1 + 1, d, none⟩ (.int .u8 v3)) := by
  have hT : Fr (fun k => k = w.heap.size + 1 + 1) wr ((((wr.setCell ⟨w.heap.size + 1 + 1, a, none⟩ (.int .u8 v0)).setCell ⟨w.heap.size + 1 + 1, b, none⟩ (.int .u8 v1)).setCell ⟨w.heap.size + 1 + 1, c, none⟩ (.int .u8 v2)).setCell ⟨w.heap.size + 1 + 1, d, none⟩ (.int .u8 v3)) :=
    ((((Fr.refl (fun k => k = w.heap.size + 1 + 1) wr).setCell (Or.inl rfl) _).setCell (Or.inl rfl) _).setCell (Or.inl rfl) _).setCell (Or.inl rfl) _
  obtain ⟨rs, h1, h2⟩ := hR
  refine ⟨?_, ⟨rs, (hT.block _ (lt_of_block h1) (by omega)).trans h1, h2⟩, hF.trans hT (fun i hi => Or.inr (by omega))⟩
  rw [block_setCell (block_setCell (block_setCell (block_setCell hB a _) b _) c _) d _, h]

set_option maxRecDepth 100000 in
set_option maxHeartbeats 1600000 in
theorem joined_any (s : S2.St) (ok : s.ok) (w : World) :
    Calls Tryd.prog 73 #[.agg (stv s)] w fun e w' => e = .returned (.agg (sumv s)) ∧ Fr (fun _ => False) w w' := by
  rw [stv_uv]
  go_enter Tryd.func73, Tryd.ntmps73
  go_wp2_with (with_reducible refine wpList_load_row rfl 91 (.tmp 1) rfl w.heap.size rfl 91 (uv 8 (sw s)) (0, 0) _ (heap_three w _ _ _) Tryd.underlying91 rfl Tryd.size8' ?_)
  have hE : Fr (fun _ => False) w _ := (((Fr.refl (fun _ => False) w).alloc (.cells (uv 8 (sw s)) 91)).alloc (.cells (ub 32 (fun _ => 0)) 22)).alloc (.cells (ub 32 (fun _ => 0)) 22)
  have h0 : ub 32 (fun _ => 0) = ub 32 (jf s 0) := ub_congr fun j hj => by unfold jf; rw [if_neg (by omega)]
  have hr1 := heap_three1 w (.cells (uv 8 (sw s)) 91) (.cells (ub 32 (fun _ => 0)) 22) (.cells (ub 32 (fun _ => 0)) 22)
  have hr2 := heap_three2 w (.cells (uv 8 (sw s)) 91) (.cells (ub 32 (fun _ => 0)) 22) (.cells (ub 32 (fun _ => 0)) 22)
  rw [← zero32] at hE hr1 hr2 h0
  rw [h0] at hr2
  rw [← h0] at hr2
  have H0 := Lib.hid h0
  clear h0
  go_loopw [7] (fun vi wr => ∃ k : Nat, k ≤ 8 ∧ vi = .int .i64 k ∧ wr.heap[w.heap.size + 1 + 1]? = some (.cells (ub 32 (jf s k)) 22 (0, 0)) ∧ (∃ rs, wr.heap[w.heap.size + 1]? = some (.cells rs 22 (0, 0)) ∧ rs.size = 32) ∧ Fr (fun _ => False) w wr) (fun vi _ => 8 - (intOf vi).toNat)
  case atStart => exact ⟨0, by omega, by simp, by rw [← H0.out]; exact hr2, ⟨_, hr1, rfl⟩, hE⟩
  case round =>
    clear hr1 hr2 hE
    obtain ⟨k, hk, rfl, hB, ⟨rs, hR, hRs⟩, hF⟩ := hrel
    by_cases hk8 : k < 8
    · have hidx := run_index8 (sw s) k hk8
      have hn : sw s k < 4294967296 := by
        obtain ⟨h1, h2, h3, h4, h5, h6, h7, h8⟩ := ok
        match k, hk8 with
        | 0, _ => exact h1
        | 1, _ => exact h2
        | 2, _ => exact h3
        | 3, _ => exact h4
        | 4, _ => exact h5
        | 5, _ => exact h6
        | 6, _ => exact h7
        | 7, _ => exact h8
      generalize hnn : sw s k = n at hidx hn
      have hj := jf_step s k n hk8 hnn ((n : Int) / 16777216) ((n : Int) / 65536 % 256) ((n : Int) / 256 % 256) ((n : Int) % 256) (by omega) (by simp) (by simp) (by simp)
      have HJ := Lib.hid hj
      clear hj hnn
      have c0 := cell_of_block hB (4 * k)
      have c1 := cell_of_block hB (4 * k + 1)
      have c2 := cell_of_block hB (4 * k + 2)
      have c3 := cell_of_block hB (4 * k + 3)
      rw [ub_get 32 _ _ (by omega)] at c0 c1 c2 c3
      have hf := fun o => free_of_block hB o
      have i0 : (0 : Int) ≤ (k : Int) := by omega
      have i1 : (k : Int) < 8 := by omega
      have hE := join_end (w := w) hB ⟨rs, hR, hRs⟩ hF (4 * k) (4 * k + 1) (4 * k + 2) (4 * k + 3) _ _ _ _ HJ.out
      have HE := Lib.hid hE
      clear hE
      go_wp2
      go_roundw
      case rel => exact ⟨k + 1, by omega, by go_num, HE.out.1, HE.out.2.1, HE.out.2.2⟩
      case measure => simp [intOf]; omega
    · obtain rfl : k = 8 := by omega
      have e8 : ub 32 (jf s 8) = sumv s := ub_congr fun j hj => by unfold jf; rw [if_pos (by omega)]
      rw [e8] at hB
      rw [show ((8 : Nat) : Int) = 8 from rfl]
      clear e8
      go_wp2_with (first
        | (with_reducible refine wpList_load_row rfl 22 (.tmp 3) rfl (w.heap.size + 1 + 1) rfl 22 (sumv s) (0, 0) _ hB Tryd.underlying22 rfl Tryd.sizeS ?_)
        | (with_reducible refine wpList_store_row rfl 22 (.tmp 2) (.tmp 38) rfl (w.heap.size + 1) (sumv s) rfl rfl 22 _ hR Tryd.sizeS (hRs.trans (sumv_size s).symm) (sumv_one s) ?_))
      refine bodyPost_ret (results_cell_row rfl _ _ (w.heap.size + 1) 22 (sumv s) (0, 0) _ rfl (setRow_heap _ _ _ _ _ _ hR) Tryd.underlying22 rfl Tryd.sizeS) rfl ?_
      exact ⟨rfl, hF.trans (Fr.setRow (S := fun k => k = w.heap.size + 1) (Fr.refl _ _) rfl _) (fun i hi => Or.inr (by omega))⟩
end Go.Proofs.YtbpblheaiancaaaDoor
namespace Go.Proofs.YtbpblheaiancaaaDoor
open Go.RowKit
set_option linter.unusedVariables false

section
variable {P : Program}
theorem wpList_store_rowA {ops : Array Oper} {rest : List Oper} {o : Oper} {a : Act} {w : World} {Q : Exit → Act → World → Prop} (hgd : o.guard = none) (ty : TypeId) (x y : Operand) (ho : o.op = .store ty x y)
    (g : Nat) (cells : Array Value) (hx : a.eval x = .pointer (some ⟨g, 0, none⟩)) (hy : a.eval y = .agg cells)
    (t : TypeId) (old : Array Value) (hg : w.heap[g]? = some (.cells old t (0, 0))) (hi : (P.info? ty).map (·.size) = some cells.size)
    (hold : old.size = cells.size) (h1 : cells.all (·.oneCell') = true)
    (h : ∀ w2 : World, w2.heap[g]? = some (.cells cells t (0, 0)) → Fr (fun k => k = g) w w2 → wpList P ops Q rest (a.put o.dst undef) w2) : wpList P ops Q (o :: rest) a w :=
  wpList_store_row hgd ty x y ho g cells hx hy t old hg hi hold h1 (h _ (setRow_heap _ _ _ _ _ _ hg) (Fr.setRow (S := fun k => k = g) (Fr.refl _ _) rfl _))
end

theorem Tryd.z72 : Tryd.zeroCells115.size = 72 := by kernel_rfl
theorem Tryd.size8L {m : S2.St} : (Tryd.prog.info? 91).map (·.size) = some (stv m).toList.length := by
  show _ = some 8
  kernel_rfl
theorem write_any' (bh : Nat) (l m : List UInt8) (a : Option Addr) (c n : Nat) (hn : m.length = n) (w : World) (h : HIs w bh l) (hm : Lies w a m) (hc : n ≤ c) (hc2 : c ≤ maxLen) (hne : m = [] ∨ ¬ inBlk a bh) (hsum : l.length + n ≤ 9223372036854775807) (hT : Tab w) (hTs : 2 < w.heap.size) (hTb : bh ≠ 2) :
    Calls Tryd.prog 57 #[.pointer (some ⟨bh, 0, none⟩), .slice a n c] w fun e w' => e = .returned (.tuple #[]) ∧ HIs w' bh (l ++ m) ∧ Fr (fun k => k = bh) w w' := by
  subst hn
  exact write_any bh l m a c w h hm hc hc2 hne hsum hT hTs hTb

/-- The sum of bytes, as 32 cells. -/
def sumc (l : List UInt8) : Array Value := sumv (S2.hw (l ++ S2.pad l.length))
theorem Tryd.size73 {wl : List Value} {tl : List UInt8} {n : Nat} (h1 : wl.length = 8) (h2 : tl.length = 64) : (Tryd.prog.info? 93).map (·.size) = some (hcells wl tl n).toArray.size := by
  rw [show (hcells wl tl n).toArray.size = 73 by simp [hcells, h1, h2]]; kernel_rfl
theorem hcells_one {wl : List Value} {tl : List UInt8} {n : Nat} (h : ∀ v ∈ wl, v.oneCell' = true) : (hcells wl tl n).toArray.all (·.oneCell') = true := by
  rw [Array.all_eq_true_iff_forall_mem]
  intro v hv
  simp only [List.mem_toArray, hcells, List.mem_append, List.mem_singleton] at hv
  rcases hv with hv | hv | rfl
  · exact h v hv
  · exact bv_one tl v hv
  · rfl
theorem HIs.cells {w : World} {bh : Nat} {l : List UInt8} (h : HIs w bh l) : ∃ wl tl, HB w bh wl tl l.length ∧ (l ≠ [] → HInv w bh l tl) := by
  obtain ⟨tl, h⟩ := h
  rcases h with ⟨rfl, wl, hb⟩ | ⟨hl, hi⟩
  · exact ⟨wl, tl, hb, fun h => absurd rfl h⟩
  · exact ⟨_, tl, hi.hb, fun _ => hi⟩
theorem HIs.copied {w w2 : World} {bh b2 : Nat} {l : List UInt8} {wl : List Value} {tl : List UInt8} (h : HB w bh wl tl l.length) (hi : l ≠ [] → HInv w bh l tl) (h2 : w2.heap[b2]? = some (.cells (hcells wl tl l.length).toArray 93 (0, 0))) : HIs w2 b2 l := by
  by_cases e : l = []
  · subst e
    exact ⟨tl, Or.inl ⟨rfl, wl, h2, h.w8, h.t64, h.one⟩⟩
  · have hI := hi e
    have e2 : hcells wl tl l.length = hcells (stv (S2.hw l)).toList tl l.length := by
      have a := h.blk
      rw [hI.hb.blk] at a
      injection a with a
      injection a with a
      exact (congrArg Array.toList a).symm
    exact ⟨tl, Or.inr ⟨e, ⟨⟨by rw [← e2]; exact h2, hI.hb.w8, hI.hb.t64, hI.hb.one⟩, hI.tail⟩⟩⟩
theorem HIs.fr {w w2 : World} {bh : Nat} {l : List UInt8} {S : Nat → Prop} (h : HIs w bh l) (hF : Fr S w w2) (hs : ¬ S bh) : HIs w2 bh l := by
  obtain ⟨tl, h⟩ := h
  rcases h with ⟨rfl, wl, hb⟩ | ⟨hl, hi⟩
  · exact ⟨tl, Or.inl ⟨rfl, wl, hb.fr hF hs⟩⟩
  · exact ⟨tl, Or.inr ⟨hl, hi.hb.fr hF hs, hi.tail⟩⟩
theorem HIs.lt {w : World} {bh : Nat} {l : List UInt8} (h : HIs w bh l) : bh < w.heap.size := by
  obtain ⟨wl, tl, hb, _⟩ := h.cells
  exact lt_of_block hb.blk
/-- The bytes of a padding lie in its block. -/
theorem pad_lies {w : World} {b c : Nat} {t : TypeId} {fr : Nat × Nat} (h : w.heap[b]? = some (.cells (ub 72 (pf c 8)) t fr)) : Lies w (some ⟨b, 0, none⟩) (S2.pad c) := by
  have hp : S2.padLen c = 64 - (c % 64 + 8) % 64 + 8 := rfl
  refine Or.inr ⟨b, 0, rfl, fun j hj => ?_⟩
  rw [Nat.zero_add, cell_of_block h]
  have hl : (S2.pad c).length = S2.padLen c := by rw [← pf_pad c]; simp
  rw [ub_get 72 _ j (by omega)]
  simp only [← pf_pad c, List.getElem_map, List.getElem_range]

/-- The global table, and where it lies. -/
structure Env (w : World) : Prop where
  tab : Tab w
  lt : 2 < w.heap.size
theorem Env.fr {w w2 : World} {S : Nat → Prop} (h : Env w) (hF : Fr S w w2) (hs : ¬ S 2) : Env w2 := ⟨h.tab.fr hF hs, Nat.lt_of_lt_of_le h.lt hF.size⟩

set_option maxRecDepth 100000 in
set_option maxHeartbeats 1600000 in
theorem hsum_any (bh : Nat) (l : List UInt8) (w : World) (h : HIs w bh l) (hl : l.length ≤ 1152921504606846976) (hE : Env w) :
    Calls Tryd.prog 58 #[.pointer (some ⟨bh, 0, none⟩)] w fun e w' => e = .returned (.agg (sumc l)) ∧ Fr (fun _ => False) w w' := by
  obtain ⟨wl, tl, hb, hi⟩ := h.cells
  have hlt := h.lt
  have hw8 := hb.w8
  have ht64 := hb.t64
  go_enter Tryd.func58, Tryd.ntmps58
  go_wp2_with (first
    | (with_reducible refine wpList_load_row rfl 93 (.tmp 9) rfl bh rfl 93 (hcells wl tl l.length).toArray (0, 0) _ (hb.fr (((Fr.refl (fun _ => False) w).alloc _).alloc _) (fun h => h)).blk Tryd.underlying93 rfl (Tryd.size73 hw8 ht64) ?_)
    | (with_reducible refine wpList_store_rowA rfl 93 (.tmp 3) (.tmp 10) rfl (w.heap.size + 1) (hcells wl tl l.length).toArray rfl rfl 93 _ (heap_alloc2_new w _ _) (Tryd.size73 hw8 ht64) ?hold (hcells_one hb.one) ?k))
  case hold => simp [hcells, hw8, ht64]
  case k =>
  intro w1 hn1 hG1
  have hF1 : Fr (fun _ => False) w w1 := (((Fr.refl (fun _ => False) w).alloc _).alloc _).trans hG1 (fun i hi => Or.inr (by omega))
  have hr1 : ∃ rs, w1.heap[w.heap.size]? = some (.cells rs 22 (0, 0)) ∧ rs.size = 32 := ⟨_, (hG1.block _ (by simp; omega) (by omega)).trans (heap_alloc2_old w _ _), rfl⟩
  have hh1 : HIs w1 (w.heap.size + 1) l := HIs.copied hb hi hn1
  have hE1 := hE.fr hF1 (fun h => h)
  have hz1 : w.heap.size + 1 < w1.heap.size := hh1.lt
  clear hG1
  have hcnt : w1.cell? ⟨w.heap.size + 1, 72, none⟩ = some (.int .i64 (l.length : Int)) := by
    obtain ⟨_, _, hb1, _⟩ := hh1.cells
    exact hb1.count
  go_wp2_with fail
  refine (padding_any l.length hl _).mono ?_
  rintro e w2 ⟨rfl, F2⟩
  go_wp2_with (with_reducible refine wpList_store_rowA rfl 115 (.tmp 4) (.tmp 15) rfl w2.heap.size (ub 72 (pf l.length 8)) rfl rfl 115 _ (heap_alloc_new w2 _) Tryd.size72 (Tryd.z72.trans (ub_size _ _).symm) (ub_one _ _) ?k2)
  case k2 =>
  intro w3 hp3 hG3
  have hG : Fr (fun k => k = w2.heap.size) w1 w3 := ((F2.mono (T := fun k => k = w2.heap.size) (fun _ _ h => h.elim)).alloc _).trans hG3 (fun i hi => Or.inl hi)
  have hF3 : Fr (fun _ => False) w w3 := hF1.trans hG (fun i hi => Or.inr (by have := hF1.size; have := F2.size; omega))
  have hh3 : HIs w3 (w.heap.size + 1) l := hh1.fr hG (by have := F2.size; omega)
  have hE3 := hE.fr hF3 (fun h => h)
  have hlies := pad_lies hp3
  have hplen : (S2.pad l.length).length = S2.padLen l.length := by rw [← pf_pad]; simp
  have hpl : S2.padLen l.length = 64 - (l.length % 64 + 8) % 64 + 8 := rfl
  have hp72 : S2.padLen l.length ≤ 72 := by omega
  have hp0 : (0 : Int) ≤ (S2.padLen l.length : Int) := by omega
  have hp1 : (S2.padLen l.length : Int) ≤ 72 := by omega
  have hne : S2.pad l.length ≠ [] := by intro e; rw [e] at hplen; simp at hplen; omega
  clear hpl hG3
  have Hplen := Lib.hid hplen
  clear hplen
  go_wp2_with fail
  refine (write_any' (w.heap.size + 1) l (S2.pad l.length) _ 72 _ Hplen.out w3 hh3 hlies hp72 (by unfold maxLen; omega) (Or.inr (fun ⟨ad, e, hb⟩ => by cases e; simp at hb; have := F2.size; omega)) (by have := Hplen.out; omega) hE3.tab hE3.lt (by have := hE.lt; omega)).mono ?_
  rintro e w4 ⟨rfl, hh4, hG4⟩
  obtain ⟨wl4, tl4, hb4, hi4⟩ := hh4.cells
  have hI4 := hi4 (by simp [hne])
  have hwords := hI4.hb.words
  go_wp2_with (with_reducible refine wpList_load_mid rfl 91 (.tmp 20) rfl (w.heap.size + 1) 0 rfl (stv (S2.hw (l ++ S2.pad l.length))).toList _ hwords Tryd.underlying91 rfl Tryd.size8L ?_)
  refine (joined_any _ (S2.hw_ok _) _).mono ?_
  rintro e w5 ⟨rfl, F5⟩
  have hF4 : Fr (fun _ => False) w w4 := hF3.trans hG4 (fun i hi => Or.inr (by omega))
  have hF5 : Fr (fun _ => False) w w5 := hF4.trans F5 (fun _ h => h.elim)
  have hr5 : ∃ rs, w5.heap[w.heap.size]? = some (.cells rs 22 (0, 0)) ∧ rs.size = 32 := by
    obtain ⟨rs, h1, h2⟩ := hr1
    have hz := lt_of_block h1
    refine ⟨rs, ?_, h2⟩
    rw [F5.block _ (by have := hG4.size; have := hF3.size; have := hh3.lt; omega) (fun h => h), hG4.block _ (by have := hh3.lt; omega) (by omega), hG.block _ (by omega) (by have := F2.size; omega), h1]
  obtain ⟨rs, hr5, hrs⟩ := hr5
  go_wp2_with (with_reducible refine wpList_store_row rfl 22 (.tmp 2) (.tmp 22) rfl w.heap.size (sumv (S2.hw (l ++ S2.pad l.length))) rfl rfl 22 rs hr5 Tryd.sizeS (hrs.trans (sumv_size _).symm) (sumv_one _) ?_)
  refine bodyPost_ret (results_cell_row rfl _ _ w.heap.size 22 (sumv (S2.hw (l ++ S2.pad l.length))) (0, 0) _ rfl (setRow_heap _ _ _ _ _ _ hr5) Tryd.underlying22 rfl Tryd.sizeS) rfl ?_
  exact ⟨rfl, hF5.trans (Fr.setRow (S := fun k => k = w.heap.size) (Fr.refl _ _) rfl _) (fun i hi => Or.inr (by omega))⟩
end Go.Proofs.YtbpblheaiancaaaDoor
namespace Go.Proofs.YtbpblheaiancaaaDoor
open Go.RowKit
set_option linter.unusedVariables false

/-- Parts that lie in memory. -/
def Parts (w : World) (a : Option Addr) (L : List (List UInt8)) : Prop := L = [] ∨ ∃ g o, a = some ⟨g, o, none⟩ ∧ ∀ j (h : j < L.length), ∃ aj cj, w.cell? ⟨g, o + j, none⟩ = some (.slice aj (L[j]).length cj) ∧ Lies w aj L[j] ∧ (L[j]).length ≤ cj ∧ cj ≤ maxLen
theorem Lies.lt {w : World} {a : Option Addr} {l : List UInt8} (h : Lies w a l) (hl : l ≠ []) : ∀ k, inBlk a k → k < w.heap.size := by
  rintro k ⟨ad, rfl, rfl⟩
  rcases h with h | ⟨g, o, e, hc⟩
  · exact absurd h hl
  · cases e
    have := hc 0 (List.length_pos_iff.2 hl)
    exact World.block_lt_of_cell? w ⟨g, o + 0, none⟩ this
theorem Lies.grow {w w2 : World} {a : Option Addr} {l : List UInt8} (h : Lies w a l) (hF : Fr (fun _ => False) w w2) : Lies w2 a l := h.fr hF (fun _ _ h => h)
theorem zero73 : (#[.int .u32 0, .int .u32 0, .int .u32 0, .int .u32 0, .int .u32 0, .int .u32 0, .int .u32 0, .int .u32 0, .int .u8 0, .int .u8 0, .int .u8 0, .int .u8 0, .int .u8 0, .int .u8 0, .int .u8 0, .int .u8 0, .int .u8 0, .int .u8 0, .int .u8 0, .int .u8 0, .int .u8 0, .int .u8 0, .int .u8 0, .int .u8 0, .int .u8 0, .int .u8 0, .int .u8 0, .int .u8 0, .int .u8 0, .int .u8 0, .int .u8 0, .int .u8 0, .int .u8 0, .int .u8 0, .int .u8 0, .int .u8 0, .int .u8 0, .int .u8 0, .int .u8 0, .int .u8 0, .int .u8 0, .int .u8 0, .int .u8 0, .int .u8 0, .int .u8 0, .int .u8 0, .int .u8 0, .int .u8 0, .int .u8 0, .int .u8 0, .int .u8 0, .int .u8 0, .int .u8 0, .int .u8 0, .int .u8 0, .int .u8 0, .int .u8 0, .int .u8 0, .int .u8 0, .int .u8 0, .int .u8 0, .int .u8 0, .int .u8 0, .int .u8 0, .int .u8 0, .int .u8 0, .int .u8 0, .int .u8 0, .int .u8 0, .int .u8 0, .int .u8 0, .int .u8 0, .int .i64 0] : Array Value) = (hcells (List.replicate 8 (.int .u32 0)) (List.replicate 64 0) 0).toArray := by kernel_rfl
theorem HIs.zero {w : World} {b : Nat} (h : w.heap[b]? = some (.cells #[.int .u32 0, .int .u32 0, .int .u32 0, .int .u32 0, .int .u32 0, .int .u32 0, .int .u32 0, .int .u32 0, .int .u8 0, .int .u8 0, .int .u8 0, .int .u8 0, .int .u8 0, .int .u8 0, .int .u8 0, .int .u8 0, .int .u8 0, .int .u8 0, .int .u8 0, .int .u8 0, .int .u8 0, .int .u8 0, .int .u8 0, .int .u8 0, .int .u8 0, .int .u8 0, .int .u8 0, .int .u8 0, .int .u8 0, .int .u8 0, .int .u8 0, .int .u8 0, .int .u8 0, .int .u8 0, .int .u8 0, .int .u8 0, .int .u8 0, .int .u8 0, .int .u8 0, .int .u8 0, .int .u8 0, .int .u8 0, .int .u8 0, .int .u8 0, .int .u8 0, .int .u8 0, .int .u8 0, .int .u8 0, .int .u8 0, .int .u8 0, .int .u8 0, .int .u8 0, .int .u8 0, .int .u8 0, .int .u8 0, .int .u8 0, .int .u8 0, .int .u8 0, .int .u8 0, .int .u8 0, .int .u8 0, .int .u8 0, .int .u8 0, .int .u8 0, .int .u8 0, .int .u8 0, .int .u8 0, .int .u8 0, .int .u8 0, .int .u8 0, .int .u8 0, .int .u8 0, .int .i64 0] 93 (0, 0))) : HIs w b [] := by
  rw [zero73] at h
  exact ⟨_, Or.inl ⟨rfl, _, h, by simp, by simp, by simp [Value.oneCell']⟩⟩

theorem Tryd.sizeC {l : List UInt8} : (Tryd.prog.info? 22).map (·.size) = some (sumc l).size := Tryd.sizeS
set_option maxRecDepth 100000 in
set_option maxHeartbeats 1600000 in
theorem psum_any (a : Option Addr) (L : List (List UInt8)) (n c : Nat) (hn : L.length = n) (w : World) (h : Parts w a L) (hn2 : n ≤ maxLen) (hl : L.flatten.length ≤ 1152921504606846976) (hE : Env w) :
    Calls Tryd.prog 36 #[.slice a n c] w fun e w' => e = .returned (.agg (sumc L.flatten)) ∧ Fr (fun _ => False) w w' := by
  have hn3 : n ≤ 9223372036854775807 := by unfold maxLen at hn2; omega
  go_enter Tryd.func36, Tryd.ntmps36
  go_wp2_with fail
  go_loopw [8] (fun i wr => ∃ k : Nat, k ≤ n ∧ i = .int .i64 k ∧ HIs wr (w.heap.size + 1) (L.take k).flatten ∧ (∃ rs, wr.heap[w.heap.size]? = some (.cells rs 22 (0, 0)) ∧ rs.size = 32) ∧ Fr (fun _ => False) w wr) (fun i _ => n - (intOf i).toNat)
  case atStart => exact ⟨0, by omega, by simp, by rw [List.take_zero]; exact HIs.zero (heap_alloc2_new w _ _), ⟨_, heap_alloc2_old w _ _, rfl⟩, ((Fr.refl _ w).alloc _).alloc _⟩
  case round =>
    obtain ⟨k, hk, rfl, hI, hR, hF⟩ := hrel
    by_cases hlt : k < n
    · have hkL : k < L.length := by omega
      obtain ⟨p, hp⟩ : ∃ p, p = L[k]'hkL := ⟨_, rfl⟩
      have e2 : L.take (k + 1) = L.take k ++ [p] := by rw [hp, List.take_succ_eq_append_getElem hkL]
      have hsub : ((L.take k).flatten).length + p.length ≤ 1152921504606846976 := by
        have e3 : L.flatten = (L.take (k + 1)).flatten ++ (L.drop (k + 1)).flatten := by rw [← List.flatten_append, List.take_append_drop]
        have e4 : (L.take (k + 1)).flatten = (L.take k).flatten ++ p := by rw [e2, List.flatten_append]; simp
        rw [e3, e4, List.length_append, List.length_append] at hl
        omega
      obtain ⟨g, o, ha, hc⟩ := h.resolve_left (fun e => by rw [e] at hn; simp at hn; omega)
      obtain ⟨aj, cj, h1, h2, h3, h4⟩ := hc k hkL
      rw [← hp] at h1 h2 h3
      clear hp
      subst ha
      have h1' := hF.cellSome (p := ⟨g, o + k, none⟩) (fun h => h) h1
      have hE1 := hE.fr hF (fun h => h)
      have hnb : p = [] ∨ ¬ inBlk aj (w.heap.size + 1) := by
        by_cases e : p = []
        · exact Or.inl e
        · exact Or.inr fun hb => by have := h2.lt e _ hb; omega
      have hz := hE.lt
      go_wp2_with fail
      refine (write_any (w.heap.size + 1) _ p aj cj _ hI (h2.grow hF) h3 h4 hnb (by omega) hE1.tab hE1.lt (by omega)).mono ?_
      rintro e w2 ⟨rfl, hI2, hG2⟩
      have hF2 : Fr (fun _ => False) w w2 := hF.trans hG2 (fun i hi => Or.inr (by omega))
      have hI3 : HIs w2 (w.heap.size + 1) (L.take (k + 1)).flatten := by
        rw [e2, List.flatten_append]
        simpa using hI2
      have hR2 : ∃ rs, w2.heap[w.heap.size]? = some (.cells rs 22 (0, 0)) ∧ rs.size = 32 := by
        obtain ⟨rs, a1, a2⟩ := hR
        exact ⟨rs, (hG2.block _ (lt_of_block a1) (by omega)).trans a1, a2⟩
      clear hI hR hF hI2 hG2 h1 h1' hE1 e2
      go_wp2
      go_roundw
      case rel => exact ⟨k + 1, by omega, by go_num, hI3, hR2, hF2⟩
      case measure => simp [intOf]; omega
    · have e1 : L.take k = L := List.take_of_length_le (by omega)
      rw [e1] at hI
      clear e1
      have ht : decide ((k : Int) < (n : Int)) = false := by simp; omega
      go_wp2_with fail
      refine (hsum_any (w.heap.size + 1) L.flatten _ hI hl (hE.fr hF (fun h => h))).mono ?_
      rintro e w2 ⟨rfl, F2⟩
      obtain ⟨rs, a1, a2⟩ := hR
      have a3 := (F2.block _ (lt_of_block a1) (fun h => h)).trans a1
      have hs2 : rs.size = (sumc L.flatten).size := a2.trans (sumv_size _).symm
      have hone : (sumc L.flatten).all (·.oneCell') = true := sumv_one _
      go_wp2_with (with_reducible refine wpList_store_row rfl 22 (.tmp 2) (.tmp 15) rfl w.heap.size (sumc L.flatten) rfl rfl 22 rs a3 Tryd.sizeC hs2 hone ?_)
      refine bodyPost_ret (results_cell_row rfl _ _ w.heap.size 22 (sumc L.flatten) (0, 0) _ rfl (setRow_heap _ _ _ _ _ _ a3) Tryd.underlying22 rfl Tryd.sizeC) rfl ?_
      exact ⟨rfl, (hF.trans F2 (fun _ h => h.elim)).trans (Fr.setRow (S := fun k => k = w.heap.size) (Fr.refl _ _) rfl _) (fun i hi => Or.inr (by omega))⟩
end Go.Proofs.YtbpblheaiancaaaDoor
namespace Go.Proofs.YtbpblheaiancaaaDoor
open Go.RowKit
set_option linter.unusedVariables false

/-- Byte idx of a padding of which the last j bytes of the count of bits are laid. -/
def pf5 (c j idx : Nat) : UInt8 := if idx = 0 then 0x80 else if S5.padLen c ≤ idx + j ∧ idx < S5.padLen c then UInt8.ofNat (8 * c / 256 ^ (S5.padLen c - 1 - idx)) else 0

theorem zero144 : Tryd.zeroCells103.setIfInBounds 0 (.int .u8 128) = ub 144 (fun idx => if idx = 0 then 0x80 else 0) := by kernel_rfl
theorem pf_zero5 (c : Nat) : Tryd.zeroCells103.setIfInBounds 0 (.int .u8 128) = ub 144 (pf5 c 0) := by
  have e : ub 144 (pf5 c 0) = ub 144 (fun idx => if idx = 0 then 0x80 else 0) := ub_congr fun j hj => by
    unfold pf5
    split
    · rfl
    · rw [if_neg (by omega)]
  exact zero144.trans e.symm
theorem pf_succ5 (c j : Nat) (hj : j < 8) (v : Int) (hv : v = ((8 * c / 256 ^ j % 256 : Nat) : Int)) : (ub 144 (pf5 c j)).setIfInBounds (S5.padLen c - 1 - j) (.int .u8 v) = ub 144 (pf5 c (j + 1)) := by
  have hp : S5.padLen c = 128 - (c % 128 + 16) % 128 + 16 := rfl
  have h8 : (UInt8.ofNat (8 * c / 256 ^ j)).toNat = 8 * c / 256 ^ j % 256 := by rw [UInt8.toNat_ofNat']
  rw [hv, ← h8, ub_set _ _ _ _ (by omega)]
  refine ub_congr fun i hi => ?_
  unfold pf5
  by_cases h0 : i = 0
  · rw [if_pos h0, if_pos h0, if_neg (by omega)]
  · rw [if_neg h0, if_neg h0]
    by_cases h1 : i = S5.padLen c - 1 - j
    · rw [if_pos h1, if_pos (by omega), show S5.padLen c - 1 - i = j by omega]
    · rw [if_neg h1]
      by_cases h2 : S5.padLen c ≤ i + j ∧ i < S5.padLen c
      · rw [if_pos h2, if_pos (by omega)]
      · rw [if_neg h2, if_neg (by omega)]
theorem pf_end5 (c j : Nat) (hj : j ≤ 8) (h : 8 * c / 256 ^ j = 0) : ub 144 (pf5 c j) = ub 144 (pf5 c 8) := by
  have hp : S5.padLen c = 128 - (c % 128 + 16) % 128 + 16 := rfl
  refine ub_congr fun i hi => ?_
  unfold pf5
  by_cases h0 : i = 0
  · rw [if_pos h0, if_pos h0]
  · rw [if_neg h0, if_neg h0]
    by_cases h1 : S5.padLen c ≤ i + j ∧ i < S5.padLen c
    · rw [if_pos h1, if_pos (by omega)]
    · rw [if_neg h1]
      by_cases h2 : S5.padLen c ≤ i + 8 ∧ i < S5.padLen c
      · rw [if_pos h2]
        obtain ⟨d, hd⟩ : ∃ d, S5.padLen c - 1 - i = j + d := ⟨S5.padLen c - 1 - i - j, by omega⟩
        rw [hd, Nat.pow_add, ← Nat.div_div_eq_div_mul, h]
        simp
      · rw [if_neg h2]

theorem Tryd.size144 {f : Nat → UInt8} : (Tryd.prog.info? 103).map (·.size) = some (ub 144 f).size := by
  rw [ub_size]; kernel_rfl

set_option maxRecDepth 100000 in
set_option maxHeartbeats 1600000 in
theorem padding_any5 (c : Nat) (hc : c ≤ 1152921504606846976) (w : World) :
    Calls Tryd.prog 63 #[.int .i64 c] w fun e w' => e = .returned (.tuple #[.agg (ub 144 (pf5 c 8)), .int .i64 (S5.padLen c)]) ∧ Fr (fun _ => False) w w' := by
  have hp : S5.padLen c = 128 - (c % 128 + 16) % 128 + 16 := rfl
  have hp1 : 17 ≤ S5.padLen c := by omega
  have hp2 : S5.padLen c ≤ 144 := by omega
  have eP : (128 : Int) - ((c : Int) + 16) % 128 + 16 = (S5.padLen c : Int) := by omega
  have HP := Lib.hid eP
  clear eP hp
  have e4 : IntKind.u64.wrap (c : Int) = (c : Int) := by rw [IntKind.wrap_u64]; omega
  go_enter Tryd.func63, Tryd.ntmps63
  go_upto_region 3 with fail
  simp only [HP.out]
  rw [pf_zero5 c]
  generalize hPl : S5.padLen c = L at hp1 hp2
  have HL := Lib.hid hPl
  have hb0 : pf5 c 0 (L - 9) = 0 := by
    unfold pf5
    rw [if_neg (by omega), hPl, if_neg (by omega)]
  clear hPl
  have hB0 := heap_alloc_new w (.cells (ub 144 (pf5 c 0)) 103)
  have hF0 := (Fr.refl (fun _ => False) w).alloc (.cells (ub 144 (pf5 c 0)) 103)
  generalize World.alloc w _ = w1 at hB0 hF0 ⊢
  have c9 := cell_of_block hB0 (L - 9)
  rw [ub_get 144 _ _ (by omega), hb0] at c9
  have f9 := free_of_block hB0 (L - 9)
  have j0 : (0 : Int) ≤ (L : Int) - 9 := by omega
  have j1 : (L : Int) - 9 < 144 := by omega
  have j2 : ((L : Int) - 9).toNat = L - 9 := by omega
  have j3 : (c : Int) / 2305843009213693952 = 0 := by omega
  have hB1 : (w1.setCell ⟨w.heap.size, L - 9, none⟩ (.int .u8 0)).heap[w.heap.size]? = some (.cells (ub 144 (pf5 c 0)) 103 (0, 0)) := by
    rw [block_setCell hB0]
    congr 2
    have := ub_set 144 (pf5 c 0) (L - 9) 0 (by omega)
    rw [show ((0 : UInt8).toNat : Int) = 0 from rfl] at this
    rw [this]
    apply ub_congr
    intro j hj
    by_cases e : j = L - 9
    · rw [if_pos e, e, hb0]
    · rw [if_neg e]
  have hF1 : Fr (fun _ => False) w (w1.setCell ⟨w.heap.size, L - 9, none⟩ (.int .u8 0)) := hF0.setCell (Or.inr (Nat.le_refl _)) _
  have HB1 := Lib.hid hB1
  clear hB1 hB0 hb0
  go_wp2_with fail
  clear j0 j1 j2 j3 c9 f9
  go_loopw [4, 5] (fun vi vn wr => ∃ j : Nat, j ≤ 8 ∧ vi = .int .i64 ((L : Int) - 1 - j) ∧ vn = .int .u64 ((8 * c / 256 ^ j : Nat) : Int) ∧ wr.heap[w.heap.size]? = some (.cells (ub 144 (pf5 c j)) 103 (0, 0)) ∧ Fr (fun _ => False) w wr) (fun _ vn _ => (intOf vn).toNat)
  case atStart => exact ⟨0, by omega, by simp, by go_num, HB1.out, hF1⟩
  case round =>
    clear HB1 hF1
    obtain ⟨j, hj, rfl, rfl, hB, hF⟩ := hrel
    by_cases hn : 0 < 8 * c / 256 ^ j
    · have hj8 : j < 8 := by
        rcases Nat.lt_or_ge j 8 with h | h
        · exact h
        · obtain rfl : j = 8 := by omega
          have : 8 * c / 256 ^ 8 = 0 := Nat.div_eq_of_lt (by omega)
          omega
      have hsu := pf_succ5 c j hj8 (((8 * c / 256 ^ j : Nat) : Int) % 256) (by simp)
      rw [HL.out] at hsu
      have hne : 8 * c / 256 ^ (j + 1) = 8 * c / 256 ^ j / 256 := by rw [Nat.pow_succ, Nat.div_div_eq_div_mul]
      generalize hN : 8 * c / 256 ^ j = N at hn hsu hne
      have Hsu := Lib.hid hsu
      have Hne := Lib.hid hne
      clear hsu hne hN
      have hc0 := cell_of_block hB (L - 1 - j)
      have hf0 := free_of_block hB (L - 1 - j)
      rw [ub_get 144 _ _ (by omega)] at hc0
      have i0 : (0 : Int) ≤ (L : Int) - 1 - j := by omega
      have i1 : (L : Int) - 1 - j < 144 := by omega
      have i2 : ((L : Int) - 1 - j).toNat = L - 1 - j := by omega
      have t1 : decide ((0 : Int) < (N : Int)) = true := by simp; omega
      have hB2 : (wr.setCell ⟨w.heap.size, L - 1 - j, none⟩ (.int .u8 ((N : Int) % 256))).heap[w.heap.size]? = some (.cells (ub 144 (pf5 c (j + 1))) 103 (0, 0)) := by
        rw [block_setCell hB, Hsu.out]
      have HB2 := Lib.hid hB2
      clear hB2
      go_wp2
      go_roundw
      case rel => exact ⟨j + 1, by omega, by go_num, by rw [Hne.out]; go_num, HB2.out, hF.setCell (Or.inr (Nat.le_refl _)) _⟩
      case measure => simp [intOf]; omega
    · have hz : 8 * c / 256 ^ j = 0 := Nat.eq_zero_of_not_pos hn
      have he := pf_end5 c j hj hz
      rw [he] at hB
      rw [hz, show ((0 : Nat) : Int) = 0 from rfl]
      clear hz he hn
      go_wp2_with (first
        | (with_reducible refine wpList_load_row rfl 103 (.tmp 2) rfl w.heap.size rfl 103 (ub 144 (pf5 c 8)) (0, 0) _ hB Tryd.underlying103 rfl Tryd.size144 ?_)
        | (with_reducible refine wpList_store_row rfl 103 (.tmp 2) (.tmp 35) rfl w.heap.size (ub 144 (pf5 c 8)) rfl rfl 103 _ hB Tryd.size144 rfl (ub_one _ _) ?_))
      refine bodyPost_ret (results_cell_tmp rfl _ _ w.heap.size 103 (ub 144 (pf5 c 8)) (0, 0) _ rfl (setRow_heap _ _ _ _ _ _ hB) Tryd.underlying103 rfl Tryd.size144) rfl ?_
      exact ⟨by rw [HL.out]; rfl, hF.trans (Fr.setRow (S := fun k => k = w.heap.size) (Fr.refl _ _) rfl _) (fun i hi => Or.inr (by omega))⟩
end Go.Proofs.YtbpblheaiancaaaDoor
namespace Go.Proofs.YtbpblheaiancaaaDoor
open Go.RowKit
set_option linter.unusedVariables false

theorem block_setCellF {w : World} {b : Nat} {cs : Array Value} {t : TypeId} {fz : Nat × Nat} (h : w.heap[b]? = some (.cells cs t fz)) (o : Nat) (u : Value) : (w.setCell ⟨b, o, none⟩ u).heap[b]? = some (.cells (cs.setIfInBounds o u) t fz) := by
  have hlt := lt_of_block h
  have h' : w.heap[b] = .cells cs t fz := by simpa [Array.getElem?_eq_getElem hlt] using h
  show (w.heap.modify b _)[b]? = _
  rw [Array.getElem?_eq_getElem (by simpa using hlt), Array.getElem_modify_self, h']
  rfl
theorem setCells_blockF {b : Nat} {t : TypeId} {fz : Nat × Nat} : ∀ (vs : List Value) (o : Nat) (cur : List Value) (w : World), w.heap[b]? = some (.cells cur.toArray t fz) → o + vs.length ≤ cur.length →
    (w.setCells b o vs).heap[b]? = some (.cells (cur.take o ++ (vs ++ cur.drop (o + vs.length))).toArray t fz) := by
  intro vs
  induction vs with
  | nil => intro o cur w h _; simpa [World.setCells] using h
  | cons v r ih =>
    intro o cur w h hl
    simp only [List.length_cons] at hl
    have h1 := block_setCellF h o v
    rw [show cur.toArray.setIfInBounds o v = (cur.set o v).toArray by simp] at h1
    have h2 := ih (o + 1) (cur.set o v) _ h1 (by simp; omega)
    rw [World.setCells, h2]
    congr 3
    have := list_seg_step cur o v r (by omega)
    simpa [List.append_assoc] using this
theorem setCells_grown {b : Nat} : ∀ (vs : List Value) (o : Nat) (w : World), w.grownBy (w.setCells b o vs) (some b)
  | [], _, w => ⟨rfl, rfl, rfl, Nat.le_refl _, fun _ _ _ => rfl⟩
  | v :: r, o, w => by
    have h := setCells_grown (b := b) r (o + 1) (w.setCell ⟨b, o, none⟩ v)
    exact ⟨h.os, h.tape, h.output, Nat.le_trans (by simp [World.setCell]) h.size, fun k hk hne => (h.block k (by simpa [World.setCell] using hk) hne).trans (Below.heap_setCell _ _ _ _ (fun e => hne (by rw [e])))⟩

/-- The bytes l are owned: in a row above B of the call's own. -/
def Own (w : World) (B : Nat) (v : Value) (l : List UInt8) : Prop :=
  (v = .slice none 0 0 ∧ l = []) ∨
  ∃ g cap cur fz, v = .slice (some ⟨g, 0, none⟩) l.length cap ∧ B ≤ g ∧ w.heap[g]? = some (.cells cur 5 fz) ∧ (fz = (0, 0) ∨ cur.size ≤ fz.1) ∧ l.length ≤ cap ∧ cap ≤ maxLen ∧ cur.size = cap ∧ cur.toList.take l.length = bv l

theorem Own.nil (w : World) (B : Nat) : Own w B (.slice none 0 0) [] := Or.inl ⟨rfl, rfl⟩
theorem Own.of {w : World} {B n : Nat} {v : Value} {l : List UInt8} (h : w.ownsRow B 5 1 v n (bv l)) : Own w B v l := by
  have hl := h.1
  simp at hl
  rcases h.2 with ⟨e, h0⟩ | ⟨g, cap, cur, e, h1, h2, h3, h4, h5, h6⟩
  · exact Or.inl ⟨e, List.eq_nil_of_length_eq_zero (by omega)⟩
  · exact Or.inr ⟨g, cap, cur, (0, 0), by rw [e, hl], h1, h2, Or.inl rfl, by omega, h4, by simpa using h5, by rw [hl]; simpa using h6⟩
theorem Own.fr {w w2 : World} {B : Nat} {v : Value} {l : List UInt8} {S : Nat → Prop} (h : Own w B v l) (hF : Fr S w w2) (hs : ∀ k, v.ownBlock = some k → ¬ S k) : Own w2 B v l := by
  rcases h with h | ⟨g, cap, cur, fz, e, h1, h2, h3⟩
  · exact Or.inl h
  · exact Or.inr ⟨g, cap, cur, fz, e, h1, (hF.block g (lt_of_block h2) (hs g (by rw [e]; rfl))).trans h2, h3⟩
theorem Own.up {w : World} {B B2 : Nat} {v : Value} {l : List UInt8} (h : Own w B v l) (hB : B2 ≤ B) : Own w B2 v l := by
  rcases h with h | ⟨g, cap, cur, fz, e, h1, h2⟩
  · exact Or.inl h
  · exact Or.inr ⟨g, cap, cur, fz, e, by omega, h2⟩
theorem Own.lt {w : World} {B : Nat} {v : Value} {l : List UInt8} (h : Own w B v l) : ∀ k, v.ownBlock = some k → B ≤ k ∧ k < w.heap.size := by
  intro k hk
  rcases h with ⟨rfl, _⟩ | ⟨g, cap, cur, fz, rfl, h1, h2, _⟩
  · cases hk
  · cases hk; exact ⟨h1, lt_of_block h2⟩
theorem Own.slice {w : World} {B : Nat} {v : Value} {l : List UInt8} (h : Own w B v l) : ∃ a c, v = .slice a l.length c := by
  rcases h with ⟨rfl, rfl⟩ | ⟨g, cap, cur, fz, rfl, _⟩
  · exact ⟨_, _, rfl⟩
  · exact ⟨_, _, rfl⟩
theorem Own.lies {w : World} {B n : Nat} {a : Option Addr} {c : Nat} {l : List UInt8} (h : Own w B (.slice a n c) l) : n = l.length ∧ n ≤ c ∧ c ≤ maxLen ∧ Lies w a l := by
  rcases h with ⟨e, rfl⟩ | ⟨g, cap, cur, fz, e, h1, h2, h3, h4, h5, h6, h7⟩
  · cases e; exact ⟨rfl, Nat.le_refl _, Nat.zero_le _, Or.inl rfl⟩
  · cases e
    refine ⟨rfl, h4, h5, Or.inr ⟨g, 0, rfl, fun j hj => ?_⟩⟩
    rw [Nat.zero_add, cell_of_block h2]
    have := bv_get' l j hj
    rw [← h7, List.getElem?_take, if_pos hj, Array.getElem?_toList] at this
    exact this
theorem Own.nilAddr {w : World} {B n c : Nat} {l : List UInt8} (h : Own w B (.slice none n c) l) : n = 0 ∧ c = 0 := by
  rcases h with ⟨e, rfl⟩ | ⟨g, cap, cur, fz, e, _⟩
  · cases e; exact ⟨rfl, rfl⟩
  · cases e

section
variable (w : World)
/-- An append onto owned bytes. -/
theorem run_own (B : Nat) (ty tx : TypeId) (v : Value) (l m : List UInt8) (hown : Own w B v l) (x : Value) (hsrc : Src Tryd.prog 1 tx x m.length (bv m) w)
    (hbytes : l.length + m.length ≤ 140737488355328) (hbase : B ≤ w.heap.size) :
    ∃ v2 w2, (Builtin.append_ #[23, tx] ty #[v, x]).run Tryd.prog w = .ok v2 w2 ∧ Own w2 B v2 (l ++ m) ∧ w.grownBy w2 v.ownBlock ∧ (v2.ownBlock = v.ownBlock ∨ v2.ownBlock = some w.heap.size) := by
  obtain ⟨i, hi, hz, hs, hby⟩ : ∃ i, Tryd.prog.info? 5 = some i ∧ i.zero = some (.int .u8 0) ∧ i.size = 1 ∧ i.bytes = 1 := by
    have h := Tryd.infoB
    cases hi : Tryd.prog.info? 5 with
    | none => rw [hi] at h; cases h
    | some i =>
      rw [hi] at h
      simp only [Option.map_some, Option.some.injEq, Prod.mk.injEq] at h
      exact ⟨i, rfl, h.1, h.2.1, h.2.2⟩
  have hmx : l.length + m.length ≤ maxLen := by unfold maxLen; omega
  rcases hown with ⟨rfl, rfl⟩ | ⟨g, cap, cur, fz, rfl, hbg, hg, hfz, hnc, hcm, hcs, htake⟩
  · obtain ⟨v2, w2, h1, h2, h3, h4⟩ := run_app (P := Tryd.prog) w B 23 tx ty 5 i (.int .u8 0) 1 1 Tryd.underlying23 hi hz hs hby rfl (by decide) _ 0 [] (World.ownsRow_nil _ _ _ _) x m.length (bv m) hsrc (by simpa using hmx) (by simp at hbytes ⊢; omega) hbase
    exact ⟨v2, w2, h1, Own.of (n := 0 + m.length) (by simpa using h2), h3, h4⟩
  · by_cases hroom : l.length + m.length ≤ cap
    · have hf := hsrc.cells
      have hcur : w.heap[g]? = some (.cells cur.toList.toArray 5 fz) := by simpa using hg
      have hst := run_storeCells_cells (P := Tryd.prog) g l.length (bv m) 0 w (fun j hj => by
          rw [bv_length] at hj
          rw [Nat.add_zero, cell_of_block hg, Array.getElem?_eq_getElem (by omega)]; rfl) (fun j hj => by
          rw [bv_length] at hj
          rw [Nat.add_zero]
          rcases hfz with e | e
          · subst e; simp [World.frozen?, hg]
          · simp [World.frozen?, hg]; omega) (bv_one m)
      simp only [Nat.add_zero] at hst
      have hr : (Builtin.append_ #[23, tx] ty #[.slice (some ⟨g, 0, none⟩) l.length cap, x]).run Tryd.prog w = .ok (.slice (some ⟨g, 0, none⟩) (l.length + m.length) cap) (w.setCells g l.length (bv m)) := by
        rcases hsrc.kind with ⟨e2, hk⟩ | hk <;>
          simp [Builtin.append_, run_underlying Tryd.underlying23, run_underlying hk, sizeOf, typeInfo, hi, hs, hsrc.len, hroom, hf, Addr.add_lit, hst]
      have hb := setCells_blockF (bv m) l.length cur.toList w hcur (by simp; omega)
      refine ⟨_, _, hr, Or.inr ⟨g, cap, _, fz, by rw [List.length_append], hbg, hb, ?_, by rw [List.length_append]; omega, hcm, ?_, ?_⟩, setCells_grown _ _ _, .inl rfl⟩
      · rcases hfz with e | e
        · exact Or.inl e
        · refine Or.inr (Nat.le_trans (Nat.le_of_eq ?_) e)
          simp; omega
      · simp; omega
      · rw [htake, bv_append, ← List.append_assoc, List.toList_toArray]
        exact List.take_left' (by simp)
    · have holds : ∀ j u, (bv l)[j]? = some u → w.drew.cell? ((⟨g, 0, none⟩ : Addr).add j) = some u := fun j u h => by
        rw [addr_add, Nat.zero_add]
        show w.cell? _ = _
        rw [cell_of_block hg, ← Array.getElem?_toList]
        rw [← htake, List.getElem?_take] at h
        split at h
        · exact h
        · cases h
      have hr := run_append_grow_src (P := Tryd.prog) w 23 tx ty 5 i (.int .u8 0) Tryd.underlying23 hi hz (some ⟨g, 0, none⟩) l.length cap (bv l) (run_firstCells_some w.drew i.size l.length ⟨g, 0, none⟩ l.length cap (bv l) (by rw [hs]; simp) holds) x m.length (bv m) (by rw [hs]; exact hsrc) (by omega) (by unfold maxLen at hmx; omega) (growslice_fits (by unfold maxLen at hmx; omega) (by rw [hby]; omega))
      have hge := grownCap_ge w (l.length + m.length) cap 5
      have hcm2 := grownCap_le_maxLen w (l.length + m.length) cap 5 hmx
      refine ⟨_, _, hr, Or.inr ⟨w.heap.size, _, _, (0, 0), by rw [List.length_append], hbase, heap_alloc_new w.drew _, Or.inl rfl, by rw [List.length_append]; exact hge, hcm2, ?_, ?_⟩, ⟨rfl, rfl, rfl, by simp, fun k hk _ => Below.heap_alloc w.drew _ k hk⟩, .inr rfl⟩
      · simp only [Array.size_append, List.size_toArray, size_zeroCells, List.length_append, bv_length]
        simp [Value.cells]
        omega
      · rw [Array.toList_append, bv_append]
        exact List.take_left' (by simp)
theorem wpList_own {ops : Array Oper} {rest : List Oper} {o : Oper} {a : Act} {Q : Exit → Act → World → Prop} (hgd : o.guard = none) (s x : Operand) (tx : TypeId)
    (ho : o.op = .call { callee := .builtin .append, args := #[s, x], argTypes := #[23, tx] }) (B : Nat) (v : Value) (l m : List UInt8) (hs : a.eval s = v) (hown : Own w B v l)
    (xv : Value) (hx : a.eval x = xv) (hsrc : Src Tryd.prog 1 tx xv m.length (bv m) w) (hbytes : l.length + m.length ≤ 140737488355328) (hbase : B ≤ w.heap.size)
    (h : ∀ v2 w2, Own w2 B v2 (l ++ m) → w.grownBy w2 v.ownBlock → (v2.ownBlock = v.ownBlock ∨ v2.ownBlock = some w.heap.size) → wpList Tryd.prog ops Q rest (a.put o.dst v2) w2) : wpList Tryd.prog ops Q (o :: rest) a w := by
  refine wpList_plain hgd fun _ hK => ?_
  obtain ⟨v2, w2, hr, h2, h3, h4⟩ := run_own w B o.type tx v l m hown xv hsrc hbytes hbase
  unfold Oper.wp execOp
  simp only [ho, resolve, invoke, builtin, Sem.run_bind, Sem.run_pure, Result.andThen_ok, List.map_toArray, List.map_cons, List.map_nil, hs, hx, hr]
  exact hK _ _ (h v2 w2 h2 h3 h4)
theorem wp_own {o : Oper} {a : Act} {K : Act → World → Prop} {Q : Exit → Act → World → Prop} (s x : Operand) (tx : TypeId)
    (ho : o.op = .call { callee := .builtin .append, args := #[s, x], argTypes := #[23, tx] }) (B : Nat) (v : Value) (l m : List UInt8) (hs : a.eval s = v) (hown : Own w B v l)
    (xv : Value) (hx : a.eval x = xv) (hsrc : Src Tryd.prog 1 tx xv m.length (bv m) w) (hbytes : l.length + m.length ≤ 140737488355328) (hbase : B ≤ w.heap.size)
    (h : ∀ v2 w2, Own w2 B v2 (l ++ m) → w.grownBy w2 v.ownBlock → (v2.ownBlock = v.ownBlock ∨ v2.ownBlock = some w.heap.size) → K (a.put o.dst v2) w2) : o.wp Tryd.prog a w K Q := by
  obtain ⟨v2, w2, hr, h2, h3, h4⟩ := run_own w B o.type tx v l m hown xv hsrc hbytes hbase
  unfold Oper.wp execOp
  simp only [ho, resolve, invoke, builtin, Sem.run_bind, Sem.run_pure, Result.andThen_ok, List.map_toArray, List.map_cons, List.map_nil, hs, hx, hr]
  exact h v2 w2 h2 h3 h4
/-- The bytes of a string, in a row of the call's own. -/
theorem own_str (s : ByteArray) (B : Nat) (hB : B ≤ w.heap.size) (hs : s.size ≤ 140737488355328) : Own (Lib.bytesWorld w 5 s) B (.slice (some ⟨w.heap.size, 0, none⟩) s.size (grownCap w s.size 0 5)) (sb s) := by
  have hge := grownCap_ge w s.size 0 5
  have hmx : s.size ≤ maxLen := by unfold maxLen; omega
  have hcm := grownCap_le_maxLen w s.size 0 5 hmx
  have hsz : s.data.size = s.size := rfl
  refine Or.inr ⟨w.heap.size, _, _, _, by rw [sb_length], hB, Lib.bytesWorld_at_new w 5 s, Or.inr (Nat.le_refl _), by rw [sb_length]; exact hge, hcm, ?_, ?_⟩
  · simp only [Lib.bytesCells, Array.size_append, Array.size_map, Array.size_replicate, hsz]; omega
  · simp only [Lib.bytesCells, Array.toList_append, Array.toList_map]
    rw [List.take_left' (by simp [sb])]
    rfl
theorem src_b1 {w : World} {k : Nat} (b : UInt8) {v : Value} {t : TypeId} {fr : Nat × Nat} (h : w.heap[k]? = some (.cells #[v] t fr)) (hv : v = .int .u8 (b.toNat : Int)) : Src Tryd.prog 1 23 (.slice (some ⟨k, 0, none⟩) 1 1) [b].length (bv [b]) w := by
  subst hv
  exact src_block h (by simp [Value.oneCell']) 1
theorem own_str_fr (s : ByteArray) : Fr (fun _ => False) w (Lib.bytesWorld w 5 s) := ⟨rfl, rfl, rfl, by rw [Lib.bytesWorld_size]; omega, fun k hk _ => Lib.bytesWorld_at_old w 5 s k hk⟩
end
end Go.Proofs.YtbpblheaiancaaaDoor
namespace Go.Proofs.YtbpblheaiancaaaDoor
open Go.RowKit
set_option linter.unusedVariables false

set_option maxRecDepth 100000 in
theorem bits_i64_nat (a b : Nat) (ha : a < 4611686018427387904) (hb : b < 4611686018427387904) : bits .or .i64 (a : Int) (b : Int) = ((a ||| b : Nat) : Int) ∧ bits .and .i64 (a : Int) (b : Int) = ((a &&& b : Nat) : Int) ∧ bits .xor .i64 (a : Int) (b : Int) = ((a ^^^ b : Nat) : Int) := by
  have x1 : a ||| b < 2 ^ 62 := Nat.or_lt_two_pow (by omega) (by omega)
  have x2 : a &&& b < 2 ^ 62 := Nat.and_lt_two_pow a (by omega)
  have x3 : a ^^^ b < 2 ^ 62 := Nat.xor_lt_two_pow (by omega) (by omega)
  have h1 : (BitVec.ofInt 64 (a : Int)).toNat = a := by
    rw [BitVec.ofInt_natCast, BitVec.toNat_ofNat]; exact Nat.mod_eq_of_lt (by omega)
  have h2 : (BitVec.ofInt 64 (b : Int)).toNat = b := by
    rw [BitVec.ofInt_natCast, BitVec.toNat_ofNat]; exact Nat.mod_eq_of_lt (by omega)
  refine ⟨?_, ?_, ?_⟩
  · show IntKind.i64.wrap ((BitVec.ofInt 64 (a : Int) ||| BitVec.ofInt 64 (b : Int)).toNat : Int) = _
    rw [BitVec.toNat_or, h1, h2, IntKind.wrap_i64]; omega
  · show IntKind.i64.wrap ((BitVec.ofInt 64 (a : Int) &&& BitVec.ofInt 64 (b : Int)).toNat : Int) = _
    rw [BitVec.toNat_and, h1, h2, IntKind.wrap_i64]; omega
  · show IntKind.i64.wrap ((BitVec.ofInt 64 (a : Int) ^^^ BitVec.ofInt 64 (b : Int)).toNat : Int) = _
    rw [BitVec.toNat_xor, h1, h2, IntKind.wrap_i64]; omega

set_option maxRecDepth 100000 in
theorem mask_nat (x : Nat) (hx : x < 4611686018427387904) : bits .and .i64 (x : Int) 4294967295 = ((x % 4294967296 : Nat) : Int) := by
  rw [show (4294967295 : Int) = ((4294967295 : Nat) : Int) from rfl, (bits_i64_nat x 4294967295 hx (by decide)).2.1, show (4294967295 : Nat) = 2 ^ 32 - 1 from rfl, Nat.and_two_pow_sub_one_eq_mod]
theorem turn_eq (x n : Nat) (hx : x < 4294967296) (h2 : 2 ≤ n) (h3 : n ≤ 31) : bits .and .i64 (bits .or .i64 ((x : Int) / 2 ^ n) (wrap64 ((x : Int) * 2 ^ (32 - n)))) 4294967295 = ((S2.rotr x n : Nat) : Int) := by
  have hp : 2 ^ (32 - n) ≤ 2 ^ 30 := Nat.pow_le_pow_right (by decide) (by omega)
  have hm : x * 2 ^ (32 - n) < 4611686018427387904 := Nat.lt_of_lt_of_le (Nat.mul_lt_mul_of_lt_of_le hx hp (by decide)) (by decide)
  have e1 : wrap64 ((x : Int) * 2 ^ (32 - n)) = ((x * 2 ^ (32 - n) : Nat) : Int) := by
    have : ((x : Int) * 2 ^ (32 - n)) = ((x * 2 ^ (32 - n) : Nat) : Int) := by simp
    rw [this]
    generalize x * 2 ^ (32 - n) = y at hm ⊢
    unfold wrap64; omega
  have e2 : (x : Int) / 2 ^ n = ((x / 2 ^ n : Nat) : Int) := by simp
  have hd : x / 2 ^ n < 4294967296 := Nat.lt_of_le_of_lt (Nat.div_le_self _ _) hx
  rw [e1, e2, (bits_i64_nat _ _ (by omega) hm).1, mask_nat _ (Nat.or_lt_two_pow (n := 62) (by omega) (by omega))]
  unfold S2.rotr
  rw [Nat.shiftRight_eq_div_pow, Nat.shiftLeft_eq, show (4294967296 : Nat) = 2 ^ 32 from rfl, Nat.or_mod_two_pow, Nat.mod_eq_of_lt (a := x / 2 ^ n) (by simpa using hd)]

set_option maxRecDepth 100000 in
theorem ret_i64 {a b : Int} (h : a = b) : Ending.returned (.int .i64 a) = .returned (.int .i64 b) := by rw [h]
set_option maxRecDepth 100000 in
set_option maxHeartbeats 400000 in
theorem turn_any (x n : Nat) (hx : x < 4294967296) (h2 : 2 ≤ n) (h3 : n ≤ 31) (w : World) :
    Calls Tryd.prog 51 #[.int .i64 x, .int .i64 n] w fun e w' => e = .returned (.int .i64 (S2.rotr x n)) ∧ ∃ nn, w' = w.drewN nn := by
  go_enter Tryd.func51, Tryd.ntmps51
  go_wp2_with fail
  go_quiet (fail)
  go_wp2
  go_ret
  exact ⟨ret_i64 (turn_eq x n hx h2 h3), _, rfl⟩
end Go.Proofs.YtbpblheaiancaaaDoor

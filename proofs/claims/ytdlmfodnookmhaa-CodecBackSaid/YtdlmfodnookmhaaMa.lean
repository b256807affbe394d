/-
  Parts: their cells, their bytes; the document's One, Eight, Text.
-/
import Derived.Test.YtdlmfodnookmhaaCg
import Derived.Test.YtdlmfodnookmhaaCl
import Derived.Test.YtdlmfodnookmhaaKs
import Derived.Test.YtdlmfodnookmhaaKo
namespace Go.Proofs.Ytdlmfodnookmhaa
open Go.RowKit
set_option linter.unusedVariables false
set_option linter.unusedSimpArgs false

/-- The first n values of f as bytes. -/
def ub (n : Nat) (f : Nat → UInt8) : Array Value := ((List.range n).map fun j => Value.int .u8 ((f j).toNat : Int)).toArray
theorem ub_size (n : Nat) (f : Nat → UInt8) : (ub n f).size = n := by simp [ub]
theorem ub_get (n : Nat) (f : Nat → UInt8) (j : Nat) (hj : j < n) : (ub n f)[j]? = some (.int .u8 ((f j).toNat : Int)) := by simp [ub, hj]
theorem ub_one (n : Nat) (f : Nat → UInt8) : (ub n f).all (·.oneCell') = true := by simp [ub, Value.oneCell']
theorem ub_ext {cs : Array Value} {n : Nat} {f : Nat → UInt8} (h : cs.size = n) (h2 : ∀ j, j < n → cs[j]? = some (.int .u8 ((f j).toNat : Int))) : cs = ub n f := by
  apply Array.ext
  · rw [h, ub_size]
  · intro i h3 h4
    have a := h2 i (by omega)
    have b := ub_get n f i (by omega)
    rw [Array.getElem?_eq_getElem h3] at a
    rw [Array.getElem?_eq_getElem h4] at b
    exact (Option.some.inj a).trans (Option.some.inj b).symm
theorem ub_set (n : Nat) (f : Nat → UInt8) (i : Nat) (b : UInt8) (hi : i < n) : (ub n f).setIfInBounds i (.int .u8 (b.toNat : Int)) = ub n (fun j => if j = i then b else f j) := by
  refine ub_ext (by simp [ub_size]) (fun j hj => ?_)
  rw [Array.getElem?_setIfInBounds]
  by_cases h : i = j
  · subst h; simp [ub_size, hj]
  · rw [if_neg h, ub_get n f j hj, if_neg (fun e => h e.symm)]
theorem ub_congr {n : Nat} {f g : Nat → UInt8} (h : ∀ j, j < n → f j = g j) : ub n f = ub n g := ub_ext (ub_size n f) (fun j hj => by rw [ub_get n f j hj, h j hj])


/-- A number in eight bytes, the highest first. -/
def b8 (u j : Nat) : UInt8 := UInt8.ofNat (u / 2 ^ (56 - 8 * j))
def be8 (n : Nat) : List UInt8 := (List.range 8).map (b8 n)
theorem be8_take (n j : Nat) (hj : j < 8) : (be8 n).take (j + 1) = (be8 n).take j ++ [b8 n j] := by
  rw [List.take_succ_eq_append_getElem (by simp [be8]; omega)]
  simp [be8]
theorem b8_val (u j : Nat) : (u : Int) / 2 ^ (56 - 8 * j) % 256 = ((b8 u j).toNat : Int) := by
  unfold b8
  rw [UInt8.toNat_ofNat']
  simp
set_option maxRecDepth 100000 in
theorem str_one (W : World) (y : UInt8) (b : Nat) (c : Nat) {t : TypeId} {fr : Nat × Nat} (h : W.heap[b]? = some (.cells #[.int .u8 (y.toNat : Int)] t fr)) : (convert 26 9 (.slice (some ⟨b, 0, none⟩) 1 c)).run Try.prog W = .ok (.string ⟨#[y]⟩) W := by
  have hL : Lies W (some ⟨b, 0, none⟩) [y] := Or.inr ⟨b, 0, rfl, fun j hj => by
    match j, hj with
    | 0, _ => rw [cell_of_block h]; rfl⟩
  exact run_str hL c 9 Try.underlying9
set_option maxRecDepth 100000 in
theorem one_any (z : Int) (y : UInt8) (hy : IntKind.u8.wrap z = (y.toNat : Int)) (w : World) :
    Calls Try.prog 22 #[.int .i64 z] w fun e w' => e = .returned (.string ⟨#[y]⟩) ∧ Fr (fun _ => False) w w' := by
  have k1 : ∀ W : World, (convert 26 9 (.slice (some ⟨W.heap.size, 0, none⟩) 1 1)).run Try.prog (W.alloc (.cells #[.int .u8 (y.toNat : Int)] 5)) = .ok (.string ⟨#[y]⟩) (W.alloc (.cells #[.int .u8 (y.toNat : Int)] 5)) := fun W => str_one _ y _ 1 (heap_alloc_new W _)
  go_enter Try.func22, Try.ntmps22
  go_wp2_with fail
  go_ret
  exact ⟨rfl, (Fr.refl _ w).alloc _⟩
set_option maxRecDepth 100000 in
set_option maxHeartbeats 800000 in
theorem eight_any (z : Int) (u : Nat) (hu : IntKind.u64.wrap z = (u : Int)) (w : World) :
    Calls Try.prog 23 #[.int .i64 z] w fun e w' => e = .returned (.string ⟨(be8 u).toArray⟩) ∧ Fr (fun _ => False) w w' := by
  go_enter Try.func23, Try.ntmps23
  go_wp2_with fail
  go_loopw [3, 4] (fun v i wx => ∃ j : Nat, j ≤ 8 ∧ i = .int .i64 (56 - 8 * (j : Int)) ∧ v = .string ⟨((be8 u).take j).toArray⟩ ∧ Fr (fun _ => False) w wx) (fun _ i _ => (intOf i + 8).toNat)
  case atStart => exact ⟨0, by omega, by simp, rfl, Fr.refl _ _⟩
  case round =>
    obtain ⟨j, hj, rfl, rfl, hF⟩ := hrel
    by_cases hlt : j < 8
    · have q1 : (0 : Int) ≤ 56 - 8 * (j : Int) := by omega
      have hbt := be8_take u j hlt
      have hv := b8_val u j
      have hl : ((be8 u).take j).length = j := by rw [List.length_take]; simp [be8]; omega
      generalize b8 u j = y at hbt hv
      generalize (be8 u).take j = x0 at *
      have c1 : ∀ W : World, (Op.stringOp .add ⟨x0.toArray⟩ ⟨#[y]⟩).run Try.prog W = .ok (.string ⟨(x0 ++ [y]).toArray⟩) W := fun W => run_string_add_lists W x0 [y] (by omega) (by simp)
      have k1 : ∀ W : World, (convert 26 9 (.slice (some ⟨W.heap.size, 0, none⟩) 1 1)).run Try.prog (W.alloc (.cells #[.int .u8 (y.toNat : Int)] 5)) = .ok (.string ⟨#[y]⟩) (W.alloc (.cells #[.int .u8 (y.toNat : Int)] 5)) := fun W => str_one _ y _ 1 (heap_alloc_new W _)
      have HB := Lib.hid hbt
      clear hbt
      go_wp2_with fail
      exact ⟨⟨j + 1, by omega, by congr 1; omega, by rw [HB.out], hF.alloc _⟩, by simp [intOf]; omega⟩
    · obtain rfl : j = 8 := by omega
      have e8 : (be8 u).take 8 = be8 u := rfl
      rw [e8]
      go_wp2_with fail
      go_ret
      exact ⟨rfl, hF⟩
/-- A text's bytes, its count ahead. -/
def txt (l : List UInt8) : List UInt8 := [b8 l.length 6, b8 l.length 7] ++ l
theorem txt_length (l : List UInt8) : (txt l).length = l.length + 2 := by simp [txt]
set_option maxRecDepth 100000 in
set_option maxHeartbeats 800000 in
theorem rtext4_any (s : List UInt8) (hs : s.length ≤ 60000) (w : World) :
    Calls Try.prog 24 #[.string ⟨s.toArray⟩] w fun e w' => e = .returned (.string ⟨(txt s).toArray⟩) ∧ Fr (fun _ => False) w w' := by
  have hsz : (⟨s.toArray⟩ : ByteArray).size = s.length := by show s.toArray.size = _; simp
  obtain ⟨n, hn⟩ : ∃ n, n = s.length := ⟨_, rfl⟩
  have v6 : IntKind.u8.wrap ((n : Int) / 256) = ((b8 n 6).toNat : Int) := by rw [IntKind.wrap_u8]; exact b8_val n 6
  have v7 : IntKind.u8.wrap (n : Int) = ((b8 n 7).toNat : Int) := by
    rw [IntKind.wrap_u8]
    have := b8_val n 7
    simpa using this
  have c1 : ∀ W : World, (Op.stringOp .add ⟨#[b8 n 6]⟩ ⟨#[b8 n 7]⟩).run Try.prog W = .ok (.string ⟨([b8 n 6, b8 n 7] : List UInt8).toArray⟩) W := fun W => run_string_add_lists W [b8 n 6] [b8 n 7] (by simp) (by simp)
  have c2 : ∀ W : World, (Op.stringOp .add ⟨([b8 n 6, b8 n 7] : List UInt8).toArray⟩ ⟨s.toArray⟩).run Try.prog W = .ok (.string ⟨(txt s).toArray⟩) W := fun W => by
    have := run_string_add_lists (P := Try.prog) W [b8 n 6, b8 n 7] s (by simp) (by omega)
    rw [hn] at this ⊢
    exact this
  rw [← hn] at hsz
  have hn2 : n ≤ 60000 := by omega
  generalize txt s = t at *
  clear hn hs
  go_enter Try.func24, Try.ntmps24
  go_wp2_with fail
  refine (one_any _ (b8 n 6) ?h6 _).mono ?_
  case h6 => exact v6
  rintro e w1 ⟨rfl, F1⟩
  go_wp2_with fail
  refine (one_any _ (b8 n 7) ?h7 _).mono ?_
  case h7 => exact v7
  rintro e w2 ⟨rfl, F2⟩
  go_wp2_with fail
  go_ret
  exact ⟨rfl, F1.trans F2 (fun _ h => h.elim)⟩

/-- A part's cells. -/
def pt (k z : Int) (f : Nat → UInt8) (t : List UInt8) : Array Value := #[.int .i64 k, .int .i64 z] ++ (ub 32 f ++ #[.string ⟨t.toArray⟩])
theorem pt_size (k z : Int) (f : Nat → UInt8) (t : List UInt8) : (pt k z f t).size = 35 := by simp [pt, ub_size]
theorem pt_one (k z : Int) (f : Nat → UInt8) (t : List UInt8) : (pt k z f t).all (·.oneCell') = true := by
  unfold pt
  rw [Array.all_append, Array.all_append, ub_one]
  simp [Value.oneCell']
theorem pt_sz (k z : Int) (f : Nat → UInt8) (t : List UInt8) : Sz 35 (pt k z f t) := ⟨pt_size k z f t, pt_one k z f t⟩
theorem pt_0 (k z : Int) (f : Nat → UInt8) (t : List UInt8) : (pt k z f t)[0]? = some (.int .i64 k) := by
  unfold pt; rw [Array.getElem?_append_left (by simp)]; rfl
theorem pt_1 (k z : Int) (f : Nat → UInt8) (t : List UInt8) : (pt k z f t)[1]? = some (.int .i64 z) := by
  unfold pt; rw [Array.getElem?_append_left (by simp)]; rfl
theorem pt_34 (k z : Int) (f : Nat → UInt8) (t : List UInt8) : (pt k z f t)[34]? = some (.string ⟨t.toArray⟩) := by
  unfold pt
  rw [Array.getElem?_append_right (by simp)]
  show (ub 32 f ++ #[.string ⟨t.toArray⟩])[32]? = _
  rw [Array.getElem?_append_right (by rw [ub_size]; omega), ub_size]; rfl
theorem pt_sum (k z : Int) (f : Nat → UInt8) (t : List UInt8) : Part (pt k z f t) 2 (ub 32 f) :=
  Part.right _ _ 0 2 _ rfl (Part.left _ _)
theorem pt_byte (k z : Int) (f : Nat → UInt8) (t : List UInt8) (j : Nat) (h : j < 32) : (pt k z f t)[2 + j]? = some (.int .u8 ((f j).toNat : Int)) := pt_sum k z f t j _ (ub_get 32 f j h)
theorem pt_set0 (k k' z : Int) (f : Nat → UInt8) (t : List UInt8) : (pt k z f t).setIfInBounds 0 (.int .i64 k') = pt k' z f t := by
  apply Array.toList_inj.1
  simp [pt]
theorem pt_set34 (k z : Int) (f : Nat → UInt8) (t t' : List UInt8) : (pt k z f t).setIfInBounds 34 (.string ⟨t'.toArray⟩) = pt k z f t' := by
  have hu : (ub 32 f).toList.length = 32 := by rw [Array.length_toList, ub_size]
  apply Array.toList_inj.1
  rw [Array.toList_setIfInBounds]
  unfold pt
  rw [Array.toList_append, Array.toList_append, Array.toList_append, Array.toList_append]
  generalize (ub 32 f).toList = L at *
  show (Value.int .i64 k :: Value.int .i64 z :: (L ++ [Value.string ⟨t.toArray⟩])).set 34 (.string ⟨t'.toArray⟩) = Value.int .i64 k :: Value.int .i64 z :: (L ++ [Value.string ⟨t'.toArray⟩])
  rw [List.set_cons_succ, List.set_cons_succ, List.set_append_right _ _ (by omega), hu]
  rfl
/-- The lowest bit of a number. -/
def low (z : Int) : Nat := (bits .and .i64 z 1).toNat
theorem low_eq (z : Int) : bits .and .i64 z 1 = (low z : Int) ∧ low z < 2 := by
  have h : ∃ r : Nat, bits .and .i64 z 1 = (r : Int) ∧ r < 2 := by
    refine ⟨(BitVec.ofInt 64 z &&& BitVec.ofInt 64 1).toNat, ?_, ?_⟩
    · show IntKind.i64.wrap ((BitVec.ofInt 64 z &&& BitVec.ofInt 64 1).toNat : Int) = _
      have : (BitVec.ofInt 64 z &&& BitVec.ofInt 64 1).toNat < 2 := by
        rw [BitVec.toNat_and, show (BitVec.ofInt 64 1).toNat = 1 by decide, Nat.and_one_is_mod]; omega
      rw [IntKind.wrap_i64]; omega
    · rw [BitVec.toNat_and, show (BitVec.ofInt 64 1).toNat = 1 by decide, Nat.and_one_is_mod]; omega
  obtain ⟨r, h1, h2⟩ := h
  unfold low
  rw [h1]
  exact ⟨by simp, by simpa using h2⟩
/-- A part's bytes; none: it is none. -/
def enc (q : Nat) (z : Int) (f : Nat → UInt8) (t : List UInt8) : Option (List UInt8) :=
  match q with
  | 0 => if 0 ≤ z ∧ z ≤ 255 then some [UInt8.ofNat z.toNat] else none
  | 1 => some [UInt8.ofNat (low z)]
  | 2 => some (be8 (IntKind.u64.wrap z).toNat)
  | 3 => some ((List.range 32).map f)
  | _ => some (txt t)
def encd (o : Option (List UInt8)) : List UInt8 := o.getD []
theorem wrap_u64_nat (z : Int) : ∃ u : Nat, IntKind.u64.wrap z = (u : Int) := ⟨(IntKind.u64.wrap z).toNat, by rw [IntKind.wrap_u64]; omega⟩
theorem enc_len (q : Nat) (z : Int) (f : Nat → UInt8) (t : List UInt8) : (encd (enc q z f t)).length ≤ 302 ∨ 300 < t.length := by
  unfold enc encd
  split
  · split <;> simp
  · simp
  · simp [be8]
  · simp
  · simp [txt_length]; omega
end Go.Proofs.Ytdlmfodnookmhaa

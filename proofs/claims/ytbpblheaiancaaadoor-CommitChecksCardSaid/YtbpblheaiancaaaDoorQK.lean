/-
  The law's own look at a chain's texts.
  The contracts of codec's Writer, one a method: what is written stands behind what was there, and nothing else turns.
  The contracts of codec's Reader, one a method: what is read stands before what is left, and nothing else turns.
  The contracts of codec's Reader: Text, and Read.
  CodecLong: a text has at most 65535 bytes, and not one more; it is read if it isn't longer than is asked.
  The contract of codec's Reader: Num.
  The top's own look at a known sum; the bytes of a number, written and read.
  The contract of Make of package commit.
-/
import Derived.Test.YtbpblheaiancaaaDoorQJ
import Derived.Test.YtbpblheaiancaaaDoorQA
import Derived.Lib.Hide
import Derived.Lib.SlBytesConst
import Derived.Test.YtbpblheaiancaaaDoorQH
import Derived.Test.YtbpblheaiancaaaDoorQI
import Derived.Test.YtbpblheaiancaaaDoorQC
namespace Go.Proofs.YtbpblheaiancaaaDoor
open Go.RowKit
set_option linter.unusedVariables false

set_option maxRecDepth 100000 in
set_option maxHeartbeats 3200000 in
theorem chains_any (w : World) (hE : Env w) (hR : REnv w) : Calls Tryd.prog 23 #[] w fun e w' => e = .returned (.bool true) ∧ Fr (fun _ => False) w w' := by
  have kc1 := fun (V : World) (C : Array Value) (n c : Nat) => Lib.run_convert_bytes_const (P := Tryd.prog) V 23 5 C n c Tryd.underlying23 Tryd.underlying5
  have kc2 : ∀ (V : World) (C : Array Value) (n c : Nat), (convert 23 23 (.slice (some ⟨V.heap.size, 0, none⟩) n c)).run Tryd.prog (V.alloc (.cells C 5)).drew = .ok (.slice (some ⟨V.heap.size, 0, none⟩) n c) (V.alloc (.cells C 5 (C.size, C.size + 1))).drew := fun V C n c => kc1 V.drew C n c
  go_enter Tryd.func23, Tryd.ntmps23
  go_wp2_with fail
  have F0 := (Fr.refl (fun _ => False) w).alloc (.cells #[.int .u8 97, .int .u8 98] 5 (2, 3))
  have C0 : Came (w.alloc (.cells #[.int .u8 97, .int .u8 98] 5 (2, 3))) (some ⟨w.heap.size, 0, none⟩) 2 2 [97, 98] := came_blk (heap_alloc_new w _) rfl rfl (by omega)
  refine (cfirst_any _ 2 2 [97, 98] _ C0 (by omega) (hE.fr F0 (fun h => h))).mono ?_
  rintro e w1 ⟨rfl, F1⟩
  have G1 : Fr (fun _ => False) w w1 := F0.trans F1 (fun _ h => h.elim)
  have hone : (sumc [4, 97, 98]).all (·.oneCell') = true := sumv_one _
  have hsz : (#[.int .u8 0, .int .u8 0, .int .u8 0, .int .u8 0, .int .u8 0, .int .u8 0, .int .u8 0, .int .u8 0, .int .u8 0, .int .u8 0, .int .u8 0, .int .u8 0, .int .u8 0, .int .u8 0, .int .u8 0, .int .u8 0, .int .u8 0, .int .u8 0, .int .u8 0, .int .u8 0, .int .u8 0, .int .u8 0, .int .u8 0, .int .u8 0, .int .u8 0, .int .u8 0, .int .u8 0, .int .u8 0, .int .u8 0, .int .u8 0, .int .u8 0, .int .u8 0] : Array Value).size = (sumc [4, 97, 98]).size := (sumv_size _).symm
  clear F0 C0 F1
  go_wp2_with (with_reducible refine wpList_store_rowA rfl 22 (.tmp 1) (.tmp 4) rfl w1.heap.size (sumc [4, 97, 98]) rfl rfl 22 _ (heap_alloc_new w1 _) Tryd.sizeC hsz hone ?k2)
  case k2 =>
  intro w2 h2 hG2
  have F12 : Fr (fun _ => False) w1 w2 := ((Fr.refl (fun _ => False) w1).alloc _).trans hG2 (fun i hi => Or.inr (by omega))
  have G2 : Fr (fun _ => False) w w2 := G1.trans F12 (fun _ h => h.elim)
  have L2 := sumc_lies h2
  generalize w1.heap.size = b1 at *
  have HS := Lib.hid (show ∀ W : World, Fr (fun _ => False) w2 W → (convert 23 9 (.slice (some ⟨b1, 0, none⟩) 32 32)).run Tryd.prog W = .ok (.string ⟨(S2.sum [4, 97, 98]).toArray⟩) W from fun W hF => run_str (L2.grow hF) 32 9 Tryd.underlying9)
  have HT := Lib.hid (show ∀ (W : World) (b : Nat), W.heap[b]? = some (.cells #[.int .u8 97, .int .u8 98, .int .u8 99, .int .u8 100, .int .u8 101] 5 (5, 6)) → Fr (fun _ => False) w2 W → Calls Tryd.prog 25 #[.slice (some ⟨b, 0, none⟩) 5 5, .int .i64 1, .agg #[.int .u8 0, .int .u8 0, .int .u8 0, .int .u8 0, .int .u8 0, .int .u8 0, .int .u8 0, .int .u8 0, .int .u8 0, .int .u8 0, .int .u8 0, .int .u8 0, .int .u8 0, .int .u8 0, .int .u8 0, .int .u8 0, .int .u8 0, .int .u8 0, .int .u8 0, .int .u8 0, .int .u8 0, .int .u8 0, .int .u8 0, .int .u8 0, .int .u8 0, .int .u8 0, .int .u8 0, .int .u8 0, .int .u8 0, .int .u8 0, .int .u8 0, .int .u8 0], .agg #[.int .u8 0, .int .u8 0, .int .u8 0, .int .u8 0, .int .u8 0, .int .u8 0, .int .u8 0, .int .u8 0, .int .u8 0, .int .u8 0, .int .u8 0, .int .u8 0, .int .u8 0, .int .u8 0, .int .u8 0, .int .u8 0, .int .u8 0, .int .u8 0, .int .u8 0, .int .u8 0, .int .u8 0, .int .u8 0, .int .u8 0, .int .u8 0, .int .u8 0, .int .u8 0, .int .u8 0, .int .u8 0, .int .u8 0, .int .u8 0, .int .u8 0, .int .u8 0]] W fun e W' => ∃ a c, e = .returned (.slice a 80 c) ∧ Fr (fun _ => False) w2 W' from fun W b hb hF => by
    rw [zero32]
    refine (ctext_any _ 5 5 [97, 98, 99, 100, 101] 1 1 (by rfl) (fun _ => 0) (fun _ => 0) W (came_blk hb rfl rfl (by omega)) (by omega)).mono ?_
    rintro e w' ⟨a, c, rfl, _, F⟩
    refine ⟨a, c, ?_, hF.trans F (fun _ h => h.elim)⟩
    rw [CH.text_length]
    simp)
  have HU := Lib.hid (show ∀ W : World, Fr (fun _ => False) w2 W → Calls Tryd.prog 18 #[.string ⟨#[4, 97, 98]⟩] W fun e W' => e = .returned (.string ⟨(S2.sum [4, 97, 98]).toArray⟩) ∧ Fr (fun _ => False) w2 W' from fun W hF => by
    refine (rsum_any ⟨#[4, 97, 98]⟩ (by decide) W (hR.fr (G2.trans hF (fun _ h => h.elim)) (fun h => h) (fun h => h))).mono ?_
    rintro e w' ⟨rfl, F⟩
    exact ⟨rfl, hF.trans F (fun _ h => h.elim)⟩)
  clear hone hsz hG2 F12 G1 h2 L2
  go_wp2_with fail
  go_region_with ((first
    | (go_at_call 25
       with_reducible refine (HT.out _ _ ?_ ?_).mono ?_
       · (first | exact heap_alloc_new _ _ | exact heap_alloc_o _ _ _ rfl)
       · (repeat (first | (with_reducible exact Fr.refl _ _) | (with_reducible refine Fr.alloc ?_ _) | (with_reducible refine Fr.drew ?_)))
       rintro e w5 ⟨a5, c5, rfl, F5⟩
       have cv5 := HS.out _ F5)
    | (go_at_call 18
       with_reducible refine (HU.out _ F5).mono ?_
       rintro e w6 ⟨rfl, F6⟩
       have cv6 := HS.out _ F6)))
  all_goals
    go_wp2
    go_ret
    exact ⟨rfl, G2.trans F6 (fun _ h => h.elim)⟩
end Go.Proofs.YtbpblheaiancaaaDoor
namespace Go.Proofs.YtbpblheaiancaaaDoor
open Go.RowKit
set_option linter.unusedVariables false

/-- A Writer's block, and the row of its bytes. -/
structure Wr (w : World) (bw B : Nat) (v : Value) (xs : List Value) (er : Int) : Prop where
  blk : w.heap[bw]? = some (.cells #[v, .int .i64 er] 64 (0, 0))
  own : w.ownsRow B 5 1 v xs.length xs
  le : B ≤ w.heap.size

theorem slice_of_own {w : World} {B e size n : Nat} {v : Value} {xs : List Value} (h : w.ownsRow B e size v n xs) : ∃ a c, v = .slice a n c ∧ (a = none → n = 0) := by
  rcases h.2 with ⟨rfl, rfl⟩ | ⟨g, cap, cur, rfl, _⟩
  · exact ⟨none, 0, rfl, fun _ => rfl⟩
  · exact ⟨_, cap, rfl, fun h => by cases h⟩
theorem Wr.ne {w : World} {bw B : Nat} {v : Value} {xs : List Value} {er : Int} (h : Wr w bw B v xs er) : v.ownBlock ≠ some bw := by
  intro e
  rcases h.own.2 with ⟨rfl, _⟩ | ⟨g, cap, cur, rfl, _, hg, _⟩
  · cases e
  · obtain rfl : g = bw := by simpa [Value.ownBlock] using e
    rw [h.blk] at hg; simp at hg

/-- What one more part does. -/
def Added (w w2 : World) (bw B : Nat) (v : Value) (xs news : List Value) (er : Int) : Prop :=
  ∃ v2, Wr w2 bw B v2 (xs ++ news) er ∧ Fr (fun k => k = bw ∨ v.ownBlock = some k) w w2 ∧ (v2.ownBlock = v.ownBlock ∨ ∀ k, v2.ownBlock = some k → w.heap.size ≤ k)

set_option maxHeartbeats 800000 in
theorem add_any (bw B : Nat) (v : Value) (er : Int) (m : Nat) (xs news : List Value) (x : Value) (w : World) (h : Wr w bw B v xs er)
    (hsrc : Src Tryd.prog 1 23 x m news w) (hlen : xs.length + m ≤ 140737488355328) :
    Calls Tryd.prog 55 #[.pointer (some ⟨bw, 0, none⟩), x] w fun e w' => e = .returned (.tuple #[]) ∧ Added w w' bw B v xs news er := by
  obtain ⟨i0, hi, hz0, hz1, hz2⟩ := info_parts Tryd.infoB
  obtain ⟨a0, c0, hv, _⟩ := slice_of_own h.own
  subst hv
  have hc0 := cell_of_block h.blk 0
  have hc1 := cell_of_block h.blk 1
  have hf0 := free_of_block h.blk 0
  simp at hc0 hc1
  go_enter Tryd.func55, Tryd.ntmps55
  go_wp2_with (at_builtin; refine wpList_app _ rfl (.tmp 10) (.tmp 11) 23 23 rfl B 5 i0 (.int .u8 0) 1 1 Tryd.underlying23 hi hz0 hz1 hz2 rfl (by decide) _ xs.length xs rfl h.own x rfl m news hsrc (by unfold maxLen; omega) (by omega) h.le ?k)
  case k =>
  intro v2 w2 hown hgrow hrow
  obtain ⟨a2, c2, rfl, _⟩ := slice_of_own hown
  have hF : Fr (fun k => (Value.slice a0 xs.length c0).ownBlock = some k) w w2 := Fr.ofGrown hgrow
  have hblk : w2.heap[bw]? = some (.cells #[.slice a0 xs.length c0, .int .i64 er] 64 (0, 0)) := (hF.block bw (lt_of_block h.blk) h.ne).trans h.blk
  have hd0 := cell_of_block hblk 0
  have hd1 := cell_of_block hblk 1
  have hdf := free_of_block hblk 0
  simp at hd0 hd1
  have hne2 : (Value.slice a2 (xs.length + m) c2).ownBlock ≠ some bw := by
    rcases hrow with e | e
    · rw [e]; exact h.ne
    · rw [e]; intro e2; have := lt_of_block h.blk; simp at e2; omega
  go_wp2
  go_end0
  refine ⟨rfl, .slice a2 (xs.length + m) c2, ⟨by simpa using block_setCell hblk 0 (.slice a2 (xs.length + m) c2), ?_, ?_⟩, ?_, ?_⟩
  · have := ownsRow_setCell_other hown (a := ⟨bw, 0, none⟩) hne2 (.slice a2 (xs.length + m) c2)
    rw [show (xs ++ news).length = xs.length + m by rw [List.length_append, hsrc.newsLen, Nat.mul_one]]
    exact this
  · have := h.le; have := hF.size; simp [World.setCell]; omega
  · exact (hF.mono (T := fun k => k = bw ∨ (Value.slice a0 xs.length c0).ownBlock = some k) (fun i _ hi => Or.inr hi)).setCell (Or.inl (Or.inl rfl)) _
  · rcases hrow with e | e
    · exact Or.inl e
    · exact Or.inr fun k hk => by rw [e] at hk; simp at hk; omega

theorem Wr.alloc {w : World} {bw B : Nat} {v : Value} {xs : List Value} {er : Int} (h : Wr w bw B v xs er) (o : Obj) : Wr (w.alloc o) bw B v xs er :=
  ⟨(Below.heap_alloc w o bw (lt_of_block h.blk)).trans h.blk, h.own.alloc o, by have := h.le; simp; omega⟩
theorem Wr.fr {w w2 : World} {bw B : Nat} {v : Value} {xs : List Value} {er : Int} {S : Nat → Prop} (h : Wr w bw B v xs er) (hF : Fr S w w2) (h1 : ¬ S bw) (h2 : ∀ k, v.ownBlock = some k → ¬ S k) : Wr w2 bw B v xs er :=
  ⟨(hF.block bw (lt_of_block h.blk) h1).trans h.blk, hF.own h.own h2, Nat.le_trans h.le hF.size⟩
theorem Wr.row_lt {w : World} {bw B : Nat} {v : Value} {xs : List Value} {er : Int} (h : Wr w bw B v xs er) : ∀ k, v.ownBlock = some k → B ≤ k ∧ k < w.heap.size := h.own.lt
/-- A part behind a new block, and a part behind a part. -/
theorem Added.behind {w w2 : World} {bw B : Nat} {v : Value} {xs news : List Value} {er : Int} {o : Obj} (h : Added (w.alloc o) w2 bw B v xs news er) : Added w w2 bw B v xs news er := by
  obtain ⟨v2, h1, h2, h3⟩ := h
  refine ⟨v2, h1, ((Fr.refl _ w).alloc o).trans h2 (fun i hi => Or.inl hi), h3.imp_right fun h k hk => ?_⟩
  have := h k hk; simp at this; omega
theorem Added.then {w w2 w3 : World} {bw B : Nat} {v v2 : Value} {xs a b : List Value} {er : Int} (h1 : Wr w2 bw B v2 (xs ++ a) er) (h2 : Fr (fun k => k = bw ∨ v.ownBlock = some k) w w2)
    (h3 : v2.ownBlock = v.ownBlock ∨ ∀ k, v2.ownBlock = some k → w.heap.size ≤ k) (k : Added w2 w3 bw B v2 (xs ++ a) b er) : Added w w3 bw B v xs (a ++ b) er := by
  obtain ⟨v3, k1, k2, k3⟩ := k
  refine ⟨v3, by rw [← List.append_assoc]; exact k1, h2.trans k2 ?_, ?_⟩
  · intro i hi
    rcases hi with rfl | hi
    · exact Or.inl (Or.inl rfl)
    · rcases h3 with e | e
      · exact Or.inl (Or.inr (e ▸ hi))
      · exact Or.inr (e i hi)
  · rcases k3 with e | e
    · rw [e]; exact h3
    · exact Or.inr fun i hi => Nat.le_trans h2.size (e i hi)

set_option maxHeartbeats 400000 in
theorem refuse_any (bw B : Nat) (v : Value) (er : Int) (xs : List Value) (w : World) (h : Wr w bw B v xs er) :
    Calls Tryd.prog 54 #[.pointer (some ⟨bw, 0, none⟩)] w fun e w' => e = .returned (.tuple #[]) ∧ Wr w' bw B v xs 5 ∧ Fr (fun k => k = bw) w w' := by
  have hc1 := cell_of_block h.blk 1
  have hf1 := free_of_block h.blk 1
  simp at hc1
  go_enter Tryd.func54, Tryd.ntmps54
  go_wp2
  go_end0
  refine ⟨rfl, ⟨by simpa using block_setCell h.blk 1 (.int .i64 5), ownsRow_setCell_other h.own (a := ⟨bw, 1, none⟩) h.ne _, by have := h.le; simp [World.setCell]; omega⟩, (Fr.refl (fun k => k = bw) _).setCell (Or.inl rfl) _⟩

set_option maxHeartbeats 400000 in
theorem text_ok (bw B : Nat) (v : Value) (er : Int) (m cp : Nat) (a : Option Addr) (xs news : List Value) (w : World) (h : Wr w bw B v xs er)
    (hsrc : ∀ w2 : World, Fr (fun k => k = bw ∨ v.ownBlock = some k) w w2 → Src Tryd.prog 1 23 (.slice a m cp) m news w2) (hm : m ≤ 65535) (hlen : xs.length + 2 + m ≤ 140737488355328) :
    Calls Tryd.prog 33 #[.pointer (some ⟨bw, 0, none⟩), .slice a m cp] w fun e w' => e = .returned (.tuple #[]) ∧ Added w w' bw B v xs ([.int .u8 (m / 256), .int .u8 (m % 256)] ++ news) er := by
  have e1 : (m : Int) >>> 8 = m / 256 := by rw [Int.shiftRight_eq_div_pow]; rfl
  go_enter Tryd.func33, Tryd.ntmps33
  go_wp2_with fail
  refine (add_any bw B v er 2 xs [.int .u8 (m / 256), .int .u8 (m % 256)] _ _ (h.alloc _) (src_block (cs := #[.int .u8 (m / 256), .int .u8 (m % 256)]) (heap_alloc_new w _) (by simp [Value.oneCell']) 2) (by omega)).mono ?_
  rintro e w1 ⟨rfl, ha⟩
  have hb := ha.behind
  clear ha
  obtain ⟨v2, q1, q2, q3⟩ := hb
  have hs1 := hsrc w1 q2
  go_wp2_with fail
  refine (add_any bw B v2 er m _ news _ _ q1 hs1 (by simp; omega)).mono ?_
  rintro e w3 ⟨rfl, ha⟩
  go_wp2
  go_end0
  exact ⟨rfl, Added.then q1 q2 q3 ha⟩

set_option maxHeartbeats 400000 in
theorem text_bad (bw B : Nat) (v : Value) (er : Int) (m cp : Nat) (a : Option Addr) (xs : List Value) (w : World) (h : Wr w bw B v xs er) (hm : 65535 < m) (hm2 : m ≤ maxLen) :
    Calls Tryd.prog 33 #[.pointer (some ⟨bw, 0, none⟩), .slice a m cp] w fun e w' => e = .returned (.tuple #[]) ∧ Wr w' bw B v xs 5 ∧ Fr (fun k => k = bw) w w' := by
  unfold maxLen at hm2
  go_enter Tryd.func33, Tryd.ntmps33
  go_wp2_with fail
  refine (refuse_any bw B v er xs _ h).mono ?_
  rintro e w' ⟨rfl, ha⟩
  go_wp2
  refine bodyPost_ret (results_none rfl _ _ _) rfl ?_
  exact ⟨rfl, ha⟩

/-- The highest k of the eight bytes of a number. -/
def numB (n : Int) (j : Nat) : Int := IntKind.u64.wrap n / 2 ^ (56 - 8 * j) % 256
def numCells (n : Int) (k : Nat) : List Value := (List.range k).map fun j => Value.int .u8 (numB n j)
theorem numCells_succ (n : Int) (k : Nat) : numCells n (k + 1) = numCells n k ++ [Value.int .u8 (numB n k)] := by simp [numCells, List.range_succ]
theorem numCells_length (n : Int) (k : Nat) : (numCells n k).length = k := by simp [numCells]

set_option maxHeartbeats 400000 in
theorem num_any (bw B : Nat) (v : Value) (er n : Int) (xs : List Value) (w : World) (h : Wr w bw B v xs er) (hlen : xs.length + 8 ≤ 140737488355328) :
    Calls Tryd.prog 34 #[.pointer (some ⟨bw, 0, none⟩), .int .i64 n] w fun e w' => e = .returned (.tuple #[]) ∧ Added w w' bw B v xs (numCells n 8) er := by
  go_enter Tryd.func34, Tryd.ntmps34
  go_wp2_with fail
  go_loopw [4] (fun i wr => ∃ k : Nat, k ≤ 8 ∧ i = .int .i64 (56 - 8 * k) ∧ Added w wr bw B v xs (numCells n k) er) (fun i _ => (intOf i + 8).toNat)
  case atStart => exact ⟨0, by omega, by simp, v, by simpa [numCells] using h, Fr.refl _ _, Or.inl rfl⟩
  case round =>
    obtain ⟨k, hk, rfl, hadd⟩ := hrel
    obtain ⟨v2, q1, q2, q3⟩ := hadd
    by_cases hlt : k < 8
    · have hd : decide ((0 : Int) ≤ 56 - 8 * (k : Int)) = true := by simp; omega
      go_wp2_with fail
      refine (add_any bw B v2 er 1 _ [.int .u8 (numB n k)] _ _ (q1.alloc _) (src_block (cs := #[.int .u8 (numB n k)]) (heap_alloc_new wr _) (by simp [Value.oneCell']) 1) (by simp [numCells_length]; omega)).mono ?_
      rintro e w3 ⟨rfl, ha⟩
      have hadd := Added.then q1 q2 q3 ha.behind
      rw [← numCells_succ] at hadd
      clear ha q1 q2 q3
      go_wp2
      go_roundw
      case rel => exact ⟨k + 1, by omega, by go_num, hadd⟩
      case measure => simp [intOf]; omega
    · have hd : decide ((0 : Int) ≤ 56 - 8 * (k : Int)) = false := by simp; omega
      obtain rfl : k = 8 := by omega
      go_wp2
      go_end0
      exact ⟨rfl, v2, q1, q2, q3⟩

theorem slice_of_own_some {w : World} {B e size n : Nat} {v : Value} {xs : List Value} {g : Nat} (h : w.ownsRow B e size v n xs) (hg : v.ownBlock = some g) : ∃ c, v = .slice (some ⟨g, 0, none⟩) n c := by
  rcases h.2 with ⟨rfl, rfl⟩ | ⟨g2, cap, cur, rfl, _⟩
  · cases hg
  · obtain rfl : g2 = g := by simpa [Value.ownBlock] using hg
    exact ⟨cap, rfl⟩

set_option maxHeartbeats 400000 in
theorem clone_some (a : Addr) (m cp : Nat) (news : List Value) (w : World) (hsrc : ∀ w2 : World, Fr (fun _ => False) w w2 → Src Tryd.prog 1 23 (.slice (some a) m cp) m news w2) (hm : m ≤ 140737488355328) :
    Calls Tryd.prog 56 #[.slice (some a) m cp] w fun e w' => ∃ g c, e = .returned (.slice (some ⟨g, 0, none⟩) m c) ∧ w'.ownsRow w.heap.size 5 1 (.slice (some ⟨g, 0, none⟩) m c) m news ∧ Fr (fun _ => False) w w' := by
  obtain ⟨i0, hi, hz0, hz1, hz2⟩ := info_parts Tryd.infoB
  have hnil := fun (W : World) => Lib.run_eql_slice_nil (P := Tryd.prog) W 23 5 (some a) m cp 0 0 Tryd.underlying23
  go_enter Tryd.func56, Tryd.ntmps56
  go_wp2_with (at_builtin; refine wpList_app _ rfl (.tmp 5) (.tmp 6) 23 23 rfl w.heap.size 5 i0 (.int .u8 0) 1 1 Tryd.underlying23 hi hz0 hz1 hz2 rfl (by decide) _ 0 [] rfl (World.ownsRow_made w #[] 0 (Nat.le_refl _) (by unfold maxLen; omega) rfl) _ rfl m news (hsrc _ ((Fr.refl (fun _ => False) w).alloc _)) (by unfold maxLen; omega) (by omega) (by simp) ?k)
  case k =>
  intro v2 w2 hown hgrow hrow
  obtain ⟨g, hg⟩ : ∃ g, v2.ownBlock = some g := by
    rcases hrow with e | e
    · exact ⟨_, e.trans rfl⟩
    · exact ⟨_, e⟩
  obtain ⟨c, rfl⟩ := slice_of_own_some hown hg
  have hF : Fr (fun _ => False) w w2 := ((Fr.refl _ w).alloc _).trans (Fr.ofGrown hgrow) (fun i hi => Or.inr (by simp [Value.ownBlock] at hi; omega))
  go_wp2
  go_ret
  exact ⟨g, c, by simp, by simpa using hown, hF⟩

set_option maxHeartbeats 400000 in
theorem clone_nil (w : World) : Calls Tryd.prog 56 #[.slice none 0 0] w fun e w' => e = .returned (.slice none 0 0) ∧ w = w' := by
  go_enter Tryd.func56, Tryd.ntmps56
  have hnil := fun (W : World) => Lib.run_eql_slice_nil (P := Tryd.prog) W 23 5 none 0 0 0 0 Tryd.underlying23
  go_wp2
  go_ret
  exact ⟨rfl, rfl⟩

set_option maxHeartbeats 800000 in
theorem bytes_any (bw B : Nat) (v : Value) (er : Int) (xs : List Value) (w : World) (h : Wr w bw B v xs er) (h1 : ∀ u ∈ xs, u.oneCell' = true) (hlen : xs.length ≤ 140737488355328) :
    Calls Tryd.prog 35 #[.pointer (some ⟨bw, 0, none⟩)] w fun e w' => ∃ v2, e = .returned (.tuple #[v2, .int .i64 er]) ∧ w'.ownsRow w.heap.size 5 1 v2 xs.length xs ∧ Fr (fun _ => False) w w' := by
  have hc0 := cell_of_block h.blk 0
  have hc1 := cell_of_block h.blk 1
  simp at hc0 hc1
  have hlt := lt_of_block h.blk
  rcases h.own.2 with ⟨rfl, h0⟩ | ⟨g, cap, cur, rfl, _⟩
  · have hx : xs = [] := List.eq_nil_of_length_eq_zero h0
    subst hx
    clear h0
    go_enter Tryd.func35, Tryd.ntmps35
    go_wp2_with fail
    go_region_held3 (fun w' => w'.cell? ⟨bw, 0, none⟩ = some (.slice none 0 0) ∧ w'.cell? ⟨bw, 1, none⟩ = some (.int .i64 er)) (go_keep) ((refine (clone_nil _).mono ?_; rintro e w1 ⟨rfl, rfl⟩))
    go_wp2
    go_ret2
    exact ⟨_, rfl, World.ownsRow_nil _ _ _ _, (Fr.refl _ w).drew⟩
  · have hs : ∀ w2 : World, Fr (fun _ => False) w w2 → Src Tryd.prog 1 23 (.slice (some ⟨g, 0, none⟩) xs.length cap) xs.length xs w2 := fun w2 hF => src_own (hF.own h.own (fun _ _ h => h)) h1
    go_enter Tryd.func35, Tryd.ntmps35
    go_wp2_with fail
    go_region_held3 (fun w' => w'.cell? ⟨bw, 0, none⟩ = some (.slice (some ⟨g, 0, none⟩) xs.length cap) ∧ w'.cell? ⟨bw, 1, none⟩ = some (.int .i64 er))
      (first | go_keep | (exact ⟨(hF.cellSome (fun h => h) (by assumption)), (hF.cellSome (fun h => h) (by assumption))⟩))
      ((refine (clone_some ⟨g, 0, none⟩ xs.length cap xs _ (fun w2 hF => hs w2 ((Fr.refl _ w).drew.trans hF (fun i hi => Or.inl hi))) hlen).mono ?_; rintro e w1 ⟨g2, c2, rfl, hown, hF⟩))
    go_wp2
    go_ret2
    exact ⟨_, rfl, by simpa using hown, (Fr.refl _ w).drew.trans hF (fun i hi => Or.inl hi)⟩
end Go.Proofs.YtbpblheaiancaaaDoor
namespace Go.Proofs.YtbpblheaiancaaaDoor
open Go.RowKit
set_option linter.unusedVariables false

/-- A Reader's block, and the bytes that are left. -/
structure Rd (w : World) (br : Nat) (a : Option Addr) (c : Nat) (l : List UInt8) (er : Int) : Prop where
  blk : w.heap[br]? = some (.cells #[.slice a l.length c, .int .i64 er] 96 (0, 0))
  le : l.length ≤ c
  mx : c ≤ maxLen
  ne : ¬ inBlk a br
  lies : Lies w a l

theorem Rd.fr {w w2 : World} {br c : Nat} {a : Option Addr} {l : List UInt8} {er : Int} {S : Nat → Prop} (h : Rd w br a c l er) (hF : Fr S w w2) (h1 : ¬ S br) (h2 : ∀ k, inBlk a k → ¬ S k) : Rd w2 br a c l er :=
  ⟨(hF.block br (lt_of_block h.blk) h1).trans h.blk, h.le, h.mx, h.ne, h.lies.fr hF h2⟩
theorem clone_lies (a : Addr) (l : List UInt8) (n cp : Nat) (hn : l.length = n) (w : World) (h : Lies w (some a) l) (hm : n ≤ 140737488355328) :
    Calls Tryd.prog 56 #[.slice (some a) n cp] w fun e w' => ∃ g c, e = .returned (.slice (some ⟨g, 0, none⟩) n c) ∧ w'.ownsRow w.heap.size 5 1 (.slice (some ⟨g, 0, none⟩) n c) n (bv l) ∧ Fr (fun _ => False) w w' := by
  subst hn
  exact clone_some a l.length cp (bv l) w (fun w2 hF => (h.fr hF (fun _ _ h => h)).src cp) hm

/-- What is left behind a taking. -/
def RdPost (w w2 : World) (br g c : Nat) (l : List UInt8) (er : Int) : Prop := ∃ o2, Rd w2 br (some ⟨g, o2, none⟩) c l er ∧ Fr (fun k => k = br) w w2
/-- The reader's error is set. -/
theorem Rd.err {w : World} {br c : Nat} {a : Option Addr} {l : List UInt8} {er : Int} (h : Rd w br a c l er) (e2 : Int) : Rd (w.setCell ⟨br, 1, none⟩ (.int .i64 e2)) br a c l e2 :=
  ⟨by simpa using block_setCell h.blk 1 (.int .i64 e2), h.le, h.mx, h.ne, h.lies.fr ((Fr.refl (fun k => k = br) w).setCell (Or.inl rfl) _) (fun k hk e => h.ne (e ▸ hk))⟩

set_option maxHeartbeats 800000 in
theorem has_yes (br c : Nat) (a : Option Addr) (l : List UInt8) (n : Int) (w : World) (h : Rd w br a c l 0) (hn : n ≤ (l.length : Int)) :
    Calls Tryd.prog 59 #[.pointer (some ⟨br, 0, none⟩), .int .i64 n] w fun e w' => e = .returned (.bool true) ∧ w = w' := by
  have hc0 := cell_of_block h.blk 0
  have hc1 := cell_of_block h.blk 1
  simp at hc0 hc1
  have hm : l.length ≤ 9223372036854775807 := by have := h.mx; have := h.le; unfold maxLen at *; omega
  go_enter Tryd.func59, Tryd.ntmps59
  go_wp2
  go_ret
  exact ⟨rfl, rfl⟩

set_option maxHeartbeats 800000 in
theorem has_err (br c : Nat) (a : Option Addr) (l : List UInt8) (n er : Int) (w : World) (h : Rd w br a c l er) (hn : (er == 0) = false) :
    Calls Tryd.prog 59 #[.pointer (some ⟨br, 0, none⟩), .int .i64 n] w fun e w' => e = .returned (.bool false) ∧ w = w' := by
  have hc0 := cell_of_block h.blk 0
  have hc1 := cell_of_block h.blk 1
  simp at hc0 hc1
  have hn2 : (er != 0) = true := by simp at hn ⊢; exact hn
  go_enter Tryd.func59, Tryd.ntmps59
  go_wp2
  go_ret
  exact ⟨rfl, rfl⟩

set_option maxHeartbeats 800000 in
theorem has_no (br c : Nat) (a : Option Addr) (l : List UInt8) (n : Int) (w : World) (h : Rd w br a c l 0) (hn : (l.length : Int) < n) :
    Calls Tryd.prog 59 #[.pointer (some ⟨br, 0, none⟩), .int .i64 n] w fun e w' => e = .returned (.bool false) ∧ w' = w.setCell ⟨br, 1, none⟩ (.int .i64 3) := by
  have hc0 := cell_of_block h.blk 0
  have hc1 := cell_of_block h.blk 1
  have hf1 := free_of_block h.blk 1
  simp at hc0 hc1
  have hm : l.length ≤ 9223372036854775807 := by have := h.mx; have := h.le; unfold maxLen at *; omega
  go_enter Tryd.func59, Tryd.ntmps59
  go_wp2
  go_ret
  exact ⟨rfl, rfl⟩

theorem take_end {w : World} {br c g off : Nat} {l : List UInt8} {er : Int} {n : Nat} (h : Rd w br (some ⟨g, off, none⟩) c l er) (o2 c2 n2 : Nat) (v : Value) (hn2 : n2 = (l.drop n).length) (hle : n2 ≤ c2) (hmx : c2 ≤ maxLen)
    (hv : v = .slice (some ⟨g, o2, none⟩) n2 c2) (hl : Lies w (some ⟨g, o2, none⟩) (l.drop n)) : Rd (w.setCell ⟨br, 0, none⟩ v) br (some ⟨g, o2, none⟩) c2 (l.drop n) er := by
  subst hv
  subst hn2
  have hg : g ≠ br := fun e => h.ne ⟨_, rfl, e⟩
  exact ⟨by simpa using block_setCell h.blk 0 _, hle, hmx, fun ⟨ad, e, hb⟩ => hg (by cases e; exact hb), hl.fr ((Fr.refl (fun k => k = br) w).setCell (Or.inl rfl) _) (fun k ⟨ad, e, hb⟩ e2 => hg (by cases e; exact hb.trans e2))⟩

set_option maxHeartbeats 800000 in
theorem take_any (br c g off : Nat) (l : List UInt8) (er : Int) (n : Nat) (N : Int) (hN : N = (n : Int)) (w : World) (H : Rd w br (some ⟨g, off, none⟩) c l er) (hn : n ≤ l.length) :
    Calls Tryd.prog 60 #[.pointer (some ⟨br, 0, none⟩), .int .i64 N] w fun e w' => e = .returned (.slice (some ⟨g, off, none⟩) n c) ∧ RdPost w w' br g (c - n) (l.drop n) er := by
  subst hN
  have hc0 := cell_of_block H.blk 0
  have hc1 := cell_of_block H.blk 1
  have hf0 := free_of_block H.blk 0
  simp at hc0 hc1
  have hm : c ≤ 9223372036854775807 := by have := H.mx; unfold maxLen at *; omega
  have hl := H.le
  go_enter Tryd.func60, Tryd.ntmps60
  go_wp2
  all_goals
    go_ret
    refine ⟨rfl, ?_⟩
  · have hcn : c = n := by assumption
    subst hcn
    exact ⟨off, take_end H off 0 (l.length - c) _ (by simp) (by omega) (by unfold maxLen; omega) rfl (Or.inl (List.drop_eq_nil_of_le hl)), (Fr.refl (fun k => k = br) w).setCell (Or.inl rfl) _⟩
  · exact ⟨off + n, take_end H (off + n) (c - n) (l.length - n) _ (by simp) (by omega) (by unfold maxLen; omega) rfl (H.lies.drop n), (Fr.refl (fun k => k = br) w).setCell (Or.inl rfl) _⟩

set_option maxHeartbeats 400000 in
theorem end_err (br c : Nat) (a : Option Addr) (l : List UInt8) (er : Int) (w : World) (h : Rd w br a c l er) (hn : (er == 0) = false) :
    Calls Tryd.prog 43 #[.pointer (some ⟨br, 0, none⟩)] w fun e w' => e = .returned (.int .i64 er) ∧ w = w' := by
  have hc0 := cell_of_block h.blk 0
  have hc1 := cell_of_block h.blk 1
  simp at hc0 hc1
  have hn2 : (er != 0) = true := by simp at hn ⊢; exact hn
  go_enter Tryd.func43, Tryd.ntmps43
  go_wp2
  go_ret
  exact ⟨rfl, rfl⟩

set_option maxHeartbeats 400000 in
theorem end_tail (br c : Nat) (a : Option Addr) (l : List UInt8) (w : World) (h : Rd w br a c l 0) (hl : 0 < l.length) :
    Calls Tryd.prog 43 #[.pointer (some ⟨br, 0, none⟩)] w fun e w' => e = .returned (.int .i64 4) ∧ w = w' := by
  have hc0 := cell_of_block h.blk 0
  have hc1 := cell_of_block h.blk 1
  simp at hc0 hc1
  have hl2 : decide (0 < l.length) = true := by simpa using hl
  go_enter Tryd.func43, Tryd.ntmps43
  go_wp2
  go_ret
  exact ⟨rfl, rfl⟩

set_option maxHeartbeats 400000 in
theorem end_ok (br c : Nat) (a : Option Addr) (w : World) (h : Rd w br a c [] 0) :
    Calls Tryd.prog 43 #[.pointer (some ⟨br, 0, none⟩)] w fun e w' => e = .returned (.int .i64 0) ∧ w = w' := by
  have hc0 := cell_of_block h.blk 0
  have hc1 := cell_of_block h.blk 1
  simp at hc0 hc1
  go_enter Tryd.func43, Tryd.ntmps43
  go_wp2
  go_ret
  exact ⟨rfl, rfl⟩

end Go.Proofs.YtbpblheaiancaaaDoor
namespace Go.Proofs.YtbpblheaiancaaaDoor
open Go.RowKit
set_option linter.unusedVariables false

theorem Rd.two {w : World} {br g off c : Nat} {x y : UInt8} {l : List UInt8} {er : Int} (h : Rd w br (some ⟨g, off, none⟩) c (x :: y :: l) er) : w.cell? ⟨g, off, none⟩ = some (.int .u8 x.toNat) ∧ w.cell? ⟨g, off + 1, none⟩ = some (.int .u8 y.toNat) := by
  rcases h.lies with e | ⟨g2, off2, e, hc⟩
  · cases e
  · obtain ⟨rfl, rfl⟩ : g = g2 ∧ off = off2 := by simpa using Option.some.inj e
    exact ⟨hc 0 (by simp), hc 1 (by simp)⟩


theorem wraps_i64' (n : Int) (h₀ : 0 ≤ n) (h₁ : n < 2 ^ 63) : IntKind.i64.wrap n = n := by rw [IntKind.wrap_i64]; omega
theorem i64_or8 (x y : Int) (hx₀ : 0 ≤ x) (hx : x % 256 = 0) (hx₁ : x < 9223372036854775808) (h₀ : 0 ≤ y) (h₁ : y < 256) : bits .or .i64 x y = x + y :=
  bits_join .i64 63 (by decide) wraps_i64' 8 x y hx₀ (by omega) (by omega) h₀ (by omega) (by omega)
/-- The count of bytes that stands before a text. -/
def cnt (x y : UInt8) : Nat := x.toNat * 256 + y.toNat
theorem cnt_le (x y : UInt8) : cnt x y ≤ 65535 := by
  have := x.toNat_lt; have := y.toNat_lt
  unfold cnt; omega
theorem or_two (x y : UInt8) : bits .or .i64 ((x.toNat : Int) * 256) y.toNat = (cnt x y : Int) := by
  have := x.toNat_lt; have := y.toNat_lt
  rw [i64_or8 _ _ (by omega) (by omega) (by omega) (by omega) (by omega)]
  unfold cnt; omega

set_option maxHeartbeats 800000 in
theorem rtext_big (br c g off : Nat) (x y : UInt8) (l : List UInt8) (most : Int) (w : World) (h : Rd w br (some ⟨g, off, none⟩) c (x :: y :: l) 0) (hm : most < (cnt x y : Int)) :
    Calls Tryd.prog 38 #[.pointer (some ⟨br, 0, none⟩), .int .i64 most] w fun e w' => e = .returned (.slice none 0 0) ∧ Rd w' br (some ⟨g, off, none⟩) c (x :: y :: l) 5 ∧ Fr (fun k => k = br) w w' := by
  have hc0 := cell_of_block h.blk 0
  have hc1 := cell_of_block h.blk 1
  have hf1 := free_of_block h.blk 1
  simp at hc0 hc1
  obtain ⟨k0, k1⟩ := h.two
  have b0 : (x.toNat : Int) < 256 := by have := x.toNat_lt; omega
  have b1 : (y.toNat : Int) < 256 := by have := y.toNat_lt; omega
  have hor := or_two x y
  have hcc := cnt_le x y
  go_enter Tryd.func38, Tryd.ntmps38
  go_wp2_with fail
  refine (has_yes br c _ (x :: y :: l) 2 _ h (by simp; omega)).mono ?_
  rintro e w1 ⟨rfl, rfl⟩
  go_wp2
  go_quiet (fail)
  go_wp2
  go_ret
  exact ⟨rfl, (h.fr ((Fr.refl (fun _ => False) w).drewN nq) (fun h => h) (fun _ _ h => h)).err 5, ((Fr.refl (fun k => k = br) w).drewN nq).setCell (Or.inl rfl) _⟩

set_option maxRecDepth 100000 in
set_option maxHeartbeats 800000 in
theorem rtext_short (br c g off : Nat) (x y : UInt8) (l : List UInt8) (most : Int) (w : World) (h : Rd w br (some ⟨g, off, none⟩) c (x :: y :: l) 0) (hm : (cnt x y : Int) ≤ most) (hs : l.length < cnt x y) :
    Calls Tryd.prog 38 #[.pointer (some ⟨br, 0, none⟩), .int .i64 most] w fun e w' => e = .returned (.slice none 0 0) ∧ Rd w' br (some ⟨g, off, none⟩) c (x :: y :: l) 3 ∧ Fr (fun k => k = br) w w' := by
  have hc0 := cell_of_block h.blk 0
  have hc1 := cell_of_block h.blk 1
  have hf1 := free_of_block h.blk 1
  simp at hc0 hc1
  obtain ⟨k0, k1⟩ := h.two
  have b0 : (x.toNat : Int) < 256 := by have := x.toNat_lt; omega
  have b1 : (y.toNat : Int) < 256 := by have := y.toNat_lt; omega
  have hor := or_two x y
  have hcc := cnt_le x y
  go_enter Tryd.func38, Tryd.ntmps38
  go_wp2_with fail
  refine (has_yes br c _ (x :: y :: l) 2 _ h (by simp; omega)).mono ?_
  rintro e w1 ⟨rfl, rfl⟩
  go_wp2
  go_quiet (fail)
  have h2 : Rd (w.drewN nq) br (some ⟨g, off, none⟩) c (x :: y :: l) 0 := h.fr ((Fr.refl (fun _ => False) w).drewN nq) (fun h => h) (fun _ _ h => h)
  go_wp2_with fail
  refine (has_no br c _ (x :: y :: l) _ _ h2 (by simp; omega)).mono ?_
  rintro e w1 ⟨rfl, rfl⟩
  go_wp2
  go_ret
  exact ⟨rfl, h2.err 3, ((Fr.refl (fun k => k = br) w).drewN nq).setCell (Or.inl rfl) _⟩

set_option maxHeartbeats 800000 in
theorem rtext_none (br c : Nat) (a : Option Addr) (l : List UInt8) (most : Int) (w : World) (h : Rd w br a c l 0) (hs : l.length < 2) :
    Calls Tryd.prog 38 #[.pointer (some ⟨br, 0, none⟩), .int .i64 most] w fun e w' => e = .returned (.slice none 0 0) ∧ Rd w' br a c l 3 ∧ Fr (fun k => k = br) w w' := by
  go_enter Tryd.func38, Tryd.ntmps38
  go_wp2_with fail
  refine (has_no br c _ l 2 _ h (by omega)).mono ?_
  rintro e w1 ⟨rfl, rfl⟩
  go_wp2
  go_ret
  exact ⟨rfl, h.err 3, (Fr.refl (fun k => k = br) w).setCell (Or.inl rfl) _⟩

set_option maxHeartbeats 800000 in
theorem rtext_err (br c : Nat) (a : Option Addr) (l : List UInt8) (er most : Int) (w : World) (h : Rd w br a c l er) (hn : (er == 0) = false) :
    Calls Tryd.prog 38 #[.pointer (some ⟨br, 0, none⟩), .int .i64 most] w fun e w' => e = .returned (.slice none 0 0) ∧ w = w' := by
  go_enter Tryd.func38, Tryd.ntmps38
  go_wp2_with fail
  refine (has_err br c _ l 2 er _ h hn).mono ?_
  rintro e w1 ⟨rfl, rfl⟩
  go_wp2
  go_ret
  exact ⟨rfl, rfl⟩

theorem rtext_end {w w2 w3 : World} {br g o2 c n : Nat} {l l2 : List UInt8} {v : Value} (hF0 : Fr (fun k => k = br) w w2) (hr : Rd w2 br (some ⟨g, o2, none⟩) c l 0) (hF3 : Fr (fun _ => False) w2 w3)
    (hown : w3.ownsRow w2.heap.size 5 1 v n (bv l2)) : w3.ownsRow w.heap.size 5 1 v n (bv l2) ∧ RdPost w w3 br g c l 0 := by
  refine ⟨⟨hown.1, hown.2.imp_right ?_⟩, o2, hr.fr hF3 (fun h => h) (fun _ _ h => h), hF0.trans hF3 (fun i hi => hi.elim)⟩
  rintro ⟨g3, cap, cur, hv, hb, r⟩
  exact ⟨g3, cap, cur, hv, Nat.le_trans hF0.size hb, r⟩

set_option maxRecDepth 100000 in
set_option maxHeartbeats 1600000 in
theorem rtext_ok (br c g off : Nat) (x y : UInt8) (l : List UInt8) (most : Int) (w : World) (h : Rd w br (some ⟨g, off, none⟩) c (x :: y :: l) 0) (hm : (cnt x y : Int) ≤ most) (hs : cnt x y ≤ l.length) :
    Calls Tryd.prog 38 #[.pointer (some ⟨br, 0, none⟩), .int .i64 most] w fun e w' => ∃ v, e = .returned v ∧ w'.ownsRow w.heap.size 5 1 v (cnt x y) (bv (l.take (cnt x y))) ∧ RdPost w w' br g (c - (2 + cnt x y)) (l.drop (cnt x y)) 0 := by
  have hc0 := cell_of_block h.blk 0
  have hc1 := cell_of_block h.blk 1
  have hf1 := free_of_block h.blk 1
  simp at hc0 hc1
  obtain ⟨k0, k1⟩ := h.two
  have b0 : (x.toNat : Int) < 256 := by have := x.toNat_lt; omega
  have b1 : (y.toNat : Int) < 256 := by have := y.toNat_lt; omega
  have hor := or_two x y
  have hcc := cnt_le x y
  have hcl := h.le
  have hmx := h.mx
  simp at hcl
  simp only [maxLen, Nat.reducePow, Nat.reduceSub] at hmx
  go_enter Tryd.func38, Tryd.ntmps38
  go_wp2_with fail
  refine (has_yes br c _ (x :: y :: l) 2 _ h (by simp; omega)).mono ?_
  rintro e w1 ⟨rfl, rfl⟩
  go_wp2
  go_quiet (fail)
  have h2 : Rd (w.drewN nq) br (some ⟨g, off, none⟩) c (x :: y :: l) 0 := h.fr ((Fr.refl (fun _ => False) w).drewN nq) (fun h => h) (fun _ _ h => h)
  go_wp2_with fail
  refine (has_yes br c _ (x :: y :: l) _ _ h2 (by simp; omega)).mono ?_
  rintro e w1 ⟨rfl, rfl⟩
  go_wp2_with fail
  refine (take_any br c g off (x :: y :: l) 0 (2 + cnt x y) _ (by omega) _ h2 (by simp; omega)).mono ?_
  rintro e w2 ⟨rfl, o2, hr, hF⟩
  have hF0 : Fr (fun k => k = br) w w2 := ((Fr.refl (fun k => k = br) w).drewN nq).trans hF (fun i hi => Or.inl hi)
  have hg : g ≠ br := fun e => h.ne ⟨_, rfl, e⟩
  have hl2 : Lies w2 (some ⟨g, off + 2, none⟩) (l.take (cnt x y)) := ((h.lies.drop 2).take (cnt x y)).fr hF0 (fun k ⟨ad, e, hb⟩ e2 => hg (by cases e; exact hb.trans e2))
  have hlen : (l.take (cnt x y)).length = cnt x y := by simp; omega
  have hr' : Rd w2 br (some ⟨g, o2, none⟩) (c - (2 + cnt x y)) (l.drop (cnt x y)) 0 := by
    have e : (x :: y :: l).drop (2 + cnt x y) = l.drop (cnt x y) := by rw [Nat.add_comm]; rfl
    rw [← e]; exact hr
  clear hr
  have Hlen := Lib.hid hlen
  clear hlen
  go_wp2_with fail
  · refine (clone_lies ⟨g, off, none⟩ (l.take (cnt x y)) (cnt x y) _ Hlen.out w2 (Or.inl (List.eq_nil_of_length_eq_zero (by rw [Hlen.out]; omega))) (by omega)).mono ?_
    rintro e w3 ⟨g3, c3, rfl, hown, hF3⟩
    go_wp2
    go_ret
    exact ⟨_, rfl, rtext_end hF0 hr' hF3 hown⟩
  · refine (clone_lies ⟨g, off + 2, none⟩ (l.take (cnt x y)) (cnt x y) _ Hlen.out w2 hl2 (by omega)).mono ?_
    rintro e w3 ⟨g3, c3, rfl, hown, hF3⟩
    go_wp2
    go_ret
    exact ⟨_, rfl, rtext_end hF0 hr' hF3 hown⟩

/-- Read makes a reader of its own bytes. -/
def ReadPost (w w2 : World) (l : List UInt8) (e : Ending) : Prop :=
  ∃ br a c, e = .returned (.pointer (some ⟨br, 0, none⟩)) ∧ Rd w2 br a c l 0 ∧ (l = [] ∨ ∃ g o, a = some ⟨g, o, none⟩) ∧ w.heap.size ≤ br ∧ (∀ k, inBlk a k → w.heap.size ≤ k) ∧ Fr (fun _ => False) w w2

theorem read_end {w w2 : World} {l : List UInt8} {a : Option Addr} {c : Nat} (hF : Fr (fun _ => False) w w2) (hown : w2.ownsRow w.heap.size 5 1 (.slice a l.length c) l.length (bv l)) :
    ReadPost w (w2.alloc (.cells #[.slice a l.length c, .int .i64 0] 96)) l (.returned (.pointer (some ⟨w2.heap.size, 0, none⟩))) := by
  obtain ⟨_, h1, h2, h3⟩ := lies_own hown
  have hlt : ∀ k, inBlk a k → w.heap.size ≤ k ∧ k < w2.heap.size := by
    rintro k ⟨ad, rfl, rfl⟩
    exact hown.lt _ rfl
  refine ⟨w2.heap.size, a, c, rfl, ⟨heap_alloc_new w2 _, h1, h2, fun h => by have := (hlt _ h).2; omega, h3.fr ((Fr.refl (fun _ => False) w2).alloc _) (fun _ _ h => h)⟩, ?_, hF.size, fun k hk => (hlt k hk).1, hF.alloc _⟩
  rcases h3 with h | ⟨g, o, h, _⟩
  · exact Or.inl h
  · exact Or.inr ⟨g, o, h⟩

set_option maxRecDepth 100000 in
set_option maxHeartbeats 800000 in
theorem read_any (a : Option Addr) (c : Nat) (l : List UInt8) (n : Nat) (hn : l.length = n) (w : World) (h : Lies w a l) (ha : a = none → l = [] ∧ c = 0) (hm : n ≤ 140737488355328) :
    Calls Tryd.prog 37 #[.slice a n c] w fun e w' => ReadPost w w' l e := by
  subst hn
  cases a with
  | none =>
    obtain ⟨rfl, rfl⟩ := ha rfl
    go_enter Tryd.func37, Tryd.ntmps37
    go_wp2_with fail
    refine (clone_nil _).mono ?_
    rintro e w1 ⟨rfl, rfl⟩
    go_wp2
    go_ret
    exact read_end (l := []) (a := none) (c := 0) (Fr.refl _ w) (World.ownsRow_nil _ _ _ _)
  | some ad =>
    go_enter Tryd.func37, Tryd.ntmps37
    go_wp2_with fail
    refine (clone_lies ad l l.length c rfl w h hm).mono ?_
    rintro e w1 ⟨g, c1, rfl, hown, hF⟩
    go_wp2
    go_ret
    exact read_end hF hown
end Go.Proofs.YtbpblheaiancaaaDoor
namespace Go.Proofs.YtbpblheaiancaaaDoor
open Go.RowKit
set_option linter.unusedVariables false


theorem u64_nat (n : Int) : ∃ u : Nat, IntKind.u64.wrap n = (u : Int) := ⟨(IntKind.u64.wrap n).toNat, by rw [IntKind.wrap_u64]; omega⟩

/-- So many noughts. -/
def noughts (n : Nat) : List UInt8 := List.replicate n 0
theorem made_noughts (n : Nat) : (madeCells #[Value.int .u8 0] n).toList = bv (noughts n) := by
  apply List.ext_getElem
  · simp [madeCells, noughts, bv]
  · intro i h1 h2
    simp [madeCells, noughts, bv, Nat.mod_one]

/-- The two bytes of a count. -/
def hb (m : Nat) : UInt8 := UInt8.ofNat (m / 256)
def lb (m : Nat) : UInt8 := UInt8.ofNat (m % 256)
theorem text_bytes (m : Nat) (h : m ≤ 65535) (l : List UInt8) : [Value.int .u8 (m / 256), Value.int .u8 (m % 256)] ++ bv l = bv (hb m :: lb m :: l) := by
  have h1 : (hb m).toNat = m / 256 := by unfold hb; rw [UInt8.toNat_ofNat']; omega
  have h2 : (lb m).toNat = m % 256 := by unfold lb; rw [UInt8.toNat_ofNat']; omega
  rw [bv_cons, bv_cons, h1, h2]
  simp
theorem cnt_text (m : Nat) (h : m ≤ 65535) : cnt (hb m) (lb m) = m := by
  have h1 : (hb m).toNat = m / 256 := by unfold hb; rw [UInt8.toNat_ofNat']; omega
  have h2 : (lb m).toNat = m % 256 := by unfold lb; rw [UInt8.toNat_ofNat']; omega
  unfold cnt
  rw [h1, h2]; omega

end Go.Proofs.YtbpblheaiancaaaDoor
namespace Go.Proofs.YtbpblheaiancaaaDoor
open Go.RowKit
set_option linter.unusedVariables false

/-- The number that bytes are, the highest first. -/
def beN (l : List UInt8) : Nat := l.foldl (fun n b => n * 256 + b.toNat) 0
theorem beN_snoc (l : List UInt8) (b : UInt8) : beN (l ++ [b]) = beN l * 256 + b.toNat := by simp [beN]
theorem beN_from : (l : List UInt8) → (a m : Nat) → a < 256 ^ m → l.foldl (fun n b => n * 256 + b.toNat) a < 256 ^ (m + l.length)
  | [], a, m, h => h
  | b :: l, a, m, h => by
    have hb := b.toNat_lt
    have := beN_from l (a * 256 + b.toNat) (m + 1) (by rw [Nat.pow_succ]; omega)
    simpa [Nat.add_assoc, Nat.add_comm 1] using this
theorem beN_lt (l : List UInt8) : beN l < 256 ^ l.length := by
  have := beN_from l 0 0 (by decide)
  rw [Nat.zero_add] at this
  exact this
theorem wraps_u64' (n : Int) (h₀ : 0 ≤ n) (h₁ : n < 2 ^ 64) : IntKind.u64.wrap n = n := by rw [IntKind.wrap_u64]; omega
theorem u64_or8 (x y : Int) (hx₀ : 0 ≤ x) (hx : x % 256 = 0) (hx₁ : x < 18446744073709551616) (h₀ : 0 ≤ y) (h₁ : y < 256) : bits .or .u64 x y = x + y :=
  bits_join .u64 64 (by decide) wraps_u64' 8 x y hx₀ (by omega) (by omega) h₀ (by omega) (by omega)
theorem beN_or (m : Nat) (y : UInt8) (h : m < 72057594037927936) : bits .or .u64 ((m : Int) * 256) y.toNat = ((m * 256 + y.toNat : Nat) : Int) := by
  have := y.toNat_lt
  rw [u64_or8 _ _ (by omega) (by omega) (by omega) (by omega) (by omega)]
  omega
theorem beN_step (l : List UInt8) (k : Nat) (h : k < l.length) : beN (l.take (k + 1)) = beN (l.take k) * 256 + (l[k]).toNat := by
  rw [List.take_succ_eq_append_getElem h, beN_snoc]
theorem beN_small (l : List UInt8) (k : Nat) (h : k < 8) : beN (l.take k) < 72057594037927936 := by
  have h1 := beN_lt (l.take k)
  have h2 : (l.take k).length ≤ 7 := by simp; omega
  have h3 : 256 ^ (l.take k).length ≤ 256 ^ 7 := Nat.pow_le_pow_right (by decide) h2
  have h4 : (256 : Nat) ^ 7 = 72057594037927936 := by decide
  omega

set_option maxRecDepth 100000 in
set_option maxHeartbeats 1600000 in
theorem rnum_ok (br c g off : Nat) (l : List UInt8) (hl : 8 ≤ l.length) (w : World) (h : Rd w br (some ⟨g, off, none⟩) c l 0) :
    Calls Tryd.prog 39 #[.pointer (some ⟨br, 0, none⟩)] w fun e w' => e = .returned (.int .i64 (wrap64 (beN (l.take 8) : Nat))) ∧ RdPost w w' br g (c - 8) (l.drop 8) 0 := by
  go_enter Tryd.func39, Tryd.ntmps39
  go_wp2_with fail
  refine (has_yes br c _ l 8 _ h (by omega)).mono ?_
  rintro e w1 ⟨rfl, rfl⟩
  go_wp2_with fail
  refine (take_any br c g off l 0 8 8 rfl _ h hl).mono ?_
  rintro e w2 ⟨rfl, o2, hr, hF⟩
  have hg : g ≠ br := fun e => h.ne ⟨_, rfl, e⟩
  have hl2 : Lies w2 (some ⟨g, off, none⟩) l := h.lies.fr hF (fun k ⟨ad, e, hb⟩ e2 => hg (by cases e; exact hb.trans e2))
  go_wp2_with fail
  go_loopw [3, 12] (fun v i wr => ∃ k : Nat, k ≤ 8 ∧ i = .int .i64 k ∧ v = .int .u64 (beN (l.take k) : Nat) ∧ Fr (fun _ => False) w2 wr) (fun _ i _ => 8 - (intOf i).toNat)
  case atStart => exact ⟨0, by omega, by simp, by simp [beN], Fr.refl _ w2⟩
  case round =>
    obtain ⟨k, hk, rfl, rfl, hF2⟩ := hrel
    by_cases hlt : k < 8
    · have hx : k < l.length := by omega
      have cx := hl2.fr hF2 (fun _ _ h => h)
      obtain ⟨g2, o3, e, hc⟩ := cx.resolve_left (fun e => by rw [e] at hx; simp at hx)
      obtain ⟨rfl, rfl⟩ : g = g2 ∧ off = o3 := by simpa using Option.some.inj e
      have k1 := hc k hx
      have hs := beN_step l k hx
      have hm := beN_small l k hlt
      generalize l[k] = y at k1 hs
      have b1 : (y.toNat : Int) < 256 := by have := y.toNat_lt; omega
      clear hc cx e
      go_wp2
      refine ⟨⟨k + 1, by omega, by go_num, by rw [beN_or _ y hm, hs], hF2⟩, ?_⟩
      simp [intOf]; omega
    · obtain rfl : k = 8 := by omega
      go_wp2
      go_ret
      exact ⟨rfl, o2, hr.fr hF2 (fun h => h) (fun _ _ h => h), hF.trans hF2 (fun i hi => hi.elim)⟩
end Go.Proofs.YtbpblheaiancaaaDoor
namespace Go.Proofs.YtbpblheaiancaaaDoor
open Go.RowKit
set_option linter.unusedVariables false

set_option maxRecDepth 100000 in
set_option maxHeartbeats 1600000 in
theorem stands_any (w : World) (hE : Env w) : Calls Tryd.prog 41 #[] w fun e w' => e = .returned (.bool true) ∧ Fr (fun _ => False) w w' := by
  have kc := fun (w : World) (C : Array Value) (n c : Nat) => Lib.run_convert_bytes_const (P := Tryd.prog) w 23 5 C n c Tryd.underlying23 Tryd.underlying5
  go_enter Tryd.func41, Tryd.ntmps41
  go_wp2_with fail
  refine (psum_any _ [[97, 98, 99]] 1 1 rfl _ ?hp (by unfold maxLen; omega) (by decide) ?he).mono ?_
  case he => exact hE.fr (((Fr.refl (fun _ => False) w).alloc _).alloc _) (fun h => h)
  case hp =>
    refine Or.inr ⟨w.heap.size + 1, 0, rfl, fun j hj => ?_⟩
    have h0 := heap_alloc2_old w (.cells #[.int .u8 97, .int .u8 98, .int .u8 99] 5 (3, 4)) (.cells #[.slice (some ⟨w.heap.size, 0, none⟩) 3 3] 23)
    have h1 := heap_alloc2_new w (.cells #[.int .u8 97, .int .u8 98, .int .u8 99] 5 (3, 4)) (.cells #[.slice (some ⟨w.heap.size, 0, none⟩) 3 3] 23)
    match j, hj with
    | 0, _ => exact ⟨some ⟨w.heap.size, 0, none⟩, 3, by rw [cell_of_block h1]; rfl, Or.inr ⟨_, 0, rfl, fun i hi => by
        match i, hi with
        | 0, _ => rw [cell_of_block h0]; rfl
        | 1, _ => rw [cell_of_block h0]; rfl
        | 2, _ => rw [cell_of_block h0]; rfl⟩, Nat.le_refl _, by unfold maxLen; omega⟩
  rintro e w1 ⟨rfl, F1⟩
  have hF1 : Fr (fun _ => False) w w1 := (((Fr.refl (fun _ => False) w).alloc _).alloc _).trans F1 (fun _ h => h.elim)
  rw [show ([[97, 98, 99]] : List (List UInt8)).flatten = [97, 98, 99] from rfl]
  have hone : (sumc [97, 98, 99]).all (·.oneCell') = true := sumv_one _
  have hsz : (ub 32 (fun _ => 0)).size = (sumc [97, 98, 99]).size := (ub_size _ _).trans (sumv_size _).symm
  have hnew := heap_alloc_new w1 (.cells (ub 32 (fun _ => 0)) 22)
  rw [← zero32] at hnew hsz
  go_wp2_with (with_reducible refine wpList_store_rowA rfl 22 (.tmp 1) (.tmp 5) rfl w1.heap.size (sumc [97, 98, 99]) rfl rfl 22 _ hnew Tryd.sizeC hsz hone ?k)
  case k =>
  intro w2 h2 hG2
  have c0 := cell_of_block h2 0
  have c31 := cell_of_block h2 31
  rw [sumc_get _ _ (by decide), S2.sum_abc] at c0 c31
  replace c0 : w2.cell? ⟨w1.heap.size, 0, none⟩ = some (.int .u8 186) := c0
  replace c31 : w2.cell? ⟨w1.heap.size, 31, none⟩ = some (.int .u8 173) := c31
  go_wp2
  go_ret
  exact ⟨rfl, (hF1.alloc _).trans hG2 (fun i hi => Or.inr (by have := hF1.size; omega))⟩

/-- The bytes of a number. -/
def nbs (u : Nat) : List UInt8 := (List.range 8).map fun j => UInt8.ofNat (u / 2 ^ (56 - 8 * j) % 256)
theorem nbs_length (u : Nat) : (nbs u).length = 8 := by simp [nbs]
theorem nbs_cells (z : Int) (u : Nat) (hu : IntKind.u64.wrap z = (u : Int)) : numCells z 8 = bv (nbs u) := by
  unfold numCells nbs bv numB
  rw [List.map_map, hu]
  refine List.map_congr_left fun j hj => ?_
  have e : ((u / 2 ^ (56 - 8 * j) % 256 : Nat) : Int) = (u : Int) / 2 ^ (56 - 8 * j) % 256 := by
    rw [Int.natCast_emod, Int.natCast_ediv, Int.natCast_pow]; rfl
  show Value.int .u8 ((u : Int) / 2 ^ (56 - 8 * j) % 256) = Value.int .u8 ((UInt8.ofNat (u / 2 ^ (56 - 8 * j) % 256)).toNat : Int)
  rw [UInt8.toNat_ofNat', show (u / 2 ^ (56 - 8 * j) % 256) % 2 ^ 8 = u / 2 ^ (56 - 8 * j) % 256 from Nat.mod_mod _ _, e]
theorem nbs_take (u : Nat) (h : u < 18446744073709551616) : ∀ k, k ≤ 8 → beN ((List.range k).map fun j => UInt8.ofNat (u / 2 ^ (56 - 8 * j) % 256)) = u / 2 ^ (64 - 8 * k)
  | 0, _ => by
    rw [Nat.div_eq_of_lt (by simpa using h)]; rfl
  | k + 1, hk => by
    rw [List.range_succ, List.map_append, List.map_singleton, beN_snoc, nbs_take u h k (by omega), UInt8.toNat_ofNat', Nat.mod_mod]
    rw [show 64 - 8 * k = (56 - 8 * k) + 8 by omega, show 64 - 8 * (k + 1) = 56 - 8 * k by omega, Nat.pow_add, ← Nat.div_div_eq_div_mul]
    generalize u / 2 ^ (56 - 8 * k) = d
    omega
theorem nbs_beN (u : Nat) (h : u < 18446744073709551616) : beN (nbs u) = u := by
  have := nbs_take u h 8 (by decide)
  rw [show 64 - 8 * 8 = 0 from rfl, Nat.pow_zero, Nat.div_one] at this
  exact this
theorem wrap_back (z : Int) (u : Nat) (hz : IntKind.i64.wrap z = z) (hu : IntKind.u64.wrap z = (u : Int)) : wrap64 (u : Int) = z := by
  rw [IntKind.wrap_u64] at hu
  rw [IntKind.wrap_i64] at hz
  unfold wrap64
  omega
end Go.Proofs.YtbpblheaiancaaaDoor
namespace Go.Proofs.YtbpblheaiancaaaDoor
open Go.RowKit
set_option linter.unusedVariables false
set_option linter.unusedSimpArgs false

theorem results_row_two {P : Program} {w : World} {fn : Func} {p q : Tmp} {ty ty2 : TypeId} (h : fn.results = #[.cell p ty, .cell q ty2]) (tmps : Array Value) (g g2 : Nat) (cs cs2 : Array Value) (T T2 : TypeId) (fr fr2 : Nat × Nat) (hp : tmps.getD p undef = .pointer (some ⟨g, 0, none⟩)) (hq : tmps.getD q undef = .pointer (some ⟨g2, 0, none⟩))
    (d d2 : TypeDesc) (hu : P.underlying ty = some d) (hd : (match d with | .struct _ | .array _ _ => true | _ => false) = true) (hty : (P.info? ty).map (·.size) = some cs.size) (hi : w.heap[g]? = some (.cells cs T fr))
    (hu2 : P.underlying ty2 = some d2) (hd2 : (match d2 with | .struct _ | .array _ _ => true | _ => false) = true) (hty2 : (P.info? ty2).map (·.size) = some cs2.size) (hj : w.heap[g2]? = some (.cells cs2 T2 fr2)) :
    (results fn tmps).run P w = .ok (.tuple #[.agg cs, .agg cs2]) w := by
  have hp' : tmps[p]?.getD undef = .pointer (some ⟨g, 0, none⟩) := by simpa using hp
  have hq' : tmps[q]?.getD undef = .pointer (some ⟨g2, 0, none⟩) := by simpa using hq
  simp [results, h, hp', hq', asAddr, run_loadVar_row w g T ty cs fr d hi hu hd hty, run_loadVar_row w g2 T2 ty2 cs2 fr2 d2 hj hu2 hd2 hty2]
set_option maxRecDepth 100000 in
set_option maxHeartbeats 16000000 in
theorem make_any (fo fi : Nat → UInt8) (z : Int) (u : Nat) (hu : IntKind.u64.wrap z = (u : Int)) (a : Option Addr) (n c : Nat) (v : List UInt8) (w : World) (hv : Came w a n c v) (hn : n ≤ 1000) (hE : Env w) (oo : Nat → UInt8) (hoo : sumc (HM.out ((List.range 32).map fo) (CM.mo ((List.range 32).map fi) u)) = ub 32 oo) :
    Calls Tryd.prog 11 #[.agg (ub 32 fo), .agg (ub 32 fi), .int .i64 z, .slice a n c] w fun e w' => e = .returned (.tuple #[.agg (sumc (HM.out ((List.range 32).map oo) (CM.mb ((List.range 32).map fi) u v))), .agg (ub 32 oo)]) ∧ Fr (fun _ => False) w w' := by
  obtain ⟨kl, hkl⟩ : ∃ kl, kl = (List.range 32).map fo := ⟨_, rfl⟩
  obtain ⟨il, hil⟩ : ∃ il, il = (List.range 32).map fi := ⟨_, rfl⟩
  have hbind := fun (W : World) (hv : Came W a n c v) (hE : Env W) => bind_any oo fi z u hu a n c v W hv hn hE
  generalize HM.out ((List.range 32).map oo) (CM.mb ((List.range 32).map fi) u v) = BB at *
  rw [← hkl, ← hil] at hoo
  obtain ⟨M, hM⟩ : ∃ M, M = CM.mo il u := ⟨_, rfl⟩
  rw [← hM] at hoo
  have hfl : [CM.opn, il, S2.be8 u].flatten = M := by rw [hM]; simp [CM.mo]
  have hl2 : [CM.opn, il, S2.be8 u].flatten.length ≤ 1000000000000000000 := by simp [S2.be8, hil, CM.opn]
  have HFL := Lib.hid hfl
  have HL2 := Lib.hid hl2
  have HKL := Lib.hid hkl
  have HIL := Lib.hid hil
  have HOO := Lib.hid hoo
  clear hfl hl2 hkl hil hM hoo
  go_enter Tryd.func11, Tryd.ntmps11
  go_upto_region 1 with fail
  rw [zero32]
  have E0 := ((((Fr.refl (fun _ => False) w).alloc (.cells (ub 32 fo) 22)).alloc (.cells (ub 32 fi) 22)).alloc (.cells (ub 32 (fun _ => 0)) 22)).alloc (.cells (ub 32 (fun _ => 0)) 22)
  have K0 := (Below.heap_alloc (((w.alloc (.cells (ub 32 fo) 22)).alloc (.cells (ub 32 fi) 22)).alloc (.cells (ub 32 (fun _ => 0)) 22)) (.cells (ub 32 (fun _ => 0)) 22) w.heap.size (by simp; omega)).trans (heap_three w (.cells (ub 32 fo) 22) (.cells (ub 32 fi) 22) (.cells (ub 32 (fun _ => 0)) 22))
  have I0 := (Below.heap_alloc (((w.alloc (.cells (ub 32 fo) 22)).alloc (.cells (ub 32 fi) 22)).alloc (.cells (ub 32 (fun _ => 0)) 22)) (.cells (ub 32 (fun _ => 0)) 22) (w.heap.size + 1) (by simp)).trans (heap_three1 w (.cells (ub 32 fo) 22) (.cells (ub 32 fi) 22) (.cells (ub 32 (fun _ => 0)) 22))
  have Q0 := (Below.heap_alloc (((w.alloc (.cells (ub 32 fo) 22)).alloc (.cells (ub 32 fi) 22)).alloc (.cells (ub 32 (fun _ => 0)) 22)) (.cells (ub 32 (fun _ => 0)) 22) (w.heap.size + 1 + 1) (by simp)).trans (heap_three2 w (.cells (ub 32 fo) 22) (.cells (ub 32 fi) 22) (.cells (ub 32 (fun _ => 0)) 22))
  have R0 := heap_alloc_at (((w.alloc (.cells (ub 32 fo) 22)).alloc (.cells (ub 32 fi) 22)).alloc (.cells (ub 32 (fun _ => 0)) 22)) (ub 32 (fun _ => 0)) 22 (w.heap.size + 1 + 1 + 1) (by simp)
  have zz : ((((w.alloc (.cells (ub 32 fo) 22)).alloc (.cells (ub 32 fi) 22)).alloc (.cells (ub 32 (fun _ => 0)) 22)).alloc (.cells (ub 32 (fun _ => 0)) 22)).heap.size = w.heap.size + 4 := by simp
  generalize ((((w.alloc (.cells (ub 32 fo) 22)).alloc (.cells (ub 32 fi) 22)).alloc (.cells (ub 32 (fun _ => 0)) 22)).alloc (.cells (ub 32 (fun _ => 0)) 22)) = w2 at E0 K0 I0 Q0 R0 zz ⊢
  have hE2 := hE.fr E0 (fun h => h)
  have hv2 := hv.grow E0 (fun _ _ h => h)
  have hks : ∀ W : World, Fr (fun _ => False) w2 W → Came W (some ⟨w.heap.size, 0, none⟩) 32 32 kl := fun W hF => came_blk ((hF.block _ (by omega) (fun h => h)).trans K0) (by rw [HKL.out]; exact ub_bv 32 fo) (by rw [HKL.out]; simp) (by omega)
  have his : ∀ W : World, Fr (fun _ => False) w2 W → Came W (some ⟨w.heap.size + 1, 0, none⟩) 32 32 il := fun W hF => came_blk ((hF.block _ (by omega) (fun h => h)).trans I0) (by rw [HIL.out]; exact ub_bv 32 fi) (by rw [HIL.out]; simp) (by omega)
  have HR0 := Lib.hid R0
  have HQ0 := Lib.hid Q0
  have HI0 := Lib.hid I0
  have HZ := Lib.hid zz
  have hz2 : w.heap.size + 4 ≤ w2.heap.size := by omega
  have hz3 : w2.heap.size ≤ w.heap.size + 4 := by omega
  clear R0 K0 I0 Q0 zz
  have HOf := Lib.hid (show ∀ (W : World) (b1 b3 bs : Nat), W.heap[bs]? = some (.cells #[.slice (some ⟨b1, 0, none⟩) 4 4, .slice (some ⟨w.heap.size + 1, 0, none⟩) 32 32, .slice (some ⟨b3, 0, none⟩) 8 8] 23 (0, 0)) → W.heap[b1]? = some (.cells #[.int .u8 111, .int .u8 112, .int .u8 101, .int .u8 110] 5 (4, 5)) → W.heap[b3]? = some (.cells (ub 8 (b8 u)) 5 (0, 0)) → Fr (fun _ => False) w2 W →
      Calls Tryd.prog 42 #[.slice (some ⟨w.heap.size, 0, none⟩) 32 32, .slice (some ⟨bs, 0, none⟩) 3 3] W fun e W' => e = .returned (.agg (ub 32 oo)) ∧ Fr (fun _ => False) w2 W' ∧ W'.heap[w.heap.size + 1 + 1 + 1]? = some (.cells (ub 32 (fun _ => 0)) 22 (0, 0)) from fun W b1 b3 bs hbs h1 h3 hF => by
    refine (hof_any _ _ kl 32 32 [CM.opn, il, S2.be8 u] 3 3 _ (hks _ hF) (by omega) (parts3 hbs (came_blk (l := CM.opn) h1 rfl rfl (by omega)) (his _ hF) (came_blk (n := 8) (cs := ub 8 (b8 u)) (t := 5) (fr := (0, 0)) h3 (ub_bv 8 (b8 u)) (by simp [S2.be8]) (by omega))) rfl (by unfold maxLen; omega) HL2.out (hE2.fr (S := fun _ => False) hF (fun h => h))).mono ?_
    rw [HFL.out, HOO.out]
    rintro e w6 ⟨rfl, F6⟩
    have G6 : Fr (fun _ => False) w2 w6 := hF.trans F6 (fun _ h => h.elim)
    exact ⟨rfl, G6, (G6.block (w.heap.size + 1 + 1 + 1) (by omega) (fun h => h)).trans HR0.out⟩)
  have HNU := Lib.hid (fun W : World => cnumber_any z u hu W)
  have HE0 := Lib.hid E0
  have HB := Lib.hid hbind
  have HE := Lib.hid hE
  have HV := Lib.hid hv
  clear hE hE2 hks his E0 hv hv2 hn hbind
  have kc1 := fun (V : World) => Lib.run_convert_bytes_const (P := Tryd.prog) V 23 5 #[.int .u8 111, .int .u8 112, .int .u8 101, .int .u8 110] 4 4 Tryd.underlying23 Tryd.underlying5
  have kc2 : ∀ V : World, (convert 23 23 (.slice (some ⟨V.heap.size, 0, none⟩) 4 4)).run Tryd.prog (V.alloc (.cells #[.int .u8 111, .int .u8 112, .int .u8 101, .int .u8 110] 5)).drew = .ok (.slice (some ⟨V.heap.size, 0, none⟩) 4 4) (V.alloc (.cells #[.int .u8 111, .int .u8 112, .int .u8 101, .int .u8 110] 5 (4, 5))).drew := fun V => kc1 V.drew
  go_cut [] from 10 to 17 (fun wx => wx.heap[w.heap.size + 1 + 1 + 1]? = some (.cells (ub 32 oo) 22 (0, 0)) ∧ wx.heap[w.heap.size + 1 + 1]? = some (.cells (ub 32 (fun _ => 0)) 22 (0, 0)) ∧ wx.heap[w.heap.size + 1]? = some (.cells (ub 32 fi) 22 (0, 0)) ∧ Fr (fun _ => False) w wx)
  case first =>
    go_region_with ((first
      | (go_at_call 45
         with_reducible refine (HNU.out _).mono ?_
         rintro e w5 ⟨rfl, h5, F5⟩
         have z5 := lt_of_block h5
         (try simp at z5)
         (try (obtain ⟨w12, hr12, h12, F12⟩ := run_conv_mark (W := w5) (b := w2.heap.size) (C := #[.int .u8 111, .int .u8 112, .int .u8 101, .int .u8 110]) ((F5.block _ (by simp) (fun h => h)).trans (heap_alloc_o _ _ _ rfl)) 4 4; have z12 := F12.size)))
      | (go_at_call 42
         with_reducible refine (HOf.out _ _ _ _ (heap_alloc_at _ _ _ _ ?_) ?_ ?_ ?_).mono ?_
         · first | rfl | simp
         · (repeat (first | exact h5 | exact h12 | (refine heap_alloc_o _ _ _ ?_; (focus (first | rfl | (simp; done) | omega))) | (simpa using h5) | (refine (Below.heap_alloc _ _ _ ?_).trans ?_; (focus (first | omega | (simp; done) | (simp <;> omega)))) | (refine (F12.block _ ?_ ?_).trans ?_; (focus (first | omega | (simp; done) | (simp <;> omega))); (focus (first | omega | (simp; done) | (simp <;> omega)))) | (refine (F5.block _ ?_ (fun h => h)).trans ?_; (focus (first | omega | (simp; done) | (simp <;> omega))))))
         · (repeat (first | exact h5 | exact h12 | (refine heap_alloc_o _ _ _ ?_; (focus (first | rfl | (simp; done) | omega))) | (simpa using h5) | (refine (Below.heap_alloc _ _ _ ?_).trans ?_; (focus (first | omega | (simp; done) | (simp <;> omega)))) | (refine (F12.block _ ?_ ?_).trans ?_; (focus (first | omega | (simp; done) | (simp <;> omega))); (focus (first | omega | (simp; done) | (simp <;> omega)))) | (refine (F5.block _ ?_ (fun h => h)).trans ?_; (focus (first | omega | (simp; done) | (simp <;> omega))))))
         · (repeat (first | (with_reducible exact Fr.refl _ _) | (with_reducible refine Fr.alloc ?_ _) | (with_reducible refine Fr.drew ?_) | (with_reducible refine Fr.trans ?_ F12 (fun i hi => Or.inr (by have hi : i = w2.heap.size := hi; omega))) | (with_reducible refine Fr.trans ?_ F5 (fun _ h => h.elim))))
         rintro e w6 ⟨rfl, G6, B6⟩
         have hst := run_store32o (f := oo) B6 (ub_size _ _)
         have HB6 := Lib.hid B6
         clear B6)))
    all_goals
      have B6 := HB6.out
      go_wp2_with fail
      go_meet
      exact ⟨setRow_heap _ _ _ _ _ _ B6, (setRow_other _ _ _ _ (by omega)).trans ((G6.block _ (by omega) (fun h => h)).trans HQ0.out), (setRow_other _ _ _ _ (by omega)).trans ((G6.block _ (by omega) (fun h => h)).trans HI0.out), (HE0.out.trans G6 (fun _ h => h.elim)).trans (Fr.setRow (S := fun k => k = w.heap.size + 1 + 1 + 1) (Fr.refl _ _) rfl _) (fun i hi => Or.inr (by omega))⟩
  case rest =>
    obtain ⟨B9, B8, B5, F7⟩ := hcut
    clear HOf HNU kc1 kc2 HE0 HR0 HQ0 HI0
    have HB7 := Lib.hid (show ∀ W : World, Fr (fun _ => False) wc W → Calls Tryd.prog 46 #[.agg (ub 32 oo), .agg (ub 32 fi), .int .i64 z, .slice a n c] W fun e w' => e = .returned (.agg (sumc BB)) ∧ Fr (fun _ => False) W w' from fun W hF => by
      have G := F7.trans hF (fun _ h => h.elim)
      refine (HB.out W (HV.out.grow G (fun _ _ h => h)) (HE.out.fr G (fun h => h))).mono ?_
      rintro e w' ⟨rfl, F⟩
      exact ⟨rfl, F⟩)
    have hn9 : ¬ (w.heap.size + 1 + 1 + 1 = w.heap.size + 1 + 1) := by omega
    have hn5 : ¬ (w.heap.size + 1 = w.heap.size + 1 + 1) := by omega
    go_wp2_with fail
    refine Ks.wp_region_mono (fun k => k = w.heap.size + 1 + 1) (sg 0 4 ++ (sg 5 1 ++ ((4, true) :: (6, true) :: (7, true) :: []))) (by kernel_rfl) (by kernel_rfl) ?_
    refine Ks.Wk.seg 0 4 (by kernel_rfl) (by kernel_rfl) ?_
    apply Exists.intro
    refine ⟨?wk0, ?fin0⟩
    case wk0 =>
      intro γ
      simp only [List.drop_succ_cons, List.drop_zero, List.take_succ_cons, List.take_zero]
      repeat (any_goals (first | (focus (go_big_quiet_want; (first | (refine' Ks.quiet_load_rows 22 (.tmp 9) rfl (w.heap.size + 1 + 1 + 1) rfl _ _ _ _ B9 hn9 Tryd.underlying22 rfl (by rw [ub_size]; exact Tryd.szBa) _) | (refine' Ks.quiet_load_rows 22 (.tmp 5) rfl (w.heap.size + 1) rfl _ _ _ _ B5 hn5 Tryd.underlying22 rfl (by rw [ub_size]; exact Tryd.szBa) _)); simp only [Act.put, List.setIfInBounds_toArray, List.set_cons_zero, List.set_cons_succ]; go_big_quiet_on)) | go_big_quiet_step (fail) | quiet_step (fail)))
      exact wpQuiet_nil rfl
    case fin0 =>
    (try simp only [Act.put, List.setIfInBounds_toArray, List.set_cons_zero, List.set_cons_succ])
    refine Ks.Wk.seg 5 1 (by kernel_rfl) (by kernel_rfl) ?_
    apply Exists.intro
    refine ⟨?wk5, ?fin5⟩
    case wk5 =>
      intro γ
      simp only [List.drop_succ_cons, List.drop_zero, List.take_succ_cons, List.take_zero]
      repeat (any_goals (first | (focus (go_big_quiet_want; (first | (refine' Ks.quiet_load_rows 22 (.tmp 9) rfl (w.heap.size + 1 + 1 + 1) rfl _ _ _ _ B9 hn9 Tryd.underlying22 rfl (by rw [ub_size]; exact Tryd.szBa) _) | (refine' Ks.quiet_load_rows 22 (.tmp 5) rfl (w.heap.size + 1) rfl _ _ _ _ B5 hn5 Tryd.underlying22 rfl (by rw [ub_size]; exact Tryd.szBa) _)); simp only [Act.put, List.setIfInBounds_toArray, List.set_cons_zero, List.set_cons_succ]; go_big_quiet_on)) | go_big_quiet_step (fail) | quiet_step (fail)))
      exact wpQuiet_nil rfl
    case fin5 =>
    (try simp only [Act.put, List.setIfInBounds_toArray, List.set_cons_zero, List.set_cons_succ])
    refine Ks.Wk.call rfl rfl 46 #[.agg (ub 32 oo), .agg (ub 32 fi), .int .i64 z, .slice a n c] (fun W => by kernel_rfl) (fun v W => v = .agg (sumc BB)) (fun W hx => (HB7.out W hx).mono ?_) ?_
    · rintro e W' ⟨rfl, F⟩
      exact ⟨_, rfl, F, rfl⟩
    rintro v w8 X8 rfl
    simp only [List.getElem_toArray, List.getElem_cons_succ, List.getElem_cons_zero, Act.put, List.setIfInBounds_toArray, List.set_cons_zero, List.set_cons_succ]
    have C8 := (X8.block _ (lt_of_block B8) (fun h => h)).trans B8
    have C9 := (X8.block _ (lt_of_block B9) (fun h => h)).trans B9
    have G8 := Ex.tr F7 X8
    refine Ks.Wk.one rfl (fun w9 X9 => ?_)
    have D8 := (X9.block _ (lt_of_block C8) (fun h => h)).trans C8
    have D9 := (X9.block _ (lt_of_block C9) (fun h => h)).trans C9
    refine wpList_store_rowA rfl 22 (.tmp 8) (.tmp 22) rfl (w.heap.size + 1 + 1) (sumc BB) rfl rfl 22 _ D8 Tryd.sizeC ((ub_size _ _).trans (sumv_size _).symm) (sumv_one _) (fun wa Ba Ga => ⟨rfl, Ga, ?_⟩)
    simp only [Act.put, List.setIfInBounds_toArray, List.set_cons_zero, List.set_cons_succ]
    have E9 := (Ga.block _ (lt_of_block D9) hn9).trans D9
    refine Ks.Wk.one rfl (fun wb Xb => ?_)
    have B2 := (Xb.block _ (lt_of_block Ba) (fun h => h)).trans Ba
    have E2 := (Xb.block _ (lt_of_block E9) (fun h => h)).trans E9
    refine wpList_store_rowA rfl 22 (.tmp 9) (.tmp 23) rfl (w.heap.size + 1 + 1 + 1) (ub 32 oo) rfl rfl 22 _ E2 (by rw [ub_size]; exact Tryd.szBa) rfl (ub_one _ _) (fun wd Bd Gd' => ⟨rfl, ⟨Gd'.os, Gd'.tape, Gd'.output, Gd'.size, fun k hk hS => ?_⟩, ?_⟩)
    · by_cases e : k = w.heap.size + 1 + 1 + 1
      · rw [e, Bd, E2]
      · exact Gd'.block k hk e
    simp only [Act.put, List.setIfInBounds_toArray, List.set_cons_zero, List.set_cons_succ]
    have Be := (Gd'.block _ (lt_of_block B2) (by omega)).trans B2
    intro wf Xf
    have Hb := (Xf.block _ (lt_of_block Be) (fun h => h)).trans Be
    have Ho := (Xf.block _ (lt_of_block Bd) (fun h => h)).trans Bd
    have Fl : Fr (fun _ => False) w wf := ((((G8.trans X9 (fun _ h => h.elim)).trans Ga (fun i hi => Or.inr (by have hi : i = w.heap.size + 1 + 1 := hi; omega))).trans Xb (fun _ h => h.elim)).trans Gd' (fun i hi => Or.inr (by have hi : i = w.heap.size + 1 + 1 + 1 := hi; omega))).trans Xf (fun _ h => h.elim)
    clear C8 C9 D8 D9 E9 E2 B2 Ba Bd Be Ga Gd' Xb Xf X9 X8 G8 B9 B8 B5 HB7
    go_wp2_with fail
    refine bodyPost_ret (results_row_two rfl _ _ _ _ _ _ _ _ _ rfl rfl _ _ Tryd.underlying22 rfl Tryd.sizeC Hb Tryd.underlying22 rfl (by rw [ub_size]; exact Tryd.szBa) Ho) rfl ?_
    exact ⟨rfl, Fl⟩
end Go.Proofs.YtbpblheaiancaaaDoor

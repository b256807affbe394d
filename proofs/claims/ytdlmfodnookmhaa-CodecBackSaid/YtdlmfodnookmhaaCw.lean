/-
  The contracts of codec's Writer, one a method: what is written stands behind what was there, and nothing else turns.
-/
import Derived.Test.YtdlmfodnookmhaaBy
namespace Go.Proofs.Ytdlmfodnookmhaa
open Go.RowKit
set_option linter.unusedVariables false

/-- A Writer's block, and the row of its bytes. -/
structure Wr (w : World) (bw B : Nat) (v : Value) (xs : List Value) (er : Int) : Prop where
  blk : w.heap[bw]? = some (.cells #[v, .int .i64 er] 31 (0, 0))
  own : w.ownsRow B 5 1 v xs.length xs
  le : B ≤ w.heap.size

theorem slice_of_own {w : World} {B e size n : Nat} {v : Value} {xs : List Value} (h : w.ownsRow B e size v n xs) : ∃ a c, v = .slice a n c ∧ (a = none → n = 0) := by
  rcases h.2 with ⟨rfl, rfl⟩ | ⟨g, cap, cur, rfl, _⟩
  · exact ⟨none, 0, rfl, fun _ => rfl⟩
  · exact ⟨_, cap, rfl, fun h => by cases h⟩
theorem Wr.ne {w : World} {bw B : Nat} {v : Value} {xs : List Value} {er : Int} (h : Wr w bw B v xs er) : v.ownBlock ≠ some bw := by
  intro e
  rcases h.own.2 with ⟨rfl, _⟩ | ⟨g, cap, cur, rfl, _, hg, _⟩
  · cases e
  · obtain rfl : g = bw := by simpa [Value.ownBlock] using e
    rw [h.blk] at hg; simp at hg

/-- What one more part does. -/
def Added (w w2 : World) (bw B : Nat) (v : Value) (xs news : List Value) (er : Int) : Prop :=
  ∃ v2, Wr w2 bw B v2 (xs ++ news) er ∧ Fr (fun k => k = bw ∨ v.ownBlock = some k) w w2 ∧ (v2.ownBlock = v.ownBlock ∨ ∀ k, v2.ownBlock = some k → w.heap.size ≤ k)

set_option maxHeartbeats 800000 in
theorem add_any (bw B : Nat) (v : Value) (er : Int) (m : Nat) (xs news : List Value) (x : Value) (w : World) (h : Wr w bw B v xs er)
    (hsrc : Src Try.prog 1 26 x m news w) (hlen : xs.length + m ≤ 140737488355328) :
    Calls Try.prog 17 #[.pointer (some ⟨bw, 0, none⟩), x] w fun e w' => e = .returned (.tuple #[]) ∧ Added w w' bw B v xs news er := by
  obtain ⟨i0, hi, hz0, hz1, hz2⟩ := info_parts Try.infoB
  obtain ⟨a0, c0, hv, _⟩ := slice_of_own h.own
  subst hv
  have hc0 := cell_of_block h.blk 0
  have hc1 := cell_of_block h.blk 1
  have hf0 := free_of_block h.blk 0
  simp at hc0 hc1
  go_enter Try.func17, Try.ntmps17
  go_wp2_with (at_builtin; refine wpList_app _ rfl (.tmp 10) (.tmp 11) 26 26 rfl B 5 i0 (.int .u8 0) 1 1 Try.underlying26 hi hz0 hz1 hz2 rfl (by decide) _ xs.length xs rfl h.own x rfl m news hsrc (by unfold maxLen; omega) (by omega) h.le ?k)
  case k =>
  intro v2 w2 hown hgrow hrow
  obtain ⟨a2, c2, rfl, _⟩ := slice_of_own hown
  have hF : Fr (fun k => (Value.slice a0 xs.length c0).ownBlock = some k) w w2 := Fr.ofGrown hgrow
  have hblk : w2.heap[bw]? = some (.cells #[.slice a0 xs.length c0, .int .i64 er] 31 (0, 0)) := (hF.block bw (lt_of_block h.blk) h.ne).trans h.blk
  have hd0 := cell_of_block hblk 0
  have hd1 := cell_of_block hblk 1
  have hdf := free_of_block hblk 0
  simp at hd0 hd1
  have hne2 : (Value.slice a2 (xs.length + m) c2).ownBlock ≠ some bw := by
    rcases hrow with e | e
    · rw [e]; exact h.ne
    · rw [e]; intro e2; have := lt_of_block h.blk; simp at e2; omega
  go_wp2
  go_end0
  refine ⟨rfl, .slice a2 (xs.length + m) c2, ⟨by simpa using block_setCell hblk 0 (.slice a2 (xs.length + m) c2), ?_, ?_⟩, ?_, ?_⟩
  · have := ownsRow_setCell_other hown (a := ⟨bw, 0, none⟩) hne2 (.slice a2 (xs.length + m) c2)
    rw [show (xs ++ news).length = xs.length + m by rw [List.length_append, hsrc.newsLen, Nat.mul_one]]
    exact this
  · have := h.le; have := hF.size; simp [World.setCell]; omega
  · exact (hF.mono (T := fun k => k = bw ∨ (Value.slice a0 xs.length c0).ownBlock = some k) (fun i _ hi => Or.inr hi)).setCell (Or.inl (Or.inl rfl)) _
  · rcases hrow with e | e
    · exact Or.inl e
    · exact Or.inr fun k hk => by rw [e] at hk; simp at hk; omega

theorem Wr.alloc {w : World} {bw B : Nat} {v : Value} {xs : List Value} {er : Int} (h : Wr w bw B v xs er) (o : Obj) : Wr (w.alloc o) bw B v xs er :=
  ⟨(Below.heap_alloc w o bw (lt_of_block h.blk)).trans h.blk, h.own.alloc o, by have := h.le; simp; omega⟩
theorem Wr.fr {w w2 : World} {bw B : Nat} {v : Value} {xs : List Value} {er : Int} {S : Nat → Prop} (h : Wr w bw B v xs er) (hF : Fr S w w2) (h1 : ¬ S bw) (h2 : ∀ k, v.ownBlock = some k → ¬ S k) : Wr w2 bw B v xs er :=
  ⟨(hF.block bw (lt_of_block h.blk) h1).trans h.blk, hF.own h.own h2, Nat.le_trans h.le hF.size⟩
theorem Wr.row_lt {w : World} {bw B : Nat} {v : Value} {xs : List Value} {er : Int} (h : Wr w bw B v xs er) : ∀ k, v.ownBlock = some k → B ≤ k ∧ k < w.heap.size := h.own.lt
/-- A part behind a new block, and a part behind a part. -/
theorem Added.behind {w w2 : World} {bw B : Nat} {v : Value} {xs news : List Value} {er : Int} {o : Obj} (h : Added (w.alloc o) w2 bw B v xs news er) : Added w w2 bw B v xs news er := by
  obtain ⟨v2, h1, h2, h3⟩ := h
  refine ⟨v2, h1, ((Fr.refl _ w).alloc o).trans h2 (fun i hi => Or.inl hi), h3.imp_right fun h k hk => ?_⟩
  have := h k hk; simp at this; omega
theorem Added.then {w w2 w3 : World} {bw B : Nat} {v v2 : Value} {xs a b : List Value} {er : Int} (h1 : Wr w2 bw B v2 (xs ++ a) er) (h2 : Fr (fun k => k = bw ∨ v.ownBlock = some k) w w2)
    (h3 : v2.ownBlock = v.ownBlock ∨ ∀ k, v2.ownBlock = some k → w.heap.size ≤ k) (k : Added w2 w3 bw B v2 (xs ++ a) b er) : Added w w3 bw B v xs (a ++ b) er := by
  obtain ⟨v3, k1, k2, k3⟩ := k
  refine ⟨v3, by rw [← List.append_assoc]; exact k1, h2.trans k2 ?_, ?_⟩
  · intro i hi
    rcases hi with rfl | hi
    · exact Or.inl (Or.inl rfl)
    · rcases h3 with e | e
      · exact Or.inl (Or.inr (e ▸ hi))
      · exact Or.inr (e i hi)
  · rcases k3 with e | e
    · rw [e]; exact h3
    · exact Or.inr fun i hi => Nat.le_trans h2.size (e i hi)

set_option maxHeartbeats 400000 in
theorem refuse_any (bw B : Nat) (v : Value) (er : Int) (xs : List Value) (w : World) (h : Wr w bw B v xs er) :
    Calls Try.prog 16 #[.pointer (some ⟨bw, 0, none⟩)] w fun e w' => e = .returned (.tuple #[]) ∧ Wr w' bw B v xs 5 ∧ Fr (fun k => k = bw) w w' := by
  have hc1 := cell_of_block h.blk 1
  have hf1 := free_of_block h.blk 1
  simp at hc1
  go_enter Try.func16, Try.ntmps16
  go_wp2
  go_end0
  refine ⟨rfl, ⟨by simpa using block_setCell h.blk 1 (.int .i64 5), ownsRow_setCell_other h.own (a := ⟨bw, 1, none⟩) h.ne _, by have := h.le; simp [World.setCell]; omega⟩, (Fr.refl (fun k => k = bw) _).setCell (Or.inl rfl) _⟩

set_option maxHeartbeats 400000 in
theorem byte_ok (bw B : Nat) (v : Value) (er n : Int) (xs : List Value) (w : World) (h : Wr w bw B v xs er) (h0 : 0 ≤ n) (h1 : n ≤ 255) (hlen : xs.length + 1 ≤ 140737488355328) :
    Calls Try.prog 5 #[.pointer (some ⟨bw, 0, none⟩), .int .i64 n] w fun e w' => e = .returned (.tuple #[]) ∧ Added w w' bw B v xs [.int .u8 n] er := by
  go_enter Try.func5, Try.ntmps5
  go_wp2_with fail
  refine (add_any bw B v er 1 xs [.int .u8 n] _ _ (h.alloc _) ?src hlen).mono ?_
  case src => exact src_block (cs := #[.int .u8 n]) (heap_alloc_new w _) (by simp [Value.oneCell']) 1
  rintro e w' ⟨rfl, ha⟩
  go_wp2
  go_end0
  exact ⟨rfl, ha.behind⟩

set_option maxHeartbeats 400000 in
theorem byte_bad (bw B : Nat) (v : Value) (er n : Int) (xs : List Value) (w : World) (h : Wr w bw B v xs er) (h0 : n < 0 ∨ 255 < n) :
    Calls Try.prog 5 #[.pointer (some ⟨bw, 0, none⟩), .int .i64 n] w fun e w' => e = .returned (.tuple #[]) ∧ Wr w' bw B v xs 5 ∧ Fr (fun k => k = bw) w w' := by
  rcases h0 with h0 | h0
  · go_enter Try.func5, Try.ntmps5
    go_wp2_with fail
    refine (refuse_any bw B v er xs _ h).mono ?_
    rintro e w' ⟨rfl, ha⟩
    go_wp2
    refine bodyPost_ret (results_none rfl _ _ _) rfl ?_
    exact ⟨rfl, ha⟩
  · have h2 : ¬ n < 0 := by omega
    go_enter Try.func5, Try.ntmps5
    go_wp2_with fail
    refine (refuse_any bw B v er xs _ h).mono ?_
    rintro e w' ⟨rfl, ha⟩
    go_wp2
    refine bodyPost_ret (results_none rfl _ _ _) rfl ?_
    exact ⟨rfl, ha⟩

set_option maxHeartbeats 400000 in
theorem text_ok (bw B : Nat) (v : Value) (er : Int) (m cp : Nat) (a : Option Addr) (xs news : List Value) (w : World) (h : Wr w bw B v xs er)
    (hsrc : ∀ w2 : World, Fr (fun k => k = bw ∨ v.ownBlock = some k) w w2 → Src Try.prog 1 26 (.slice a m cp) m news w2) (hm : m ≤ 65535) (hlen : xs.length + 2 + m ≤ 140737488355328) :
    Calls Try.prog 6 #[.pointer (some ⟨bw, 0, none⟩), .slice a m cp] w fun e w' => e = .returned (.tuple #[]) ∧ Added w w' bw B v xs ([.int .u8 (m / 256), .int .u8 (m % 256)] ++ news) er := by
  have e1 : (m : Int) >>> 8 = m / 256 := by rw [Int.shiftRight_eq_div_pow]; rfl
  go_enter Try.func6, Try.ntmps6
  go_wp2_with fail
  refine (add_any bw B v er 2 xs [.int .u8 (m / 256), .int .u8 (m % 256)] _ _ (h.alloc _) (src_block (cs := #[.int .u8 (m / 256), .int .u8 (m % 256)]) (heap_alloc_new w _) (by simp [Value.oneCell']) 2) (by omega)).mono ?_
  rintro e w1 ⟨rfl, ha⟩
  have hb := ha.behind
  clear ha
  obtain ⟨v2, q1, q2, q3⟩ := hb
  have hs1 := hsrc w1 q2
  go_wp2_with fail
  refine (add_any bw B v2 er m _ news _ _ q1 hs1 (by simp; omega)).mono ?_
  rintro e w3 ⟨rfl, ha⟩
  go_wp2
  go_end0
  exact ⟨rfl, Added.then q1 q2 q3 ha⟩

set_option maxHeartbeats 400000 in
theorem text_bad (bw B : Nat) (v : Value) (er : Int) (m cp : Nat) (a : Option Addr) (xs : List Value) (w : World) (h : Wr w bw B v xs er) (hm : 65535 < m) (hm2 : m ≤ maxLen) :
    Calls Try.prog 6 #[.pointer (some ⟨bw, 0, none⟩), .slice a m cp] w fun e w' => e = .returned (.tuple #[]) ∧ Wr w' bw B v xs 5 ∧ Fr (fun k => k = bw) w w' := by
  unfold maxLen at hm2
  go_enter Try.func6, Try.ntmps6
  go_wp2_with fail
  refine (refuse_any bw B v er xs _ h).mono ?_
  rintro e w' ⟨rfl, ha⟩
  go_wp2
  refine bodyPost_ret (results_none rfl _ _ _) rfl ?_
  exact ⟨rfl, ha⟩

set_option maxHeartbeats 400000 in
theorem flag_any (bw B : Nat) (v : Value) (er : Int) (b : Bool) (xs : List Value) (w : World) (h : Wr w bw B v xs er) (hlen : xs.length + 1 ≤ 140737488355328) :
    Calls Try.prog 19 #[.pointer (some ⟨bw, 0, none⟩), .bool b] w fun e w' => e = .returned (.tuple #[]) ∧ Added w w' bw B v xs [.int .u8 (if b then 1 else 0)] er := by
  cases b
  all_goals
    go_enter Try.func19, Try.ntmps19
    go_wp2_with fail
  · refine (add_any bw B v er 1 xs [.int .u8 0] _ _ (h.alloc _) (src_block (cs := #[.int .u8 0]) (heap_alloc_new w _) (by simp [Value.oneCell']) 1) hlen).mono ?_
    rintro e w' ⟨rfl, ha⟩
    go_wp2
    go_end0
    exact ⟨rfl, ha.behind⟩
  · refine (add_any bw B v er 1 xs [.int .u8 1] _ _ (h.alloc _) (src_block (cs := #[.int .u8 1]) (heap_alloc_new w _) (by simp [Value.oneCell']) 1) hlen).mono ?_
    rintro e w' ⟨rfl, ha⟩
    go_wp2
    go_end0
    exact ⟨rfl, ha.behind⟩


/-- The highest k of the eight bytes of a number. -/
def numB (n : Int) (j : Nat) : Int := IntKind.u64.wrap n / 2 ^ (56 - 8 * j) % 256
def numCells (n : Int) (k : Nat) : List Value := (List.range k).map fun j => Value.int .u8 (numB n j)
theorem numCells_succ (n : Int) (k : Nat) : numCells n (k + 1) = numCells n k ++ [Value.int .u8 (numB n k)] := by simp [numCells, List.range_succ]
theorem numCells_length (n : Int) (k : Nat) : (numCells n k).length = k := by simp [numCells]

set_option maxHeartbeats 400000 in
theorem num_any (bw B : Nat) (v : Value) (er n : Int) (xs : List Value) (w : World) (h : Wr w bw B v xs er) (hlen : xs.length + 8 ≤ 140737488355328) :
    Calls Try.prog 20 #[.pointer (some ⟨bw, 0, none⟩), .int .i64 n] w fun e w' => e = .returned (.tuple #[]) ∧ Added w w' bw B v xs (numCells n 8) er := by
  go_enter Try.func20, Try.ntmps20
  go_wp2_with fail
  go_loopw [4] (fun i wr => ∃ k : Nat, k ≤ 8 ∧ i = .int .i64 (56 - 8 * k) ∧ Added w wr bw B v xs (numCells n k) er) (fun i _ => (intOf i + 8).toNat)
  case atStart => exact ⟨0, by omega, by simp, v, by simpa [numCells] using h, Fr.refl _ _, Or.inl rfl⟩
  case round =>
    obtain ⟨k, hk, rfl, hadd⟩ := hrel
    obtain ⟨v2, q1, q2, q3⟩ := hadd
    by_cases hlt : k < 8
    · have hd : decide ((0 : Int) ≤ 56 - 8 * (k : Int)) = true := by simp; omega
      go_wp2_with fail
      refine (add_any bw B v2 er 1 _ [.int .u8 (numB n k)] _ _ (q1.alloc _) (src_block (cs := #[.int .u8 (numB n k)]) (heap_alloc_new wr _) (by simp [Value.oneCell']) 1) (by simp [numCells_length]; omega)).mono ?_
      rintro e w3 ⟨rfl, ha⟩
      have hadd := Added.then q1 q2 q3 ha.behind
      rw [← numCells_succ] at hadd
      clear ha q1 q2 q3
      go_wp2
      go_roundw
      case rel => exact ⟨k + 1, by omega, by go_num, hadd⟩
      case measure => simp [intOf]; omega
    · have hd : decide ((0 : Int) ≤ 56 - 8 * (k : Int)) = false := by simp; omega
      obtain rfl : k = 8 := by omega
      go_wp2
      go_end0
      exact ⟨rfl, v2, q1, q2, q3⟩

set_option maxHeartbeats 400000 in
theorem sum_any (bw B : Nat) (v : Value) (er : Int) (cs : Array Value) (xs : List Value) (w : World) (h : Wr w bw B v xs er) (hc : cs.size = 32) (h1 : ∀ u ∈ cs.toList, u.oneCell' = true) (hlen : xs.length + 32 ≤ 140737488355328) :
    Calls Try.prog 21 #[.pointer (some ⟨bw, 0, none⟩), .agg cs] w fun e w' => e = .returned (.tuple #[]) ∧ Added w w' bw B v xs cs.toList er := by
  go_enter Try.func21, Try.ntmps21
  go_wp2_with fail
  refine (add_any bw B v er 32 xs cs.toList _ _ (h.alloc _) (by have := src_block (w := w.alloc (.cells cs 32)) (cs := cs) (heap_alloc_new w _) h1 32; rw [hc] at this; exact this) hlen).mono ?_
  rintro e w' ⟨rfl, ha⟩
  go_wp2
  go_end0
  exact ⟨rfl, ha.behind⟩

theorem slice_of_own_some {w : World} {B e size n : Nat} {v : Value} {xs : List Value} {g : Nat} (h : w.ownsRow B e size v n xs) (hg : v.ownBlock = some g) : ∃ c, v = .slice (some ⟨g, 0, none⟩) n c := by
  rcases h.2 with ⟨rfl, rfl⟩ | ⟨g2, cap, cur, rfl, _⟩
  · cases hg
  · obtain rfl : g2 = g := by simpa [Value.ownBlock] using hg
    exact ⟨cap, rfl⟩

set_option maxHeartbeats 400000 in
theorem clone_some (a : Addr) (m cp : Nat) (news : List Value) (w : World) (hsrc : ∀ w2 : World, Fr (fun _ => False) w w2 → Src Try.prog 1 26 (.slice (some a) m cp) m news w2) (hm : m ≤ 140737488355328) :
    Calls Try.prog 18 #[.slice (some a) m cp] w fun e w' => ∃ g c, e = .returned (.slice (some ⟨g, 0, none⟩) m c) ∧ w'.ownsRow w.heap.size 5 1 (.slice (some ⟨g, 0, none⟩) m c) m news ∧ Fr (fun _ => False) w w' := by
  obtain ⟨i0, hi, hz0, hz1, hz2⟩ := info_parts Try.infoB
  have hnil := fun (W : World) => Lib.run_eql_slice_nil (P := Try.prog) W 26 5 (some a) m cp 0 0 Try.underlying26
  go_enter Try.func18, Try.ntmps18
  go_wp2_with (at_builtin; refine wpList_app _ rfl (.tmp 5) (.tmp 6) 26 26 rfl w.heap.size 5 i0 (.int .u8 0) 1 1 Try.underlying26 hi hz0 hz1 hz2 rfl (by decide) _ 0 [] rfl (World.ownsRow_made w #[] 0 (Nat.le_refl _) (by unfold maxLen; omega) rfl) _ rfl m news (hsrc _ ((Fr.refl (fun _ => False) w).alloc _)) (by unfold maxLen; omega) (by omega) (by simp) ?k)
  case k =>
  intro v2 w2 hown hgrow hrow
  obtain ⟨g, hg⟩ : ∃ g, v2.ownBlock = some g := by
    rcases hrow with e | e
    · exact ⟨_, e.trans rfl⟩
    · exact ⟨_, e⟩
  obtain ⟨c, rfl⟩ := slice_of_own_some hown hg
  have hF : Fr (fun _ => False) w w2 := ((Fr.refl _ w).alloc _).trans (Fr.ofGrown hgrow) (fun i hi => Or.inr (by simp [Value.ownBlock] at hi; omega))
  go_wp2
  go_ret
  exact ⟨g, c, by simp, by simpa using hown, hF⟩

set_option maxHeartbeats 400000 in
theorem clone_nil (w : World) : Calls Try.prog 18 #[.slice none 0 0] w fun e w' => e = .returned (.slice none 0 0) ∧ w = w' := by
  go_enter Try.func18, Try.ntmps18
  have hnil := fun (W : World) => Lib.run_eql_slice_nil (P := Try.prog) W 26 5 none 0 0 0 0 Try.underlying26
  go_wp2
  go_ret
  exact ⟨rfl, rfl⟩

set_option maxHeartbeats 800000 in
theorem bytes_any (bw B : Nat) (v : Value) (er : Int) (xs : List Value) (w : World) (h : Wr w bw B v xs er) (h1 : ∀ u ∈ xs, u.oneCell' = true) (hlen : xs.length ≤ 140737488355328) :
    Calls Try.prog 7 #[.pointer (some ⟨bw, 0, none⟩)] w fun e w' => ∃ v2, e = .returned (.tuple #[v2, .int .i64 er]) ∧ w'.ownsRow w.heap.size 5 1 v2 xs.length xs ∧ Fr (fun _ => False) w w' := by
  have hc0 := cell_of_block h.blk 0
  have hc1 := cell_of_block h.blk 1
  simp at hc0 hc1
  have hlt := lt_of_block h.blk
  rcases h.own.2 with ⟨rfl, h0⟩ | ⟨g, cap, cur, rfl, _⟩
  · have hx : xs = [] := List.eq_nil_of_length_eq_zero h0
    subst hx
    clear h0
    go_enter Try.func7, Try.ntmps7
    go_wp2_with fail
    go_region_held3 (fun w' => w'.cell? ⟨bw, 0, none⟩ = some (.slice none 0 0) ∧ w'.cell? ⟨bw, 1, none⟩ = some (.int .i64 er)) (go_keep) ((refine (clone_nil _).mono ?_; rintro e w1 ⟨rfl, rfl⟩))
    go_wp2
    go_ret2
    exact ⟨_, rfl, World.ownsRow_nil _ _ _ _, (Fr.refl _ w).drew⟩
  · have hs : ∀ w2 : World, Fr (fun _ => False) w w2 → Src Try.prog 1 26 (.slice (some ⟨g, 0, none⟩) xs.length cap) xs.length xs w2 := fun w2 hF => src_own (hF.own h.own (fun _ _ h => h)) h1
    go_enter Try.func7, Try.ntmps7
    go_wp2_with fail
    go_region_held3 (fun w' => w'.cell? ⟨bw, 0, none⟩ = some (.slice (some ⟨g, 0, none⟩) xs.length cap) ∧ w'.cell? ⟨bw, 1, none⟩ = some (.int .i64 er))
      (first | go_keep | (exact ⟨(hF.cellSome (fun h => h) (by assumption)), (hF.cellSome (fun h => h) (by assumption))⟩))
      ((refine (clone_some ⟨g, 0, none⟩ xs.length cap xs _ (fun w2 hF => hs w2 ((Fr.refl _ w).drew.trans hF (fun i hi => Or.inl hi))) hlen).mono ?_; rintro e w1 ⟨g2, c2, rfl, hown, hF⟩))
    go_wp2
    go_ret2
    exact ⟨_, rfl, by simpa using hown, (Fr.refl _ w).drew.trans hF (fun i hi => Or.inl hi)⟩
end Go.Proofs.Ytdlmfodnookmhaa


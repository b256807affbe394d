/-
  The document's log: half, node, Sum.
  The law's log: its filling.
  The law's log: its filling, whole.
  The law's log: what it always says.
-/
import Derived.Test.YtjndkjgbplpfeaaDoorQLd
import Derived.Test.YtjndkjgbplpfeaaDoorQLc
namespace Go.Proofs.YtjndkjgbplpfeaaDoor
open Go.RowKit
set_option linter.unusedVariables false
set_option linter.unusedSimpArgs false
/-- A string's value. -/
def str (l : List UInt8) : Value := .string ⟨l.toArray⟩
set_option maxRecDepth 100000 in
theorem str_cells (l : List UInt8) : (str l).cells = #[str l] := rfl
set_option maxRecDepth 100000 in
theorem str_one (l : List UInt8) : (str l).oneCell' = true := rfl
/-- Strings that lie behind an address. -/
def Sv (w : World) (a : Option Addr) (W : List (List UInt8)) : Prop := W = [] ∨ ∃ g off, a = some ⟨g, off, none⟩ ∧ ∀ (j : Nat) (x : List UInt8), W[j]? = some x → w.cell? ⟨g, off + j, none⟩ = some (str x)
set_option maxRecDepth 100000 in
theorem Sv.fr {w w2 : World} {a : Option Addr} {W : List (List UInt8)} {S : Nat → Prop} (h : Sv w a W) (F : Fr S w w2) (hS : ∀ k, inBlk a k → ¬ S k) : Sv w2 a W :=
  h.imp id fun ⟨g, off, e, hc⟩ => ⟨g, off, e, fun j x hx => F.cellSome (hS g ⟨_, e, rfl⟩) (hc j x hx)⟩
set_option maxRecDepth 100000 in
theorem Sv.ext {w w2 : World} {a : Option Addr} {W : List (List UInt8)} (h : Sv w a W) (F : Fr (fun _ => False) w w2) : Sv w2 a W := h.fr F (fun _ _ h => h)
set_option maxRecDepth 100000 in
theorem Sv.nil (w : World) (a : Option Addr) : Sv w a [] := Or.inl rfl
set_option maxRecDepth 100000 in
theorem Sv.take {w : World} {a : Option Addr} {W : List (List UInt8)} (h : Sv w a W) (k : Nat) : Sv w a (W.take k) := by
  rcases h with h | ⟨g, off, e, hc⟩
  · rw [h]; simp [Sv]
  · exact Or.inr ⟨g, off, e, fun j x hx => hc j x (by
      rw [List.getElem?_take] at hx
      split at hx
      · exact hx
      · cases hx)⟩
set_option maxRecDepth 100000 in
theorem Sv.drop {w : World} {g off : Nat} {W : List (List UInt8)} (h : Sv w (some ⟨g, off, none⟩) W) (k : Nat) : Sv w (some ⟨g, off + k, none⟩) (W.drop k) := by
  rcases h with h | ⟨g2, off2, e, hc⟩
  · rw [h]; simp [Sv]
  · cases e
    exact Or.inr ⟨g, off + k, rfl, fun j x hx => by
      have := hc (k + j) x (by rw [← List.getElem?_drop]; exact hx)
      rw [show off + k + j = off + (k + j) by omega]; exact this⟩
set_option maxRecDepth 100000 in
theorem Sv.at {w : World} {a : Option Addr} {W : List (List UInt8)} (h : Sv w a W) (h0 : 0 < W.length) : ∃ g off, a = some ⟨g, off, none⟩ := by
  rcases h with h1 | ⟨g, off, e, _⟩
  · rw [h1] at h0; simp at h0
  · exact ⟨g, off, e⟩
set_option maxRecDepth 100000 in
theorem Sv.cell {w : World} {g off : Nat} {W : List (List UInt8)} (h : Sv w (some ⟨g, off, none⟩) W) {k : Nat} {x : List UInt8} (hx : W[k]? = some x) : w.cell? ⟨g, off + k, none⟩ = some (str x) := by
  rcases h with h1 | ⟨g2, off2, e, hc⟩
  · rw [h1] at hx; simp at hx
  · cases e; exact hc k x hx
set_option maxRecDepth 100000 in
theorem rsum_str (l : List UInt8) (hl : l.length ≤ 1000000) (w : World) (hE : REnv w) : Calls Tryd.prog 27 #[str l] w fun e w' => e = .returned (str (S2.sum l)) ∧ Fr (fun _ => False) w w' := by
  refine (rsum_any ⟨l.toArray⟩ (by show l.toArray.size ≤ _; simp; omega) w hE).mono ?_
  rintro e w' ⟨rfl, F⟩
  exact ⟨by rw [sb_mk]; rfl, F⟩
set_option maxRecDepth 100000 in
theorem str_add (x y : List UInt8) (hx : x.length ≤ 1000000) (hy : y.length ≤ 1000000) (W : World) : (Op.stringOp .add ⟨x.toArray⟩ ⟨y.toArray⟩).run Tryd.prog W = .ok (str (x ++ y)) W := run_string_add_lists W x y (by omega) (by omega)
set_option maxRecDepth 100000 in
theorem REnv.ext {w w2 : World} (h : REnv w) (F : Fr (fun _ => False) w w2) : REnv w2 := h.fr F (fun h => h) (fun h => h)
set_option maxRecDepth 100000 in
set_option maxHeartbeats 6400000 in
theorem rnode_any (a b : List UInt8) (ha : a.length ≤ 100000) (hb : b.length ≤ 100000) (w : World) (hE : REnv w) : Calls Tryd.prog 31 #[str a, str b] w fun e w' => e = .returned (str (Lg.node a b)) ∧ Fr (fun _ => False) w w' := by
  have c1 := fun W => str_add [1] a (by simp) (by omega) W
  have c2 := fun W => str_add (1 :: a) b (by simp; omega) (by omega) W
  have HS := Lib.hid (rsum_str (1 :: (a ++ b)) (by simp; omega) w hE)
  have e1 : str ([1] ++ a) = .string ⟨(1 :: a).toArray⟩ := rfl
  have e2 : str (1 :: a ++ b) = .string ⟨(1 :: (a ++ b)).toArray⟩ := rfl
  rw [e1] at c1
  rw [e2] at c2
  unfold str at *
  clear ha hb hE e1 e2
  go_enter Tryd.func31, Tryd.ntmps31
  go_wp2_with fail
  refine HS.out.mono ?_
  rintro e w1 ⟨rfl, F1⟩
  have HF := Lib.hid F1
  clear F1
  go_wp2_with fail
  go_ret
  exact ⟨rfl, HF.out⟩
set_option maxRecDepth 100000 in
theorem wrD (p : Nat) (h : p * 2 ≤ 9223372036854775807) : wrap64 ((p : Int) * 2) = ((p * 2 : Nat) : Int) := by rw [IntWalk.wrap64_in _ (by omega)]; omega
set_option maxRecDepth 100000 in
theorem half_meas {n p : Nat} (h : p < n - p) (h0 : 0 < p) (u : Int) (hu : u = ((p * 2 : Nat) : Int)) : n - u.toNat < n - ((p : Int)).toNat := by
  rw [hu, Int.toNat_natCast, Int.toNat_natCast]; omega
set_option maxRecDepth 100000 in
theorem hf_loop {n j : Nat} (h2 : 2 ≤ n) (hj : j ≤ Nat.log2 (n - 1)) : (2 ^ j < n - 2 ^ j ↔ j < Nat.log2 (n - 1)) ∧ 2 ^ j < n := by
  have h1 := Nat.log2_self_le (show n - 1 ≠ 0 by omega)
  have h3 := Nat.lt_log2_self (n := n - 1)
  have hp : 2 ^ j ≤ 2 ^ Nat.log2 (n - 1) := Nat.pow_le_pow_right (by decide) hj
  refine ⟨⟨fun h => ?_, fun h => ?_⟩, by omega⟩
  · rcases Nat.lt_or_ge j (Nat.log2 (n - 1)) with h4 | h4
    · exact h4
    · obtain rfl : j = Nat.log2 (n - 1) := by omega
      rw [Nat.pow_succ] at h3
      omega
  · have : 2 ^ (j + 1) ≤ 2 ^ Nat.log2 (n - 1) := Nat.pow_le_pow_right (by decide) h
    rw [Nat.pow_succ] at this
    omega
set_option maxRecDepth 100000 in
theorem lit12 (f : Nat → Value) : ((List.range 12).map f).toArray = (f 0 :: f 1 :: f 2 :: f 3 :: f 4 :: f 5 :: f 6 :: f 7 :: f 8 :: f 9 :: f 10 :: f 11 :: []).toArray := by kernel_rfl
set_option maxRecDepth 100000 in
set_option maxHeartbeats 6400000 in
theorem half_go {K : Act → World → Prop} {Q : Exit → Act → World → Prop} {w : World} (n p : Nat) (h9 : n ≤ 9223372036854775807) (hp : 0 < p) (hl : p < n - p) (fr : Array Value) (hn : fr.size = 12) (p0 : fr[0]? = some (.int .i64 (n : Int))) (p3 : fr[3]? = some (.int .i64 (p : Int))) (hK : ∀ t', t'.size = 12 → t'[0]? = some (.int .i64 (n : Int)) → t'[3]? = some (.int .i64 ((p * 2 : Nat) : Int)) → K ⟨t', []⟩ w) :
    Code.wp Tryd.prog (loopAt Tryd.f30 0) (Exit.then K Q) ⟨fr, []⟩ w := by
  have w1 := wrS n p (by omega) h9
  have w2 := wrD p (by clear w1; omega)
  have t1 : (p : Int) < ((n - p : Nat) : Int) := by clear w1 w2; omega
  have t1b : decide ((p : Int) < ((n - p : Nat) : Int)) = true := decide_eq_true t1
  have HK := Lib.hid hK
  clear h9 hp hK
  obtain ⟨f, hff, rfl⟩ := frame_open hn
  have e0 := hff 0 _ p0
  have e3 := hff 3 _ p3
  clear hff hn p0 p3
  rw [lit12, e0, e3]
  clear e0 e3
  conv => arg 2; whnf
  go_wp2_with fail
  exact HK.out _ (by simp) rfl (congrArg (fun z => some (Value.int .i64 z)) w2)
set_option maxRecDepth 100000 in
theorem half_end {K : Act → World → Prop} {Q : Exit → Act → World → Prop} {w : World} (n p : Nat) (h9 : n ≤ 9223372036854775807) (hp : p ≤ n) (hl : ¬ (p < n - p)) (fr : Array Value) (hn : fr.size = 12) (p0 : fr[0]? = some (.int .i64 (n : Int))) (p3 : fr[3]? = some (.int .i64 (p : Int))) (hQ : ∀ t', t'.size = 12 → t'[0]? = some (.int .i64 (n : Int)) → t'[3]? = some (.int .i64 (p : Int)) → Q (.exit 0) ⟨t', []⟩ w) :
    Code.wp Tryd.prog (loopAt Tryd.f30 0) (Exit.then K Q) ⟨fr, []⟩ w := by
  have w1 := wrS n p hp h9
  have t1 : ¬ ((p : Int) < ((n - p : Nat) : Int)) := by clear w1; omega
  have t1b : decide ((p : Int) < ((n - p : Nat) : Int)) = false := decide_eq_false t1
  have HK := Lib.hid hQ
  clear h9 hp hQ
  obtain ⟨f, hff, rfl⟩ := frame_open hn
  have e0 := hff 0 _ p0
  have e3 := hff 3 _ p3
  clear hff hn p0 p3
  rw [lit12, e0, e3]
  clear e0 e3
  conv => arg 2; whnf
  go_wp2_with fail
  exact HK.out _ (by simp) rfl rfl
set_option maxRecDepth 100000 in
theorem half_loop {Q : Exit → Act → World → Prop} (n : Nat) (h2 : 2 ≤ n) (h9 : n ≤ 9223372036854775807) (w : World) (fr : Array Value) (hn : fr.size = 12) (p0 : fr[0]? = some (.int .i64 (n : Int))) (p3 : fr[3]? = some (.int .i64 1)) (hQ : ∀ t', t'.size = 12 → t'[0]? = some (.int .i64 (n : Int)) → t'[3]? = some (.int .i64 (Lg.hf n : Int)) → Q (.exit 0) ⟨t', []⟩ w) :
    Code.wp Tryd.prog (.loop (loopAt Tryd.f30 0)) Q ⟨fr, []⟩ w := by
  refine wp_loop_up (Nat.log2 (n - 1)) (fun k t w' => t.size = 12 ∧ t[0]? = some (.int .i64 (n : Int)) ∧ t[3]? = some (.int .i64 ((2 ^ k : Nat) : Int)) ∧ w = w') fr w ⟨hn, p0, p3, rfl⟩ ?_
  rintro k t w1 hk ⟨a1, a2, a3, rfl⟩ K hK
  obtain ⟨h1, h3⟩ := hf_loop h2 hk
  by_cases hlt : k < Nat.log2 (n - 1)
  · exact half_go n (2 ^ k) h9 (Nat.two_pow_pos _) (h1.2 hlt) t a1 a2 a3 (fun t' b1 b2 b3 => hK t' w hlt ⟨b1, b2, by rw [b3, Nat.pow_succ], rfl⟩)
  · obtain rfl : k = Nat.log2 (n - 1) := by omega
    exact half_end n _ h9 (by omega) (fun h => hlt (h1.1 h)) t a1 a2 a3 hQ
set_option maxRecDepth 100000 in
set_option maxHeartbeats 6400000 in
theorem half_any (n : Nat) (h2 : 2 ≤ n) (h9 : n ≤ 9223372036854775807) (w : World) : Calls Tryd.prog 30 #[.int .i64 (n : Int)] w fun e w' => e = .returned (.int .i64 (Lg.hf n : Int)) ∧ w = w' := by
  have W1 := Lib.hid h9
  have H2 := Lib.hid h2
  clear h2 h9
  go_enter Tryd.func30, Tryd.ntmps30
  go_wp2_with fail
  refine half_loop n H2.out W1.out w _ rfl rfl rfl ?_
  intro t' hn p0 p3
  obtain ⟨f, hff, rfl⟩ := frame_open hn
  have e0 := hff 0 _ p0
  have e3 := hff 3 _ p3
  clear hff hn p0 p3
  rw [lit12, e0, e3]
  clear e0 e3
  go_wp2_with fail
  go_ret
  exact ⟨rfl, rfl⟩
set_option maxRecDepth 100000 in
theorem leaf_all (W : List (List UInt8)) : Lg.All32 (W.map Lg.leaf) := fun x hx => by obtain ⟨y, _, rfl⟩ := List.mem_map.1 hx; rfl
set_option maxRecDepth 100000 in
theorem mem_le_take {W : List (List UInt8)} {m : Nat} (h : ∀ x ∈ W, x.length ≤ m) (k : Nat) : (∀ x ∈ W.take k, x.length ≤ m) ∧ (∀ x ∈ W.drop k, x.length ≤ m) := ⟨fun x hx => h x (List.mem_of_mem_take hx), fun x hx => h x (List.mem_of_mem_drop hx)⟩
set_option maxRecDepth 100000 in
set_option maxHeartbeats 6400000 in
theorem rroot_nil (a : Option Addr) (c : Nat) (w : World) (hE : REnv w) : Calls Tryd.prog 14 #[.slice a 0 c] w fun e w' => e = .returned (str (Lg.root [])) ∧ Fr (fun _ => False) w w' := by
  have HS := Lib.hid (rsum_str [] (by simp) w hE)
  have e0 : str [] = .string ⟨#[]⟩ := rfl
  rw [e0] at HS
  clear hE e0
  go_enter Tryd.func14, Tryd.ntmps14
  go_wp2_with fail
  refine HS.out.mono ?_
  rintro e w1 ⟨rfl, F1⟩
  have HF := Lib.hid F1
  clear F1
  go_wp2_with fail
  go_ret
  rw [Lg.root_nil]
  exact ⟨rfl, HF.out⟩
set_option maxRecDepth 100000 in
theorem rroot_one (a : Option Addr) (c : Nat) (x : List UInt8) (hx : x.length ≤ 100000) (hc : 1 ≤ c) (w : World) (hK : Sv w a [x]) (hE : REnv w) : Calls Tryd.prog 14 #[.slice a 1 c] w fun e w' => e = .returned (str (Lg.root [Lg.leaf x])) ∧ Fr (fun _ => False) w w' := by
  obtain ⟨g, off, rfl⟩ := hK.at (by simp)
  have c0 := hK.cell (k := 0) (x := x) rfl
  rw [Nat.add_zero] at c0
  have c1 := fun W => str_add [0] x (by simp) (by omega) W
  have HS := Lib.hid (rsum_str (0 :: x) (by simp; omega) w hE)
  have e1 : str ([0] ++ x) = .string ⟨(0 :: x).toArray⟩ := rfl
  rw [e1] at c1
  unfold str at *
  clear hx hc hK hE e1
  go_enter Tryd.func14, Tryd.ntmps14
  go_wp2_with fail
  refine HS.out.mono ?_
  rintro e w1 ⟨rfl, F1⟩
  have HF := Lib.hid F1
  clear F1
  go_wp2_with fail
  go_ret
  rw [Lg.root_one]
  exact ⟨rfl, HF.out⟩
set_option maxRecDepth 100000 in
set_option maxHeartbeats 6400000 in
theorem rroot_more (a : Option Addr) (c : Nat) (W : List (List UInt8)) (n : Nat) (w : World) (hn : W.length = n) (h2 : 2 ≤ W.length) (hc : n ≤ c) (hm : c ≤ maxLen) (hx : ∀ x ∈ W, x.length ≤ 100000) (hK : Sv w a W) (hE : REnv w) {N : Nat}
    (ih : ∀ (a : Option Addr) (c : Nat) (W : List (List UInt8)) (n : Nat) (w : World), W.length ≤ N → W.length = n → n ≤ c → c ≤ maxLen → (∀ x ∈ W, x.length ≤ 100000) → Sv w a W → REnv w → Calls Tryd.prog 14 #[.slice a n c] w fun e w' => e = .returned (str (Lg.root (W.map Lg.leaf))) ∧ Fr (fun _ => False) w w') (hN : W.length ≤ N + 1) : Calls Tryd.prog 14 #[.slice a n c] w fun e w' => e = .returned (str (Lg.root (W.map Lg.leaf))) ∧ Fr (fun _ => False) w w' := by
  obtain ⟨g, off, rfl⟩ := hK.at (by omega)
  have hlt := Lg.hf_lt h2
  have hpos := Lg.hf_pos W.length
  have hroot := Lg.root_two (L := W.map Lg.leaf) (by rw [List.length_map]; exact h2)
  rw [List.length_map] at hroot
  obtain ⟨h, hh⟩ : ∃ h, h = Lg.hf W.length := ⟨_, rfl⟩
  rw [← hh] at hlt hpos hroot
  rw [← List.map_take, ← List.map_drop] at hroot
  have n9 : n ≤ 9223372036854775807 := by unfold maxLen at hm; omega
  have HS := Lib.hid (fun w => half_any n (by omega) n9 w)
  rw [← hn, ← hh, hn] at HS
  have HI := Lib.hid ih
  have HR := Lib.hid hroot
  have HX := Lib.hid (mem_le_take hx h)
  have HL := Lib.hid (show (Lg.root ((W.take h).map Lg.leaf)).length ≤ 100000 ∧ (Lg.root ((W.drop h).map Lg.leaf)).length ≤ 100000 from ⟨by rw [Lg.root_len (leaf_all _)]; omega, by rw [Lg.root_len (leaf_all _)]; omega⟩)
  have HH := Lib.hid (show (W.take h).length ≤ N ∧ (W.take h).length = h ∧ h ≤ c ∧ c ≤ maxLen from ⟨by rw [List.length_take]; omega, by rw [List.length_take]; omega, by omega, hm⟩)
  have HJ := Lib.hid (show (W.drop h).length ≤ N ∧ (W.drop h).length = n - h ∧ n - h ≤ c - h ∧ c - h ≤ maxLen from ⟨by rw [List.length_drop]; omega, by rw [List.length_drop]; omega, by omega, by omega⟩)
  have HE := Lib.hid hE
  have HK := Lib.hid hK
  have b0 : ((n : Int) == 0) = false := beq_eq_false_iff_ne.2 (by omega)
  have b1 : ((n : Int) == 1) = false := beq_eq_false_iff_ne.2 (by omega)
  have q2 : h ≤ n := by omega
  have q3 : h ≤ c := by omega
  have q4 : ¬ (c = h) := by omega
  have q5 : (h : Int) ≤ (n : Int) := by omega
  clear hE hK hlt hpos hroot hh h2 hN ih hm hc n9 hn hx
  go_enter Tryd.func14, Tryd.ntmps14
  go_wp2_with fail
  refine (HS.out w).mono ?_
  rintro e w2 ⟨rfl, rfl⟩
  go_wp2_with fail
  refine Ks.wp_region_mono (fun _ => False) (sg 0 3 ++ (sg 4 3 ++ ((3, true) :: ((7, true) :: ((8, true) :: ((9, true) :: ([]))))))) (by kernel_rfl) (by kernel_rfl) ?_
  refine Ks.Wk.seg 0 3 (by kernel_rfl) (by kernel_rfl) ?_
  apply Exists.intro
  refine ⟨?wk0, ?fin0⟩
  case wk0 =>
    intro γ
    simp only [List.drop_succ_cons, List.drop_zero, List.take_succ_cons, List.take_zero]
    repeat (any_goals (first | go_big_quiet_step (fail) | quiet_step (fail)))
    exact wpQuiet_nil rfl
  case fin0 =>
  (try simp only [Act.put, List.setIfInBounds_toArray, List.set_cons_zero, List.set_cons_succ])
  refine Ks.Wk.seg 4 3 (by kernel_rfl) (by kernel_rfl) ?_
  apply Exists.intro
  refine ⟨?wk1, ?fin1⟩
  case wk1 =>
    intro γ
    simp only [List.drop_succ_cons, List.drop_zero, List.take_succ_cons, List.take_zero]
    repeat (any_goals (first | go_big_quiet_step (fail) | quiet_step (fail)))
    exact wpQuiet_nil rfl
  case fin1 =>
  (try simp only [Act.put, List.setIfInBounds_toArray, List.set_cons_zero, List.set_cons_succ])
  refine Ks.Wk.call rfl (by kernel_rfl) 14 #[.slice (some ⟨g, off, none⟩) h c] (fun W => by first | kernel_rfl | rfl) (fun v W' => v = str (Lg.root ((W.take h).map Lg.leaf))) (fun W' hx => (HI.out _ c (W.take h) h W' HH.out.1 HH.out.2.1 HH.out.2.2.1 HH.out.2.2.2 HX.out.1 ((HK.out.ext hx).take h) (HE.out.ext hx)).mono (fun e w' he => ⟨_, he.1, he.2, rfl⟩)) ?_
  rintro v w4 X4 rfl
  (try simp only [List.getElem_toArray, List.getElem_cons_succ, List.getElem_cons_zero, Act.put, List.setIfInBounds_toArray, List.set_cons_zero, List.set_cons_succ])
  refine Ks.Wk.call rfl (by kernel_rfl) 14 #[.slice (some ⟨g, off + h, none⟩) (n - h) (c - h)] (fun W => by first | kernel_rfl | rfl) (fun v W' => v = str (Lg.root ((W.drop h).map Lg.leaf))) (fun W' hx => (HI.out _ (c - h) (W.drop h) (n - h) W' HJ.out.1 HJ.out.2.1 HJ.out.2.2.1 HJ.out.2.2.2 HX.out.2 ((HK.out.ext (X4.trans hx (fun _ h => h.elim))).drop h) (HE.out.ext (X4.trans hx (fun _ h => h.elim)))).mono (fun e w' he => ⟨_, he.1, he.2, rfl⟩)) ?_
  rintro v w5 X5 rfl
  (try simp only [List.getElem_toArray, List.getElem_cons_succ, List.getElem_cons_zero, Act.put, List.setIfInBounds_toArray, List.set_cons_zero, List.set_cons_succ])
  refine Ks.Wk.call rfl (by kernel_rfl) 31 #[str (Lg.root ((W.take h).map Lg.leaf)), str (Lg.root ((W.drop h).map Lg.leaf))] (fun W => by first | kernel_rfl | rfl) (fun v W' => v = str (Lg.root (W.map Lg.leaf))) (fun W' hx => (rnode_any _ _ HL.out.1 HL.out.2 W' (HE.out.ext ((X4.trans X5 (fun _ h => h.elim)).trans hx (fun _ h => h.elim)))).mono (fun e w' he => ⟨_, he.1, he.2, by rw [HR.out]⟩)) ?_
  rintro v w6 X6 rfl
  (try simp only [List.getElem_toArray, List.getElem_cons_succ, List.getElem_cons_zero, Act.put, List.setIfInBounds_toArray, List.set_cons_zero, List.set_cons_succ])
  refine Ks.Wk.one rfl (fun w7 Xw7 => ?_)
  go_wp2_with fail
  refine ⟨Ks.Es.of (Fr.refl _ _), ?_⟩
  (try simp only [List.getElem_toArray, List.getElem_cons_succ, List.getElem_cons_zero, Act.put, List.setIfInBounds_toArray, List.set_cons_zero, List.set_cons_succ])
  intro w9 X9
  have HX9 := Lib.hid (((X4.trans X5 (fun _ h => h.elim)).trans X6 (fun _ h => h.elim)).trans (Xw7.trans X9 (fun _ h => h.elim)) (fun _ h => h.elim))
  clear X4 X5 X6 Xw7 X9
  go_wp2_with fail
  go_ret
  exact ⟨rfl, HX9.out⟩
set_option maxRecDepth 100000 in
theorem rroot_any : ∀ (N : Nat) (a : Option Addr) (c : Nat) (W : List (List UInt8)) (n : Nat) (w : World), W.length ≤ N → W.length = n → n ≤ c → c ≤ maxLen → (∀ x ∈ W, x.length ≤ 100000) → Sv w a W → REnv w → Calls Tryd.prog 14 #[.slice a n c] w fun e w' => e = .returned (str (Lg.root (W.map Lg.leaf))) ∧ Fr (fun _ => False) w w' := by
  intro N
  induction N with
  | zero =>
    intro a c W n w hN hn hc hm hx hK hE
    obtain rfl := List.eq_nil_of_length_eq_zero (Nat.le_zero.1 hN)
    obtain rfl : 0 = n := hn
    exact rroot_nil a c w hE
  | succ N ih =>
    intro a c W n w hN hn hc hm hx hK hE
    match W, hK, hN, hn, hx with
    | [], hK, hN, hn, hx =>
      obtain rfl : 0 = n := hn
      exact rroot_nil a c w hE
    | [x], hK, hN, hn, hx =>
      obtain rfl : 1 = n := hn
      exact rroot_one a c x (hx x (List.mem_singleton.2 rfl)) hc w hK hE
    | x :: y :: L, hK, hN, hn, hx =>
      have h2 : 2 ≤ (x :: y :: L).length := by simp
      generalize x :: y :: L = T at *
      exact rroot_more a c T n w hn h2 hc hm hx hK hE ih hN
end Go.Proofs.YtjndkjgbplpfeaaDoor
namespace Go.Proofs.YtjndkjgbplpfeaaDoor
open Go.RowKit
set_option linter.unusedVariables false
set_option linter.unusedSimpArgs false
/-- A row of bytes, whatever they are, that may be written. -/
def Tw (w : World) (a : Option Addr) (n : Nat) : Prop := n = 0 ∨ ∃ g cs T fz, a = some ⟨g, 0, none⟩ ∧ w.heap[g]? = some (.cells cs T fz) ∧ (fz = (0, 0) ∨ n ≤ fz.1) ∧ ∀ j, j < n → ∃ y : UInt8, cs[j]? = some (.int .u8 (y.toNat : Int))
set_option maxRecDepth 100000 in
theorem Tw.fr {w w' : World} {a : Option Addr} {n : Nat} {S : Nat → Prop} (h : Tw w a n) (F : Fr S w w') (hS : ∀ k, ob a = some k → ¬ S k) : Tw w' a n := by
  rcases h with h | ⟨g, cs, T, fz, e, hg, r⟩
  · exact Or.inl h
  · exact Or.inr ⟨g, cs, T, fz, e, (F.block g (lt_of_block hg) (hS g (by rw [e]; rfl))).trans hg, r⟩
set_option maxRecDepth 100000 in
theorem Tw.at {w : World} {a : Option Addr} {n : Nat} (h : Tw w a n) (j : Nat) (hj : j < n) : ∃ (g : Nat) (y : UInt8), a = some ⟨g, 0, none⟩ ∧ g < w.heap.size ∧ w.cell? ⟨g, j, none⟩ = some (.int .u8 (y.toNat : Int)) ∧ w.frozen? ⟨g, j, none⟩ = false ∧ ∀ u : UInt8, Tw (w.setCell ⟨g, j, none⟩ (.int .u8 (u.toNat : Int))) a n := by
  rcases h with h | ⟨g, cs, T, fz, e, hg, hfz, hc⟩
  · omega
  · obtain ⟨y, hy⟩ := hc j hj
    refine ⟨g, y, e, lt_of_block hg, (cell_of_block hg j).trans hy, ?_, fun u => Or.inr ⟨g, cs.setIfInBounds j (.int .u8 (u.toNat : Int)), T, fz, e, block_setCellF hg j _, hfz, fun i hi => ?_⟩⟩
    · rcases hfz with e | e
      · subst e; simp [World.frozen?, hg]
      · simp [World.frozen?, hg]; omega
    · rw [Array.getElem?_setIfInBounds]
      by_cases e : j = i
      · subst e
        refine ⟨u, ?_⟩
        rw [if_pos rfl, if_pos (Array.getElem?_eq_some_iff.1 hy).1]
      · rw [if_neg e]; exact hc i hi
set_option maxRecDepth 100000 in
theorem Own.tw {w : World} {B n c : Nat} {a : Option Addr} {l : List UInt8} (h : Own w B (.slice a n c) l) (hn : n = l.length) : Tw w a n := by
  subst hn
  rcases h with ⟨e, e2⟩ | ⟨g, cap, cur, fz, e, hb, hg, hfz, hnc, hcm, hcs, ht⟩
  · left; rw [e2]; rfl
  · right
    injection e with e1 e2 e3
    refine ⟨g, cur, _, fz, e1, hg, ?_, fun j hj => ?_⟩
    · exact hfz.imp id (fun h => by omega)
    · have h1 : (cur.toList.take l.length)[j]? = (bv l)[j]? := by rw [ht]
      rw [List.getElem?_take_of_lt hj, bv_get' l j hj, Array.getElem?_toList] at h1
      exact ⟨l[j], h1⟩
set_option maxRecDepth 100000 in
theorem xor_byte (x y : UInt8) : bits .xor .u8 (x.toNat : Int) (y.toNat : Int) = ((x ^^^ y).toNat : Int) := by
  have e1 : (BitVec.ofInt 8 (x.toNat : Int)).toNat = x.toNat := by have := x.toNat_lt; simp
  have e2 : (BitVec.ofInt 8 (y.toNat : Int)).toNat = y.toNat := by have := y.toNat_lt; simp
  show IntKind.u8.wrap ((BitVec.ofInt 8 (x.toNat : Int) ^^^ BitVec.ofInt 8 (y.toNat : Int)).toNat : Int) = _
  rw [BitVec.toNat_xor, e1, e2, UInt8.toNat_xor, IntKind.wrap_u8]
  have := Nat.xor_lt_two_pow (n := 8) x.toNat_lt y.toNat_lt
  omega
set_option maxRecDepth 100000 in
theorem lit53 (f : Nat → Value) : ((List.range 53).map f).toArray = (f 0 :: f 1 :: f 2 :: f 3 :: f 4 :: f 5 :: f 6 :: f 7 :: f 8 :: f 9 :: f 10 :: f 11 :: f 12 :: f 13 :: f 14 :: f 15 :: f 16 :: f 17 :: f 18 :: f 19 :: f 20 :: f 21 :: f 22 :: f 23 :: f 24 :: f 25 :: f 26 :: f 27 :: f 28 :: f 29 :: f 30 :: f 31 :: f 32 :: f 33 :: f 34 :: f 35 :: f 36 :: f 37 :: f 38 :: f 39 :: f 40 :: f 41 :: f 42 :: f 43 :: f 44 :: f 45 :: f 46 :: f 47 :: f 48 :: f 49 :: f 50 :: f 51 :: f 52 :: []).toArray := by kernel_rfl
set_option maxRecDepth 100000 in
set_option maxHeartbeats 6400000 in
theorem fill_in {KK : Act → World → Prop} {Q : Exit → Act → World → Prop} {w : World} {lb r K c2 i n cc k g : Nat} {u : Value} {y : UInt8} (hiK : i < K) (hr : w.cell? ⟨r, i, none⟩ = some (.slice (some ⟨g, 0, none⟩) n cc)) (hk : k < n) (hn : n ≤ 1000) (hc : w.cell? ⟨g, k, none⟩ = some (.int .u8 (y.toNat : Int))) (hz : w.frozen? ⟨g, k, none⟩ = false) (fr : Array Value) (hn0 : fr.size = 53) (p4 : fr[4]? = some (.pointer (some ⟨lb, 0, none⟩))) (p5 : fr[5]? = some (u)) (p6 : fr[6]? = some (.slice (some ⟨r, 0, none⟩) K c2)) (p7 : fr[7]? = some (.int .i64 (i : Int))) (p8 : fr[8]? = some (.int .i64 (k : Int)))
    (hK : ∀ t', t'.size = 53 → t'[4]? = some (.pointer (some ⟨lb, 0, none⟩)) → t'[5]? = some (u) → t'[6]? = some (.slice (some ⟨r, 0, none⟩) K c2) → t'[7]? = some (.int .i64 (i : Int)) → t'[8]? = some (.int .i64 ((k + 1 : Nat) : Int)) → KK ⟨t', []⟩ (w.setCell ⟨g, k, none⟩ (.int .u8 ((y ^^^ 33).toNat : Int)))) :
    Code.wp Tryd.prog (loopAt Tryd.f8 1) (Exit.then KK Q) ⟨fr, []⟩ w := by
  have hn := hn0
  have q1 : (i : Int) < (K : Int) := by omega
  have q2 : (k : Int) < (n : Int) := by omega
  have q3 : (0 : Int) ≤ (k : Int) := Int.natCast_nonneg k
  have q4 : (0 : Int) ≤ (i : Int) := Int.natCast_nonneg i
  have W1 := Lib.hid (show wrap64 ((k : Int) + 1) = ((k + 1 : Nat) : Int) from by rw [IntWalk.wrap64_in _ (by omega)]; omega)
  have hx : bits .xor .u8 (y.toNat : Int) 33 = ((y ^^^ 33).toNat : Int) := xor_byte y 33
  have HK := Lib.hid hK
  clear hK hn0
  obtain ⟨f, hff, rfl⟩ := frame_open hn
  have e4 := hff 4 _ p4
  have e5 := hff 5 _ p5
  have e6 := hff 6 _ p6
  have e7 := hff 7 _ p7
  have e8 := hff 8 _ p8
  clear hff hn p4 p5 p6 p7 p8
  rw [lit53, e4, e5, e6, e7, e8]
  clear e4 e5 e6 e7 e8
  conv => arg 2; whnf
  go_wp2_with fail
  exact HK.out _ (by first | rfl | simp) rfl rfl rfl rfl rfl
set_option maxRecDepth 100000 in
set_option maxHeartbeats 6400000 in
theorem fill_in_end {KK : Act → World → Prop} {Q : Exit → Act → World → Prop} {w : World} {lb r K c2 i n cc k : Nat} {u : Value} {a : Option Addr} (hiK : i < K) (hr : w.cell? ⟨r, i, none⟩ = some (.slice a n cc)) (hk : k = n) (fr : Array Value) (hn : fr.size = 53) (p4 : fr[4]? = some (.pointer (some ⟨lb, 0, none⟩))) (p5 : fr[5]? = some (u)) (p6 : fr[6]? = some (.slice (some ⟨r, 0, none⟩) K c2)) (p7 : fr[7]? = some (.int .i64 (i : Int))) (p8 : fr[8]? = some (.int .i64 (k : Int)))
    (hQ : ∀ t', t'.size = 53 → t'[4]? = some (.pointer (some ⟨lb, 0, none⟩)) → t'[5]? = some (u) → t'[6]? = some (.slice (some ⟨r, 0, none⟩) K c2) → t'[7]? = some (.int .i64 (i : Int)) → Q (.exit 2) ⟨t', []⟩ w) :
    Code.wp Tryd.prog (loopAt Tryd.f8 1) (Exit.then KK Q) ⟨fr, []⟩ w := by
  have q1 : (i : Int) < (K : Int) := by omega
  have q4 : (0 : Int) ≤ (i : Int) := Int.natCast_nonneg i
  have q2 : ¬ ((k : Int) < (n : Int)) := by omega
  have q2b : ¬ (k < n) := by omega
  have HK := Lib.hid hQ
  clear hQ hk
  obtain ⟨f, hff, rfl⟩ := frame_open hn
  have e4 := hff 4 _ p4
  have e5 := hff 5 _ p5
  have e6 := hff 6 _ p6
  have e7 := hff 7 _ p7
  have e8 := hff 8 _ p8
  clear hff hn p4 p5 p6 p7 p8
  rw [lit53, e4, e5, e6, e7, e8]
  clear e4 e5 e6 e7 e8
  conv => arg 2; whnf
  go_wp2_with fail
  exact HK.out _ (by first | rfl | simp) rfl rfl rfl rfl
set_option maxRecDepth 100000 in
set_option maxHeartbeats 6400000 in
theorem fill_in_loop {Q : Exit → Act → World → Prop} {w : World} {lb r K c2 i n cc : Nat} {u : Value} {a : Option Addr} (hiK : i < K) (hr : w.cell? ⟨r, i, none⟩ = some (.slice a n cc)) (hra : ob a ≠ some r) (hn9 : n ≤ 1000) (hT : Tw w a n) (fr : Array Value) (hn : fr.size = 53) (p4 : fr[4]? = some (.pointer (some ⟨lb, 0, none⟩))) (p5 : fr[5]? = some (u)) (p6 : fr[6]? = some (.slice (some ⟨r, 0, none⟩) K c2)) (p7 : fr[7]? = some (.int .i64 (i : Int))) (p8 : fr[8]? = some (.int .i64 (0)))
    (hQ : ∀ t' w', t'.size = 53 → t'[4]? = some (.pointer (some ⟨lb, 0, none⟩)) → t'[5]? = some (u) → t'[6]? = some (.slice (some ⟨r, 0, none⟩) K c2) → t'[7]? = some (.int .i64 (i : Int)) → Fr (fun b => ob a = some b) w w' → Q (.exit 2) ⟨t', []⟩ w') :
    Code.wp Tryd.prog (.loop (loopAt Tryd.f8 1)) Q ⟨fr, []⟩ w := by
  refine wp_loop_up n (fun k t w' => t.size = 53 ∧ t[4]? = some (.pointer (some ⟨lb, 0, none⟩)) ∧ t[5]? = some (u) ∧ t[6]? = some (.slice (some ⟨r, 0, none⟩) K c2) ∧ t[7]? = some (.int .i64 (i : Int)) ∧ t[8]? = some (.int .i64 (k : Int)) ∧ Tw w' a n ∧ Fr (fun b => ob a = some b) w w') fr w ⟨hn, p4, p5, p6, p7, p8, hT, Fr.refl _ _⟩ ?_
  rintro k t w1 hk ⟨hn1, p4, p5, p6, p7, p8, hT1, F1⟩ KK hKK
  have hr1 := F1.cellSome (p := ⟨r, i, none⟩) hra hr
  by_cases hlt : k < n
  · obtain ⟨g, y, e, hg, h1, h2, h3⟩ := hT1.at k hlt
    subst e
    exact fill_in hiK hr1 hlt hn9 h1 h2 t hn1 p4 p5 p6 p7 p8 (fun t' b0 b1 b2 b3 b4 b5 => hKK t' _ hlt ⟨b0, b1, b2, b3, b4, b5, h3 _, F1.setCell (p := ⟨g, k, none⟩) (Or.inl rfl) _⟩)
  · exact fill_in_end hiK hr1 (by omega) t hn1 p4 p5 p6 p7 p8 (fun t' b0 b1 b2 b3 b4 => hQ t' w1 b0 b1 b2 b3 b4 F1)
set_option maxRecDepth 100000 in
theorem sInfo : ∃ ti z, Tryd.prog.info? 9 = some ti ∧ ti.zero = some z ∧ ti.size = 1 ∧ ti.bytes = 16 ∧ z.cells.size = 1 := ⟨_, .string ⟨#[]⟩, rfl, by kernel_rfl, by kernel_rfl, by kernel_rfl, by kernel_rfl⟩
/-- Strings of one's own. -/
def Os (w : World) (base : Nat) (v : Value) (W : List (List UInt8)) : Prop := w.ownsRow base 9 1 v W.length (W.map str)
set_option maxRecDepth 100000 in
theorem Os.nil (w : World) (base : Nat) : Os w base (.slice none 0 0) [] := World.ownsRow_nil _ _ _ _
set_option maxRecDepth 100000 in
theorem Os.snoc {w : World} {base : Nat} {v : Value} {W : List (List UInt8)} {x : List UInt8} (h : w.ownsRow base 9 1 v (W.length + 1) (W.map str ++ [str x])) : Os w base v (W ++ [x]) := by
  unfold Os; rw [List.length_append, List.map_append]; exact h
set_option maxRecDepth 100000 in
theorem Os.view {w : World} {base : Nat} {v : Value} {W : List (List UInt8)} (h : Os w base v W) : ∃ a c, v = .slice a W.length c ∧ W.length ≤ c ∧ c ≤ maxLen ∧ Sv w a W ∧ (∀ k, inBlk a k → v.ownBlock = some k) := by
  rcases h.2 with ⟨e, h0⟩ | ⟨g, cap, cur, e, hb, hg, hc, hm, hs, ht⟩
  · refine ⟨none, 0, by rw [e, h0], by omega, by unfold maxLen; omega, ?_, fun k hk => by obtain ⟨ad, h1, _⟩ := hk; cases h1⟩
    rw [List.eq_nil_of_length_eq_zero h0]; exact Sv.nil _ _
  · refine ⟨some ⟨g, 0, none⟩, cap, e, hc, hm, Or.inr ⟨g, 0, rfl, fun j x hx => ?_⟩, fun k hk => by obtain ⟨ad, h1, h2⟩ := hk; cases h1; rw [e, ← h2]; rfl⟩
    have hj := (List.getElem?_eq_some_iff.1 hx).1
    rw [Nat.zero_add, cell_of_block hg, ← Array.getElem?_toList]
    have h1 : (cur.toList.take (W.length * 1))[j]? = (W.map str)[j]? := by rw [ht]
    rw [List.getElem?_take_of_lt (by omega), List.getElem?_map, hx] at h1
    exact h1
set_option maxRecDepth 100000 in
theorem src_str {w : World} {b : Nat} {x : List UInt8} {t : TypeId} {fr : Nat × Nat} (h : w.heap[b]? = some (.cells #[str x] t fr)) : Src Tryd.prog 1 24 (.slice (some ⟨b, 0, none⟩) 1 1) 1 [str x] w :=
  Src.ofSlice _ Tryd.underlying24 ⟨b, 0, none⟩ 1 1 _ rfl (fun j u hj => by
    rw [Addr.add_mid, Nat.zero_add, cell_of_block h, ← Array.getElem?_toList]; exact hj) (fun u hu => by rw [List.mem_singleton.1 hu]; rfl)
/-- What stands fast while a log is filled. -/
structure Ff (w0 : World) (lb Z r K : Nat) (A : Nat → Option Addr) (C : Nat → Nat) (LL : List (List UInt8)) : Prop where
  len : LL.length = K
  K20 : K ≤ 20
  l0 : w0.heap.size ≤ lb
  lZ : lb < Z
  r0 : w0.heap.size ≤ r
  rZ : r < Z
  lr : lb ≠ r
  pa : ∀ j, j < K → ∀ b, ob (A j) = some b → w0.heap.size ≤ b ∧ b < Z ∧ b ≠ lb ∧ b ≠ r
  apart : ∀ i j, i < j → j < K → ∀ b, ob (A i) = some b → ob (A j) ≠ some b
  small : ∀ j, j < K → (LL.getD j []).length ≤ 60 ∧ (LL.getD j []).length ≤ C j ∧ C j ≤ maxLen
  nl : ∀ j, j < K → A j = none → (LL.getD j []).length = 0 ∧ C j = 0
structure Fs (w0 w : World) (lb Z r K i : Nat) (A : Nat → Option Addr) (C : Nat → Nat) (LL : List (List UInt8)) (v u : Value) : Prop where
  lm : LM w lb Z v ((LL.take i).map Lg.leaf)
  ss : Os w Z u (LL.take i)
  ap : ∀ k, v.ownBlock = some k → u.ownBlock ≠ some k
  rows : ∀ j, j < K → w.cell? ⟨r, j, none⟩ = some (.slice (A j) (LL.getD j []).length (C j))
  pts : ∀ j, i ≤ j → j < K → Lies w (A j) (LL.getD j []) ∧ Tw w (A j) (LL.getD j []).length
  fr : Fr (fun _ => False) w0 w
  hz : Z ≤ w.heap.size
set_option maxRecDepth 100000 in
theorem Fs.next {w0 w w' : World} {lb Z r K i : Nat} {A : Nat → Option Addr} {C : Nat → Nat} {LL : List (List UInt8)} {v u v' u' : Value} (H : Ff w0 lb Z r K A C LL) (S : Fs w0 w lb Z r K i A C LL v u) (hi : i < K) (F : Fr (fun k => Z ≤ k ∨ k = lb ∨ ob (A i) = some k) w w') (lm : LM w' lb Z v' ((LL.take (i + 1)).map Lg.leaf)) (ss : Os w' Z u' (LL.take (i + 1))) (ap : ∀ k, v'.ownBlock = some k → u'.ownBlock ≠ some k) : Fs w0 w' lb Z r K (i + 1) A C LL v' u' := by
  have nr : ¬ (Z ≤ r ∨ r = lb ∨ ob (A i) = some r) := by
    rintro (h | h | h)
    · have := H.rZ; omega
    · exact H.lr h.symm
    · exact (H.pa i hi r h).2.2.2 rfl
  have nj : ∀ j, i + 1 ≤ j → j < K → ∀ b, ob (A j) = some b → ¬ (Z ≤ b ∨ b = lb ∨ ob (A i) = some b) := by
    intro j h1 h2 b hb
    have := H.pa j h2 b hb
    rintro (h | h | h)
    · omega
    · exact this.2.2.1 h
    · exact H.apart i j (by omega) h2 b h hb
  refine ⟨lm, ss, ap, fun j hj => F.cellSome (p := ⟨r, j, none⟩) nr (S.rows j hj), fun j h1 h2 => ⟨(S.pts j (by omega) h2).1.fr F (fun k hk => nj j h1 h2 k (by obtain ⟨ad, h1, h2⟩ := hk; rw [h1, ← h2]; rfl)), (S.pts j (by omega) h2).2.fr F (nj j h1 h2)⟩, S.fr.trans F (fun k h => ?_), Nat.le_trans S.hz F.size⟩
  rcases h with h | h | h
  · have := H.l0; have := H.lZ; exact .inr (by omega)
  · have := H.l0; exact .inr (by omega)
  · exact .inr (H.pa i hi k h).1
set_option maxRecDepth 100000 in
theorem take_snoc' {LL : List (List UInt8)} {i K : Nat} (hl : LL.length = K) (hi : i < K) : LL.take (i + 1) = LL.take i ++ [LL.getD i []] := by
  rw [List.take_succ_eq_append_getElem (by omega), List.getD_eq_getElem?_getD, List.getElem?_eq_getElem (by omega)]; rfl
set_option maxRecDepth 100000 in
set_option maxHeartbeats 6400000 in
theorem fill_round {KK : Act → World → Prop} {Q : Exit → Act → World → Prop} {w0 w : World} {lb Z r K c2 i : Nat} {A : Nat → Option Addr} {C : Nat → Nat} {LL : List (List UInt8)} {v u : Value} (H : Ff w0 lb Z r K A C LL) (S : Fs w0 w lb Z r K i A C LL v u) (hi : i < K) (hE : Env w0) (fr : Array Value) (hn : fr.size = 53) (p4 : fr[4]? = some (.pointer (some ⟨lb, 0, none⟩))) (p5 : fr[5]? = some (u)) (p6 : fr[6]? = some (.slice (some ⟨r, 0, none⟩) K c2)) (p7 : fr[7]? = some (.int .i64 (i : Int)))
    (hK : ∀ t' w' v' u', t'.size = 53 → t'[4]? = some (.pointer (some ⟨lb, 0, none⟩)) → t'[5]? = some (u') → t'[6]? = some (.slice (some ⟨r, 0, none⟩) K c2) → t'[7]? = some (.int .i64 ((i + 1 : Nat) : Int)) → Fs w0 w' lb Z r K (i + 1) A C LL v' u' → KK ⟨t', []⟩ w') :
    Code.wp Tryd.prog (loopAt Tryd.f8 0) (Exit.then KK Q) ⟨fr, []⟩ w := by
  obtain ⟨ti, z, t1, t2, t3, t4, t5⟩ := sInfo
  have q1 : (i : Int) < (K : Int) := by omega
  have q4 : (0 : Int) ≤ (i : Int) := Int.natCast_nonneg i
  obtain ⟨x, hx⟩ : ∃ x, x = LL.getD i [] := ⟨_, rfl⟩
  obtain ⟨a, ha⟩ : ∃ a, a = A i := ⟨_, rfl⟩
  obtain ⟨cc, hcc⟩ : ∃ cc, cc = C i := ⟨_, rfl⟩
  obtain ⟨n, hxn⟩ : ∃ n, n = x.length := ⟨_, rfl⟩
  have hrow := S.rows i hi
  obtain ⟨hl, htw⟩ := S.pts i (Nat.le_refl _) hi
  have hsm := H.small i hi
  have hpa := H.pa i hi
  have hnl := H.nl i hi
  rw [← hx, ← ha, ← hcc] at hrow
  rw [← hx, ← hcc] at hsm
  rw [← hx, ← ha] at hl htw
  rw [← hx, ← ha, ← hcc] at hnl
  rw [← ha] at hpa
  have hcv := run_str hl cc 9 Tryd.underlying9
  rw [← hxn] at hrow hsm htw hcv hnl
  have hcame : Came w a n cc x := ⟨hxn.symm, hsm.2.1, hsm.2.2, hl, hnl⟩
  have HI := Lib.hid (And.intro t1 (And.intro t2 (And.intro t3 (And.intro t4 t5))))
  have HS := Lib.hid S
  have HH := Lib.hid H
  have HX := Lib.hid (And.intro hx (And.intro ha hi))
  have HC := Lib.hid hcame
  have HT := Lib.hid htw
  have HPA := Lib.hid hpa
  have HN := Lib.hid hsm
  have HR := Lib.hid hrow
  have HCV := Lib.hid hcv
  have HK := Lib.hid hK
  have HE := Lib.hid hE
  have HLT := Lib.hid (show (LL.take i).length = i by rw [List.length_take, H.len]; omega)
  clear S H hi hE hK hl htw hsm hpa hcame t1 t2 t3 t4 t5 hxn hx ha hcc hnl
  have k1 := HR.out
  have k2 := HCV.out
  have B1 := Lib.hid (heap_alloc_new w (.cells #[str x] 9))
  have F1 := Lib.hid ((Fr.refl (fun _ => False) w).alloc (.cells #[str x] 9))
  obtain ⟨f, hff, rfl⟩ := frame_open hn
  have e4 := hff 4 _ p4
  have e5 := hff 5 _ p5
  have e6 := hff 6 _ p6
  have e7 := hff 7 _ p7
  clear hff hn p4 p5 p6 p7
  rw [lit53, e4, e5, e6, e7]
  clear e4 e5 e6 e7
  conv => arg 2; whnf
  go_wp2_with (focus ((refine wpList_app _ rfl (.tmp 19) (.tmp 25) 24 24 rfl Z 9 ti z 1 16 Tryd.underlying24 HI.out.1 HI.out.2.1 HI.out.2.2.1 HI.out.2.2.2.1 HI.out.2.2.2.2 (by decide) u _ _ rfl (own_ext HS.out.ss F1.out) _ rfl 1 [str x] (src_str B1.out) (by have := HH.out.K20; have := HX.out.2.2; have := HLT.out; unfold maxLen; omega) (by have := HH.out.K20; have := HX.out.2.2; have := HLT.out; omega) (Nat.le_trans HS.out.hz F1.out.size) ?_); intro u2 w2 O2 G2 G2x; refine Hid.out ?_))
  refine Lib.hid ?_
  have O2' : Os w2 Z u2 (LL.take (i + 1)) := by
    rw [take_snoc' HH.out.len HX.out.2.2, ← HX.out.1]
    exact Os.snoc O2
  have uZ : ∀ k, u.ownBlock = some k → Z ≤ k ∧ k < w.heap.size := fun k hk => ownsRow_lt HS.out.ss k hk
  have vZ : ∀ k, v.ownBlock = some k → Z ≤ k ∧ k < w.heap.size := fun k hk => ownsRow_lt HS.out.lm.own k hk
  have G12 : Fr (fun k => u.ownBlock = some k) w w2 := (F1.out.mono (T := fun k => u.ownBlock = some k) (fun _ _ h => h.elim)).trans (Fr.ofGrown G2) (fun _ h => .inl h)
  have nlb : ¬ (u.ownBlock = some lb) := fun h => by have := uZ lb h; have := HH.out.lZ; omega
  have nr : ¬ (u.ownBlock = some r) := fun h => by have := uZ r h; have := HH.out.rZ; omega
  have na : ∀ b, ob a = some b → ¬ (u.ownBlock = some b) := fun b hb h => by have := uZ b h; have := HPA.out b hb; omega
  have hd2 : ∀ k, v.ownBlock = some k → u2.ownBlock ≠ some k := fun k hk h => by
    rcases G2x with e | e
    · rw [e] at h; exact HS.out.ap k hk h
    · rw [e] at h; have := vZ k hk; have h3 := Option.some.inj h; simp at h3; omega
  have uZ2 : ∀ k, u2.ownBlock = some k → Z ≤ k ∧ k < w2.heap.size := fun k hk => ownsRow_lt O2' k hk
  have HO2 := Lib.hid O2'
  have HLM2 := Lib.hid (HS.out.lm.fr G12 nlb (fun k hk h => HS.out.ap k hk h))
  have HR2 := Lib.hid (G12.cellSome (p := ⟨r, i, none⟩) nr HR.out)
  have HC2 := Lib.hid (show Came w2 a n cc x from ⟨HC.out.len, HC.out.le, HC.out.mx, HC.out.lies.fr G12 (fun k hk => na k (by obtain ⟨ad, h1, h2⟩ := hk; rw [h1, ← h2]; rfl)), HC.out.nil⟩)
  have HT2 := Lib.hid (HT.out.fr G12 na)
  have HG12 := Lib.hid G12
  have HD := Lib.hid (And.intro hd2 (And.intro uZ2 (And.intro vZ uZ)))
  have HE2 := Lib.hid (show Env w2 from (HE.out.ext HS.out.fr).fr G12 (fun h => by have h1 := uZ _ h; have := HE.out.lt; have := HH.out.l0; have := HH.out.lZ; omega))
  clear O2' uZ vZ G12 nlb nr na hd2 uZ2 O2 G2 G2x k1 k2
  have k1 := HR2.out
  (try simp only [Act.put, List.setIfInBounds_toArray, List.set_cons_zero, List.set_cons_succ])
  go_wp2_with fail
  refine (add_any lb Z v _ a n cc x w2 HLM2.out HC2.out (by have := HN.out.1; omega) (by rw [List.length_map]; have := HLT.out; have := HX.out.2.2; have := HH.out.K20; omega) (Nat.le_trans HS.out.hz HG12.out.size) HE2.out).mono ?_
  rintro e w3 ⟨rfl, v3, hM3, hx3, F3⟩
  have nr3 : ¬ (r = lb ∨ v.ownBlock = some r) := by
    rintro (h | h)
    · exact HH.out.lr h.symm
    · have := HD.out.2.2.1 r h; have := HH.out.rZ; omega
  have na3 : ∀ b, ob a = some b → ¬ (b = lb ∨ v.ownBlock = some b) := fun b hb => by
    have h1 := HPA.out b hb
    rintro (h | h)
    · exact h1.2.2.1 h
    · have := HD.out.2.2.1 b h; omega
  have nu3 : ∀ k, u2.ownBlock = some k → ¬ (k = lb ∨ v.ownBlock = some k) := fun k hk => by
    rintro (h | h)
    · have := HD.out.2.1 k hk; have := HH.out.lZ; omega
    · exact HD.out.1 k h hk
  have HO3 := Lib.hid (show Os w3 Z u2 (LL.take (i + 1)) from own_fr HO2.out F3 nu3)
  have HM3 := Lib.hid (show LM w3 lb Z v3 ((LL.take (i + 1)).map Lg.leaf) by rw [take_snoc' HH.out.len HX.out.2.2, ← HX.out.1, List.map_append]; exact hM3)
  have HR3 := Lib.hid (F3.cellSome (p := ⟨r, i, none⟩) nr3 HR2.out)
  have HT3 := Lib.hid (HT2.out.fr F3 na3)
  have HAP := Lib.hid (show ∀ k, v3.ownBlock = some k → u2.ownBlock ≠ some k from fun k hk h => by
    rcases hx3 with e | ⟨k3, e, h3⟩
    · rw [e] at hk; exact HD.out.1 k hk h
    · rw [e] at hk; have := Option.some.inj hk; have := HD.out.2.1 k h; omega)
  have HF3 := Lib.hid F3
  clear nr3 na3 nu3 F3 hM3 hx3 k1
  go_wp2_with fail
  refine fill_in_loop (lb := lb) (r := r) (K := K) (c2 := c2) (i := i) (n := n) (cc := cc) (u := u2) (a := a) HX.out.2.2 HR3.out (fun h => (HPA.out r h).2.2.2 rfl) (by have := HN.out.1; omega) HT3.out _ rfl rfl rfl rfl rfl rfl ?_
  intro t' w4 hn p4 p5 p6 p7 F4
  have n4 : ¬ (ob a = some lb) := fun h => (HPA.out lb h).2.2.1 rfl
  have nb4 : ∀ k, Z ≤ k → ¬ (ob a = some k) := fun k hk h => by have := HPA.out k h; omega
  have hM4 := HM3.out.fr F4 n4 (fun k hk => nb4 k (ownsRow_lt HM3.out.own k hk).1)
  have hO4 : Os w4 Z u2 (LL.take (i + 1)) := own_fr HO3.out F4 (fun k hk => nb4 k (ownsRow_lt HO3.out k hk).1)
  have hF : Fr (fun k => Z ≤ k ∨ k = lb ∨ ob (A i) = some k) w w4 := by
    rw [← HX.out.2.1]
    refine ((HG12.out.mono (T := fun k => Z ≤ k ∨ k = lb ∨ ob a = some k) (fun k _ h => .inl (HD.out.2.2.2 k h).1)).trans HF3.out (fun k h => ?_)).trans F4 (fun k h => .inl (.inr (.inr h)))
    rcases h with h | h
    · exact .inl (.inr (.inl h))
    · exact .inl (.inl (HD.out.2.2.1 k h).1)
  have HS4 := Lib.hid (Fs.next HH.out HS.out HX.out.2.2 hF hM4 hO4 HAP.out)
  clear hF hO4 hM4 nb4 n4 F4
  have W1 : wrap64 ((i : Int) + 1) = ((i + 1 : Nat) : Int) := by have := HX.out.2.2; have := HH.out.K20; rw [IntWalk.wrap64_in _ (by omega)]; omega
  obtain ⟨f, hff, rfl⟩ := frame_open hn
  have e4 := hff 4 _ p4
  have e5 := hff 5 _ p5
  have e6 := hff 6 _ p6
  have e7 := hff 7 _ p7
  clear hff hn p4 p5 p6 p7
  rw [lit53, e4, e5, e6, e7]
  clear e4 e5 e6 e7
  go_wp2_with fail
  exact HK.out _ _ v3 u2 (by first | rfl | simp) rfl rfl rfl (congrArg (fun z => some (Value.int .i64 z)) W1) HS4.out
end Go.Proofs.YtjndkjgbplpfeaaDoor
namespace Go.Proofs.YtjndkjgbplpfeaaDoor
open Go.RowKit
set_option linter.unusedVariables false
set_option linter.unusedSimpArgs false
set_option maxRecDepth 100000 in
theorem FewR.slot {w : World} {B k n : Nat} {a : Option Addr} {c : Nat} {A : Nat → Option Addr} {C : Nat → Nat} {L : List (List UInt8)} (h : FewR w B (.slice a n c) A C L n) (hk : k < n) : ∃ g, a = some ⟨g, 0, none⟩ ∧ w.cell? ⟨g, k, none⟩ = some (.slice (A k) (L.getD k []).length (C k)) := by
  rcases h.row.2 with ⟨_, h0⟩ | ⟨g, cap, cur, e, _, hg, hc, hm, _, ht⟩
  · omega
  · injection e with e1 e2 e3
    subst e1
    refine ⟨g, rfl, ?_⟩
    rw [cell_of_block hg, ← Array.getElem?_toList]
    have : (cur.toList.take (n * 1))[k]? = (sls A C L n)[k]? := by rw [ht]
    rw [List.getElem?_take, if_pos (by omega)] at this
    rw [this]
    unfold sls
    rw [List.getElem?_map, List.getElem?_range hk]; rfl
set_option maxRecDepth 100000 in
theorem heap_alloc_at (V : World) (cs : Array Value) (t : TypeId) (b : Nat) (hb : b = V.heap.size) : (V.alloc (.cells cs t)).heap[b]? = some (.cells cs t (0, 0)) := by
  subst hb; exact heap_alloc_new V _
set_option maxRecDepth 100000 in
theorem fewL_small (L : List (List UInt8)) (m z : Nat) : ∀ x ∈ fewL L m z, x.length ≤ z := by
  unfold fewL
  intro x hx
  obtain ⟨y, _, rfl⟩ := List.mem_map.1 hx
  rw [List.length_take]; omega
set_option maxRecDepth 100000 in
theorem getD_small {LL : List (List UInt8)} {z : Nat} (h : ∀ x ∈ LL, x.length ≤ z) (j : Nat) : (LL.getD j []).length ≤ z := by
  rw [List.getD_eq_getElem?_getD]
  by_cases hj : j < LL.length
  · rw [List.getElem?_eq_getElem hj]; exact h _ (List.getElem_mem hj)
  · rw [List.getElem?_eq_none (by omega)]; simp
/-- What a filled log is. -/
structure Fd (w w' : World) (lb Z : Nat) (v u : Value) (LL : List (List UInt8)) : Prop where
  lm : LM w' lb Z v (LL.map Lg.leaf)
  ss : Os w' Z u LL
  ap : ∀ k, v.ownBlock = some k → u.ownBlock ≠ some k
  l0 : w.heap.size ≤ lb
  lZ : lb < Z
  hz : Z ≤ w'.heap.size
  len : LL.length ≤ 20
  small : ∀ x ∈ LL, x.length ≤ 60
  fr : Fr (fun _ => False) w w'
set_option maxRecDepth 100000 in
set_option maxHeartbeats 6400000 in
theorem fill_end {KK : Act → World → Prop} {Q : Exit → Act → World → Prop} {w : World} {lb K c2 : Nat} {u : Value} {a0 : Option Addr} (fr : Array Value) (hn : fr.size = 53) (p4 : fr[4]? = some (.pointer (some ⟨lb, 0, none⟩))) (p5 : fr[5]? = some (u)) (p6 : fr[6]? = some (.slice a0 K c2)) (p7 : fr[7]? = some (.int .i64 (K : Int)))
    (hQ : ∀ t', t'.size = 53 → t'[4]? = some (.pointer (some ⟨lb, 0, none⟩)) → t'[5]? = some (u) → t'[6]? = some (.slice a0 K c2) → t'[7]? = some (.int .i64 (K : Int)) → Q (.exit 0) ⟨t', []⟩ w) :
    Code.wp Tryd.prog (loopAt Tryd.f8 0) (Exit.then KK Q) ⟨fr, []⟩ w := by
  have q2 : ¬ ((K : Int) < (K : Int)) := by omega
  have q2b : ¬ (K < K) := by omega
  have HK := Lib.hid hQ
  clear hQ
  obtain ⟨f, hff, rfl⟩ := frame_open hn
  have e4 := hff 4 _ p4
  have e5 := hff 5 _ p5
  have e6 := hff 6 _ p6
  have e7 := hff 7 _ p7
  clear hff hn p4 p5 p6 p7
  rw [lit53, e4, e5, e6, e7]
  clear e4 e5 e6 e7
  conv => arg 2; whnf
  go_wp2_with fail
  exact HK.out _ (by first | rfl | simp) rfl rfl rfl rfl
set_option maxRecDepth 100000 in
set_option maxHeartbeats 6400000 in
theorem fill_loop {Q : Exit → Act → World → Prop} {w0 w : World} {lb Z r K c2 : Nat} {A : Nat → Option Addr} {C : Nat → Nat} {LL : List (List UInt8)} {v u : Value} (H : Ff w0 lb Z r K A C LL) (S : Fs w0 w lb Z r K 0 A C LL v u) (hE : Env w0) (fr : Array Value) (hn : fr.size = 53) (p4 : fr[4]? = some (.pointer (some ⟨lb, 0, none⟩))) (p5 : fr[5]? = some u) (p6 : fr[6]? = some (.slice (some ⟨r, 0, none⟩) K c2)) (p7 : fr[7]? = some (.int .i64 0))
    (hQ : ∀ t' w' v' u', t'.size = 53 → t'[4]? = some (.pointer (some ⟨lb, 0, none⟩)) → t'[5]? = some u' → Fs w0 w' lb Z r K K A C LL v' u' → Q (.exit 0) ⟨t', []⟩ w') :
    Code.wp Tryd.prog (.loop (loopAt Tryd.f8 0)) Q ⟨fr, []⟩ w := by
  refine wp_loop_up K (fun i t w' => ∃ v' u', t.size = 53 ∧ t[4]? = some (.pointer (some ⟨lb, 0, none⟩)) ∧ t[5]? = some u' ∧ t[6]? = some (.slice (some ⟨r, 0, none⟩) K c2) ∧ t[7]? = some (.int .i64 (i : Int)) ∧ Fs w0 w' lb Z r K i A C LL v' u') fr w ⟨v, u, hn, p4, p5, p6, p7, S⟩ ?_
  rintro i t w1 hi ⟨v1, u1, hn1, p4, p5, p6, p7, S1⟩ KK hKK
  by_cases hlt : i < K
  · exact fill_round H S1 hlt hE t hn1 p4 p5 p6 p7 (fun t' w' v' u' b0 b1 b2 b3 b4 b5 => hKK t' w' hlt ⟨v', u', b0, b1, b2, b3, b4, b5⟩)
  · have : i = K := by omega
    subst this
    exact fill_end t hn1 p4 p5 p6 p7 (fun t' b0 b1 b2 b3 b4 => hQ t' w1 v1 u1 b0 b1 b2 S1)
set_option maxRecDepth 100000 in
set_option maxHeartbeats 6400000 in
theorem fill_aux (a : Option Addr) (L LL : List (List UInt8)) (hLL : fewL L 20 60 = LL) (n c : Nat) (hn : L.length = n) (w : World) (h : Parts w a L) (hn2 : n ≤ maxLen) (hE : Env w) :
    Calls Tryd.prog 8 #[.slice a n c] w fun e w' => ∃ lb Z v u, e = .returned (.tuple #[.pointer (some ⟨lb, 0, none⟩), u]) ∧ Fd w w' lb Z v u LL := by
  have hP : ∀ W, Fr (fun _ => False) w W → Parts W a L := fun W F => h.grow F
  have HP := Lib.hid hP
  have HE := Lib.hid hE
  have HN := Lib.hid hn
  clear hP hE h
  go_enter Tryd.func8, Tryd.ntmps8
  go_wp2_with fail
  have F0 : Fr (fun _ => False) w (w.alloc (.cells #[.slice none 0 0] 56)) := (Fr.refl _ _).alloc _
  have HS1 := Lib.hid (show (w.alloc (.cells #[.slice none 0 0] 56)).heap.size = w.heap.size + 1 by simp)
  have HB1 := Lib.hid (show (w.alloc (.cells #[.slice none 0 0] 56)).heap[w.heap.size]? = some (.cells #[.slice none 0 0] 56 (0, 0)) from heap_alloc_at _ _ _ _ rfl)
  generalize (w.alloc (.cells #[.slice none 0 0] 56)) = w1 at F0 HS1 HB1 ⊢
  refine (few_any a L n c 20 60 20 60 rfl rfl (by decide) (by decide) hn w1 (HP.out _ F0) hn2).mono ?_
  rintro e w2 ⟨a0, c2, A, C, rfl, hf, F2⟩
  have hlen : (fewL L 20 60).length = min 20 n := by rw [fewL_len, hn]
  have HSM := Lib.hid (fewL_small L 20 60)
  rw [hLL] at hf hlen HSM
  clear hLL
  have hK20 : min 20 n ≤ 20 := by omega
  generalize min 20 n = K at *
  have G2 : Fr (fun _ => False) w w2 := F0.trans F2 (fun _ h => h.elim)
  have B2 : w2.heap[w.heap.size]? = some (.cells #[.slice none 0 0] 56 (0, 0)) := (F2.block _ (lt_of_block HB1.out) (fun h => h)).trans HB1.out
  have Z2 : w.heap.size < w2.heap.size := lt_of_block B2
  have hM0 : LM w2 w.heap.size w2.heap.size (.slice none 0 0) [] := ⟨B2, World.ownsRow_nil _ _ _ _, by simp [Value.ownBlock], by intro x hx; cases hx⟩
  have HM := Lib.hid hM0
  have HF := Lib.hid hf
  have HG := Lib.hid G2
  have HK := Lib.hid (And.intro hK20 (And.intro hlen Z2))
  clear hf G2 B2 Z2 hM0 F2 F0 hlen hn hn2 hK20 HP HN
  by_cases hK0 : K = 0
  · subst hK0
    have hL0 : LL = [] := List.eq_nil_of_length_eq_zero HK.out.2.1
    subst hL0
    go_wp2_with fail
    refine wp_loop_up 0 (fun i t w' => t.size = 53 ∧ t[4]? = some (.pointer (some ⟨w.heap.size, 0, none⟩)) ∧ t[5]? = some (.slice none 0 0) ∧ t[6]? = some (.slice a0 0 c2) ∧ t[7]? = some (.int .i64 0) ∧ w' = w2) _ _ ⟨by first | rfl | simp, rfl, rfl, rfl, rfl, rfl⟩ ?_
    rintro i t w9 hi ⟨hn1, p4, p5, p6, p7, rfl⟩ KK hKK
    refine fill_end (K := 0) t hn1 p4 p5 p6 p7 ?_
    intro t' hn p4 p5 p6 p7
    obtain ⟨f, hff, rfl⟩ := frame_open hn
    have e4 := hff 4 _ p4
    have e5 := hff 5 _ p5
    have e6 := hff 6 _ p6
    have e7 := hff 7 _ p7
    clear hff hn p4 p5 p6 p7
    rw [lit53, e4, e5, e6, e7]
    clear e4 e5 e6 e7
    go_wp2_with fail
    go_returns
    exact ⟨w.heap.size, w9.heap.size, .slice none 0 0, .slice none 0 0, rfl, HM.out, Os.nil _ _, fun k h => by simp [Value.ownBlock] at h, Nat.le_refl _, HK.out.2.2, Nat.le_refl _, by simp, HSM.out, HG.out⟩
  · obtain ⟨r, rfl, hr0⟩ := HF.out.slot (k := 0) (by omega)
    have hrow := HF.out.row.2
    have hrl := ownsRow_lt HF.out.row r rfl
    have hplt : ∀ j, j < K → ∀ b, ob (A j) = some b → w1.heap.size ≤ b ∧ b < w2.heap.size := fun j hj b hb => (HF.out.part j hj).lt b (by rw [ob_own]; exact hb)
    have HFF : Ff w w.heap.size w2.heap.size r K A C LL := by
      refine ⟨HK.out.2.1, HK.out.1, Nat.le_refl _, HK.out.2.2, ?_, hrl.2, ?_, fun j hj b hb => ?_, HF.out.apart, fun j hj => ?_, fun j hj e => ?_⟩
      · have := HS1.out; omega
      · have := HS1.out; omega
      · have h1 := hplt j hj b hb
        have := HS1.out
        exact ⟨by omega, h1.2, by omega, fun e => HF.out.off j hj b hb (by rw [e]; rfl)⟩
      · obtain ⟨_, h2, h3, _⟩ := (HF.out.part j hj).lies
        exact ⟨getD_small HSM.out j, h2, h3⟩
      · have h1 := HF.out.part j hj
        rw [e] at h1
        exact h1.nilAddr
    have HFS : Fs w w2 w.heap.size w2.heap.size r K 0 A C LL (.slice none 0 0) (.slice none 0 0) := by
      refine ⟨HM.out, Os.nil _ _, fun k h => by simp [Value.ownBlock] at h, fun j hj => ?_, fun j _ hj => ⟨(HF.out.part j hj).lies.2.2.2, (HF.out.part j hj).tw rfl⟩, HG.out, Nat.le_refl _⟩
      obtain ⟨g, e, h2⟩ := HF.out.slot hj
      cases e; exact h2
    have H1 := Lib.hid HFF
    have H2 := Lib.hid HFS
    clear HFF HFS hrow hrl hplt hr0
    go_wp2_with fail
    refine fill_loop H1.out H2.out HE.out _ (by first | rfl | simp) rfl rfl rfl rfl ?_
    intro t' w3 v3 u3 hn p4 p5 S3
    have hS := Lib.hid S3
    clear S3
    obtain ⟨f, hff, rfl⟩ := frame_open hn
    have e4 := hff 4 _ p4
    have e5 := hff 5 _ p5
    clear hff hn p4 p5
    rw [lit53, e4, e5]
    clear e4 e5
    go_wp2_with fail
    go_returns
    have hz := HM.out.own
    refine ⟨w.heap.size, w2.heap.size, v3, u3, rfl, ?_, ?_, hS.out.ap, Nat.le_refl _, HK.out.2.2, hS.out.hz, by rw [HK.out.2.1]; exact HK.out.1, HSM.out, hS.out.fr⟩
    · have := hS.out.lm; rwa [List.take_of_length_le (by rw [HK.out.2.1]; exact Nat.le_refl _)] at this
    · have := hS.out.ss; rwa [List.take_of_length_le (by rw [HK.out.2.1]; exact Nat.le_refl _)] at this
set_option maxRecDepth 100000 in
theorem fill_any (a : Option Addr) (L : List (List UInt8)) (n c : Nat) (hn : L.length = n) (w : World) (h : Parts w a L) (hn2 : n ≤ maxLen) (hE : Env w) :
    Calls Tryd.prog 8 #[.slice a n c] w fun e w' => ∃ lb Z v u, e = .returned (.tuple #[.pointer (some ⟨lb, 0, none⟩), u]) ∧ Fd w w' lb Z v u (fewL L 20 60) := fill_aux a L _ rfl n c hn w h hn2 hE
end Go.Proofs.YtjndkjgbplpfeaaDoor
namespace Go.Proofs.YtjndkjgbplpfeaaDoor
open Go.RowKit
set_option linter.unusedVariables false
set_option linter.unusedSimpArgs false
set_option maxRecDepth 100000 in
theorem heap_old (w : World) (A : Obj) (i : Nat) (o : Obj) (h : w.heap[i]? = some o) : (w.alloc A).heap[i]? = some o := (((Fr.refl (fun _ => False) w).alloc A).block i (Array.getElem?_eq_some_iff.1 h).1 (fun h => h)).trans h
/-- What the small log's building needs. -/
structure R3 (w w4 : World) : Prop where
  p : Parts w4 (some ⟨w.heap.size + 1 + 1 + 1, 0, none⟩) [[1], [2], [3]]
  fr : Fr (fun _ => False) w w4
set_option maxRecDepth 100000 in
theorem r3_of (w : World) : R3 w ((((w.alloc (.cells #[.int .u8 1] 5)).alloc (.cells #[.int .u8 2] 5)).alloc (.cells #[.int .u8 3] 5)).alloc (.cells #[.slice (some ⟨w.heap.size, 0, none⟩) 1 1, .slice (some ⟨w.heap.size + 1, 0, none⟩) 1 1, .slice (some ⟨w.heap.size + 1 + 1, 0, none⟩) 1 1] 35)) := by
  have B0 := heap_three w (.cells #[.int .u8 1] 5) (.cells #[.int .u8 2] 5) (.cells #[.int .u8 3] 5)
  have B1 := heap_three1 w (.cells #[.int .u8 1] 5) (.cells #[.int .u8 2] 5) (.cells #[.int .u8 3] 5)
  have B2 := heap_three2 w (.cells #[.int .u8 1] 5) (.cells #[.int .u8 2] 5) (.cells #[.int .u8 3] 5)
  have F0 := (((Fr.refl (fun _ => False) w).alloc (.cells #[.int .u8 1] 5)).alloc (.cells #[.int .u8 2] 5)).alloc (.cells #[.int .u8 3] 5)
  have hz : ((((w.alloc (.cells #[.int .u8 1] 5)).alloc (.cells #[.int .u8 2] 5)).alloc (.cells #[.int .u8 3] 5))).heap.size = w.heap.size + 1 + 1 + 1 := by simp
  generalize (((w.alloc (.cells #[.int .u8 1] 5)).alloc (.cells #[.int .u8 2] 5)).alloc (.cells #[.int .u8 3] 5)) = w3 at *
  refine ⟨parts3 (n := 1) (n2 := 1) (n3 := 1) (c := 1) (c2 := 1) (c3 := 1) (heap_alloc_at _ _ _ _ hz.symm) (came_cells (l := [1]) (heap_old _ _ _ _ B0) rfl (by decide)) (came_cells (l := [2]) (heap_old _ _ _ _ B1) rfl (by decide)) (came_cells (l := [3]) (heap_old _ _ _ _ B2) rfl (by decide)), F0.alloc _⟩
set_option maxRecDepth 100000 in
theorem str_same (l : List UInt8) (W : World) : (binOp .eql 9 (.string ⟨l.toArray⟩) (.string ⟨l.toArray⟩)).run Tryd.prog W = .ok (.bool true) W := by
  simp [binOp, Op.stringOp]
set_option maxRecDepth 100000 in
theorem path_three (a b c : List UInt8) : (Lg.path 2 [a, b, c]).length = 1 := by
  have h2 : Lg.hf [a, b, c].length = 2 := show Lg.hf 3 = 2 by decide
  have h3 : 2 ≤ [a, b, c].length := by simp
  rw [Lg.path_right h3 (by rw [h2]; omega), h2, Lg.path_one (by simp)]; rfl
set_option maxRecDepth 100000 in
set_option maxHeartbeats 6400000 in
theorem logs_any (w : World) (hE : Env w) (hR : REnv w) : Calls Tryd.prog 9 #[] w fun e w' => e = .returned (.bool true) ∧ Fr (fun _ => False) w w' := by
  have H3 := Lib.hid (r3_of w)
  have HE := Lib.hid (hE.ext H3.out.fr)
  have HR := Lib.hid (hR.ext H3.out.fr)
  clear hE hR
  go_enter Tryd.func9, Tryd.ntmps9
  go_wp2_with fail
  generalize ((((w.alloc (.cells #[.int .u8 1] 5)).alloc (.cells #[.int .u8 2] 5)).alloc (.cells #[.int .u8 3] 5)).alloc (.cells #[.slice (some ⟨w.heap.size, 0, none⟩) 1 1, .slice (some ⟨w.heap.size + 1, 0, none⟩) 1 1, .slice (some ⟨w.heap.size + 1 + 1, 0, none⟩) 1 1] 35)) = w4 at *
  refine (fill_any (some ⟨w.heap.size + 1 + 1 + 1, 0, none⟩) [[1], [2], [3]] 3 3 rfl w4 H3.out.p (by unfold maxLen; omega) HE.out).mono ?_
  rintro e w5 ⟨lb, Z, v, u, rfl, hd⟩
  rw [show fewL [[1], [2], [3]] 20 60 = [[1], [2], [3]] from rfl] at hd
  have HM := Lib.hid hd.lm
  have HS := Lib.hid hd.ss
  have HF := Lib.hid (H3.out.fr.trans hd.fr (fun _ h => h.elim))
  have HE5 := Lib.hid (HE.out.ext hd.fr)
  have HR5 := Lib.hid (HR.out.ext hd.fr)
  clear hd HE HR H3
  go_wp2_with fail
  refine (incl_m lb Z v _ 2 3 (by decide) (by decide) (by decide) w5 HM.out HE5.out).mono ?_
  rintro e w6 ⟨⟨v2, rfl, hO⟩, F6⟩
  obtain ⟨a2, c2, rfl⟩ := ownsRow_slice hO
  rw [show (Lg.path 2 (List.take 3 (List.map Lg.leaf [[1], [2], [3]]))).length = 1 from by rw [show List.take 3 (List.map Lg.leaf [[1], [2], [3]]) = [Lg.leaf [1], Lg.leaf [2], Lg.leaf [3]] from rfl]; exact path_three _ _ _]
  have HM6 := Lib.hid (HM.out.ext F6)
  have HE6 := Lib.hid (HE5.out.ext F6)
  have HF6 := Lib.hid F6
  clear hO F6
  go_wp2_with fail
  refine (root_m lb Z v _ 3 (by decide) (by decide) w6 HM6.out HE6.out).mono ?_
  rintro e w7 ⟨rfl, F7⟩
  have HL7 := Lib.hid (Lg.root_len (L := List.take 3 (List.map Lg.leaf [[1], [2], [3]])) (by intro x hx; exact (leaf_all [[1], [2], [3]]) x (List.mem_of_mem_take hx)))
  have HX7 := Lib.hid (show Lg.root (List.take 3 (List.map Lg.leaf [[1], [2], [3]])) = Lg.root (List.map Lg.leaf [[1], [2], [3]]) from rfl)
  generalize Lg.root (List.take 3 (List.map Lg.leaf [[1], [2], [3]])) = rt at *
  have HF7 := Lib.hid (HF6.out.trans F7 (fun _ h => h.elim))
  clear F7
  go_wp2_with (rw [zero32]; refine wpList_store_rowA rfl 31 (.tmp 5) (.tmp 24) rfl w7.heap.size (krow rt) rfl rfl 31 _ (heap_alloc_new _ _) (sz32' HL7.out) (by rw [ub_size, krow_size, HL7.out]) (krow_one _) ?_; intro w8 B8 F8; simp only [Act.put, List.setIfInBounds_toArray, List.set_cons_zero, List.set_cons_succ]; refine Hid.out ?_)
  have HB8 := Lib.hid B8
  have hf8 : Fr (fun _ => False) w5 w8 := (HF7.out.alloc (.cells (ub 32 (fun _ => 0)) 31)).trans F8 (fun k hk => .inr (by rw [hk]; exact HF7.out.size))
  have HF8 := Lib.hid hf8
  have HE8 := Lib.hid (HE5.out.ext hf8)
  clear hf8 F8 B8
  refine Lib.hid ?_
  go_wp2_with fail
  have CA : Came (w8.alloc (.cells #[.int .u8 1] 5)) (some ⟨w8.heap.size, 0, none⟩) 1 1 [1] := came_cells (l := [1]) (heap_alloc_new _ _) rfl (by decide)
  have F9 := HF8.out.alloc (.cells #[.int .u8 1] 5)
  have HB9 := Lib.hid (heap_old w8 (.cells #[.int .u8 1] 5) _ _ HB8.out)
  have hE9 := HE8.out.ext ((Fr.refl (fun _ => False) w8).alloc (.cells #[.int .u8 1] 5))
  generalize (w8.alloc (.cells #[.int .u8 1] 5)) = w9 at *
  refine (entry_any _ 1 1 [1] w9 CA (by decide) hE9).mono ?_
  rintro e w10 ⟨rfl, F10⟩
  have HB10 := Lib.hid ((F10.block _ (lt_of_block HB9.out) (fun h => h)).trans HB9.out)
  have HF10 := Lib.hid (F9.trans F10 (fun _ h => h.elim))
  clear F9 hE9 CA F10 HB9 HB8 HE8 HF8
  go_wp2_with (rw [zero32]; refine wpList_store_rowA rfl 31 (.tmp 7) (.tmp 27) rfl w10.heap.size (krow (Lg.leaf [1])) rfl rfl 31 _ (heap_alloc_new _ _) (sz32' (Lg.leaf_len _)) (by rw [ub_size, krow_size, Lg.leaf_len]) (krow_one _) ?_; intro w11 B11 F11; simp only [Act.put, List.setIfInBounds_toArray, List.set_cons_zero, List.set_cons_succ]; refine Hid.out ?_)
  have F11a := ((Fr.refl (fun _ => False) w10).alloc (.cells (ub 32 (fun _ => 0)) 31)).trans F11 (fun k hk => .inr (by rw [hk]; exact Nat.le_refl _))
  have hB := (F11a.block _ (lt_of_block HB10.out) (fun h => h)).trans HB10.out
  have C1 : Came w11 (some ⟨w7.heap.size, 0, none⟩) 32 32 rt := by have := came_row hB (by rw [HL7.out]; decide); rwa [HL7.out] at this
  have C2 : Came w11 (some ⟨w10.heap.size, 0, none⟩) 32 32 (Lg.leaf [1]) := by have := came_row B11 (by rw [Lg.leaf_len]; decide); rwa [Lg.leaf_len] at this
  have F11b := HF10.out.trans F11a (fun _ h => h.elim)
  have HC1 := Lib.hid C1
  have HC2 := Lib.hid C2
  have HBB := Lib.hid (And.intro hB B11)
  have HF11 := Lib.hid F11b
  have HR11 := Lib.hid (HR5.out.ext F11b)
  obtain ⟨au, cu, hu, hc1, hc2, hsv, _⟩ := Os.view (show Os w11 Z u [[1], [2], [3]] from own_ext HS.out F11b)
  replace hu : u = .slice au 3 cu := hu
  have hc11 : ∀ W : World, Fr (fun _ => False) w11 W → Calls Tryd.prog 14 #[.slice au 3 cu] W fun e w' => e = .returned (.string ⟨rt.toArray⟩) ∧ Fr (fun _ => False) W w' := fun W F => by
    rw [HX7.out]
    exact rroot_any 3 au cu [[1], [2], [3]] 3 W (by decide) rfl hc1 hc2 (by intro x hx; simp at hx; rcases hx with h | h | h <;> subst h <;> decide) (hsv.ext F) (HR11.out.ext F)
  have hc12 : ∀ W : World, Fr (fun _ => False) w11 W → Calls Tryd.prog 27 #[.string ⟨#[0, 1]⟩] W fun e w' => e = .returned (.string ⟨(Lg.leaf [1]).toArray⟩) ∧ Fr (fun _ => False) W w' := fun W F => rsum_str [0, 1] (by decide) W (HR11.out.ext F)
  have HC11 := Lib.hid hc11
  have HC12 := Lib.hid hc12
  have HS11 := Lib.hid hsv
  have HCU := Lib.hid (And.intro hc1 hc2)
  subst hu
  clear F11 F11a hB C1 C2 F11b hsv hc1 hc2 B11 hc11 hc12
  have k3 : ∀ W : World, (binOp .eql 9 (.string ⟨rt.toArray⟩) (.string ⟨rt.toArray⟩)).run Tryd.prog W = .ok (.bool true) W := fun W => str_same _ W
  have k4 : ∀ W : World, (binOp .eql 9 (.string ⟨(Lg.leaf [1]).toArray⟩) (.string ⟨(Lg.leaf [1]).toArray⟩)).run Tryd.prog W = .ok (.bool true) W := fun W => str_same _ W
  generalize hl1 : Lg.leaf [1] = l1 at *
  refine Lib.hid ?_
  have k1 := fun (x : Wd w11) => (HC1.out.ext x.h).str2
  have k2 := fun (x : Wd w11) => (HC2.out.ext x.h).str2
  go_wp2_with fail
  refine wp_region_keep (by kernel_rfl) (by kernel_rfl) ?_
  repeat (any_goals (first | go_big_quiet_step (first | exact Calls.keep (HC11.out _ (by assumption : Wd w11).h) | exact Calls.keep (HC11.out _ (Wd.h _)) | exact Calls.keep (HC12.out _ (Wd.h _))) | quiet_step (fail)))
  refine wpQuiet_nil ?_
  intro _ hwz
  obtain ⟨y, rfl⟩ := hwz
  go_wp2_with fail
  go_ret
  exact ⟨rfl, (HF.out.trans HF11.out (fun _ h => h.elim)).trans y.h (fun _ h => h.elim)⟩
end Go.Proofs.YtjndkjgbplpfeaaDoor

/-
  The path of an entry; what shows that a beginning is one.
  What shows that a beginning is one.
-/
import Derived.Test.YtjndkjgbplpfeaaDoorQLa
namespace Go.Proofs.YtjndkjgbplpfeaaDoor
open Go.RowKit
set_option linter.unusedVariables false
set_option linter.unusedSimpArgs false
set_option maxRecDepth 100000 in
theorem bv_range (x : List UInt8) (h : x.length = 32) : ∃ f, krow x = ub 32 f := ⟨fun j => x.getD j 0, by
  apply Array.ext_getElem?
  intro j
  by_cases hj : j < 32
  · rw [ub_get 32 _ j hj, krow, List.getElem?_toArray, bv_get' x j (by omega), List.getD_eq_getElem?_getD, List.getElem?_eq_getElem (by omega)]; rfl
  · rw [Array.getElem?_eq_none (by rw [krow_size]; omega), Array.getElem?_eq_none (by rw [ub_size]; omega)]⟩
set_option maxRecDepth 100000 in
theorem mkR0 (f : Nat → UInt8) (w : World) : (Instr.buildSlice 38 1 #[(0, .agg (ub 32 f))]).run Tryd.prog w = .ok (.slice (some ⟨w.heap.size, 0, none⟩) 1 1) (w.alloc (.cells (ub 32 f) 31)) := by kernel_rfl
set_option maxRecDepth 100000 in
theorem mkR {x : List UInt8} (h : x.length = 32) (w : World) : (Instr.buildSlice 38 1 #[(0, .agg (krow x))]).run Tryd.prog w = .ok (.slice (some ⟨w.heap.size, 0, none⟩) 1 1) (w.alloc (.cells (krow x) 31)) := by
  obtain ⟨f, e⟩ := bv_range x h
  rw [e]; exact mkR0 f w
set_option maxRecDepth 100000 in
theorem rInfo : ∃ ti z, Tryd.prog.info? 31 = some ti ∧ ti.zero = some z ∧ ti.size = 32 ∧ ti.bytes = 32 ∧ z.cells.size = 32 := ⟨_, .agg (ub 32 (fun _ => 0)), rfl, by kernel_rfl, by kernel_rfl, by kernel_rfl, by kernel_rfl⟩
/-- The type of a row, its facts together. -/
structure RI (ti : TypeInfo) (z : Value) : Prop where
  h1 : Tryd.prog.info? 31 = some ti
  h2 : ti.zero = some z
  h3 : ti.size = 32
  h4 : ti.bytes = 32
  h5 : z.cells.size = 32
set_option maxRecDepth 100000 in
theorem rI : ∃ ti z, RI ti z := by
  obtain ⟨ti, z, h1, h2, h3, h4, h5⟩ := rInfo
  exact ⟨ti, z, h1, h2, h3, h4, h5⟩
set_option maxRecDepth 100000 in
theorem src_row {w : World} {b : Nat} {x : List UInt8} {t : TypeId} {fr : Nat × Nat} (h : w.heap[b]? = some (.cells (krow x) t fr)) (hx : x.length = 32) : Src Tryd.prog 32 38 (.slice (some ⟨b, 0, none⟩) 1 1) 1 (bv x) w :=
  Src.ofSlice _ Tryd.underlying38 ⟨b, 0, none⟩ 1 1 _ (by rw [bv_length, hx]) (fun j u hj => by
    rw [Addr.add_mid, Nat.zero_add, cell_of_block h, krow, List.getElem?_toArray]; exact hj) (bv_one x)
/-- Rows of one's own. -/
def Or32 (w : World) (base : Nat) (v : Value) (L : List (List UInt8)) : Prop := w.ownsRow base 31 32 v L.length (bv L.flatten)
set_option maxRecDepth 100000 in
theorem own_ext {w w' : World} {base : Nat} {e : TypeId} {size : Nat} {v : Value} {n : Nat} {xs : List Value} (h : w.ownsRow base e size v n xs) (hF : Fr (fun _ => False) w w') : w'.ownsRow base e size v n xs := by
  refine ⟨h.1, ?_⟩
  rcases h.2 with hn | ⟨g, cap, cur, e, hb, hg, rest⟩
  · exact .inl hn
  · refine .inr ⟨g, cap, cur, e, hb, ?_, rest⟩
    exact (hF.block g (lt_of_block hg) (fun h => h)).trans hg
set_option maxRecDepth 100000 in
theorem own_fr {w w' : World} {base : Nat} {e : TypeId} {size : Nat} {v : Value} {n : Nat} {xs : List Value} {S : Nat → Prop} (h : w.ownsRow base e size v n xs) (hF : Fr S w w') (hS : ∀ k, v.ownBlock = some k → ¬ S k) : w'.ownsRow base e size v n xs := by
  refine ⟨h.1, ?_⟩
  rcases h.2 with hn | ⟨g, cap, cur, e, hb, hg, rest⟩
  · exact .inl hn
  · refine .inr ⟨g, cap, cur, e, hb, ?_, rest⟩
    exact (hF.block g (lt_of_block hg) (hS _ (by rw [e]; rfl))).trans hg
set_option maxRecDepth 100000 in
theorem own_up {w : World} {base base2 : Nat} {e : TypeId} {size : Nat} {v : Value} {n : Nat} {xs : List Value} (h : w.ownsRow base e size v n xs) (hb : base2 ≤ base) : w.ownsRow base2 e size v n xs := by
  refine ⟨h.1, ?_⟩
  rcases h.2 with hn | ⟨g, cap, cur, e, hb, rest⟩
  · exact .inl hn
  · exact .inr ⟨g, cap, cur, e, by omega, rest⟩
set_option maxRecDepth 100000 in
theorem Or32.nil (w : World) (base : Nat) : Or32 w base (.slice none 0 0) [] := World.ownsRow_nil _ _ _ _
set_option maxRecDepth 100000 in
theorem Or32.snoc {w : World} {base : Nat} {v : Value} {L : List (List UInt8)} {x : List UInt8} (h : w.ownsRow base 31 32 v (L.length + 1) (bv L.flatten ++ bv x)) : Or32 w base v (L ++ [x]) := by
  unfold Or32
  rw [List.length_append, List.flatten_append, List.flatten_singleton, bv_append]
  exact h
set_option maxRecDepth 100000 in
/-- What an own row is, for who reads it. -/
theorem Or32.view {w : World} {base : Nat} {v : Value} {L : List (List UInt8)} (h : Or32 w base v L) (ha : Lg.All32 L) : ∃ a c, v = .slice a L.length c ∧ L.length ≤ c ∧ c ≤ maxLen ∧ Kv w a L ∧ (∀ k, inBlk a k → base ≤ k ∧ k < w.heap.size) := by
  rcases h.2 with ⟨e, h0⟩ | ⟨g, cap, cur, e, hb, hg, hc, hm, hs, ht⟩
  · refine ⟨none, 0, by rw [e, h0], by omega, by unfold maxLen; omega, ?_, fun k hk => by obtain ⟨ad, h1, _⟩ := hk; cases h1⟩
    rw [List.eq_nil_of_length_eq_zero h0]
    exact Kv.nil _ _
  · refine ⟨some ⟨g, 0, none⟩, cap, e, hc, hm, ⟨Or.inr ⟨g, 0, rfl, fun j hj => ?_⟩, ha⟩, fun k hk => ?_⟩
    · have hl := ha.flat
      rw [Nat.zero_add, cell_of_block hg, ← Array.getElem?_toList]
      have h1 : (cur.toList.take (L.length * 32))[j]? = (bv L.flatten)[j]? := by rw [ht]
      rw [List.getElem?_take_of_lt (by omega), bv_get' _ j hj] at h1
      exact h1
    · obtain ⟨ad, h1, h2⟩ := hk
      cases h1
      rw [← h2]
      exact ⟨hb, lt_of_block hg⟩
set_option maxRecDepth 100000 in
theorem Lg.path_len : ∀ (n : Nat) (i : Nat) (L : List (List UInt8)), L.length ≤ n → (Lg.path i L).length ≤ L.length
  | 0, i, L, hn => by rw [Lg.path_one (by omega)]; simp
  | n + 1, i, L, hn => by
    by_cases h2 : L.length < 2
    · rw [Lg.path_one h2]; simp
    · have h1 := Lg.hf_lt (n := L.length) (by omega)
      have h0 := Lg.hf_pos L.length
      by_cases hi : i < Lg.hf L.length
      · rw [Lg.path_left (by omega) hi, List.length_append]
        have := Lg.path_len n i (L.take (Lg.hf L.length)) (by rw [List.length_take]; omega)
        rw [List.length_take] at this
        simp; omega
      · rw [Lg.path_right (by omega) hi, List.length_append]
        have := Lg.path_len n (i - Lg.hf L.length) (L.drop (Lg.hf L.length)) (by rw [List.length_drop]; omega)
        rw [List.length_drop] at this
        simp; omega
structure Nonempty' (p : Prop) : Prop where
  h : p
set_option maxRecDepth 100000 in
set_option maxHeartbeats 6400000 in
theorem incl_left (a : Option Addr) (c : Nat) (L : List (List UInt8)) (n i : Nat) (w : World) (hn : L.length = n) (h2 : 2 ≤ L.length) (hc : n ≤ c) (hm : c ≤ maxLen) (hin : i < n) (n9 : n ≤ 1000) (hK : Kv w a L) (hE : Env w) {N : Nat}
    (ih : ∀ (a : Option Addr) (c : Nat) (L : List (List UInt8)) (n i : Nat) (w : World), L.length ≤ N → L.length = n → n ≤ c → c ≤ maxLen → i < n → n ≤ 1000 → Kv w a L → Env w → Calls Tryd.prog 32 #[.int .i64 (i : Int), .slice a n c] w fun e w' => (∃ v, e = .returned v ∧ Or32 w' w.heap.size v (Lg.path i L)) ∧ Fr (fun _ => False) w w') (hN : L.length ≤ N + 1) (hi : i < Lg.hf L.length) :
    Calls Tryd.prog 32 #[.int .i64 (i : Int), .slice a n c] w fun e w' => (∃ v, e = .returned v ∧ Or32 w' w.heap.size v (Lg.path i L)) ∧ Fr (fun _ => False) w w' := by
  obtain ⟨g, off, rfl⟩ := hK.at (by omega)
  obtain ⟨ti, z, hI⟩ := rI
  have hlt := Lg.hf_lt h2
  have hpos := Lg.hf_pos L.length
  have hp := Lg.path_left h2 hi
  obtain ⟨h, hh⟩ : ∃ h, h = Lg.hf L.length := ⟨_, rfl⟩
  rw [← hh] at hlt hpos hp hi
  have HS := Lib.hid (fun w => split_any n (by omega) (by omega) w)
  rw [← hn, ← hh, hn] at HS
  have HI0 := Lib.hid ih
  have HP := Lib.hid hp
  have hpl := Lg.path_len _ i (L.take h) (Nat.le_refl _)
  have e1 : (L.take h).length = h := by rw [List.length_take]; omega
  have e2 : (L.drop h).length = n - h := by rw [List.length_drop, hn]
  have HLN := Lib.hid (show (Lg.path i (L.take h)).length ≤ 1000 by rw [e1] at hpl; omega)
  have HH := Lib.hid (show (L.take h).length ≤ N ∧ (L.take h).length = h ∧ h ≤ c ∧ c ≤ maxLen ∧ i < h ∧ h ≤ 1000 from ⟨by rw [e1]; omega, e1, by omega, by omega, by omega, by omega⟩)
  have HJ := Lib.hid (show (L.drop h).length = (n - h) ∧ (n - h) ≤ (c - h) ∧ (c - h) ≤ maxLen from ⟨e2, by omega, by omega⟩)
  have HI := Lib.hid hI
  have HK0 := Lib.hid hK
  have HE0 := Lib.hid hE
  have b1 : ((n : Int) == 1) = false := beq_eq_false_iff_ne.2 (by omega)
  have q2 : h ≤ n := by omega
  have q3 : h ≤ c := by omega
  have q4 : ¬ (c = h) := by omega
  have q5 : (h : Int) ≤ (n : Int) := by omega
  have q6 : (i : Int) < (h : Int) := by omega
  have q7 : True := trivial
  have Q7 := Lib.hid q7
  clear hlt hpos hp hi hh h2 hN ih hm hc n9 e1 e2 hn hin hpl hI hK hE
  go_enter Tryd.func32, Tryd.ntmps32
  go_wp2_with fail
  refine (HS.out w).mono ?_
  rintro e w1 ⟨rfl, F1⟩
  have HE := Lib.hid (HE0.out.ext F1)
  have HK := Lib.hid (HK0.out.ext F1)
  have HF1 := Lib.hid F1
  clear F1
  go_wp2_with fail
  refine Ks.wp_region_mono (fun b => w1.heap.size ≤ b) (sg 0 4 ++ (sg 5 3 ++ ((4, true) :: ((8, true) :: ((9, true) :: ((10, true) :: ((11, true) :: ([])))))))) (by kernel_rfl) (by kernel_rfl) ?_
  refine Ks.Wk.seg 0 4 (by kernel_rfl) (by kernel_rfl) ?_
  apply Exists.intro
  refine ⟨?wk0, ?fin0⟩
  case wk0 =>
    intro γ
    simp only [List.drop_succ_cons, List.drop_zero, List.take_succ_cons, List.take_zero]
    repeat (any_goals (first | go_big_quiet_step (fail) | quiet_step (fail)))
    exact wpQuiet_nil rfl
  case fin0 =>
  (try simp only [Act.put, List.setIfInBounds_toArray, List.set_cons_zero, List.set_cons_succ])
  refine Ks.Wk.seg 5 3 (by kernel_rfl) (by kernel_rfl) ?_
  apply Exists.intro
  refine ⟨?wk1, ?fin1⟩
  case wk1 =>
    intro γ
    simp only [List.drop_succ_cons, List.drop_zero, List.take_succ_cons, List.take_zero]
    repeat (any_goals (first | go_big_quiet_step (fail) | quiet_step (fail)))
    exact wpQuiet_nil rfl
  case fin1 =>
  (try simp only [Act.put, List.setIfInBounds_toArray, List.set_cons_zero, List.set_cons_succ])
  refine Ks.Wk.call rfl (by kernel_rfl) 32 #[.int .i64 (i : Int), .slice (some ⟨g, off, none⟩) h c] (fun W => by first | kernel_rfl | rfl) (fun v W => Nonempty' (Or32 W w1.heap.size v (Lg.path i (L.take h)))) (fun W hx => (HI0.out _ c (L.take h) h i W HH.out.1 HH.out.2.1 HH.out.2.2.1 HH.out.2.2.2.1 HH.out.2.2.2.2.1 HH.out.2.2.2.2.2 ((HK.out.ext hx).take h) (HE.out.ext hx)).mono (fun e w' he => by obtain ⟨⟨v, e1, e2⟩, e3⟩ := he; exact ⟨v, e1, e3, ⟨own_up e2 hx.size⟩⟩)) ?_
  rintro v w2 X2 ⟨HO2⟩
  (try simp only [List.getElem_toArray, List.getElem_cons_succ, List.getElem_cons_zero, Act.put, List.setIfInBounds_toArray, List.set_cons_zero, List.set_cons_succ])
  refine Ks.Wk.call rfl (by kernel_rfl) 28 #[.slice (some ⟨g, off + h * 32, none⟩) (n - h) (c - h)] (fun W => by first | kernel_rfl | rfl) (fun v W => v = .agg (krow (Lg.root (L.drop h)))) (fun W hx => (root_any _ _ (c - h) (L.drop h) (n - h) W (Nat.le_refl _) HJ.out.1 HJ.out.2.1 HJ.out.2.2 ((HK.out.ext (X2.trans hx (fun _ h => h.elim))).drop h) (HE.out.ext (X2.trans hx (fun _ h => h.elim)))).mono (fun e w' he => ⟨_, he.1, he.2, rfl⟩)) ?_
  rintro v2 w3 X3 rfl
  (try simp only [List.getElem_toArray, List.getElem_cons_succ, List.getElem_cons_zero, Act.put, List.setIfInBounds_toArray, List.set_cons_zero, List.set_cons_succ])
  refine Ks.Wk.one rfl (fun w4 Xw4 => ?_)
  refine wpList_buildSlice rfl 38 1 _ rfl #[(0, .agg (krow (Lg.root (L.drop h))))] (by first | kernel_rfl | rfl | simp [Act.eval]) (mkR (Lg.root_len (HK.out.all.drop h)) w4) ⟨rfl, Ks.Es.of ((Fr.refl _ w4).alloc _), ?_⟩
  (try simp only [Act.put, List.setIfInBounds_toArray, List.set_cons_zero, List.set_cons_succ])
  have B4 := heap_alloc_new w4 (.cells (krow (Lg.root (L.drop h))) 31)
  have X24 : Fr (fun _ => False) w2 (w4.alloc (.cells (krow (Lg.root (L.drop h))) 31)) := (X3.trans Xw4 (fun _ h => h.elim)).alloc _
  refine Ks.Wk.one rfl (fun w5 Xw5 => ?_)
  have X25 := X24.trans Xw5 (fun _ h => h.elim)
  have O5 := own_ext HO2 X25
  have B5 := (Xw5.block _ (lt_of_block B4) (fun h => h)).trans B4
  have hz5 : w1.heap.size ≤ w5.heap.size := Nat.le_trans X2.size X25.size
  refine wpList_app _ rfl (.tmp 19) (.tmp 24) 38 38 rfl w1.heap.size 31 ti z 32 32 Tryd.underlying38 HI.h1 HI.h2 HI.h3 HI.h4 HI.h5 (by decide) v _ _ rfl O5 _ rfl 1 (bv (Lg.root (L.drop h))) (src_row B5 (Lg.root_len (HK.out.all.drop h))) (by have := HLN.out; unfold maxLen; omega) (by have := HLN.out; omega) hz5 (fun v6 w6 O6 G6 G6x => ⟨rfl, (Fr.ofGrown G6).mono (fun k _ hk => (ownsRow_lt O5 k hk).1), ?_⟩)
  (try simp only [Act.put, List.setIfInBounds_toArray, List.set_cons_zero, List.set_cons_succ])
  refine Ks.Wk.one rfl (fun w7 Xw7 => ?_)
  go_wp2_with fail
  refine ⟨Ks.Es.of (Fr.refl _ _), ?_⟩
  (try simp only [Act.put, List.setIfInBounds_toArray, List.set_cons_zero, List.set_cons_succ])
  intro w9 X9
  have X29 : Fr (fun b => w1.heap.size ≤ b) w2 w9 := ((X25.mono (T := fun b => w1.heap.size ≤ b) (fun _ _ h => h.elim)).trans ((Fr.ofGrown G6).mono (T := fun b => w1.heap.size ≤ b) (fun k _ hk => (ownsRow_lt O5 k hk).1)) (fun _ h => .inl h)).trans (Xw7.trans X9 (fun _ h => h.elim)) (fun _ h => h.elim)
  have HX := Lib.hid (HF1.out.trans (X2.trans X29 (fun _ h => .inr h)) (fun _ h => h.elim))
  have HO := Lib.hid (show Or32 w9 w.heap.size v6 (Lg.path i L) from by
    rw [HP.out]
    exact Or32.snoc (own_up (own_ext O6 (Xw7.trans X9 (fun _ h => h.elim))) HF1.out.size))
  clear X29 X9 Xw7 G6x G6 O6 O5 B5 hz5 X25 Xw5 B4 X24 Xw4 X3 HO2 X2
  go_wp2_with fail
  go_ret
  exact ⟨⟨v6, rfl, HO.out⟩, HX.out⟩
set_option maxRecDepth 100000 in
set_option maxHeartbeats 6400000 in
theorem incl_right (a : Option Addr) (c : Nat) (L : List (List UInt8)) (n i : Nat) (w : World) (hn : L.length = n) (h2 : 2 ≤ L.length) (hc : n ≤ c) (hm : c ≤ maxLen) (hin : i < n) (n9 : n ≤ 1000) (hK : Kv w a L) (hE : Env w) {N : Nat}
    (ih : ∀ (a : Option Addr) (c : Nat) (L : List (List UInt8)) (n i : Nat) (w : World), L.length ≤ N → L.length = n → n ≤ c → c ≤ maxLen → i < n → n ≤ 1000 → Kv w a L → Env w → Calls Tryd.prog 32 #[.int .i64 (i : Int), .slice a n c] w fun e w' => (∃ v, e = .returned v ∧ Or32 w' w.heap.size v (Lg.path i L)) ∧ Fr (fun _ => False) w w') (hN : L.length ≤ N + 1) (hi : ¬ i < Lg.hf L.length) :
    Calls Tryd.prog 32 #[.int .i64 (i : Int), .slice a n c] w fun e w' => (∃ v, e = .returned v ∧ Or32 w' w.heap.size v (Lg.path i L)) ∧ Fr (fun _ => False) w w' := by
  obtain ⟨g, off, rfl⟩ := hK.at (by omega)
  obtain ⟨ti, z, hI⟩ := rI
  have hlt := Lg.hf_lt h2
  have hpos := Lg.hf_pos L.length
  have hp := Lg.path_right h2 hi
  obtain ⟨h, hh⟩ : ∃ h, h = Lg.hf L.length := ⟨_, rfl⟩
  rw [← hh] at hlt hpos hp hi
  have HS := Lib.hid (fun w => split_any n (by omega) (by omega) w)
  rw [← hn, ← hh, hn] at HS
  have HI0 := Lib.hid ih
  have HP := Lib.hid hp
  have hpl := Lg.path_len _ (i - h) (L.drop h) (Nat.le_refl _)
  have e1 : (L.take h).length = h := by rw [List.length_take]; omega
  have e2 : (L.drop h).length = n - h := by rw [List.length_drop, hn]
  have HLN := Lib.hid (show (Lg.path (i - h) (L.drop h)).length ≤ 1000 by rw [e2] at hpl; omega)
  have HH := Lib.hid (show (L.drop h).length ≤ N ∧ (L.drop h).length = (n - h) ∧ (n - h) ≤ (c - h) ∧ (c - h) ≤ maxLen ∧ (i - h) < (n - h) ∧ (n - h) ≤ 1000 from ⟨by rw [e2]; omega, e2, by omega, by omega, by omega, by omega⟩)
  have HJ := Lib.hid (show (L.take h).length = h ∧ h ≤ c ∧ c ≤ maxLen from ⟨e1, by omega, by omega⟩)
  have HI := Lib.hid hI
  have HK0 := Lib.hid hK
  have HE0 := Lib.hid hE
  have b1 : ((n : Int) == 1) = false := beq_eq_false_iff_ne.2 (by omega)
  have q2 : h ≤ n := by omega
  have q3 : h ≤ c := by omega
  have q4 : ¬ (c = h) := by omega
  have q5 : (h : Int) ≤ (n : Int) := by omega
  have q6 : ¬ ((i : Int) < (h : Int)) := by omega
  have q7 : wrap64 ((i : Int) - (h : Int)) = ((i - h : Nat) : Int) := by rw [IntWalk.wrap64_in _ (by omega)]; omega
  have Q7 := Lib.hid q7
  clear hlt hpos hp hi hh h2 hN ih hm hc n9 e1 e2 hn hin hpl hI hK hE
  go_enter Tryd.func32, Tryd.ntmps32
  go_wp2_with fail
  refine (HS.out w).mono ?_
  rintro e w1 ⟨rfl, F1⟩
  have HE := Lib.hid (HE0.out.ext F1)
  have HK := Lib.hid (HK0.out.ext F1)
  have HF1 := Lib.hid F1
  clear F1
  go_wp2_with fail
  refine Ks.wp_region_mono (fun b => w1.heap.size ≤ b) (sg 0 6 ++ (sg 7 3 ++ ((6, true) :: ((10, true) :: ((11, true) :: ((12, true) :: ((13, true) :: ([])))))))) (by kernel_rfl) (by kernel_rfl) ?_
  refine Ks.Wk.seg 0 6 (by kernel_rfl) (by kernel_rfl) ?_
  apply Exists.intro
  refine ⟨?wk0, ?fin0⟩
  case wk0 =>
    intro γ
    simp only [List.drop_succ_cons, List.drop_zero, List.take_succ_cons, List.take_zero]
    repeat (any_goals (first | go_big_quiet_step (fail) | quiet_step (fail)))
    exact wpQuiet_nil rfl
  case fin0 =>
  (try simp only [Act.put, List.setIfInBounds_toArray, List.set_cons_zero, List.set_cons_succ])
  refine Ks.Wk.seg 7 3 (by kernel_rfl) (by kernel_rfl) ?_
  apply Exists.intro
  refine ⟨?wk1, ?fin1⟩
  case wk1 =>
    intro γ
    simp only [List.drop_succ_cons, List.drop_zero, List.take_succ_cons, List.take_zero]
    repeat (any_goals (first | go_big_quiet_step (fail) | quiet_step (fail)))
    exact wpQuiet_nil rfl
  case fin1 =>
  (try simp only [Act.put, List.setIfInBounds_toArray, List.set_cons_zero, List.set_cons_succ])
  trace_state
  rw [Q7.out]
  refine Ks.Wk.call rfl (by kernel_rfl) 32 #[.int .i64 ((i - h : Nat) : Int), .slice (some ⟨g, off + h * 32, none⟩) (n - h) (c - h)] (fun W => by first | kernel_rfl | rfl) (fun v W => Nonempty' (Or32 W w1.heap.size v (Lg.path (i - h) (L.drop h)))) (fun W hx => (HI0.out _ (c - h) (L.drop h) (n - h) (i - h) W HH.out.1 HH.out.2.1 HH.out.2.2.1 HH.out.2.2.2.1 HH.out.2.2.2.2.1 HH.out.2.2.2.2.2 ((HK.out.ext hx).drop h) (HE.out.ext hx)).mono (fun e w' he => by obtain ⟨⟨v, e1, e2⟩, e3⟩ := he; exact ⟨v, e1, e3, ⟨own_up e2 hx.size⟩⟩)) ?_
  rintro v w2 X2 ⟨HO2⟩
  (try simp only [List.getElem_toArray, List.getElem_cons_succ, List.getElem_cons_zero, Act.put, List.setIfInBounds_toArray, List.set_cons_zero, List.set_cons_succ])
  refine Ks.Wk.call rfl (by kernel_rfl) 28 #[.slice (some ⟨g, off, none⟩) h c] (fun W => by first | kernel_rfl | rfl) (fun v W => v = .agg (krow (Lg.root (L.take h)))) (fun W hx => (root_any _ _ c (L.take h) h W (Nat.le_refl _) HJ.out.1 HJ.out.2.1 HJ.out.2.2 ((HK.out.ext (X2.trans hx (fun _ h => h.elim))).take h) (HE.out.ext (X2.trans hx (fun _ h => h.elim)))).mono (fun e w' he => ⟨_, he.1, he.2, rfl⟩)) ?_
  rintro v2 w3 X3 rfl
  (try simp only [List.getElem_toArray, List.getElem_cons_succ, List.getElem_cons_zero, Act.put, List.setIfInBounds_toArray, List.set_cons_zero, List.set_cons_succ])
  refine Ks.Wk.one rfl (fun w4 Xw4 => ?_)
  refine wpList_buildSlice rfl 38 1 _ rfl #[(0, .agg (krow (Lg.root (L.take h))))] (by first | kernel_rfl | rfl | simp [Act.eval]) (mkR (Lg.root_len (HK.out.all.take h)) w4) ⟨rfl, Ks.Es.of ((Fr.refl _ w4).alloc _), ?_⟩
  (try simp only [Act.put, List.setIfInBounds_toArray, List.set_cons_zero, List.set_cons_succ])
  have B4 := heap_alloc_new w4 (.cells (krow (Lg.root (L.take h))) 31)
  have X24 : Fr (fun _ => False) w2 (w4.alloc (.cells (krow (Lg.root (L.take h))) 31)) := (X3.trans Xw4 (fun _ h => h.elim)).alloc _
  refine Ks.Wk.one rfl (fun w5 Xw5 => ?_)
  have X25 := X24.trans Xw5 (fun _ h => h.elim)
  have O5 := own_ext HO2 X25
  have B5 := (Xw5.block _ (lt_of_block B4) (fun h => h)).trans B4
  have hz5 : w1.heap.size ≤ w5.heap.size := Nat.le_trans X2.size X25.size
  refine wpList_app _ rfl (.tmp 32) (.tmp 37) 38 38 rfl w1.heap.size 31 ti z 32 32 Tryd.underlying38 HI.h1 HI.h2 HI.h3 HI.h4 HI.h5 (by decide) v _ _ rfl O5 _ rfl 1 (bv (Lg.root (L.take h))) (src_row B5 (Lg.root_len (HK.out.all.take h))) (by have := HLN.out; unfold maxLen; omega) (by have := HLN.out; omega) hz5 (fun v6 w6 O6 G6 G6x => ⟨rfl, (Fr.ofGrown G6).mono (fun k _ hk => (ownsRow_lt O5 k hk).1), ?_⟩)
  (try simp only [Act.put, List.setIfInBounds_toArray, List.set_cons_zero, List.set_cons_succ])
  refine Ks.Wk.one rfl (fun w7 Xw7 => ?_)
  go_wp2_with fail
  refine ⟨Ks.Es.of (Fr.refl _ _), ?_⟩
  (try simp only [Act.put, List.setIfInBounds_toArray, List.set_cons_zero, List.set_cons_succ])
  intro w9 X9
  have X29 : Fr (fun b => w1.heap.size ≤ b) w2 w9 := ((X25.mono (T := fun b => w1.heap.size ≤ b) (fun _ _ h => h.elim)).trans ((Fr.ofGrown G6).mono (T := fun b => w1.heap.size ≤ b) (fun k _ hk => (ownsRow_lt O5 k hk).1)) (fun _ h => .inl h)).trans (Xw7.trans X9 (fun _ h => h.elim)) (fun _ h => h.elim)
  have HX := Lib.hid (HF1.out.trans (X2.trans X29 (fun _ h => .inr h)) (fun _ h => h.elim))
  have HO := Lib.hid (show Or32 w9 w.heap.size v6 (Lg.path i L) from by
    rw [HP.out]
    exact Or32.snoc (own_up (own_ext O6 (Xw7.trans X9 (fun _ h => h.elim))) HF1.out.size))
  clear X29 X9 Xw7 G6x G6 O6 O5 B5 hz5 X25 Xw5 B4 X24 Xw4 X3 HO2 X2
  go_wp2_with fail
  go_ret
  exact ⟨⟨v6, rfl, HO.out⟩, HX.out⟩
set_option maxRecDepth 100000 in
set_option maxHeartbeats 6400000 in
theorem incl_one (a : Option Addr) (c : Nat) (L : List (List UInt8)) (i : Nat) (hL : L.length = 1) (w : World) : Calls Tryd.prog 32 #[.int .i64 (i : Int), .slice a 1 c] w fun e w' => (∃ v, e = .returned v ∧ Or32 w' w.heap.size v (Lg.path i L)) ∧ Fr (fun _ => False) w w' := by
  have HP := Lib.hid (Lg.path_one (i := i) (L := L) (by omega))
  clear hL
  go_enter Tryd.func32, Tryd.ntmps32
  go_wp2_with fail
  go_ret
  exact ⟨⟨_, rfl, by rw [HP.out]; exact Or32.nil _ _⟩, Fr.refl _ _⟩
set_option maxRecDepth 100000 in
theorem incl_any : ∀ (N : Nat) (a : Option Addr) (c : Nat) (L : List (List UInt8)) (n i : Nat) (w : World), L.length ≤ N → L.length = n → n ≤ c → c ≤ maxLen → i < n → n ≤ 1000 → Kv w a L → Env w → Calls Tryd.prog 32 #[.int .i64 (i : Int), .slice a n c] w fun e w' => (∃ v, e = .returned v ∧ Or32 w' w.heap.size v (Lg.path i L)) ∧ Fr (fun _ => False) w w' := by
  intro N
  induction N with
  | zero => intro a c L n i w hN hn hc hm hi; omega
  | succ N ih =>
    intro a c L n i w hN hn hc hm hi h9 hK hE
    by_cases h1 : n = 1
    · subst h1; exact incl_one a c L i hn w
    · by_cases hh : i < Lg.hf L.length
      · exact incl_left a c L n i w hn (by omega) hc hm hi h9 hK hE ih hN hh
      · exact incl_right a c L n i w hn (by omega) hc hm hi h9 hK hE ih hN hh
end Go.Proofs.YtjndkjgbplpfeaaDoor
namespace Go.Proofs.YtjndkjgbplpfeaaDoor
open Go.RowKit
set_option linter.unusedVariables false
set_option linter.unusedSimpArgs false
set_option maxRecDepth 100000 in
theorem Lg.sub_len : ∀ (n : Nat) (m : Nat) (L : List (List UInt8)) (all : Bool), L.length ≤ n → 1 ≤ m → m ≤ L.length → (Lg.sub m L all).length ≤ L.length
  | 0, m, L, all, hn, h1, h2 => by omega
  | n + 1, m, L, all, hn, h1, h2 => by
    by_cases hm : m = L.length
    · subst hm
      cases all
      · rw [Lg.sub_own]; simp; omega
      · rw [Lg.sub_all]; simp
    · have h4 := Lg.hf_lt (n := L.length) (by omega)
      have h0 := Lg.hf_pos L.length
      by_cases hi : m ≤ Lg.hf L.length
      · rw [Lg.sub_left hm (by omega) hi, List.length_append]
        have := Lg.sub_len n m (L.take (Lg.hf L.length)) all (by rw [List.length_take]; omega) h1 (by rw [List.length_take]; omega)
        rw [List.length_take] at this
        simp; omega
      · rw [Lg.sub_right hm (by omega) hi, List.length_append]
        have := Lg.sub_len n (m - Lg.hf L.length) (L.drop (Lg.hf L.length)) false (by rw [List.length_drop]; omega) (by omega) (by rw [List.length_drop]; omega)
        rw [List.length_drop] at this
        simp; omega
set_option maxRecDepth 100000 in
theorem Lg.sub_all32 : ∀ (n : Nat) (m : Nat) (L : List (List UInt8)) (all : Bool), L.length ≤ n → Lg.All32 L → Lg.All32 (Lg.sub m L all)
  | n, m, L, all, hn, h => by
    by_cases hm : m = L.length
    · subst hm
      cases all
      · rw [Lg.sub_own]; exact fun x hx => by rw [List.mem_singleton.1 hx]; exact Lg.root_len h
      · rw [Lg.sub_all]; exact .nil
    · by_cases h2 : L.length < 2
      · rw [Lg.sub, dif_neg hm, dif_pos h2]; exact .nil
      · match n, hn with
        | 0, hn => omega
        | n + 1, hn =>
          have h4 := Lg.hf_lt (n := L.length) (by omega)
          have h0 := Lg.hf_pos L.length
          by_cases hi : m ≤ Lg.hf L.length
          · rw [Lg.sub_left hm (by omega) hi]
            exact (Lg.sub_all32 n m _ all (by rw [List.length_take]; omega) (h.take _)).snoc (Lg.root_len (h.drop _))
          · rw [Lg.sub_right hm (by omega) hi]
            exact (Lg.sub_all32 n _ _ false (by rw [List.length_drop]; omega) (h.drop _)).snoc (Lg.root_len (h.take _))
set_option maxRecDepth 100000 in
theorem Or32.one {w : World} {base g : Nat} {x : List UInt8} (hb : base ≤ g) (hg : w.heap[g]? = some (.cells (krow x) 31 (0, 0))) (hx : x.length = 32) : Or32 w base (.slice (some ⟨g, 0, none⟩) 1 1) [x] :=
  ⟨by simp [hx], .inr ⟨g, 1, _, rfl, hb, hg, Nat.le_refl _, by unfold maxLen; omega, by rw [krow_size, hx], by
    have : (bv x).length ≤ 1 * 32 := by rw [bv_length, hx]; decide
    simp [krow, List.take_of_length_le, hx]⟩⟩
set_option maxRecDepth 100000 in
set_option maxHeartbeats 6400000 in
theorem cons_left (a : Option Addr) (c : Nat) (L : List (List UInt8)) (n m : Nat) (all : Bool) (w : World) (hn : L.length = n) (hmn : m ≠ L.length) (hc : n ≤ c) (hm : c ≤ maxLen) (h1m : 1 ≤ m) (hin : m ≤ n) (n9 : n ≤ 1000) (hK : Kv w a L) (hE : Env w) {N : Nat}
    (ih : ∀ (a : Option Addr) (c : Nat) (L : List (List UInt8)) (n m : Nat) (all : Bool) (w : World), L.length ≤ N → L.length = n → n ≤ c → c ≤ maxLen → 1 ≤ m → m ≤ n → n ≤ 1000 → Kv w a L → Env w → Calls Tryd.prog 33 #[.int .i64 (m : Int), .slice a n c, .bool all] w fun e w' => (∃ v, e = .returned v ∧ Or32 w' w.heap.size v (Lg.sub m L all)) ∧ Fr (fun _ => False) w w') (hN : L.length ≤ N + 1) (hi : m ≤ Lg.hf L.length) :
    Calls Tryd.prog 33 #[.int .i64 (m : Int), .slice a n c, .bool all] w fun e w' => (∃ v, e = .returned v ∧ Or32 w' w.heap.size v (Lg.sub m L all)) ∧ Fr (fun _ => False) w w' := by
  have h2 : 2 ≤ L.length := by omega
  obtain ⟨g, off, rfl⟩ := hK.at (by omega)
  obtain ⟨ti, z, hI⟩ := rI
  have hlt := Lg.hf_lt h2
  have hpos := Lg.hf_pos L.length
  have hp := Lg.sub_left (all := all) hmn h2 hi
  obtain ⟨h, hh⟩ : ∃ h, h = Lg.hf L.length := ⟨_, rfl⟩
  rw [← hh] at hlt hpos hp hi
  have HS := Lib.hid (fun w => split_any n (by omega) (by omega) w)
  rw [← hn, ← hh, hn] at HS
  have HI0 := Lib.hid ih
  have HP := Lib.hid hp
  have e1 : (L.take h).length = h := by rw [List.length_take]; omega
  have e2 : (L.drop h).length = n - h := by rw [List.length_drop, hn]
  have hpl := Lg.sub_len _ m (L.take h) all (Nat.le_refl _) (by omega) (by rw [e1]; omega)
  have HLN := Lib.hid (show (Lg.sub m (L.take h) all).length ≤ 1000 by rw [e1] at hpl; omega)
  have HH := Lib.hid (show (L.take h).length ≤ N ∧ (L.take h).length = h ∧ h ≤ c ∧ c ≤ maxLen ∧ 1 ≤ m ∧ m ≤ h ∧ h ≤ 1000 from ⟨by rw [e1]; omega, e1, by omega, by omega, by omega, by omega, by omega⟩)
  have HJ := Lib.hid (show (L.drop h).length = (n - h) ∧ (n - h) ≤ (c - h) ∧ (c - h) ≤ maxLen from ⟨e2, by omega, by omega⟩)
  have HI := Lib.hid hI
  have HK0 := Lib.hid hK
  have HE0 := Lib.hid hE
  have b1 : ((m : Int) == (n : Int)) = false := beq_eq_false_iff_ne.2 (by omega)
  have b2 : (m == n) = false := beq_eq_false_iff_ne.2 (by omega)
  have q2 : h ≤ n := by omega
  have q3 : h ≤ c := by omega
  have q4 : ¬ (c = h) := by omega
  have q5 : (h : Int) ≤ (n : Int) := by omega
  have q6 : (m : Int) ≤ (h : Int) := by omega
  have q8 : m ≤ h := by omega
  have q7 : True := trivial
  have Q7 := Lib.hid q7
  clear hlt hpos hp hi hh h2 hN ih hm hc n9 e1 e2 hn hin hpl hI hK hE hmn h1m
  go_enter Tryd.func33, Tryd.ntmps33
  go_wp2_with fail
  refine (HS.out w).mono ?_
  rintro e w1 ⟨rfl, F1⟩
  have HE := Lib.hid (HE0.out.ext F1)
  have HK := Lib.hid (HK0.out.ext F1)
  have HF1 := Lib.hid F1
  clear F1
  go_wp2_with fail
  refine Ks.wp_region_mono (fun b => w1.heap.size ≤ b) (sg 0 5 ++ (sg 6 3 ++ ((5, true) :: ((9, true) :: ((10, true) :: ((11, true) :: ((12, true) :: ([])))))))) (by kernel_rfl) (by kernel_rfl) ?_
  refine Ks.Wk.seg 0 5 (by kernel_rfl) (by kernel_rfl) ?_
  apply Exists.intro
  refine ⟨?wk0, ?fin0⟩
  case wk0 =>
    intro γ
    simp only [List.drop_succ_cons, List.drop_zero, List.take_succ_cons, List.take_zero]
    repeat (any_goals (first | go_big_quiet_step (fail) | quiet_step (fail)))
    exact wpQuiet_nil rfl
  case fin0 =>
  (try simp only [Act.put, List.setIfInBounds_toArray, List.set_cons_zero, List.set_cons_succ])
  refine Ks.Wk.seg 6 3 (by kernel_rfl) (by kernel_rfl) ?_
  apply Exists.intro
  refine ⟨?wk1, ?fin1⟩
  case wk1 =>
    intro γ
    simp only [List.drop_succ_cons, List.drop_zero, List.take_succ_cons, List.take_zero]
    repeat (any_goals (first | go_big_quiet_step (fail) | quiet_step (fail)))
    exact wpQuiet_nil rfl
  case fin1 =>
  (try simp only [Act.put, List.setIfInBounds_toArray, List.set_cons_zero, List.set_cons_succ])
  refine Ks.Wk.call rfl (by kernel_rfl) 33 #[.int .i64 (m : Int), .slice (some ⟨g, off, none⟩) h c, .bool all] (fun W => by first | kernel_rfl | rfl) (fun v W => Nonempty' (Or32 W w1.heap.size v (Lg.sub m (L.take h) all))) (fun W hx => (HI0.out _ c (L.take h) h m all W HH.out.1 HH.out.2.1 HH.out.2.2.1 HH.out.2.2.2.1 HH.out.2.2.2.2.1 HH.out.2.2.2.2.2.1 HH.out.2.2.2.2.2.2 ((HK.out.ext hx).take h) (HE.out.ext hx)).mono (fun e w' he => by obtain ⟨⟨v, e1, e2⟩, e3⟩ := he; exact ⟨v, e1, e3, ⟨own_up e2 hx.size⟩⟩)) ?_
  rintro v w2 X2 ⟨HO2⟩
  (try simp only [List.getElem_toArray, List.getElem_cons_succ, List.getElem_cons_zero, Act.put, List.setIfInBounds_toArray, List.set_cons_zero, List.set_cons_succ])
  refine Ks.Wk.call rfl (by kernel_rfl) 28 #[.slice (some ⟨g, off + h * 32, none⟩) (n - h) (c - h)] (fun W => by first | kernel_rfl | rfl) (fun v W => v = .agg (krow (Lg.root (L.drop h)))) (fun W hx => (root_any _ _ (c - h) (L.drop h) (n - h) W (Nat.le_refl _) HJ.out.1 HJ.out.2.1 HJ.out.2.2 ((HK.out.ext (X2.trans hx (fun _ h => h.elim))).drop h) (HE.out.ext (X2.trans hx (fun _ h => h.elim)))).mono (fun e w' he => ⟨_, he.1, he.2, rfl⟩)) ?_
  rintro v2 w3 X3 rfl
  (try simp only [List.getElem_toArray, List.getElem_cons_succ, List.getElem_cons_zero, Act.put, List.setIfInBounds_toArray, List.set_cons_zero, List.set_cons_succ])
  refine Ks.Wk.one rfl (fun w4 Xw4 => ?_)
  refine wpList_buildSlice rfl 38 1 _ rfl #[(0, .agg (krow (Lg.root (L.drop h))))] (by first | kernel_rfl | rfl | simp [Act.eval]) (mkR (Lg.root_len (HK.out.all.drop h)) w4) ⟨rfl, Ks.Es.of ((Fr.refl _ w4).alloc _), ?_⟩
  (try simp only [Act.put, List.setIfInBounds_toArray, List.set_cons_zero, List.set_cons_succ])
  have B4 := heap_alloc_new w4 (.cells (krow (Lg.root (L.drop h))) 31)
  have X24 : Fr (fun _ => False) w2 (w4.alloc (.cells (krow (Lg.root (L.drop h))) 31)) := (X3.trans Xw4 (fun _ h => h.elim)).alloc _
  refine Ks.Wk.one rfl (fun w5 Xw5 => ?_)
  have X25 := X24.trans Xw5 (fun _ h => h.elim)
  have O5 := own_ext HO2 X25
  have B5 := (Xw5.block _ (lt_of_block B4) (fun h => h)).trans B4
  have hz5 : w1.heap.size ≤ w5.heap.size := Nat.le_trans X2.size X25.size
  refine wpList_app _ rfl (.tmp 27) (.tmp 32) 38 38 rfl w1.heap.size 31 ti z 32 32 Tryd.underlying38 HI.h1 HI.h2 HI.h3 HI.h4 HI.h5 (by decide) v _ _ rfl O5 _ rfl 1 (bv (Lg.root (L.drop h))) (src_row B5 (Lg.root_len (HK.out.all.drop h))) (by have := HLN.out; unfold maxLen; omega) (by have := HLN.out; omega) hz5 (fun v6 w6 O6 G6 G6x => ⟨rfl, (Fr.ofGrown G6).mono (fun k _ hk => (ownsRow_lt O5 k hk).1), ?_⟩)
  (try simp only [Act.put, List.setIfInBounds_toArray, List.set_cons_zero, List.set_cons_succ])
  refine Ks.Wk.one rfl (fun w7 Xw7 => ?_)
  go_wp2_with fail
  refine ⟨Ks.Es.of (Fr.refl _ _), ?_⟩
  (try simp only [Act.put, List.setIfInBounds_toArray, List.set_cons_zero, List.set_cons_succ])
  intro w9 X9
  have X29 : Fr (fun b => w1.heap.size ≤ b) w2 w9 := ((X25.mono (T := fun b => w1.heap.size ≤ b) (fun _ _ h => h.elim)).trans ((Fr.ofGrown G6).mono (T := fun b => w1.heap.size ≤ b) (fun k _ hk => (ownsRow_lt O5 k hk).1)) (fun _ h => .inl h)).trans (Xw7.trans X9 (fun _ h => h.elim)) (fun _ h => h.elim)
  have HX := Lib.hid (HF1.out.trans (X2.trans X29 (fun _ h => .inr h)) (fun _ h => h.elim))
  have HO := Lib.hid (show Or32 w9 w.heap.size v6 (Lg.sub m L all) from by
    rw [HP.out]
    exact Or32.snoc (own_up (own_ext O6 (Xw7.trans X9 (fun _ h => h.elim))) HF1.out.size))
  clear X29 X9 Xw7 G6x G6 O6 O5 B5 hz5 X25 Xw5 B4 X24 Xw4 X3 HO2 X2
  go_wp2_with fail
  go_ret
  exact ⟨⟨v6, rfl, HO.out⟩, HX.out⟩
set_option maxRecDepth 100000 in
set_option maxHeartbeats 6400000 in
theorem cons_right (a : Option Addr) (c : Nat) (L : List (List UInt8)) (n m : Nat) (all : Bool) (w : World) (hn : L.length = n) (hmn : m ≠ L.length) (hc : n ≤ c) (hm : c ≤ maxLen) (h1m : 1 ≤ m) (hin : m ≤ n) (n9 : n ≤ 1000) (hK : Kv w a L) (hE : Env w) {N : Nat}
    (ih : ∀ (a : Option Addr) (c : Nat) (L : List (List UInt8)) (n m : Nat) (all : Bool) (w : World), L.length ≤ N → L.length = n → n ≤ c → c ≤ maxLen → 1 ≤ m → m ≤ n → n ≤ 1000 → Kv w a L → Env w → Calls Tryd.prog 33 #[.int .i64 (m : Int), .slice a n c, .bool all] w fun e w' => (∃ v, e = .returned v ∧ Or32 w' w.heap.size v (Lg.sub m L all)) ∧ Fr (fun _ => False) w w') (hN : L.length ≤ N + 1) (hi : ¬ m ≤ Lg.hf L.length) :
    Calls Tryd.prog 33 #[.int .i64 (m : Int), .slice a n c, .bool all] w fun e w' => (∃ v, e = .returned v ∧ Or32 w' w.heap.size v (Lg.sub m L all)) ∧ Fr (fun _ => False) w w' := by
  have h2 : 2 ≤ L.length := by omega
  obtain ⟨g, off, rfl⟩ := hK.at (by omega)
  obtain ⟨ti, z, hI⟩ := rI
  have hlt := Lg.hf_lt h2
  have hpos := Lg.hf_pos L.length
  have hp := Lg.sub_right (all := all) hmn h2 hi
  obtain ⟨h, hh⟩ : ∃ h, h = Lg.hf L.length := ⟨_, rfl⟩
  rw [← hh] at hlt hpos hp hi
  have HS := Lib.hid (fun w => split_any n (by omega) (by omega) w)
  rw [← hn, ← hh, hn] at HS
  have HI0 := Lib.hid ih
  have HP := Lib.hid hp
  have e1 : (L.take h).length = h := by rw [List.length_take]; omega
  have e2 : (L.drop h).length = n - h := by rw [List.length_drop, hn]
  have hpl := Lg.sub_len _ (m - h) (L.drop h) false (Nat.le_refl _) (by omega) (by rw [e2]; omega)
  have HLN := Lib.hid (show (Lg.sub (m - h) (L.drop h) false).length ≤ 1000 by rw [e2] at hpl; omega)
  have HH := Lib.hid (show (L.drop h).length ≤ N ∧ (L.drop h).length = (n - h) ∧ (n - h) ≤ (c - h) ∧ (c - h) ≤ maxLen ∧ 1 ≤ (m - h) ∧ (m - h) ≤ (n - h) ∧ (n - h) ≤ 1000 from ⟨by rw [e2]; omega, e2, by omega, by omega, by omega, by omega, by omega⟩)
  have HJ := Lib.hid (show (L.take h).length = h ∧ h ≤ c ∧ c ≤ maxLen from ⟨e1, by omega, by omega⟩)
  have HI := Lib.hid hI
  have HK0 := Lib.hid hK
  have HE0 := Lib.hid hE
  have b1 : ((m : Int) == (n : Int)) = false := beq_eq_false_iff_ne.2 (by omega)
  have b2 : (m == n) = false := beq_eq_false_iff_ne.2 (by omega)
  have q2 : h ≤ n := by omega
  have q3 : h ≤ c := by omega
  have q4 : ¬ (c = h) := by omega
  have q5 : (h : Int) ≤ (n : Int) := by omega
  have q6 : ¬ ((m : Int) ≤ (h : Int)) := by omega
  have q8 : ¬ (m ≤ h) := by omega
  have q7 : wrap64 ((m : Int) - (h : Int)) = ((m - h : Nat) : Int) := by rw [IntWalk.wrap64_in _ (by omega)]; omega
  have Q7 := Lib.hid q7
  clear hlt hpos hp hi hh h2 hN ih hm hc n9 e1 e2 hn hin hpl hI hK hE hmn h1m
  go_enter Tryd.func33, Tryd.ntmps33
  go_wp2_with fail
  refine (HS.out w).mono ?_
  rintro e w1 ⟨rfl, F1⟩
  have HE := Lib.hid (HE0.out.ext F1)
  have HK := Lib.hid (HK0.out.ext F1)
  have HF1 := Lib.hid F1
  clear F1
  go_wp2_with fail
  refine Ks.wp_region_mono (fun b => w1.heap.size ≤ b) (sg 0 6 ++ (sg 7 3 ++ ((6, true) :: ((10, true) :: ((11, true) :: ((12, true) :: ((13, true) :: ([])))))))) (by kernel_rfl) (by kernel_rfl) ?_
  refine Ks.Wk.seg 0 6 (by kernel_rfl) (by kernel_rfl) ?_
  apply Exists.intro
  refine ⟨?wk0, ?fin0⟩
  case wk0 =>
    intro γ
    simp only [List.drop_succ_cons, List.drop_zero, List.take_succ_cons, List.take_zero]
    repeat (any_goals (first | go_big_quiet_step (fail) | quiet_step (fail)))
    exact wpQuiet_nil rfl
  case fin0 =>
  (try simp only [Act.put, List.setIfInBounds_toArray, List.set_cons_zero, List.set_cons_succ])
  refine Ks.Wk.seg 7 3 (by kernel_rfl) (by kernel_rfl) ?_
  apply Exists.intro
  refine ⟨?wk1, ?fin1⟩
  case wk1 =>
    intro γ
    simp only [List.drop_succ_cons, List.drop_zero, List.take_succ_cons, List.take_zero]
    repeat (any_goals (first | go_big_quiet_step (fail) | quiet_step (fail)))
    exact wpQuiet_nil rfl
  case fin1 =>
  (try simp only [Act.put, List.setIfInBounds_toArray, List.set_cons_zero, List.set_cons_succ])
  rw [Q7.out]
  refine Ks.Wk.call rfl (by kernel_rfl) 33 #[.int .i64 ((m - h : Nat) : Int), .slice (some ⟨g, off + h * 32, none⟩) (n - h) (c - h), .bool false] (fun W => by first | kernel_rfl | rfl) (fun v W => Nonempty' (Or32 W w1.heap.size v (Lg.sub (m - h) (L.drop h) false))) (fun W hx => (HI0.out _ (c - h) (L.drop h) (n - h) (m - h) false W HH.out.1 HH.out.2.1 HH.out.2.2.1 HH.out.2.2.2.1 HH.out.2.2.2.2.1 HH.out.2.2.2.2.2.1 HH.out.2.2.2.2.2.2 ((HK.out.ext hx).drop h) (HE.out.ext hx)).mono (fun e w' he => by obtain ⟨⟨v, e1, e2⟩, e3⟩ := he; exact ⟨v, e1, e3, ⟨own_up e2 hx.size⟩⟩)) ?_
  rintro v w2 X2 ⟨HO2⟩
  (try simp only [List.getElem_toArray, List.getElem_cons_succ, List.getElem_cons_zero, Act.put, List.setIfInBounds_toArray, List.set_cons_zero, List.set_cons_succ])
  refine Ks.Wk.call rfl (by kernel_rfl) 28 #[.slice (some ⟨g, off, none⟩) h c] (fun W => by first | kernel_rfl | rfl) (fun v W => v = .agg (krow (Lg.root (L.take h)))) (fun W hx => (root_any _ _ c (L.take h) h W (Nat.le_refl _) HJ.out.1 HJ.out.2.1 HJ.out.2.2 ((HK.out.ext (X2.trans hx (fun _ h => h.elim))).take h) (HE.out.ext (X2.trans hx (fun _ h => h.elim)))).mono (fun e w' he => ⟨_, he.1, he.2, rfl⟩)) ?_
  rintro v2 w3 X3 rfl
  (try simp only [List.getElem_toArray, List.getElem_cons_succ, List.getElem_cons_zero, Act.put, List.setIfInBounds_toArray, List.set_cons_zero, List.set_cons_succ])
  refine Ks.Wk.one rfl (fun w4 Xw4 => ?_)
  refine wpList_buildSlice rfl 38 1 _ rfl #[(0, .agg (krow (Lg.root (L.take h))))] (by first | kernel_rfl | rfl | simp [Act.eval]) (mkR (Lg.root_len (HK.out.all.take h)) w4) ⟨rfl, Ks.Es.of ((Fr.refl _ w4).alloc _), ?_⟩
  (try simp only [Act.put, List.setIfInBounds_toArray, List.set_cons_zero, List.set_cons_succ])
  have B4 := heap_alloc_new w4 (.cells (krow (Lg.root (L.take h))) 31)
  have X24 : Fr (fun _ => False) w2 (w4.alloc (.cells (krow (Lg.root (L.take h))) 31)) := (X3.trans Xw4 (fun _ h => h.elim)).alloc _
  refine Ks.Wk.one rfl (fun w5 Xw5 => ?_)
  have X25 := X24.trans Xw5 (fun _ h => h.elim)
  have O5 := own_ext HO2 X25
  have B5 := (Xw5.block _ (lt_of_block B4) (fun h => h)).trans B4
  have hz5 : w1.heap.size ≤ w5.heap.size := Nat.le_trans X2.size X25.size
  refine wpList_app _ rfl (.tmp 40) (.tmp 45) 38 38 rfl w1.heap.size 31 ti z 32 32 Tryd.underlying38 HI.h1 HI.h2 HI.h3 HI.h4 HI.h5 (by decide) v _ _ rfl O5 _ rfl 1 (bv (Lg.root (L.take h))) (src_row B5 (Lg.root_len (HK.out.all.take h))) (by have := HLN.out; unfold maxLen; omega) (by have := HLN.out; omega) hz5 (fun v6 w6 O6 G6 G6x => ⟨rfl, (Fr.ofGrown G6).mono (fun k _ hk => (ownsRow_lt O5 k hk).1), ?_⟩)
  (try simp only [Act.put, List.setIfInBounds_toArray, List.set_cons_zero, List.set_cons_succ])
  refine Ks.Wk.one rfl (fun w7 Xw7 => ?_)
  go_wp2_with fail
  refine ⟨Ks.Es.of (Fr.refl _ _), ?_⟩
  (try simp only [Act.put, List.setIfInBounds_toArray, List.set_cons_zero, List.set_cons_succ])
  intro w9 X9
  have X29 : Fr (fun b => w1.heap.size ≤ b) w2 w9 := ((X25.mono (T := fun b => w1.heap.size ≤ b) (fun _ _ h => h.elim)).trans ((Fr.ofGrown G6).mono (T := fun b => w1.heap.size ≤ b) (fun k _ hk => (ownsRow_lt O5 k hk).1)) (fun _ h => .inl h)).trans (Xw7.trans X9 (fun _ h => h.elim)) (fun _ h => h.elim)
  have HX := Lib.hid (HF1.out.trans (X2.trans X29 (fun _ h => .inr h)) (fun _ h => h.elim))
  have HO := Lib.hid (show Or32 w9 w.heap.size v6 (Lg.sub m L all) from by
    rw [HP.out]
    exact Or32.snoc (own_up (own_ext O6 (Xw7.trans X9 (fun _ h => h.elim))) HF1.out.size))
  clear X29 X9 Xw7 G6x G6 O6 O5 B5 hz5 X25 Xw5 B4 X24 Xw4 X3 HO2 X2
  go_wp2_with fail
  go_ret
  exact ⟨⟨v6, rfl, HO.out⟩, HX.out⟩
set_option maxRecDepth 100000 in
set_option maxHeartbeats 6400000 in
theorem cons_own (a : Option Addr) (c : Nat) (L : List (List UInt8)) (n : Nat) (all : Bool) (w : World) (hn : L.length = n) (hc : n ≤ c) (hm : c ≤ maxLen) (hK : Kv w a L) (hE : Env w) : Calls Tryd.prog 33 #[.int .i64 (n : Int), .slice a n c, .bool all] w fun e w' => (∃ v, e = .returned v ∧ Or32 w' w.heap.size v (Lg.sub n L all)) ∧ Fr (fun _ => False) w w' := by
  have b1 : ((n : Int) == (n : Int)) = true := beq_self_eq_true _
  have b2 : (n == n) = true := beq_self_eq_true _
  cases all
  · have HP := Lib.hid (show Lg.sub n L false = [Lg.root L] by rw [← hn]; exact Lg.sub_own)
    have HR := Lib.hid (root_any _ a c L n w (Nat.le_refl _) hn hc hm hK hE)
    have HL := Lib.hid (Lg.root_len hK.all)
    clear hn hc hm hK hE
    go_enter Tryd.func33, Tryd.ntmps33
    go_wp2_with fail
    refine HR.out.mono ?_
    rintro e w1 ⟨rfl, F1⟩
    have HF := Lib.hid F1
    clear F1
    go_wp2_with (focus ((refine wpList_buildSlice rfl 38 1 _ rfl #[(0, .agg (krow (Lg.root L)))] (by first | kernel_rfl | rfl | simp [Act.eval]) (mkR HL.out w1) ?_); simp only [Act.put, List.setIfInBounds_toArray, List.set_cons_zero, List.set_cons_succ]))
    go_ret
    exact ⟨⟨_, rfl, by rw [HP.out]; exact Or32.one HF.out.size (heap_alloc_new w1 _) HL.out⟩, HF.out.alloc _⟩
  · have HP := Lib.hid (show Lg.sub n L true = [] by rw [← hn]; exact Lg.sub_all)
    clear hn hc hm hK hE
    go_enter Tryd.func33, Tryd.ntmps33
    go_wp2_with fail
    go_ret
    exact ⟨⟨_, rfl, by rw [HP.out]; exact Or32.nil _ _⟩, Fr.refl _ _⟩
set_option maxRecDepth 100000 in
theorem cons_any : ∀ (N : Nat) (a : Option Addr) (c : Nat) (L : List (List UInt8)) (n m : Nat) (all : Bool) (w : World), L.length ≤ N → L.length = n → n ≤ c → c ≤ maxLen → 1 ≤ m → m ≤ n → n ≤ 1000 → Kv w a L → Env w → Calls Tryd.prog 33 #[.int .i64 (m : Int), .slice a n c, .bool all] w fun e w' => (∃ v, e = .returned v ∧ Or32 w' w.heap.size v (Lg.sub m L all)) ∧ Fr (fun _ => False) w w' := by
  intro N
  induction N with
  | zero => intro a c L n m all w hN hn hc hm h1 h2; omega
  | succ N ih =>
    intro a c L n m all w hN hn hc hm h1 h2 h9 hK hE
    by_cases hmn : m = n
    · subst hmn; exact cons_own a c L m all w hn hc hm hK hE
    · by_cases hh : m ≤ Lg.hf L.length
      · exact cons_left a c L n m all w hn (by omega) hc hm h1 h2 h9 hK hE ih hN hh
      · exact cons_right a c L n m all w hn (by omega) hc hm h1 h2 h9 hK hE ih hN hh
end Go.Proofs.YtjndkjgbplpfeaaDoor

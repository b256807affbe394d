/-
  The document's paths, and what shows a beginning.
  The document's sums that show a beginning; texts of sums; their comparison.
  Texts of sums; rows of texts compared.
-/
import Derived.Test.YtjndkjgbplpfeaaDoorQLe
namespace Go.Proofs.YtjndkjgbplpfeaaDoor
open Go.RowKit
set_option linter.unusedVariables false
set_option linter.unusedSimpArgs false
set_option maxRecDepth 100000 in
theorem mkS (x : List UInt8) (w : World) : (Instr.buildSlice 24 1 #[(0, str x)]).run Tryd.prog w = .ok (.slice (some ⟨w.heap.size, 0, none⟩) 1 1) (w.alloc (.cells #[str x] 9)) := by kernel_rfl
set_option maxRecDepth 100000 in
theorem mkS0 (w : World) : (Instr.buildSlice 24 0 #[]).run Tryd.prog w = .ok (.slice (some ⟨w.heap.size, 0, none⟩) 0 0) (w.alloc (.cells #[] 9)) := by kernel_rfl
set_option maxRecDepth 100000 in
theorem Os.empty {w : World} {b base : Nat} (h : w.heap[b]? = some (.cells #[] 9 (0, 0))) (hb : base ≤ b) : Os w base (.slice (some ⟨b, 0, none⟩) 0 0) [] := by
  refine ⟨rfl, .inr ⟨b, 0, #[], rfl, hb, h, Nat.le_refl _, by unfold maxLen; omega, rfl, rfl⟩⟩
set_option maxRecDepth 100000 in
theorem wD (i h : Nat) (hi : h ≤ i) (h9 : i ≤ 1000) : wrap64 ((i : Int) - (h : Int)) = ((i - h : Nat) : Int) := by rw [IntWalk.wrap64_in _ (by omega)]; omega
structure Nonempty2 (p : Prop) : Prop where
  h : p
set_option maxRecDepth 100000 in
set_option maxHeartbeats 6400000 in
theorem dpath_left (a : Option Addr) (c : Nat) (W : List (List UInt8)) (n i : Nat) (w : World) (hn : W.length = n) (h2 : 2 ≤ W.length) (hin : i < n) (hc : n ≤ c) (hm : c ≤ maxLen) (n9 : n ≤ 1000) (hx : ∀ x ∈ W, x.length ≤ 100000) (hK : Sv w a W) (hE : REnv w) {N : Nat}
    (ih : ∀ (a : Option Addr) (c : Nat) (W : List (List UInt8)) (n i : Nat) (w : World), W.length ≤ N → W.length = n → n ≤ c → c ≤ maxLen → i < n → n ≤ 1000 → (∀ x ∈ W, x.length ≤ 100000) → Sv w a W → REnv w → Calls Tryd.prog 19 #[.slice a n c, .int .i64 (i : Int)] w fun e w' => (∃ v, e = .returned v ∧ Os w' w.heap.size v (Lg.path i (W.map Lg.leaf))) ∧ Fr (fun _ => False) w w') (hN : W.length ≤ N + 1) (hi : i < Lg.hf W.length) :
    Calls Tryd.prog 19 #[.slice a n c, .int .i64 (i : Int)] w fun e w' => (∃ v, e = .returned v ∧ Os w' w.heap.size v (Lg.path i (W.map Lg.leaf))) ∧ Fr (fun _ => False) w w' := by
  obtain ⟨g, off, rfl⟩ := hK.at (by omega)
  obtain ⟨ti, z, hI⟩ := sInfo
  have hlt := Lg.hf_lt h2
  have hpos := Lg.hf_pos W.length
  have hml : (W.map Lg.leaf).length = W.length := List.length_map _
  have hp := Lg.path_left (L := W.map Lg.leaf) (i := i) (by rw [hml]; exact h2) (by rw [hml]; exact hi)
  rw [hml] at hp
  obtain ⟨h, hh⟩ : ∃ h, h = Lg.hf W.length := ⟨_, rfl⟩
  rw [← hh] at hlt hpos hp hi
  rw [← List.map_take, ← List.map_drop] at hp
  have HS := Lib.hid (fun w => half_any n (by omega) (by omega) w)
  rw [← hn, ← hh, hn] at HS
  have HI0 := Lib.hid ih
  have HP := Lib.hid hp
  have e1 : (W.take h).length = h := by rw [List.length_take]; omega
  have e2 : (W.drop h).length = n - h := by rw [List.length_drop, hn]
  have hpl := Lg.path_len _ i ((W.take h).map Lg.leaf) (Nat.le_refl _)
  rw [List.length_map] at hpl
  have HLN := Lib.hid (show (Lg.path i ((W.take h).map Lg.leaf)).length ≤ 1000 by rw [e1] at hpl; omega)
  have HX := Lib.hid (mem_le_take hx h)
  have HH := Lib.hid (show (W.take h).length ≤ N ∧ (W.take h).length = h ∧ h ≤ c ∧ c ≤ maxLen ∧ i < h ∧ h ≤ 1000 from ⟨by rw [e1]; omega, e1, by omega, by omega, by omega, by omega⟩)
  have HJ := Lib.hid (show (W.drop h).length = (n - h) ∧ (n - h) ≤ (c - h) ∧ (c - h) ≤ maxLen from ⟨e2, by omega, by omega⟩)
  have HI := Lib.hid hI
  have HK0 := Lib.hid hK
  have HE0 := Lib.hid hE
  have b1 : ((n : Int) == 1) = false := beq_eq_false_iff_ne.2 (by omega)
  have b2 : (n == 1) = false := beq_eq_false_iff_ne.2 (by omega)
  have q2 : h ≤ n := by omega
  have q3 : h ≤ c := by omega
  have q4 : ¬ (c = h) := by omega
  have q5 : (h : Int) ≤ (n : Int) := by omega
  have q6 : (i : Int) < (h : Int) := by omega
  have q8 : i < h := by omega
  have q7 : True := trivial
  have Q7 := Lib.hid q7
  clear hlt hpos hp hi hh h2 hN ih hm hc n9 e1 e2 hn hin hpl hI hK hE hml hx
  go_enter Tryd.func19, Tryd.ntmps19
  go_wp2_with fail
  refine (HS.out w).mono ?_
  rintro e w1 ⟨rfl, hw1⟩
  subst hw1
  have HE := HE0
  have HK := HK0
  go_wp2_with fail
  refine Ks.wp_region_mono (fun b => w.heap.size ≤ b) (sg 0 4 ++ (sg 5 3 ++ ((4, true) :: ((8, true) :: ((9, true) :: ((10, true) :: ((11, true) :: ([])))))))) (by kernel_rfl) (by kernel_rfl) ?_
  refine Ks.Wk.seg 0 4 (by kernel_rfl) (by kernel_rfl) ?_
  apply Exists.intro
  refine ⟨?wk0, ?fin0⟩
  case wk0 =>
    intro γ
    simp only [List.drop_succ_cons, List.drop_zero, List.take_succ_cons, List.take_zero]
    repeat (any_goals (first | go_big_quiet_step (fail) | quiet_step (fail)))
    exact wpQuiet_nil rfl
  case fin0 =>
  (try simp only [Act.put, List.setIfInBounds_toArray, List.set_cons_zero, List.set_cons_succ])
  refine Ks.Wk.seg 5 3 (by kernel_rfl) (by kernel_rfl) ?_
  apply Exists.intro
  refine ⟨?wk1, ?fin1⟩
  case wk1 =>
    intro γ
    simp only [List.drop_succ_cons, List.drop_zero, List.take_succ_cons, List.take_zero]
    repeat (any_goals (first | go_big_quiet_step (fail) | quiet_step (fail)))
    exact wpQuiet_nil rfl
  case fin1 =>
  (try simp only [Act.put, List.setIfInBounds_toArray, List.set_cons_zero, List.set_cons_succ])
  refine Ks.Wk.call rfl (by kernel_rfl) 19 #[.slice (some ⟨g, off, none⟩) h c, .int .i64 (i : Int)] (fun W => by first | kernel_rfl | rfl) (fun v V => Nonempty2 (Os V w.heap.size v (Lg.path i ((W.take h).map Lg.leaf)))) (fun V hx => (HI0.out _ c (W.take h) h i V HH.out.1 HH.out.2.1 HH.out.2.2.1 HH.out.2.2.2.1 HH.out.2.2.2.2.1 HH.out.2.2.2.2.2 HX.out.1 ((HK.out.ext hx).take h) (HE.out.ext hx)).mono (fun e w' he => by obtain ⟨⟨v, e1, e2⟩, e3⟩ := he; exact ⟨v, e1, e3, ⟨own_up e2 hx.size⟩⟩)) ?_
  rintro v w2 X2 ⟨HO2⟩
  (try simp only [List.getElem_toArray, List.getElem_cons_succ, List.getElem_cons_zero, Act.put, List.setIfInBounds_toArray, List.set_cons_zero, List.set_cons_succ])
  refine Ks.Wk.call rfl (by kernel_rfl) 14 #[.slice (some ⟨g, off + h, none⟩) (n - h) (c - h)] (fun W => by first | kernel_rfl | rfl) (fun v V => v = str (Lg.root ((W.drop h).map Lg.leaf))) (fun V hx => (rroot_any _ _ (c - h) (W.drop h) (n - h) V (Nat.le_refl _) HJ.out.1 HJ.out.2.1 HJ.out.2.2 HX.out.2 ((HK.out.ext (X2.trans hx (fun _ h => h.elim))).drop h) (HE.out.ext (X2.trans hx (fun _ h => h.elim)))).mono (fun e w' he => ⟨_, he.1, he.2, rfl⟩)) ?_
  rintro v2 w3 X3 rfl
  (try simp only [List.getElem_toArray, List.getElem_cons_succ, List.getElem_cons_zero, Act.put, List.setIfInBounds_toArray, List.set_cons_zero, List.set_cons_succ])
  refine Ks.Wk.one rfl (fun w4 Xw4 => ?_)
  refine wpList_buildSlice rfl 24 1 _ rfl #[(0, str (Lg.root ((W.drop h).map Lg.leaf)))] (by first | kernel_rfl | rfl | simp [Act.eval]) (mkS (Lg.root ((W.drop h).map Lg.leaf)) w4) ⟨rfl, Ks.Es.of ((Fr.refl _ w4).alloc _), ?_⟩
  (try simp only [List.getElem_toArray, List.getElem_cons_succ, List.getElem_cons_zero, Act.put, List.setIfInBounds_toArray, List.set_cons_zero, List.set_cons_succ])
  have B4 := heap_alloc_new w4 (.cells #[str (Lg.root ((W.drop h).map Lg.leaf))] 9)
  have X24 : Fr (fun _ => False) w2 (w4.alloc (.cells #[str (Lg.root ((W.drop h).map Lg.leaf))] 9)) := (X3.trans Xw4 (fun _ h => h.elim)).alloc _
  refine Ks.Wk.one rfl (fun w5 Xw5 => ?_)
  have X25 := X24.trans Xw5 (fun _ h => h.elim)
  have O5 := own_ext HO2 X25
  have B5 := (Xw5.block _ (lt_of_block B4) (fun h => h)).trans B4
  have hz5 : w.heap.size ≤ w5.heap.size := Nat.le_trans X2.size X25.size
  refine wpList_app _ rfl (.tmp 20) (.tmp 25) 24 24 rfl w.heap.size 9 ti z 1 16 Tryd.underlying24 HI.out.1 HI.out.2.1 HI.out.2.2.1 HI.out.2.2.2.1 HI.out.2.2.2.2 (by decide) v _ _ rfl O5 _ rfl 1 [str (Lg.root ((W.drop h).map Lg.leaf))] (src_str B5) (by have := HLN.out; unfold maxLen; omega) (by have := HLN.out; omega) hz5 (fun v6 w6 O6 G6 G6x => ⟨rfl, (Fr.ofGrown G6).mono (fun k _ hk => (ownsRow_lt O5 k hk).1), ?_⟩)
  (try simp only [List.getElem_toArray, List.getElem_cons_succ, List.getElem_cons_zero, Act.put, List.setIfInBounds_toArray, List.set_cons_zero, List.set_cons_succ])
  refine Ks.Wk.one rfl (fun w7 Xw7 => ?_)
  go_wp2_with fail
  refine ⟨Ks.Es.of (Fr.refl _ _), ?_⟩
  (try simp only [List.getElem_toArray, List.getElem_cons_succ, List.getElem_cons_zero, Act.put, List.setIfInBounds_toArray, List.set_cons_zero, List.set_cons_succ])
  intro w9 X9
  have X29 : Fr (fun b => w.heap.size ≤ b) w2 w9 := ((X25.mono (T := fun b => w.heap.size ≤ b) (fun _ _ h => h.elim)).trans ((Fr.ofGrown G6).mono (T := fun b => w.heap.size ≤ b) (fun k _ hk => (ownsRow_lt O5 k hk).1)) (fun _ h => .inl h)).trans (Xw7.trans X9 (fun _ h => h.elim)) (fun _ h => h.elim)
  have HX := Lib.hid (X2.trans X29 (fun _ h => .inr h))
  have HO := Lib.hid (show Os w9 w.heap.size v6 (Lg.path i (W.map Lg.leaf)) from by
    rw [HP.out]
    exact Os.snoc (own_ext O6 (Xw7.trans X9 (fun _ h => h.elim))))
  clear X29 X9 Xw7 G6x G6 O6 O5 B5 hz5 X25 Xw5 B4 X24 Xw4 X3 HO2 X2
  go_wp2_with fail
  go_ret
  exact ⟨⟨v6, rfl, HO.out⟩, HX.out⟩
set_option maxRecDepth 100000 in
set_option maxHeartbeats 6400000 in
theorem dpath_right (a : Option Addr) (c : Nat) (W : List (List UInt8)) (n i : Nat) (w : World) (hn : W.length = n) (h2 : 2 ≤ W.length) (hin : i < n) (hc : n ≤ c) (hm : c ≤ maxLen) (n9 : n ≤ 1000) (hx : ∀ x ∈ W, x.length ≤ 100000) (hK : Sv w a W) (hE : REnv w) {N : Nat}
    (ih : ∀ (a : Option Addr) (c : Nat) (W : List (List UInt8)) (n i : Nat) (w : World), W.length ≤ N → W.length = n → n ≤ c → c ≤ maxLen → i < n → n ≤ 1000 → (∀ x ∈ W, x.length ≤ 100000) → Sv w a W → REnv w → Calls Tryd.prog 19 #[.slice a n c, .int .i64 (i : Int)] w fun e w' => (∃ v, e = .returned v ∧ Os w' w.heap.size v (Lg.path i (W.map Lg.leaf))) ∧ Fr (fun _ => False) w w') (hN : W.length ≤ N + 1) (hi : ¬ i < Lg.hf W.length) :
    Calls Tryd.prog 19 #[.slice a n c, .int .i64 (i : Int)] w fun e w' => (∃ v, e = .returned v ∧ Os w' w.heap.size v (Lg.path i (W.map Lg.leaf))) ∧ Fr (fun _ => False) w w' := by
  obtain ⟨g, off, rfl⟩ := hK.at (by omega)
  obtain ⟨ti, z, hI⟩ := sInfo
  have hlt := Lg.hf_lt h2
  have hpos := Lg.hf_pos W.length
  have hml : (W.map Lg.leaf).length = W.length := List.length_map _
  have hp := Lg.path_right (L := W.map Lg.leaf) (i := i) (by rw [hml]; exact h2) (by rw [hml]; exact hi)
  rw [hml] at hp
  obtain ⟨h, hh⟩ : ∃ h, h = Lg.hf W.length := ⟨_, rfl⟩
  rw [← hh] at hlt hpos hp hi
  rw [← List.map_take, ← List.map_drop] at hp
  have HS := Lib.hid (fun w => half_any n (by omega) (by omega) w)
  rw [← hn, ← hh, hn] at HS
  have HI0 := Lib.hid ih
  have HP := Lib.hid hp
  have e1 : (W.take h).length = h := by rw [List.length_take]; omega
  have e2 : (W.drop h).length = n - h := by rw [List.length_drop, hn]
  have hpl := Lg.path_len _ (i - h) ((W.drop h).map Lg.leaf) (Nat.le_refl _)
  rw [List.length_map] at hpl
  have HLN := Lib.hid (show (Lg.path (i - h) ((W.drop h).map Lg.leaf)).length ≤ 1000 by rw [e2] at hpl; omega)
  have HX := Lib.hid (mem_le_take hx h)
  have HH := Lib.hid (show (W.drop h).length ≤ N ∧ (W.drop h).length = (n - h) ∧ (n - h) ≤ (c - h) ∧ (c - h) ≤ maxLen ∧ (i - h) < (n - h) ∧ (n - h) ≤ 1000 from ⟨by rw [e2]; omega, e2, by omega, by omega, by omega, by omega⟩)
  have HJ := Lib.hid (show (W.take h).length = h ∧ h ≤ c ∧ c ≤ maxLen from ⟨e1, by omega, by omega⟩)
  have HI := Lib.hid hI
  have HK0 := Lib.hid hK
  have HE0 := Lib.hid hE
  have b1 : ((n : Int) == 1) = false := beq_eq_false_iff_ne.2 (by omega)
  have b2 : (n == 1) = false := beq_eq_false_iff_ne.2 (by omega)
  have q2 : h ≤ n := by omega
  have q3 : h ≤ c := by omega
  have q4 : ¬ (c = h) := by omega
  have q5 : (h : Int) ≤ (n : Int) := by omega
  have q6 : ¬ ((i : Int) < (h : Int)) := by omega
  have q8 : ¬ (i < h) := by omega
  have q7 : wrap64 ((i : Int) - (h : Int)) = ((i - h : Nat) : Int) := wD i h (by omega) (by omega)
  have Q7 := Lib.hid q7
  clear hlt hpos hp hi hh h2 hN ih hm hc n9 e1 e2 hn hin hpl hI hK hE hml hx
  go_enter Tryd.func19, Tryd.ntmps19
  go_wp2_with fail
  refine (HS.out w).mono ?_
  rintro e w1 ⟨rfl, hw1⟩
  subst hw1
  have HE := HE0
  have HK := HK0
  go_wp2_with fail
  refine Ks.wp_region_mono (fun b => w.heap.size ≤ b) (sg 0 6 ++ (sg 7 3 ++ ((6, true) :: ((10, true) :: ((11, true) :: ((12, true) :: ((13, true) :: ([])))))))) (by kernel_rfl) (by kernel_rfl) ?_
  refine Ks.Wk.seg 0 6 (by kernel_rfl) (by kernel_rfl) ?_
  apply Exists.intro
  refine ⟨?wk0, ?fin0⟩
  case wk0 =>
    intro γ
    simp only [List.drop_succ_cons, List.drop_zero, List.take_succ_cons, List.take_zero]
    repeat (any_goals (first | go_big_quiet_step (fail) | quiet_step (fail)))
    exact wpQuiet_nil rfl
  case fin0 =>
  (try simp only [Act.put, List.setIfInBounds_toArray, List.set_cons_zero, List.set_cons_succ])
  refine Ks.Wk.seg 7 3 (by kernel_rfl) (by kernel_rfl) ?_
  apply Exists.intro
  refine ⟨?wk1, ?fin1⟩
  case wk1 =>
    intro γ
    simp only [List.drop_succ_cons, List.drop_zero, List.take_succ_cons, List.take_zero]
    repeat (any_goals (first | go_big_quiet_step (fail) | quiet_step (fail)))
    exact wpQuiet_nil rfl
  case fin1 =>
  (try simp only [Act.put, List.setIfInBounds_toArray, List.set_cons_zero, List.set_cons_succ])
  rw [Q7.out]
  refine Ks.Wk.call rfl (by kernel_rfl) 19 #[.slice (some ⟨g, off + h, none⟩) (n - h) (c - h), .int .i64 ((i - h : Nat) : Int)] (fun W => by first | kernel_rfl | rfl) (fun v V => Nonempty2 (Os V w.heap.size v (Lg.path (i - h) ((W.drop h).map Lg.leaf)))) (fun V hx => (HI0.out _ (c - h) (W.drop h) (n - h) (i - h) V HH.out.1 HH.out.2.1 HH.out.2.2.1 HH.out.2.2.2.1 HH.out.2.2.2.2.1 HH.out.2.2.2.2.2 HX.out.2 ((HK.out.ext hx).drop h) (HE.out.ext hx)).mono (fun e w' he => by obtain ⟨⟨v, e1, e2⟩, e3⟩ := he; exact ⟨v, e1, e3, ⟨own_up e2 hx.size⟩⟩)) ?_
  rintro v w2 X2 ⟨HO2⟩
  (try simp only [List.getElem_toArray, List.getElem_cons_succ, List.getElem_cons_zero, Act.put, List.setIfInBounds_toArray, List.set_cons_zero, List.set_cons_succ])
  refine Ks.Wk.call rfl (by kernel_rfl) 14 #[.slice (some ⟨g, off, none⟩) h c] (fun W => by first | kernel_rfl | rfl) (fun v V => v = str (Lg.root ((W.take h).map Lg.leaf))) (fun V hx => (rroot_any _ _ c (W.take h) h V (Nat.le_refl _) HJ.out.1 HJ.out.2.1 HJ.out.2.2 HX.out.1 ((HK.out.ext (X2.trans hx (fun _ h => h.elim))).take h) (HE.out.ext (X2.trans hx (fun _ h => h.elim)))).mono (fun e w' he => ⟨_, he.1, he.2, rfl⟩)) ?_
  rintro v2 w3 X3 rfl
  (try simp only [List.getElem_toArray, List.getElem_cons_succ, List.getElem_cons_zero, Act.put, List.setIfInBounds_toArray, List.set_cons_zero, List.set_cons_succ])
  refine Ks.Wk.one rfl (fun w4 Xw4 => ?_)
  refine wpList_buildSlice rfl 24 1 _ rfl #[(0, str (Lg.root ((W.take h).map Lg.leaf)))] (by first | kernel_rfl | rfl | simp [Act.eval]) (mkS (Lg.root ((W.take h).map Lg.leaf)) w4) ⟨rfl, Ks.Es.of ((Fr.refl _ w4).alloc _), ?_⟩
  (try simp only [List.getElem_toArray, List.getElem_cons_succ, List.getElem_cons_zero, Act.put, List.setIfInBounds_toArray, List.set_cons_zero, List.set_cons_succ])
  have B4 := heap_alloc_new w4 (.cells #[str (Lg.root ((W.take h).map Lg.leaf))] 9)
  have X24 : Fr (fun _ => False) w2 (w4.alloc (.cells #[str (Lg.root ((W.take h).map Lg.leaf))] 9)) := (X3.trans Xw4 (fun _ h => h.elim)).alloc _
  refine Ks.Wk.one rfl (fun w5 Xw5 => ?_)
  have X25 := X24.trans Xw5 (fun _ h => h.elim)
  have O5 := own_ext HO2 X25
  have B5 := (Xw5.block _ (lt_of_block B4) (fun h => h)).trans B4
  have hz5 : w.heap.size ≤ w5.heap.size := Nat.le_trans X2.size X25.size
  refine wpList_app _ rfl (.tmp 33) (.tmp 38) 24 24 rfl w.heap.size 9 ti z 1 16 Tryd.underlying24 HI.out.1 HI.out.2.1 HI.out.2.2.1 HI.out.2.2.2.1 HI.out.2.2.2.2 (by decide) v _ _ rfl O5 _ rfl 1 [str (Lg.root ((W.take h).map Lg.leaf))] (src_str B5) (by have := HLN.out; unfold maxLen; omega) (by have := HLN.out; omega) hz5 (fun v6 w6 O6 G6 G6x => ⟨rfl, (Fr.ofGrown G6).mono (fun k _ hk => (ownsRow_lt O5 k hk).1), ?_⟩)
  (try simp only [List.getElem_toArray, List.getElem_cons_succ, List.getElem_cons_zero, Act.put, List.setIfInBounds_toArray, List.set_cons_zero, List.set_cons_succ])
  refine Ks.Wk.one rfl (fun w7 Xw7 => ?_)
  go_wp2_with fail
  refine ⟨Ks.Es.of (Fr.refl _ _), ?_⟩
  (try simp only [List.getElem_toArray, List.getElem_cons_succ, List.getElem_cons_zero, Act.put, List.setIfInBounds_toArray, List.set_cons_zero, List.set_cons_succ])
  intro w9 X9
  have X29 : Fr (fun b => w.heap.size ≤ b) w2 w9 := ((X25.mono (T := fun b => w.heap.size ≤ b) (fun _ _ h => h.elim)).trans ((Fr.ofGrown G6).mono (T := fun b => w.heap.size ≤ b) (fun k _ hk => (ownsRow_lt O5 k hk).1)) (fun _ h => .inl h)).trans (Xw7.trans X9 (fun _ h => h.elim)) (fun _ h => h.elim)
  have HX := Lib.hid (X2.trans X29 (fun _ h => .inr h))
  have HO := Lib.hid (show Os w9 w.heap.size v6 (Lg.path i (W.map Lg.leaf)) from by
    rw [HP.out]
    exact Os.snoc (own_ext O6 (Xw7.trans X9 (fun _ h => h.elim))))
  clear X29 X9 Xw7 G6x G6 O6 O5 B5 hz5 X25 Xw5 B4 X24 Xw4 X3 HO2 X2
  go_wp2_with fail
  go_ret
  exact ⟨⟨v6, rfl, HO.out⟩, HX.out⟩
set_option maxRecDepth 100000 in
set_option maxHeartbeats 6400000 in
theorem dpath_one (a : Option Addr) (c : Nat) (W : List (List UInt8)) (i : Nat) (hL : W.length = 1) (w : World) : Calls Tryd.prog 19 #[.slice a 1 c, .int .i64 (i : Int)] w fun e w' => (∃ v, e = .returned v ∧ Os w' w.heap.size v (Lg.path i (W.map Lg.leaf))) ∧ Fr (fun _ => False) w w' := by
  have HP := Lib.hid (Lg.path_one (i := i) (L := W.map Lg.leaf) (by rw [List.length_map]; omega))
  clear hL
  go_enter Tryd.func19, Tryd.ntmps19
  go_wp2_with fail
  go_ret
  exact ⟨⟨_, rfl, by rw [HP.out]; exact Os.empty (heap_alloc_new w (.cells #[] 9)) (Nat.le_refl _)⟩, (Fr.refl (fun _ => False) w).alloc _⟩
set_option maxRecDepth 100000 in
theorem dpath_any : ∀ (N : Nat), ∀ (a : Option Addr) (c : Nat) (W : List (List UInt8)) (n i : Nat) (w : World), W.length ≤ N → W.length = n → n ≤ c → c ≤ maxLen → i < n → n ≤ 1000 → (∀ x ∈ W, x.length ≤ 100000) → Sv w a W → REnv w → Calls Tryd.prog 19 #[.slice a n c, .int .i64 (i : Int)] w fun e w' => (∃ v, e = .returned v ∧ Os w' w.heap.size v (Lg.path i (W.map Lg.leaf))) ∧ Fr (fun _ => False) w w' := by
  intro N
  induction N with
  | zero => intro a c W n i w hN hn hc hm hi; omega
  | succ N ih =>
    intro a c W n i w hN hn hc hm hi h9 hx hK hE
    by_cases h1 : n = 1
    · subst h1; exact dpath_one a c W i hn w
    · by_cases hh : i < Lg.hf W.length
      · exact dpath_left a c W n i w hn (by omega) hi hc hm h9 hx hK hE ih hN hh
      · exact dpath_right a c W n i w hn (by omega) hi hc hm h9 hx hK hE ih hN hh
end Go.Proofs.YtjndkjgbplpfeaaDoor
namespace Go.Proofs.YtjndkjgbplpfeaaDoor
open Go.RowKit
set_option linter.unusedVariables false
set_option linter.unusedSimpArgs false
set_option maxRecDepth 100000 in
set_option maxHeartbeats 6400000 in
theorem dsub_left (a : Option Addr) (c : Nat) (W : List (List UInt8)) (n i : Nat) (all : Bool) (w : World) (hn : W.length = n) (hmn : i ≠ W.length) (h1m : 1 ≤ i) (hin : i ≤ n) (hc : n ≤ c) (hm : c ≤ maxLen) (n9 : n ≤ 1000) (hx : ∀ x ∈ W, x.length ≤ 100000) (hK : Sv w a W) (hE : REnv w) {N : Nat}
    (ih : ∀ (a : Option Addr) (c : Nat) (W : List (List UInt8)) (n i : Nat) (all : Bool) (w : World), W.length ≤ N → W.length = n → n ≤ c → c ≤ maxLen → 1 ≤ i → i ≤ n → n ≤ 1000 → (∀ x ∈ W, x.length ≤ 100000) → Sv w a W → REnv w → Calls Tryd.prog 35 #[.slice a n c, .int .i64 (i : Int), .bool all] w fun e w' => (∃ v, e = .returned v ∧ Os w' w.heap.size v (Lg.sub i (W.map Lg.leaf) all)) ∧ Fr (fun _ => False) w w') (hN : W.length ≤ N + 1) (hi : i ≤ Lg.hf W.length) :
    Calls Tryd.prog 35 #[.slice a n c, .int .i64 (i : Int), .bool all] w fun e w' => (∃ v, e = .returned v ∧ Os w' w.heap.size v (Lg.sub i (W.map Lg.leaf) all)) ∧ Fr (fun _ => False) w w' := by
  have h2 : 2 ≤ W.length := by omega
  obtain ⟨g, off, rfl⟩ := hK.at (by omega)
  obtain ⟨ti, z, hI⟩ := sInfo
  have hlt := Lg.hf_lt h2
  have hpos := Lg.hf_pos W.length
  have hml : (W.map Lg.leaf).length = W.length := List.length_map _
  have hp := Lg.sub_left (L := W.map Lg.leaf) (m := i) (all := all) (by rw [hml]; exact hmn) (by rw [hml]; exact h2) (by rw [hml]; exact hi)
  rw [hml] at hp
  obtain ⟨h, hh⟩ : ∃ h, h = Lg.hf W.length := ⟨_, rfl⟩
  rw [← hh] at hlt hpos hp hi
  rw [← List.map_take, ← List.map_drop] at hp
  have HS := Lib.hid (fun w => half_any n (by omega) (by omega) w)
  rw [← hn, ← hh, hn] at HS
  have HI0 := Lib.hid ih
  have HP := Lib.hid hp
  have e1 : (W.take h).length = h := by rw [List.length_take]; omega
  have e2 : (W.drop h).length = n - h := by rw [List.length_drop, hn]
  have hpl := Lg.sub_len _ i ((W.take h).map Lg.leaf) all (Nat.le_refl _) (by omega) (by rw [List.length_map, e1]; omega)
  rw [List.length_map] at hpl
  have HLN := Lib.hid (show (Lg.sub i ((W.take h).map Lg.leaf) all).length ≤ 1000 by rw [e1] at hpl; omega)
  have HX := Lib.hid (mem_le_take hx h)
  have HH := Lib.hid (show (W.take h).length ≤ N ∧ (W.take h).length = h ∧ h ≤ c ∧ c ≤ maxLen ∧ 1 ≤ i ∧ i ≤ h ∧ h ≤ 1000 from ⟨by rw [e1]; omega, e1, by omega, by omega, by omega, by omega, by omega⟩)
  have HJ := Lib.hid (show (W.drop h).length = (n - h) ∧ (n - h) ≤ (c - h) ∧ (c - h) ≤ maxLen from ⟨e2, by omega, by omega⟩)
  have HI := Lib.hid hI
  have HK0 := Lib.hid hK
  have HE0 := Lib.hid hE
  have b1 : ((i : Int) == (n : Int)) = false := beq_eq_false_iff_ne.2 (by omega)
  have b2 : (i == n) = false := beq_eq_false_iff_ne.2 (by omega)
  have q2 : h ≤ n := by omega
  have q3 : h ≤ c := by omega
  have q4 : ¬ (c = h) := by omega
  have q5 : (h : Int) ≤ (n : Int) := by omega
  have q6 : (i : Int) ≤ (h : Int) := by omega
  have q8 : i ≤ h := by omega
  have q7 : True := trivial
  have Q7 := Lib.hid q7
  clear hlt hpos hp hi hh h2 hN ih hm hc n9 e1 e2 hn hin hpl hI hK hE hml hx hmn h1m
  go_enter Tryd.func35, Tryd.ntmps35
  go_wp2_with fail
  refine (HS.out w).mono ?_
  rintro e w1 ⟨rfl, hw1⟩
  subst hw1
  have HE := HE0
  have HK := HK0
  go_wp2_with fail
  refine Ks.wp_region_mono (fun b => w.heap.size ≤ b) (sg 0 5 ++ (sg 6 3 ++ ((5, true) :: ((9, true) :: ((10, true) :: ((11, true) :: ((12, true) :: ([])))))))) (by kernel_rfl) (by kernel_rfl) ?_
  refine Ks.Wk.seg 0 5 (by kernel_rfl) (by kernel_rfl) ?_
  apply Exists.intro
  refine ⟨?wk0, ?fin0⟩
  case wk0 =>
    intro γ
    simp only [List.drop_succ_cons, List.drop_zero, List.take_succ_cons, List.take_zero]
    repeat (any_goals (first | go_big_quiet_step (fail) | quiet_step (fail)))
    exact wpQuiet_nil rfl
  case fin0 =>
  (try simp only [Act.put, List.setIfInBounds_toArray, List.set_cons_zero, List.set_cons_succ])
  refine Ks.Wk.seg 6 3 (by kernel_rfl) (by kernel_rfl) ?_
  apply Exists.intro
  refine ⟨?wk1, ?fin1⟩
  case wk1 =>
    intro γ
    simp only [List.drop_succ_cons, List.drop_zero, List.take_succ_cons, List.take_zero]
    repeat (any_goals (first | go_big_quiet_step (fail) | quiet_step (fail)))
    exact wpQuiet_nil rfl
  case fin1 =>
  (try simp only [Act.put, List.setIfInBounds_toArray, List.set_cons_zero, List.set_cons_succ])
  refine Ks.Wk.call rfl (by kernel_rfl) 35 #[.slice (some ⟨g, off, none⟩) h c, .int .i64 (i : Int), .bool all] (fun W => by first | kernel_rfl | rfl) (fun v V => Nonempty2 (Os V w.heap.size v (Lg.sub i ((W.take h).map Lg.leaf) all))) (fun V hx => (HI0.out _ c (W.take h) h i all V HH.out.1 HH.out.2.1 HH.out.2.2.1 HH.out.2.2.2.1 HH.out.2.2.2.2.1 HH.out.2.2.2.2.2.1 HH.out.2.2.2.2.2.2 HX.out.1 ((HK.out.ext hx).take h) (HE.out.ext hx)).mono (fun e w' he => by obtain ⟨⟨v, e1, e2⟩, e3⟩ := he; exact ⟨v, e1, e3, ⟨own_up e2 hx.size⟩⟩)) ?_
  rintro v w2 X2 ⟨HO2⟩
  (try simp only [List.getElem_toArray, List.getElem_cons_succ, List.getElem_cons_zero, Act.put, List.setIfInBounds_toArray, List.set_cons_zero, List.set_cons_succ])
  refine Ks.Wk.call rfl (by kernel_rfl) 14 #[.slice (some ⟨g, off + h, none⟩) (n - h) (c - h)] (fun W => by first | kernel_rfl | rfl) (fun v V => v = str (Lg.root ((W.drop h).map Lg.leaf))) (fun V hx => (rroot_any _ _ (c - h) (W.drop h) (n - h) V (Nat.le_refl _) HJ.out.1 HJ.out.2.1 HJ.out.2.2 HX.out.2 ((HK.out.ext (X2.trans hx (fun _ h => h.elim))).drop h) (HE.out.ext (X2.trans hx (fun _ h => h.elim)))).mono (fun e w' he => ⟨_, he.1, he.2, rfl⟩)) ?_
  rintro v2 w3 X3 rfl
  (try simp only [List.getElem_toArray, List.getElem_cons_succ, List.getElem_cons_zero, Act.put, List.setIfInBounds_toArray, List.set_cons_zero, List.set_cons_succ])
  refine Ks.Wk.one rfl (fun w4 Xw4 => ?_)
  refine wpList_buildSlice rfl 24 1 _ rfl #[(0, str (Lg.root ((W.drop h).map Lg.leaf)))] (by first | kernel_rfl | rfl | simp [Act.eval]) (mkS (Lg.root ((W.drop h).map Lg.leaf)) w4) ⟨rfl, Ks.Es.of ((Fr.refl _ w4).alloc _), ?_⟩
  (try simp only [List.getElem_toArray, List.getElem_cons_succ, List.getElem_cons_zero, Act.put, List.setIfInBounds_toArray, List.set_cons_zero, List.set_cons_succ])
  have B4 := heap_alloc_new w4 (.cells #[str (Lg.root ((W.drop h).map Lg.leaf))] 9)
  have X24 : Fr (fun _ => False) w2 (w4.alloc (.cells #[str (Lg.root ((W.drop h).map Lg.leaf))] 9)) := (X3.trans Xw4 (fun _ h => h.elim)).alloc _
  refine Ks.Wk.one rfl (fun w5 Xw5 => ?_)
  have X25 := X24.trans Xw5 (fun _ h => h.elim)
  have O5 := own_ext HO2 X25
  have B5 := (Xw5.block _ (lt_of_block B4) (fun h => h)).trans B4
  have hz5 : w.heap.size ≤ w5.heap.size := Nat.le_trans X2.size X25.size
  refine wpList_app _ rfl (.tmp 28) (.tmp 33) 24 24 rfl w.heap.size 9 ti z 1 16 Tryd.underlying24 HI.out.1 HI.out.2.1 HI.out.2.2.1 HI.out.2.2.2.1 HI.out.2.2.2.2 (by decide) v _ _ rfl O5 _ rfl 1 [str (Lg.root ((W.drop h).map Lg.leaf))] (src_str B5) (by have := HLN.out; unfold maxLen; omega) (by have := HLN.out; omega) hz5 (fun v6 w6 O6 G6 G6x => ⟨rfl, (Fr.ofGrown G6).mono (fun k _ hk => (ownsRow_lt O5 k hk).1), ?_⟩)
  (try simp only [List.getElem_toArray, List.getElem_cons_succ, List.getElem_cons_zero, Act.put, List.setIfInBounds_toArray, List.set_cons_zero, List.set_cons_succ])
  refine Ks.Wk.one rfl (fun w7 Xw7 => ?_)
  go_wp2_with fail
  refine ⟨Ks.Es.of (Fr.refl _ _), ?_⟩
  (try simp only [List.getElem_toArray, List.getElem_cons_succ, List.getElem_cons_zero, Act.put, List.setIfInBounds_toArray, List.set_cons_zero, List.set_cons_succ])
  intro w9 X9
  have X29 : Fr (fun b => w.heap.size ≤ b) w2 w9 := ((X25.mono (T := fun b => w.heap.size ≤ b) (fun _ _ h => h.elim)).trans ((Fr.ofGrown G6).mono (T := fun b => w.heap.size ≤ b) (fun k _ hk => (ownsRow_lt O5 k hk).1)) (fun _ h => .inl h)).trans (Xw7.trans X9 (fun _ h => h.elim)) (fun _ h => h.elim)
  have HX := Lib.hid (X2.trans X29 (fun _ h => .inr h))
  have HO := Lib.hid (show Os w9 w.heap.size v6 (Lg.sub i (W.map Lg.leaf) all) from by
    rw [HP.out]
    exact Os.snoc (own_ext O6 (Xw7.trans X9 (fun _ h => h.elim))))
  clear X29 X9 Xw7 G6x G6 O6 O5 B5 hz5 X25 Xw5 B4 X24 Xw4 X3 HO2 X2
  go_wp2_with fail
  go_ret
  exact ⟨⟨v6, rfl, HO.out⟩, HX.out⟩
set_option maxRecDepth 100000 in
set_option maxHeartbeats 6400000 in
theorem dsub_right (a : Option Addr) (c : Nat) (W : List (List UInt8)) (n i : Nat) (all : Bool) (w : World) (hn : W.length = n) (hmn : i ≠ W.length) (h1m : 1 ≤ i) (hin : i ≤ n) (hc : n ≤ c) (hm : c ≤ maxLen) (n9 : n ≤ 1000) (hx : ∀ x ∈ W, x.length ≤ 100000) (hK : Sv w a W) (hE : REnv w) {N : Nat}
    (ih : ∀ (a : Option Addr) (c : Nat) (W : List (List UInt8)) (n i : Nat) (all : Bool) (w : World), W.length ≤ N → W.length = n → n ≤ c → c ≤ maxLen → 1 ≤ i → i ≤ n → n ≤ 1000 → (∀ x ∈ W, x.length ≤ 100000) → Sv w a W → REnv w → Calls Tryd.prog 35 #[.slice a n c, .int .i64 (i : Int), .bool all] w fun e w' => (∃ v, e = .returned v ∧ Os w' w.heap.size v (Lg.sub i (W.map Lg.leaf) all)) ∧ Fr (fun _ => False) w w') (hN : W.length ≤ N + 1) (hi : ¬ i ≤ Lg.hf W.length) :
    Calls Tryd.prog 35 #[.slice a n c, .int .i64 (i : Int), .bool all] w fun e w' => (∃ v, e = .returned v ∧ Os w' w.heap.size v (Lg.sub i (W.map Lg.leaf) all)) ∧ Fr (fun _ => False) w w' := by
  have h2 : 2 ≤ W.length := by omega
  obtain ⟨g, off, rfl⟩ := hK.at (by omega)
  obtain ⟨ti, z, hI⟩ := sInfo
  have hlt := Lg.hf_lt h2
  have hpos := Lg.hf_pos W.length
  have hml : (W.map Lg.leaf).length = W.length := List.length_map _
  have hp := Lg.sub_right (L := W.map Lg.leaf) (m := i) (all := all) (by rw [hml]; exact hmn) (by rw [hml]; exact h2) (by rw [hml]; exact hi)
  rw [hml] at hp
  obtain ⟨h, hh⟩ : ∃ h, h = Lg.hf W.length := ⟨_, rfl⟩
  rw [← hh] at hlt hpos hp hi
  rw [← List.map_take, ← List.map_drop] at hp
  have HS := Lib.hid (fun w => half_any n (by omega) (by omega) w)
  rw [← hn, ← hh, hn] at HS
  have HI0 := Lib.hid ih
  have HP := Lib.hid hp
  have e1 : (W.take h).length = h := by rw [List.length_take]; omega
  have e2 : (W.drop h).length = n - h := by rw [List.length_drop, hn]
  have hpl := Lg.sub_len _ (i - h) ((W.drop h).map Lg.leaf) false (Nat.le_refl _) (by omega) (by rw [List.length_map, e2]; omega)
  rw [List.length_map] at hpl
  have HLN := Lib.hid (show (Lg.sub (i - h) ((W.drop h).map Lg.leaf) false).length ≤ 1000 by rw [e2] at hpl; omega)
  have HX := Lib.hid (mem_le_take hx h)
  have HH := Lib.hid (show (W.drop h).length ≤ N ∧ (W.drop h).length = (n - h) ∧ (n - h) ≤ (c - h) ∧ (c - h) ≤ maxLen ∧ 1 ≤ (i - h) ∧ (i - h) ≤ (n - h) ∧ (n - h) ≤ 1000 from ⟨by rw [e2]; omega, e2, by omega, by omega, by omega, by omega, by omega⟩)
  have HJ := Lib.hid (show (W.take h).length = h ∧ h ≤ c ∧ c ≤ maxLen from ⟨e1, by omega, by omega⟩)
  have HI := Lib.hid hI
  have HK0 := Lib.hid hK
  have HE0 := Lib.hid hE
  have b1 : ((i : Int) == (n : Int)) = false := beq_eq_false_iff_ne.2 (by omega)
  have b2 : (i == n) = false := beq_eq_false_iff_ne.2 (by omega)
  have q2 : h ≤ n := by omega
  have q3 : h ≤ c := by omega
  have q4 : ¬ (c = h) := by omega
  have q5 : (h : Int) ≤ (n : Int) := by omega
  have q6 : ¬ ((i : Int) ≤ (h : Int)) := by omega
  have q8 : ¬ (i ≤ h) := by omega
  have q7 : wrap64 ((i : Int) - (h : Int)) = ((i - h : Nat) : Int) := wD i h (by omega) (by omega)
  have Q7 := Lib.hid q7
  clear hlt hpos hp hi hh h2 hN ih hm hc n9 e1 e2 hn hin hpl hI hK hE hml hx hmn h1m
  go_enter Tryd.func35, Tryd.ntmps35
  go_wp2_with fail
  refine (HS.out w).mono ?_
  rintro e w1 ⟨rfl, hw1⟩
  subst hw1
  have HE := HE0
  have HK := HK0
  go_wp2_with fail
  refine Ks.wp_region_mono (fun b => w.heap.size ≤ b) (sg 0 6 ++ (sg 7 3 ++ ((6, true) :: ((10, true) :: ((11, true) :: ((12, true) :: ((13, true) :: ([])))))))) (by kernel_rfl) (by kernel_rfl) ?_
  refine Ks.Wk.seg 0 6 (by kernel_rfl) (by kernel_rfl) ?_
  apply Exists.intro
  refine ⟨?wk0, ?fin0⟩
  case wk0 =>
    intro γ
    simp only [List.drop_succ_cons, List.drop_zero, List.take_succ_cons, List.take_zero]
    repeat (any_goals (first | go_big_quiet_step (fail) | quiet_step (fail)))
    exact wpQuiet_nil rfl
  case fin0 =>
  (try simp only [Act.put, List.setIfInBounds_toArray, List.set_cons_zero, List.set_cons_succ])
  refine Ks.Wk.seg 7 3 (by kernel_rfl) (by kernel_rfl) ?_
  apply Exists.intro
  refine ⟨?wk1, ?fin1⟩
  case wk1 =>
    intro γ
    simp only [List.drop_succ_cons, List.drop_zero, List.take_succ_cons, List.take_zero]
    repeat (any_goals (first | go_big_quiet_step (fail) | quiet_step (fail)))
    exact wpQuiet_nil rfl
  case fin1 =>
  (try simp only [Act.put, List.setIfInBounds_toArray, List.set_cons_zero, List.set_cons_succ])
  rw [Q7.out]
  refine Ks.Wk.call rfl (by kernel_rfl) 35 #[.slice (some ⟨g, off + h, none⟩) (n - h) (c - h), .int .i64 ((i - h : Nat) : Int), .bool false] (fun W => by first | kernel_rfl | rfl) (fun v V => Nonempty2 (Os V w.heap.size v (Lg.sub (i - h) ((W.drop h).map Lg.leaf) false))) (fun V hx => (HI0.out _ (c - h) (W.drop h) (n - h) (i - h) false V HH.out.1 HH.out.2.1 HH.out.2.2.1 HH.out.2.2.2.1 HH.out.2.2.2.2.1 HH.out.2.2.2.2.2.1 HH.out.2.2.2.2.2.2 HX.out.2 ((HK.out.ext hx).drop h) (HE.out.ext hx)).mono (fun e w' he => by obtain ⟨⟨v, e1, e2⟩, e3⟩ := he; exact ⟨v, e1, e3, ⟨own_up e2 hx.size⟩⟩)) ?_
  rintro v w2 X2 ⟨HO2⟩
  (try simp only [List.getElem_toArray, List.getElem_cons_succ, List.getElem_cons_zero, Act.put, List.setIfInBounds_toArray, List.set_cons_zero, List.set_cons_succ])
  refine Ks.Wk.call rfl (by kernel_rfl) 14 #[.slice (some ⟨g, off, none⟩) h c] (fun W => by first | kernel_rfl | rfl) (fun v V => v = str (Lg.root ((W.take h).map Lg.leaf))) (fun V hx => (rroot_any _ _ c (W.take h) h V (Nat.le_refl _) HJ.out.1 HJ.out.2.1 HJ.out.2.2 HX.out.1 ((HK.out.ext (X2.trans hx (fun _ h => h.elim))).take h) (HE.out.ext (X2.trans hx (fun _ h => h.elim)))).mono (fun e w' he => ⟨_, he.1, he.2, rfl⟩)) ?_
  rintro v2 w3 X3 rfl
  (try simp only [List.getElem_toArray, List.getElem_cons_succ, List.getElem_cons_zero, Act.put, List.setIfInBounds_toArray, List.set_cons_zero, List.set_cons_succ])
  refine Ks.Wk.one rfl (fun w4 Xw4 => ?_)
  refine wpList_buildSlice rfl 24 1 _ rfl #[(0, str (Lg.root ((W.take h).map Lg.leaf)))] (by first | kernel_rfl | rfl | simp [Act.eval]) (mkS (Lg.root ((W.take h).map Lg.leaf)) w4) ⟨rfl, Ks.Es.of ((Fr.refl _ w4).alloc _), ?_⟩
  (try simp only [List.getElem_toArray, List.getElem_cons_succ, List.getElem_cons_zero, Act.put, List.setIfInBounds_toArray, List.set_cons_zero, List.set_cons_succ])
  have B4 := heap_alloc_new w4 (.cells #[str (Lg.root ((W.take h).map Lg.leaf))] 9)
  have X24 : Fr (fun _ => False) w2 (w4.alloc (.cells #[str (Lg.root ((W.take h).map Lg.leaf))] 9)) := (X3.trans Xw4 (fun _ h => h.elim)).alloc _
  refine Ks.Wk.one rfl (fun w5 Xw5 => ?_)
  have X25 := X24.trans Xw5 (fun _ h => h.elim)
  have O5 := own_ext HO2 X25
  have B5 := (Xw5.block _ (lt_of_block B4) (fun h => h)).trans B4
  have hz5 : w.heap.size ≤ w5.heap.size := Nat.le_trans X2.size X25.size
  refine wpList_app _ rfl (.tmp 41) (.tmp 46) 24 24 rfl w.heap.size 9 ti z 1 16 Tryd.underlying24 HI.out.1 HI.out.2.1 HI.out.2.2.1 HI.out.2.2.2.1 HI.out.2.2.2.2 (by decide) v _ _ rfl O5 _ rfl 1 [str (Lg.root ((W.take h).map Lg.leaf))] (src_str B5) (by have := HLN.out; unfold maxLen; omega) (by have := HLN.out; omega) hz5 (fun v6 w6 O6 G6 G6x => ⟨rfl, (Fr.ofGrown G6).mono (fun k _ hk => (ownsRow_lt O5 k hk).1), ?_⟩)
  (try simp only [List.getElem_toArray, List.getElem_cons_succ, List.getElem_cons_zero, Act.put, List.setIfInBounds_toArray, List.set_cons_zero, List.set_cons_succ])
  refine Ks.Wk.one rfl (fun w7 Xw7 => ?_)
  go_wp2_with fail
  refine ⟨Ks.Es.of (Fr.refl _ _), ?_⟩
  (try simp only [List.getElem_toArray, List.getElem_cons_succ, List.getElem_cons_zero, Act.put, List.setIfInBounds_toArray, List.set_cons_zero, List.set_cons_succ])
  intro w9 X9
  have X29 : Fr (fun b => w.heap.size ≤ b) w2 w9 := ((X25.mono (T := fun b => w.heap.size ≤ b) (fun _ _ h => h.elim)).trans ((Fr.ofGrown G6).mono (T := fun b => w.heap.size ≤ b) (fun k _ hk => (ownsRow_lt O5 k hk).1)) (fun _ h => .inl h)).trans (Xw7.trans X9 (fun _ h => h.elim)) (fun _ h => h.elim)
  have HX := Lib.hid (X2.trans X29 (fun _ h => .inr h))
  have HO := Lib.hid (show Os w9 w.heap.size v6 (Lg.sub i (W.map Lg.leaf) all) from by
    rw [HP.out]
    exact Os.snoc (own_ext O6 (Xw7.trans X9 (fun _ h => h.elim))))
  clear X29 X9 Xw7 G6x G6 O6 O5 B5 hz5 X25 Xw5 B4 X24 Xw4 X3 HO2 X2
  go_wp2_with fail
  go_ret
  exact ⟨⟨v6, rfl, HO.out⟩, HX.out⟩
set_option maxRecDepth 100000 in
set_option maxHeartbeats 6400000 in
theorem dsub_all (a : Option Addr) (c : Nat) (W : List (List UInt8)) (n : Nat) (hn : W.length = n) (w : World) : Calls Tryd.prog 35 #[.slice a n c, .int .i64 (n : Int), .bool true] w fun e w' => (∃ v, e = .returned v ∧ Os w' w.heap.size v (Lg.sub n (W.map Lg.leaf) true)) ∧ Fr (fun _ => False) w w' := by
  have HP := Lib.hid (Lg.sub_all (L := W.map Lg.leaf))
  rw [List.length_map, hn] at HP
  clear hn
  go_enter Tryd.func35, Tryd.ntmps35
  go_wp2_with fail
  go_ret
  exact ⟨⟨_, rfl, by rw [HP.out]; exact Os.empty (heap_alloc_new w (.cells #[] 9)) (Nat.le_refl _)⟩, (Fr.refl (fun _ => False) w).alloc _⟩
set_option maxRecDepth 100000 in
set_option maxHeartbeats 6400000 in
theorem dsub_own (a : Option Addr) (c : Nat) (W : List (List UInt8)) (n : Nat) (hn : W.length = n) (hc : n ≤ c) (hm : c ≤ maxLen) (hx : ∀ x ∈ W, x.length ≤ 100000) (w : World) (hK : Sv w a W) (hE : REnv w) : Calls Tryd.prog 35 #[.slice a n c, .int .i64 (n : Int), .bool false] w fun e w' => (∃ v, e = .returned v ∧ Os w' w.heap.size v (Lg.sub n (W.map Lg.leaf) false)) ∧ Fr (fun _ => False) w w' := by
  have HP := Lib.hid (Lg.sub_own (L := W.map Lg.leaf))
  rw [List.length_map, hn] at HP
  have HR := Lib.hid (rroot_any _ a c W n w (Nat.le_refl _) hn hc hm hx hK hE)
  clear hn hc hm hx hK hE
  go_enter Tryd.func35, Tryd.ntmps35
  go_wp2_with fail
  refine HR.out.mono ?_
  rintro e w1 ⟨rfl, F1⟩
  have HF1 := Lib.hid F1
  clear F1
  go_wp2_with (focus (refine wpList_buildSlice rfl 24 1 _ rfl #[(0, str (Lg.root (W.map Lg.leaf)))] (by first | kernel_rfl | rfl | simp [Act.eval]) (mkS (Lg.root (W.map Lg.leaf)) w1) ?_; (try simp only [Act.put, List.setIfInBounds_toArray, List.set_cons_zero, List.set_cons_succ])))
  go_ret
  refine ⟨⟨_, rfl, ?_⟩, HF1.out.alloc _⟩
  rw [HP.out]
  refine ⟨rfl, .inr ⟨w1.heap.size, 1, #[str (Lg.root (W.map Lg.leaf))], rfl, HF1.out.size, heap_alloc_new _ _, Nat.le_refl _, by unfold maxLen; omega, rfl, rfl⟩⟩
set_option maxRecDepth 100000 in
set_option maxHeartbeats 6400000 in
theorem dsub_any : ∀ (N : Nat), ∀ (a : Option Addr) (c : Nat) (W : List (List UInt8)) (n i : Nat) (all : Bool) (w : World), W.length ≤ N → W.length = n → n ≤ c → c ≤ maxLen → 1 ≤ i → i ≤ n → n ≤ 1000 → (∀ x ∈ W, x.length ≤ 100000) → Sv w a W → REnv w → Calls Tryd.prog 35 #[.slice a n c, .int .i64 (i : Int), .bool all] w fun e w' => (∃ v, e = .returned v ∧ Os w' w.heap.size v (Lg.sub i (W.map Lg.leaf) all)) ∧ Fr (fun _ => False) w w' := by
  intro N
  induction N with
  | zero => intro a c W n i all w hN hn hc hm h1 hi; omega
  | succ N ih =>
    intro a c W n i all w hN hn hc hm h1 hi h9 hx hK hE
    by_cases he : i = n
    · subst he
      cases all
      · exact dsub_own a c W i hn hc hm hx w hK hE
      · exact dsub_all a c W i hn w
    · by_cases hh : i ≤ Lg.hf W.length
      · exact dsub_left a c W n i all w hn (by omega) h1 hi hc hm h9 hx hK hE ih hN hh
      · exact dsub_right a c W n i all w hn (by omega) h1 hi hc hm h9 hx hK hE ih hN hh
set_option maxRecDepth 100000 in
set_option maxHeartbeats 6400000 in
theorem dcons_zero (a : Option Addr) (c n : Nat) (w : World) (W : List (List UInt8)) : Calls Tryd.prog 21 #[.slice a n c, .int .i64 0] w fun e w' => (∃ v, e = .returned v ∧ Os w' w.heap.size v []) ∧ Fr (fun _ => False) w w' := by
  go_enter Tryd.func21, Tryd.ntmps21
  go_wp2_with fail
  go_ret
  exact ⟨⟨_, rfl, Os.empty (heap_alloc_new w (.cells #[] 9)) (Nat.le_refl _)⟩, (Fr.refl (fun _ => False) w).alloc _⟩
set_option maxRecDepth 100000 in
theorem dcons_all (a : Option Addr) (c n : Nat) (hn0 : n ≠ 0) (w : World) : Calls Tryd.prog 21 #[.slice a n c, .int .i64 (n : Int)] w fun e w' => (∃ v, e = .returned v ∧ Os w' w.heap.size v []) ∧ Fr (fun _ => False) w w' := by
  have b1 : ((n : Int) == 0) = false := beq_eq_false_iff_ne.2 (by omega)
  have b2 : (n == 0) = false := beq_eq_false_iff_ne.2 (by omega)
  clear hn0
  go_enter Tryd.func21, Tryd.ntmps21
  go_wp2_with fail
  go_ret
  exact ⟨⟨_, rfl, Os.empty (heap_alloc_new w (.cells #[] 9)) (Nat.le_refl _)⟩, (Fr.refl (fun _ => False) w).alloc _⟩
set_option maxRecDepth 100000 in
theorem dcons_mid (a : Option Addr) (c : Nat) (W : List (List UInt8)) (n i : Nat) (w : World) (hn : W.length = n) (hc : n ≤ c) (hm : c ≤ maxLen) (h1 : 1 ≤ i) (hi : i < n) (h9 : n ≤ 1000) (hx : ∀ x ∈ W, x.length ≤ 100000) (hK : Sv w a W) (hE : REnv w) : Calls Tryd.prog 21 #[.slice a n c, .int .i64 (i : Int)] w fun e w' => (∃ v, e = .returned v ∧ Os w' w.heap.size v (Lg.sub i (W.map Lg.leaf) true)) ∧ Fr (fun _ => False) w w' := by
  have HS := Lib.hid (dsub_any _ a c W n i true w (Nat.le_refl _) hn hc hm h1 (by omega) h9 hx hK hE)
  have b1 : ((i : Int) == 0) = false := beq_eq_false_iff_ne.2 (by omega)
  have b2 : (i == 0) = false := beq_eq_false_iff_ne.2 (by omega)
  have b3 : ((i : Int) == (n : Int)) = false := beq_eq_false_iff_ne.2 (by omega)
  have b4 : (i == n) = false := beq_eq_false_iff_ne.2 (by omega)
  clear hn hc hm h1 hi h9 hx hK hE
  go_enter Tryd.func21, Tryd.ntmps21
  go_wp2_with fail
  refine HS.out.mono ?_
  rintro e w1 ⟨⟨v, rfl, hO⟩, F1⟩
  have H1 := Lib.hid (And.intro hO F1)
  clear hO F1
  go_wp2_with fail
  go_ret
  exact ⟨⟨_, rfl, H1.out.1⟩, H1.out.2⟩
/-- What the document's Consistency gives. -/
def conP (m : Nat) (L : List (List UInt8)) : List (List UInt8) := if m = 0 then [] else Lg.sub m L true
set_option maxRecDepth 100000 in
theorem dcons_any (a : Option Addr) (c : Nat) (W : List (List UInt8)) (n i : Nat) (w : World) (hn : W.length = n) (hc : n ≤ c) (hm : c ≤ maxLen) (hi : i ≤ n) (h9 : n ≤ 1000) (hx : ∀ x ∈ W, x.length ≤ 100000) (hK : Sv w a W) (hE : REnv w) : Calls Tryd.prog 21 #[.slice a n c, .int .i64 (i : Int)] w fun e w' => (∃ v, e = .returned v ∧ Os w' w.heap.size v (conP i (W.map Lg.leaf))) ∧ Fr (fun _ => False) w w' := by
  unfold conP
  by_cases h0 : i = 0
  · subst h0
    rw [if_pos rfl]
    exact dcons_zero a c n w W
  · rw [if_neg h0]
    by_cases h1 : i = n
    · subst h1
      have := Lg.sub_all (L := W.map Lg.leaf)
      rw [List.length_map, hn] at this
      rw [this]
      exact dcons_all a c i h0 w
    · exact dcons_mid a c W n i w hn hc hm (by omega) (by omega) h9 hx hK hE
end Go.Proofs.YtjndkjgbplpfeaaDoor
namespace Go.Proofs.YtjndkjgbplpfeaaDoor
open Go.RowKit
set_option linter.unusedVariables false
set_option linter.unusedSimpArgs false
set_option maxRecDepth 100000 in
theorem str_ne_same (l : List UInt8) (W : World) : (binOp .neq 9 (.string ⟨l.toArray⟩) (.string ⟨l.toArray⟩)).run Tryd.prog W = .ok (.bool false) W := by
  simp [binOp, Op.stringOp]
set_option maxRecDepth 100000 in
theorem Kv.one {w : World} {g off : Nat} {P : List (List UInt8)} (h : Kv w (some ⟨g, off, none⟩) P) {k : Nat} {x : List UInt8} (hx : P[k]? = some x) : Lies w (some ⟨g, off + k * 32, none⟩) x := by
  have hl := (h.drop k).lies
  have h32 := h.all x (List.mem_of_getElem? hx)
  have e : (P.drop k).flatten.take 32 = x := by
    have hk := (List.getElem?_eq_some_iff.1 hx).1
    rw [List.drop_eq_getElem_cons hk, List.flatten_cons, List.take_append_of_le_length (by rw [(List.getElem?_eq_some_iff.1 hx).2, h32]; exact Nat.le_refl _), (List.getElem?_eq_some_iff.1 hx).2, List.take_of_length_le (by omega)]
  have := hl.take 32
  rwa [e] at this
set_option maxRecDepth 100000 in
theorem lit21 (f : Nat → Value) : ((List.range 21).map f).toArray = (f 0 :: f 1 :: f 2 :: f 3 :: f 4 :: f 5 :: f 6 :: f 7 :: f 8 :: f 9 :: f 10 :: f 11 :: f 12 :: f 13 :: f 14 :: f 15 :: f 16 :: f 17 :: f 18 :: f 19 :: f 20 :: []).toArray := by kernel_rfl
set_option maxRecDepth 100000 in
theorem lit26 (f : Nat → Value) : ((List.range 26).map f).toArray = (f 0 :: f 1 :: f 2 :: f 3 :: f 4 :: f 5 :: f 6 :: f 7 :: f 8 :: f 9 :: f 10 :: f 11 :: f 12 :: f 13 :: f 14 :: f 15 :: f 16 :: f 17 :: f 18 :: f 19 :: f 20 :: f 21 :: f 22 :: f 23 :: f 24 :: f 25 :: []).toArray := by kernel_rfl
set_option maxRecDepth 100000 in
set_option maxHeartbeats 6400000 in
theorem texts_in {KK : Act → World → Prop} {Q : Exit → Act → World → Prop} {w : World} {a : Option Addr} {n c Z i : Nat} {u : Value} {P : List (List UInt8)} (hi : i < n) (hn9 : n ≤ 1000) (hPn : P.length = n) (hK : Kv w a P) (hO : Os w Z u (P.take i)) (hz : Z ≤ w.heap.size) (fr : Array Value) (hn : fr.size = 21) (p0 : fr[0]? = some (.slice a n c)) (p3 : fr[3]? = some (u)) (p4 : fr[4]? = some (.int .i64 (i : Int)))
    (hC : ∀ t' w' u', t'.size = 21 → t'[0]? = some (.slice a n c) → t'[3]? = some u' → t'[4]? = some (.int .i64 ((i + 1 : Nat) : Int)) → Os w' Z u' (P.take (i + 1)) → Fr (fun k => Z ≤ k) w w' → KK ⟨t', []⟩ w') :
    Code.wp Tryd.prog (loopAt Tryd.f18 0) (Exit.then KK Q) ⟨fr, []⟩ w := by
  obtain ⟨g, off, rfl⟩ := hK.at (by omega)
  have hlt : (P.take i).length = i := by rw [List.length_take, hPn]; exact Nat.min_eq_left (Nat.le_of_lt hi)
  obtain ⟨ti, z, hI⟩ := sInfo
  have HI := Lib.hid hI
  have q1 : (i : Int) < (n : Int) := by omega
  have q4 : (0 : Int) ≤ (i : Int) := Int.natCast_nonneg i
  obtain ⟨x, hx⟩ : ∃ x, x = P.getD i [] := ⟨_, rfl⟩
  have hxi : P[i]? = some x := by rw [hx, List.getD_eq_getElem?_getD, List.getElem?_eq_getElem (by omega)]; rfl
  have hone := hK.one hxi
  have h32 := hK.all x (List.mem_of_getElem? hxi)
  have hcv := run_str hone 32 9 Tryd.underlying9
  rw [h32] at hcv
  have W1 : wrap64 ((i : Int) + 1) = ((i + 1 : Nat) : Int) := by rw [IntWalk.wrap64_in _ (by omega)]; omega
  have HC := Lib.hid hC
  have HO := Lib.hid hO
  have HX := Lib.hid (And.intro hx (And.intro hPn (And.intro hi (And.intro hz hn9))))
  have HLT := Lib.hid hlt
  clear hC hO hx hPn hz hn9 hxi hone h32 hK hI hlt
  obtain ⟨f, hff, rfl⟩ := frame_open hn
  have e0 := hff 0 _ p0
  have e3 := hff 3 _ p3
  have e4 := hff 4 _ p4
  clear hff hn p0 p3 p4
  rw [lit21, e0, e3, e4]
  clear e0 e3 e4
  conv => arg 2; whnf
  go_wp2_with (first | (focus (refine wpList_buildSlice rfl 24 1 _ rfl #[(0, str x)] (by first | kernel_rfl | rfl | simp [Act.eval]) (mkS x w) ?_; (try simp only [Act.put, List.setIfInBounds_toArray, List.set_cons_zero, List.set_cons_succ]))) | (focus ((refine wpList_app _ rfl (.tmp 12) (.tmp 18) 24 24 rfl Z 9 ti z 1 16 Tryd.underlying24 HI.out.1 HI.out.2.1 HI.out.2.2.1 HI.out.2.2.2.1 HI.out.2.2.2.2 (by decide) u _ _ rfl (own_ext HO.out ((Fr.refl (fun _ => False) w).alloc (.cells #[str x] 9))) _ rfl 1 [str x] (src_str (heap_alloc_new _ _)) (by have := HLT.out; have := HX.out; unfold maxLen; omega) (by have := HLT.out; have := HX.out; omega) (by have := HX.out.2.2.2.1; have := ((Fr.refl (fun _ => False) w).alloc (.cells #[str x] 9)).size; omega) ?_); intro u2 w2 O2 G2 G2x; refine Hid.out ?_)))
  have hO2 : Os w2 Z u2 (P.take (i + 1)) := by
    rw [take_snoc' HX.out.2.1 HX.out.2.2.1, ← HX.out.1]
    exact Os.snoc O2
  have hF : Fr (fun k => Z ≤ k) w w2 := (((Fr.refl (fun _ => False) w).alloc (.cells #[str x] 9)).mono (T := fun k => Z ≤ k) (fun _ _ h => h.elim)).trans (Fr.ofGrown G2) (fun k h => .inl (ownsRow_lt HO.out k h).1)
  have H2 := Lib.hid (And.intro hO2 hF)
  clear hO2 hF O2 G2 G2x
  refine Lib.hid ?_
  (try simp only [Act.put, List.setIfInBounds_toArray, List.set_cons_zero, List.set_cons_succ])
  go_wp2_with fail
  exact HC.out _ _ u2 (by first | rfl | simp) rfl rfl (congrArg (fun z => some (Value.int .i64 z)) W1) H2.out.1 H2.out.2
set_option maxRecDepth 100000 in
set_option maxHeartbeats 6400000 in
theorem texts_end {KK : Act → World → Prop} {Q : Exit → Act → World → Prop} {w : World} {a : Option Addr} {n c : Nat} {u : Value} (fr : Array Value) (hn : fr.size = 21) (p0 : fr[0]? = some (.slice a n c)) (p3 : fr[3]? = some (u)) (p4 : fr[4]? = some (.int .i64 (n : Int)))
    (hQ : ∀ t', t'.size = 21 → t'[0]? = some (.slice a n c) → t'[3]? = some (u) → Q (.exit 0) ⟨t', []⟩ w) :
    Code.wp Tryd.prog (loopAt Tryd.f18 0) (Exit.then KK Q) ⟨fr, []⟩ w := by
  have q2 : ¬ ((n : Int) < (n : Int)) := by omega
  have q2b : ¬ (n < n) := by omega
  have HK := Lib.hid hQ
  clear hQ
  obtain ⟨f, hff, rfl⟩ := frame_open hn
  have e0 := hff 0 _ p0
  have e3 := hff 3 _ p3
  have e4 := hff 4 _ p4
  clear hff hn p0 p3 p4
  rw [lit21, e0, e3, e4]
  clear e0 e3 e4
  conv => arg 2; whnf
  go_wp2_with fail
  exact HK.out _ (by first | rfl | simp) rfl rfl
set_option maxRecDepth 100000 in
set_option maxHeartbeats 6400000 in
theorem texts_any (a : Option Addr) (c n : Nat) (P : List (List UInt8)) (hPn : P.length = n) (hn9 : n ≤ 1000) (w : World) (hK : Kv w a P) : Calls Tryd.prog 18 #[.slice a n c] w fun e w' => (∃ v, e = .returned v ∧ Os w' w.heap.size v P) ∧ Fr (fun _ => False) w w' := by
  have HK := Lib.hid hK
  have HN := Lib.hid (And.intro hPn hn9)
  clear hK hPn hn9
  go_enter Tryd.func18, Tryd.ntmps18
  go_wp2_with (focus (refine wpList_buildSlice rfl 24 0 _ rfl #[] (by first | kernel_rfl | rfl | simp [Act.eval]) (mkS0 w) ?_; (try simp only [Act.put, List.setIfInBounds_toArray, List.set_cons_zero, List.set_cons_succ])))
  have F0 := (Fr.refl (fun _ => False) w).alloc (.cells #[] 9)
  have HO := Lib.hid (Os.empty (heap_alloc_new w (.cells #[] 9)) (Nat.le_refl _))
  have HF0 := Lib.hid F0
  generalize (w.alloc (.cells #[] 9)) = w1 at *
  clear F0
  refine wp_loop_up n (fun i t w' => ∃ u, t.size = 21 ∧ t[0]? = some (.slice a n c) ∧ t[3]? = some u ∧ t[4]? = some (.int .i64 (i : Int)) ∧ Os w' w.heap.size u (P.take i) ∧ Fr (fun _ => False) w w') _ w1 ⟨_, by first | rfl | simp, rfl, rfl, rfl, by rw [List.take_zero]; exact HO.out, HF0.out⟩ ?_
  rintro i t w2 hi ⟨u, hn, p0, p3, p4, hO2, F2⟩ KK hKK
  by_cases hlt : i < n
  · exact texts_in hlt HN.out.2 HN.out.1 (HK.out.ext F2) hO2 F2.size t hn p0 p3 p4 (fun t' w3 u3 b0 b1 b2 b3 b4 b5 => hKK t' w3 hlt ⟨u3, b0, b1, b2, b3, b4, F2.trans b5 (fun k h => .inr h)⟩)
  · have : i = n := by omega
    subst this
    rw [List.take_of_length_le (by have := HN.out.1; omega)] at hO2
    refine texts_end t hn p0 p3 p4 (fun t' hn p0 p3 => ?_)
    have H2 := Lib.hid (And.intro hO2 F2)
    clear hKK hO2 F2
    obtain ⟨f, hff, rfl⟩ := frame_open hn
    have e0 := hff 0 _ p0
    have e3 := hff 3 _ p3
    clear hff hn p0 p3
    rw [lit21, e0, e3]
    clear e0 e3
    go_wp2_with fail
    go_ret
    exact ⟨⟨_, rfl, H2.out.1⟩, H2.out.2⟩
set_option maxRecDepth 100000 in
set_option maxHeartbeats 6400000 in
theorem same_in {KK : Act → World → Prop} {Q : Exit → Act → World → Prop} {w : World} {a a2 : Option Addr} {n c c2 i : Nat} {P : List (List UInt8)} (hi : i < n) (hn9 : n ≤ 1000) (hPn : P.length = n) (hS : Sv w a P) (hS2 : Sv w a2 P) (fr : Array Value) (hn : fr.size = 26) (p0 : fr[0]? = some (.slice a n c)) (p1 : fr[1]? = some (.slice a2 n c2)) (p5 : fr[5]? = some (.int .i64 (i : Int)))
    (hC : ∀ t' w', t'.size = 26 → t'[0]? = some (.slice a n c) → t'[1]? = some (.slice a2 n c2) → t'[5]? = some (.int .i64 ((i + 1 : Nat) : Int)) → Fr (fun _ => False) w w' → KK ⟨t', []⟩ w') :
    Code.wp Tryd.prog (loopAt Tryd.f17 0) (Exit.then KK Q) ⟨fr, []⟩ w := by
  obtain ⟨g, off, rfl⟩ := hS.at (by omega)
  obtain ⟨g2, off2, rfl⟩ := hS2.at (by omega)
  have q1 : (i : Int) < (n : Int) := by omega
  have q4 : (0 : Int) ≤ (i : Int) := Int.natCast_nonneg i
  obtain ⟨x, hx⟩ : ∃ x, x = P.getD i [] := ⟨_, rfl⟩
  have hxi : P[i]? = some x := by rw [hx, List.getD_eq_getElem?_getD, List.getElem?_eq_getElem (by omega)]; rfl
  have H1 := Lib.hid (And.intro hS hS2)
  have k1 : ∀ y : Wd w, y.w.cell? ⟨g, off + i, none⟩ = some (.string ⟨x.toArray⟩) := fun y => (H1.out.1.ext y.h).cell hxi
  have k2 : ∀ y : Wd w, y.w.cell? ⟨g2, off2 + i, none⟩ = some (.string ⟨x.toArray⟩) := fun y => (H1.out.2.ext y.h).cell hxi
  have k3 : ∀ W : World, (binOp .neq 9 (.string ⟨x.toArray⟩) (.string ⟨x.toArray⟩)).run Tryd.prog W = .ok (.bool false) W := fun W => str_ne_same _ W
  have W1 : wrap64 ((i : Int) + 1) = ((i + 1 : Nat) : Int) := by rw [IntWalk.wrap64_in _ (by omega)]; omega
  have HC := Lib.hid hC
  clear hC hS hS2 hPn hn9 hx hxi
  obtain ⟨f, hff, rfl⟩ := frame_open hn
  have e0 := hff 0 _ p0
  have e1 := hff 1 _ p1
  have e5 := hff 5 _ p5
  clear hff hn p0 p1 p5
  rw [lit26, e0, e1, e5]
  clear e0 e1 e5
  conv => arg 2; whnf
  go_wp2_with fail
  refine wp_region_keep (by kernel_rfl) (by kernel_rfl) ?_
  repeat (any_goals (first | go_big_quiet_step (fail) | quiet_step (fail)))
  refine wpQuiet_nil ?_
  intro _ hwz
  obtain ⟨y, rfl⟩ := hwz
  go_wp2_with fail
  exact HC.out _ _ (by first | rfl | simp) rfl rfl (congrArg (fun z => some (Value.int .i64 z)) (show wrap64 ((i : Int) + 1) = ((i + 1 : Nat) : Int) from W1)) y.h
set_option maxRecDepth 100000 in
set_option maxHeartbeats 6400000 in
theorem same_end {KK : Act → World → Prop} {Q : Exit → Act → World → Prop} {w : World} {a a2 : Option Addr} {n c c2 : Nat} (fr : Array Value) (hn : fr.size = 26) (p0 : fr[0]? = some (.slice a n c)) (p1 : fr[1]? = some (.slice a2 n c2)) (p5 : fr[5]? = some (.int .i64 (n : Int)))
    (hQ : ∀ t', t'.size = 26 → Q (.exit 0) ⟨t', []⟩ w) :
    Code.wp Tryd.prog (loopAt Tryd.f17 0) (Exit.then KK Q) ⟨fr, []⟩ w := by
  have q2 : ¬ ((n : Int) < (n : Int)) := by omega
  have q2b : ¬ (n < n) := by omega
  have HK := Lib.hid hQ
  clear hQ
  obtain ⟨f, hff, rfl⟩ := frame_open hn
  have e0 := hff 0 _ p0
  have e1 := hff 1 _ p1
  have e5 := hff 5 _ p5
  clear hff hn p0 p1 p5
  rw [lit26, e0, e1, e5]
  clear e0 e1 e5
  conv => arg 2; whnf
  go_wp2_with fail
  exact HK.out _ (by first | rfl | simp)
set_option maxRecDepth 100000 in
set_option maxHeartbeats 6400000 in
theorem same_eq (a a2 : Option Addr) (c c2 n : Nat) (P : List (List UInt8)) (hPn : P.length = n) (hn9 : n ≤ 1000) (w : World) (hS : Sv w a P) (hS2 : Sv w a2 P) : Calls Tryd.prog 17 #[.slice a n c, .slice a2 n c2] w fun e w' => e = .returned (.bool true) ∧ Fr (fun _ => False) w w' := by
  have HK := Lib.hid (And.intro hS hS2)
  have HN := Lib.hid (And.intro hPn hn9)
  clear hS hS2 hPn hn9
  go_enter Tryd.func17, Tryd.ntmps17
  go_wp2_with fail
  refine wp_loop_up n (fun i t w' => t.size = 26 ∧ t[0]? = some (.slice a n c) ∧ t[1]? = some (.slice a2 n c2) ∧ t[5]? = some (.int .i64 (i : Int)) ∧ Fr (fun _ => False) w w') _ w ⟨by first | rfl | simp, rfl, rfl, rfl, Fr.refl _ _⟩ ?_
  rintro i t w2 hi ⟨hn, p0, p1, p5, F2⟩ KK hKK
  by_cases hlt : i < n
  · exact same_in hlt HN.out.2 HN.out.1 (HK.out.1.ext F2) (HK.out.2.ext F2) t hn p0 p1 p5 (fun t' w3 b0 b1 b2 b3 b4 => hKK t' w3 hlt ⟨b0, b1, b2, b3, F2.trans b4 (fun _ h => h.elim)⟩)
  · have : i = n := by omega
    subst this
    refine same_end t hn p0 p1 p5 (fun t' hn => ?_)
    have H2 := Lib.hid F2
    clear hKK F2
    obtain ⟨f, hff, rfl⟩ := frame_open hn
    clear hff hn 
    rw [lit26]
    go_wp2_with fail
    go_ret
    exact ⟨rfl, H2.out⟩
end Go.Proofs.YtjndkjgbplpfeaaDoor

/-
  What comes out of a sum and a path.
  Regions that draw their order, as in Ks; each operation j may touch blocks of S j of its own; what an operation leaves hangs on no block that an operation touches which does not wait for it. Plain: of no program.
  What comes out of a beginning's proof.
  What comes out of a beginning's proof, the rest.
-/
import Derived.Test.YtjndkjgbplpfeaaDoorQLb
import Derived.Test.YtjndkjgbplpfeaaDoorKs
namespace Go.Proofs.YtjndkjgbplpfeaaDoor
open Go.RowKit
set_option linter.unusedVariables false
set_option linter.unusedSimpArgs false
set_option maxRecDepth 100000 in
theorem wrA (k : Nat) (h : k + 1 ≤ 9223372036854775807) : wrap64 (((k + 1 : Nat) : Int) - 1) = (k : Int) := by rw [IntWalk.wrap64_in _ (by omega)]; omega
set_option maxRecDepth 100000 in
theorem wrC (k : Nat) (h : k ≤ 9223372036854775807) : wrap64 (k : Int) = (k : Int) := IntWalk.wrap64_in _ (by omega)
set_option maxRecDepth 100000 in
theorem wrS (i h : Nat) (h1 : h ≤ i) (h2 : i ≤ 9223372036854775807) : wrap64 ((i : Int) - (h : Int)) = ((i - h : Nat) : Int) := by rw [IntWalk.wrap64_in _ (by omega)]; omega
set_option maxRecDepth 100000 in
theorem quiet_load_cellsS {P : Program} {C : Act → Prop} {a : Act} {o : Oper} {S : Nat → Prop} {W0 : World} {γ : Ks.Gs S W0} (ty : TypeId) (x : Operand) (ho : o.op = .load ty x) (g q : Nat) (hx : a.eval x = .pointer (some ⟨g, q, none⟩)) (R : Array Value) (m : Nat)
    (d : TypeDesc) (hu : P.underlying ty = some d) (hd : d.isRow = true) (hty : (P.info? ty).map (·.size) = some m) (hc : ∀ z : Ks.Ws γ, ∀ (i : Nat) (u : Value), R[i]? = some u → z.w.cell? ⟨g, q + i, none⟩ = some u) (hm : R.size = m)
    (hk : C (a.put o.dst (.agg R))) : o.quiet P a (fun w' => ∃ y : Ks.Ws γ, w' = y.w) C :=
  ⟨.agg R, fun w' ⟨y, e⟩ => by
    subst e
    have hr := run_loadVar_mid (P := P) y.w g q ty R.toList d (fun j u hj => hc y j u (by rw [← hj, Array.getElem?_toList])) hu hd (by rw [hty, Array.length_toList, hm])
    rw [Array.toArray_toList] at hr
    unfold Oper.quietAt execOp
    simp only [ho, hx, Instr.loadAt, Instr.sureAddr, Sem.run_bind, Sem.run_pure, Result.andThen_ok, hr, Oper.quietUpon]
    exact ⟨trivial, trivial⟩, hk⟩
set_option maxRecDepth 100000 in
theorem Calls.keepS {P : Program} {f : FuncId} {args : Array Value} {S : Nat → Prop} {W0 : World} {γ : Ks.Gs S W0} {x : Ks.Ws γ} {v : Value} (h : Calls P f args x.w fun e w' => e = .returned v ∧ x.w = w') : Calls P f args x.w fun e w'' => e = .returned v ∧ ∃ y : Ks.Ws γ, w'' = y.w :=
  h.mono fun _ w' ⟨he, hf⟩ => ⟨he, x, hf.symm⟩
set_option maxRecDepth 100000 in
theorem split_same (n : Nat) (h2 : 2 ≤ n) (h9 : n ≤ 9223372036854775807) (w : World) : Calls Tryd.prog 42 #[.int .i64 (n : Int)] w fun e w' => e = .returned (.int .i64 (Lg.hf n : Int)) ∧ w = w' := by
  have hl : Nat.log2 (n - 1) < 63 := (Nat.log2_lt (by omega)).2 (by omega)
  obtain ⟨k, hk⟩ : ∃ k, k = Nat.log2 (n - 1) := ⟨_, rfl⟩
  have e0 : Lg.hf n = 2 ^ k := by rw [Lg.hf, hk]
  have e1 : Go.Lib.bitLen ((n : Int) - 1).toNat = k + 1 := by rw [hk, ← bitLen_log (n - 1) (by omega) (by omega)]; congr 1; omega
  have HL := Lib.hid (fun w => len_int ((n : Int) - 1) w (by omega) (by omega))
  rw [e1] at HL
  have w1 : wrap64 ((n : Int) - 1) = (n : Int) - 1 := IntWalk.wrap64_in _ (by omega)
  have w2 : IntKind.u64.wrap ((n : Int) - 1) = (n : Int) - 1 := by rw [IntKind.wrap_u64]; omega
  rw [← hk] at hl
  have HS := Lib.hid (shl_one k hl)
  have HB := Lib.hid (And.intro e0 hl)
  clear h2 h9 hl hk e0 e1
  go_enter Tryd.func42, Tryd.ntmps42
  go_wp2_with fail
  refine (HL.out w).mono ?_
  rintro e w3 ⟨rfl, rfl⟩
  clear w1 w2
  have q0 : wrap64 (((k + 1 : Nat) : Int) - 1) = (k : Int) := by have := HB.out.2; rw [IntWalk.wrap64_in _ (by omega)]; omega
  have q1 : ¬ ((k : Int) < 0) := by omega
  have q2 : wrap64 (k : Int) = (k : Int) := by have := HB.out.2; exact IntWalk.wrap64_in _ (by omega)
  go_wp2_with fail
  go_ret
  refine ⟨?_, rfl⟩
  rw [HB.out.1, ← HS.out]
  have e : min k 64 = k := by have := HB.out.2; omega
  rw [e]
  rfl
def z32 : List UInt8 := List.replicate 32 0
set_option maxRecDepth 100000 in
theorem z32_row : ub 32 (fun _ => 0) = krow z32 := by kernel_rfl
set_option maxRecDepth 100000 in
theorem z32_len : z32.length = 32 := rfl
set_option maxRecDepth 100000 in
theorem Lg.climb_len (s : List UInt8) (hs : s.length = 32) : ∀ (r : List (List UInt8)) (i n : Nat), (Lg.climb z32 s i n r).1.length = 32
  | [], i, n => by unfold Lg.climb; split <;> first | exact hs | rfl
  | x :: r, i, n => by
    unfold Lg.climb
    split
    · exact hs
    · split <;> rfl
set_option maxRecDepth 100000 in
theorem rev_take (x : List UInt8) (r : List (List UInt8)) : (x :: r).reverse.take r.length = r.reverse := by
  rw [List.reverse_cons, List.take_append_of_le_length (by simp)]
  exact List.take_of_length_le (by simp)
set_option maxRecDepth 100000 in
theorem rev_last (x : List UInt8) (r : List (List UInt8)) : (x :: r).reverse[r.length]? = some x := by
  rw [List.reverse_cons, List.getElem?_append_right (by simp)]; simp
set_option maxRecDepth 100000 in
set_option maxHeartbeats 6400000 in
theorem climb_n1 (s : List UInt8) (hs : s.length = 32) (r : List (List UInt8)) (a : Option Addr) (c i : Nat) (w : World) : Calls Tryd.prog 34 #[.agg (krow s), .int .i64 (i : Int), .int .i64 1, .slice a r.length c] w fun e w' => e = .returned (.tuple #[.agg (krow s), .bool (r.length == 0)]) ∧ Fr (fun _ => False) w w' := by
  have s1 := sz32' hs
  have B0 := heap_alloc2_old w (.cells (krow s) 31) (.cells (ub 32 (fun _ => 0)) 31)
  have B1 := heap_alloc2_new w (.cells (krow s) 31) (.cells (ub 32 (fun _ => 0)) 31)
  have F0 := ((Fr.refl (fun _ => False) w).alloc (.cells (krow s) 31)).alloc (.cells (ub 32 (fun _ => 0)) 31)
  have HB0 := Lib.hid B0
  have HB1 := Lib.hid B1
  have HF := Lib.hid F0
  have HS := Lib.hid hs
  have b1 : ((r.length : Int) == 0) = (r.length == 0) := by
    rcases Nat.eq_zero_or_pos r.length with h | h
    · rw [h]; rfl
    · rw [beq_eq_false_iff_ne.2 (by omega), beq_eq_false_iff_ne.2 (by omega)]
  clear B0 B1 F0 hs
  go_enter Tryd.func34, Tryd.ntmps34
  go_wp2_with (first | (focus (rw [zero32]; generalize ((w.alloc (.cells (krow s) 31)).alloc (.cells (ub 32 (fun _ => 0)) 31)) = w1 at *)) | (refine wpList_load_row rfl 31 (.tmp 4) rfl w.heap.size rfl 31 (krow s) (0, 0) _ HB0.out Tryd.underlying31 rfl (sz32' HS.out) ?_) | (refine wpList_store_rowA rfl 31 (.tmp 8) (.tmp 19) rfl (w.heap.size + 1) (krow s) rfl rfl 31 _ HB1.out (sz32' HS.out) (by rw [ub_size, krow_size]; exact HS.out.symm) (krow_one _) ?_; intro w5 B5 F5; simp only [Act.put, List.setIfInBounds_toArray, List.set_cons_zero, List.set_cons_succ]))
  refine bodyPost_ret (results_cell_tmp rfl _ _ (w.heap.size + 1) 31 (krow s) (0, 0) _ rfl B5 Tryd.underlying31 rfl (sz32' HS.out)) rfl ?_
  exact ⟨rfl, HF.out.trans F5 (fun k h => .inr (by rw [h]; omega))⟩
set_option maxRecDepth 100000 in
set_option maxHeartbeats 6400000 in
theorem climb_nil (s : List UInt8) (hs : s.length = 32) (a : Option Addr) (c i n : Nat) (hn : n ≠ 1) (w : World) : Calls Tryd.prog 34 #[.agg (krow s), .int .i64 (i : Int), .int .i64 (n : Int), .slice a 0 c] w fun e w' => e = .returned (.tuple #[.agg (krow z32), .bool false]) ∧ Fr (fun _ => False) w w' := by
  have s1 := sz32' hs
  have B0 := heap_alloc2_old w (.cells (krow s) 31) (.cells (ub 32 (fun _ => 0)) 31)
  have B1 := heap_alloc2_new w (.cells (krow s) 31) (.cells (ub 32 (fun _ => 0)) 31)
  have F0 := ((Fr.refl (fun _ => False) w).alloc (.cells (krow s) 31)).alloc (.cells (ub 32 (fun _ => 0)) 31)
  have HB0 := Lib.hid B0
  have HB1 := Lib.hid B1
  have HF := Lib.hid F0
  have b1 : ((n : Int) == 1) = false := beq_eq_false_iff_ne.2 (by omega)
  clear B0 B1 F0 hs hn
  go_enter Tryd.func34, Tryd.ntmps34
  go_wp2_with (first | (focus (rw [zero32]; generalize ((w.alloc (.cells (krow s) 31)).alloc (.cells (ub 32 (fun _ => 0)) 31)) = w1 at *)) | (refine wpList_build_to rfl 31 #[] rfl (ub 32 (fun _ => 0)) (by kernel_rfl) ?_; simp only [Act.put, List.setIfInBounds_toArray, List.set_cons_zero, List.set_cons_succ]) | (refine wpList_store_rowA rfl 31 (.tmp 8) (.tmp 26) rfl (w.heap.size + 1) (ub 32 (fun _ => 0)) rfl rfl 31 _ HB1.out (by rw [ub_size]; exact sz32) rfl (ub_one _ _) ?_; intro w5 B5 F5; simp only [Act.put, List.setIfInBounds_toArray, List.set_cons_zero, List.set_cons_succ]))
  refine bodyPost_ret (results_cell_tmp rfl _ _ (w.heap.size + 1) 31 (ub 32 (fun _ => 0)) (0, 0) _ rfl B5 Tryd.underlying31 rfl (by rw [ub_size]; exact sz32)) rfl ?_
  rw [z32_row]
  exact ⟨rfl, HF.out.trans F5 (fun k h => .inr (by rw [h]; omega))⟩
set_option maxRecDepth 100000 in
set_option maxHeartbeats 6400000 in
theorem climb_left (s : List UInt8) (hs : s.length = 32) (x : List UInt8) (r : List (List UInt8)) (ih : ∀ (a : Option Addr) (c : Nat) (i n : Nat) (w : World), 1 ≤ n → n ≤ 9223372036854775807 → i < n → r.length ≤ c → c ≤ maxLen → Kv w a r.reverse → Env w → Calls Tryd.prog 34 #[.agg (krow s), .int .i64 (i : Int), .int .i64 (n : Int), .slice a r.length c] w fun e w' => e = .returned (.tuple #[.agg (krow (Lg.climb z32 s i n r).1), .bool (Lg.climb z32 s i n r).2]) ∧ Fr (fun _ => False) w w') (a : Option Addr) (c i n : Nat) (w : World) (h1 : 1 ≤ n) (hn1 : n ≠ 1) (n9 : n ≤ 9223372036854775807) (hin : i < n) (hc : (x :: r).length ≤ c) (hm : c ≤ maxLen) (hK : Kv w a (x :: r).reverse) (hE : Env w) (hi : i < Lg.hf n) :
    Calls Tryd.prog 34 #[.agg (krow s), .int .i64 (i : Int), .int .i64 (n : Int), .slice a (x :: r).length c] w fun e w' => e = .returned (.tuple #[.agg (krow (Lg.climb z32 s i n (x :: r)).1), .bool (Lg.climb z32 s i n (x :: r)).2]) ∧ Fr (fun _ => False) w w' := by
  obtain ⟨g, off, rfl⟩ := hK.at (by simp)
  have hx : x.length = 32 := hK.all x (by simp)
  have hlt := Lg.hf_lt (n := n) (by omega)
  have hpos := Lg.hf_pos n
  have htw := Lg.hf_two (n := n) (by omega)
  have he : Lg.climb z32 s i n (x :: r) = (Lg.node (Lg.climb z32 s i (Lg.hf n) r).1 x, (Lg.climb z32 s i (Lg.hf n) r).2) := by
    rw [Lg.climb, if_neg hn1, if_pos hi]
  have hsp := fun w => split_same n (by omega) n9 w
  obtain ⟨h, hh⟩ : ∃ h, h = Lg.hf n := ⟨_, rfl⟩
  rw [← hh] at hlt hpos hi he htw
  have hsp2 : ∀ w : World, Calls Tryd.prog 42 #[.int .i64 (n : Int)] w fun e w' => e = .returned (.int .i64 (h : Int)) ∧ w = w' := by rw [hh]; exact hsp
  have HS := Lib.hid hsp2
  have HR := Lib.hid he
  have s1 := sz32' hs
  have B0 := heap_alloc2_old w (.cells (krow s) 31) (.cells (ub 32 (fun _ => 0)) 31)
  have B1 := heap_alloc2_new w (.cells (krow s) 31) (.cells (ub 32 (fun _ => 0)) 31)
  have F0 := ((Fr.refl (fun _ => False) w).alloc (.cells (krow s) 31)).alloc (.cells (ub 32 (fun _ => 0)) 31)
  have HB0 := Lib.hid B0
  have HB1 := Lib.hid B1
  have HF := Lib.hid F0
  have HC := Lib.hid ((hK.ext F0).cells (rev_last x r))
  have HG := Lib.hid (show ¬ (((w.alloc (.cells (krow s) 31)).alloc (.cells (ub 32 (fun _ => 0)) 31)).heap.size ≤ g) from by
    have h1 := (hK.ext F0).cells (rev_last x r) 0 (.int .u8 ((x[0]'(by omega)).toNat : Int)) (by rw [krow, List.getElem?_toArray, bv_get' x 0 (by omega)])
    have := World.block_lt_of_cell? _ _ h1
    exact Nat.not_le_of_lt this)
  have hKr := (hK.ext F0).take r.length
  rw [rev_take] at hKr
  have HK := Lib.hid hKr
  have HE := Lib.hid (hE.ext F0)
  have HX := Lib.hid hx
  have HSL := Lib.hid hs
  have HI := Lib.hid ih
  have HCL := Lib.hid (Lg.climb_len s hs r i h)
  have HN := Lib.hid (show 1 ≤ h ∧ h ≤ 9223372036854775807 ∧ i < h ∧ r.length ≤ c ∧ c ≤ maxLen from ⟨by omega, by omega, by omega, by simp at hc; omega, hm⟩)
  have hlen : (x :: r).length = r.length + 1 := rfl
  have b1 : ((n : Int) == 1) = false := beq_eq_false_iff_ne.2 (by omega)
  rw [hlen] at hc ⊢
  have b0 : (((r.length + 1 : Nat) : Int) == 0) = false := beq_eq_false_iff_ne.2 (by omega)
  obtain ⟨k, hk⟩ : ∃ k, k = r.length := ⟨_, rfl⟩
  rw [← hk] at hc b0 HC HN HI ⊢
  have Hk := Lib.hid hk
  have hkb : k + 1 ≤ 9223372036854775807 := by unfold maxLen at hm; omega
  have q1 : k ≤ c := by omega
  have q2 : (k : Int) < (k : Int) + 1 := by omega
  have q3 : k < k + 1 := by omega
  have q6 : (i : Int) < (h : Int) := by omega
  have q7 : i < h := by omega
  have q8 : True := trivial
  have Q8 := Lib.hid q8
  have u1 := wrA k hkb
  have u2 := wrC k (by omega)
  clear hx hlt hpos htw he hsp hsp2 hh F0 hK hKr hE hs ih hc hm hlen hk hkb h1 hn1 n9 hin hi B0 B1 q8
  go_enter Tryd.func34, Tryd.ntmps34
  go_wp2_with fail
  rw [zero32]
  generalize ((w.alloc (.cells (krow s) 31)).alloc (.cells (ub 32 (fun _ => 0)) 31)) = w1 at *
  refine Ks.wp_region_mono (fun b => w1.heap.size ≤ b) (sg 0 13 ++ ((13, true) :: (sg 14 2 ++ ((16, true) :: ([]))))) (by kernel_rfl) (by kernel_rfl) ?_
  refine Ks.Wk.seg 0 13 (by kernel_rfl) (by kernel_rfl) ?_
  apply Exists.intro
  refine ⟨?wk0, ?fin0⟩
  case wk0 =>
    intro γ
    have HC3 : ∀ z : Ks.Ws γ, ∀ (j : Nat) (u : Value), (krow x)[j]? = some u → z.w.cell? ⟨g, off + k * 32 + j, none⟩ = some u := fun z j u hu => z.h.cellSome HG.out (HC.out j u hu)
    have HSP := fun z : Ks.Ws γ => HS.out z.w
    simp only [List.drop_succ_cons, List.drop_zero, List.take_succ_cons, List.take_zero]
    repeat (any_goals (first | (focus (go_big_quiet_want; (refine quiet_load_cellsS 31 (.tmp 38) rfl g (off + k * 32) rfl (krow x) 32 _ Tryd.underlying31 rfl sz32 HC3 (by rw [krow_size]; exact HX.out) ?_); simp only [Act.put, List.setIfInBounds_toArray, List.set_cons_zero, List.set_cons_succ]; go_big_quiet_on)) | go_big_quiet_step (exact Calls.keepS (HSP _)) | quiet_step (exact Calls.keepS (HSP _))))
    exact wpQuiet_nil rfl
  case fin0 =>
  (try simp only [Act.put, List.setIfInBounds_toArray, List.set_cons_zero, List.set_cons_succ])
  refine Ks.Wk.one rfl (fun w2 Xw2 => ?_)
  go_wp2_with fail
  rw [zero32]
  refine ⟨Ks.Es.of ((Fr.refl _ w2).alloc _), ?_⟩
  (try simp only [List.getElem_toArray, List.getElem_cons_succ, List.getElem_cons_zero, Act.put, List.setIfInBounds_toArray, List.set_cons_zero, List.set_cons_succ])
  have B2 := heap_alloc_new w2 (.cells (ub 32 (fun _ => 0)) 31)
  have X2 : Fr (fun _ => False) w1 (w2.alloc (.cells (ub 32 (fun _ => 0)) 31)) := Xw2.alloc _
  refine Ks.Wk.seg 14 2 (by kernel_rfl) (by kernel_rfl) ?_
  apply Exists.intro
  refine ⟨?wk2, ?fin2⟩
  case wk2 =>
    intro γ
    simp only [List.drop_succ_cons, List.drop_zero, List.take_succ_cons, List.take_zero]
    repeat (any_goals (first | go_big_quiet_step (fail) | quiet_step (fail)))
    exact wpQuiet_nil rfl
  case fin2 =>
  (try simp only [Act.put, List.setIfInBounds_toArray, List.set_cons_zero, List.set_cons_succ])
  refine Ks.Wk.one rfl (fun w3 Xw3 => ?_)
  have B3 := (Xw3.block _ (lt_of_block B2) (fun h => h)).trans B2
  refine wpList_store_rowA rfl 31 (.tmp 12) (.tmp 39) rfl w2.heap.size (krow x) rfl rfl 31 _ B3 (sz32' HX.out) (by rw [ub_size, krow_size]; exact HX.out.symm) (krow_one _) (fun w4 B4 F4 => ⟨rfl, F4.mono (fun k _ h => by have := Xw2.size; rw [h]; exact this), ?_⟩)
  (try simp only [List.getElem_toArray, List.getElem_cons_succ, List.getElem_cons_zero, Act.put, List.setIfInBounds_toArray, List.set_cons_zero, List.set_cons_succ])
  intro w5 X5
  have X35 : Fr (fun b => w1.heap.size ≤ b) w1 w5 := (((X2.trans Xw3 (fun _ h => h.elim)).mono (T := fun b => w1.heap.size ≤ b) (fun _ _ h => h.elim)).trans F4 (fun k h => .inl (by rw [h]; exact Xw2.size))).trans X5 (fun _ h => h.elim)
  have Y15 : Fr (fun _ => False) w1 w5 := (Fr.refl (fun _ => False) w1).trans X35 (fun _ h => .inr h)
  have HD := Lib.hid (show w.heap.size + 2 ≤ w2.heap.size from Nat.le_trans (by have := lt_of_block HB1.out; omega) Xw2.size)
  have HB05 := Lib.hid ((Y15.block _ (lt_of_block HB0.out) (fun h => h)).trans HB0.out)
  have HB15 := Lib.hid ((Y15.block _ (lt_of_block HB1.out) (fun h => h)).trans HB1.out)
  have HBX := Lib.hid ((X5.block _ (lt_of_block B4) (fun h => h)).trans B4)
  have HF5 := Lib.hid (HF.out.trans Y15 (fun _ h => h.elim))
  have HK5 := Lib.hid (HK.out.ext Y15)
  have HE5 := Lib.hid (HE.out.ext Y15)
  obtain ⟨d, hd⟩ : ∃ d, d = w2.heap.size := ⟨_, rfl⟩
  rw [← hd] at HD HBX ⊢
  clear X35 Y15 hd X5 B4 F4 B3 Xw3 X2 B2 Xw2
  clear w4 w3 w2
  go_wp2_with (refine wpList_load_row rfl 31 (.tmp 4) rfl w.heap.size rfl 31 (krow s) (0, 0) _ HB05.out Tryd.underlying31 rfl (sz32' HSL.out) ?_)
  refine (HI.out _ c i h w5 HN.out.1 HN.out.2.1 HN.out.2.2.1 HN.out.2.2.2.1 HN.out.2.2.2.2 HK5.out HE5.out).mono ?_
  rintro e w6 ⟨rfl, F6⟩
  obtain ⟨Y, hY⟩ : ∃ Y, Y = Lg.climb z32 s i h r := ⟨_, rfl⟩
  have HYL := Lib.hid (show Y.1.length = 32 by rw [hY]; exact HCL.out)
  rw [← hY]
  have HY := Lib.hid hY
  have HF6 := Lib.hid F6
  clear F6 hY
  go_wp2_with (refine wpList_store_rowA rfl 31 (.tmp 13) (.tmp 49) rfl w6.heap.size (krow Y.1) rfl rfl 31 _ (heap_alloc_new w6 _) (sz32' HYL.out) (by rw [krow_size, HYL.out]; rfl) (krow_one _) ?_; intro w7 B7 F7; refine Hid.out ?_)
  refine Lib.hid ?_
  have Y57 : Fr (fun _ => False) w5 w7 := (HF6.out.alloc _).trans F7 (fun k h => .inr (by rw [h]; exact HF6.out.size))
  have HB7 := Lib.hid B7
  have HB17 := Lib.hid ((Y57.block _ (lt_of_block HB15.out) (fun h => h)).trans HB15.out)
  have HBX7 := Lib.hid ((Y57.block _ (lt_of_block HBX.out) (fun h => h)).trans HBX.out)
  have HF7 := Lib.hid (HF5.out.trans Y57 (fun _ h => h.elim))
  have HE7 := Lib.hid (HE5.out.ext Y57)
  clear B7 F7 Y57
  (try simp only [Act.put, List.setIfInBounds_toArray, List.set_cons_zero, List.set_cons_succ])
  go_wp2_with (first | (refine wpList_load_row rfl 31 (.tmp 13) rfl w6.heap.size rfl 31 (krow Y.1) (0, 0) _ HB7.out Tryd.underlying31 rfl (sz32' HYL.out) ?_) | (refine wpList_load_row rfl 31 (.tmp 12) rfl d rfl 31 (krow x) (0, 0) _ HBX7.out Tryd.underlying31 rfl (sz32' HX.out) ?_))
  refine (nsum_any Y.1 x HYL.out HX.out w7 HE7.out).mono ?_
  rintro e w8 ⟨rfl, F8⟩
  have HB18 := Lib.hid ((F8.block _ (lt_of_block HB17.out) (fun h => h)).trans HB17.out)
  have HF8 := Lib.hid (HF7.out.trans F8 (fun _ h => h.elim))
  clear F8
  go_wp2_with (refine wpList_store_rowA rfl 31 (.tmp 8) (.tmp 53) rfl (w.heap.size + 1) (krow (Lg.node Y.1 x)) rfl rfl 31 _ HB18.out (sz32' (Lg.node_len _ _)) (by rw [ub_size, krow_size, Lg.node_len]) (krow_one _) ?_; intro w9 B9 F9; refine Hid.out ?_)
  refine Lib.hid ?_
  have HB9 := Lib.hid B9
  have HF9 := Lib.hid (HF8.out.trans F9 (fun k h => .inr (by rw [h]; omega)))
  clear B9 F9
  (try simp only [Act.put, List.setIfInBounds_toArray, List.set_cons_zero, List.set_cons_succ])
  go_wp2_with fail
  refine bodyPost_ret (results_cell_tmp rfl _ _ (w.heap.size + 1) 31 (krow (Lg.node Y.1 x)) (0, 0) _ rfl HB9.out Tryd.underlying31 rfl (sz32' (Lg.node_len _ _))) rfl ?_
  rw [HR.out, ← HY.out]
  exact ⟨rfl, HF9.out⟩
set_option maxRecDepth 100000 in
set_option maxHeartbeats 6400000 in
theorem climb_right (s : List UInt8) (hs : s.length = 32) (x : List UInt8) (r : List (List UInt8)) (ih : ∀ (a : Option Addr) (c : Nat) (i n : Nat) (w : World), 1 ≤ n → n ≤ 9223372036854775807 → i < n → r.length ≤ c → c ≤ maxLen → Kv w a r.reverse → Env w → Calls Tryd.prog 34 #[.agg (krow s), .int .i64 (i : Int), .int .i64 (n : Int), .slice a r.length c] w fun e w' => e = .returned (.tuple #[.agg (krow (Lg.climb z32 s i n r).1), .bool (Lg.climb z32 s i n r).2]) ∧ Fr (fun _ => False) w w') (a : Option Addr) (c i n : Nat) (w : World) (h1 : 1 ≤ n) (hn1 : n ≠ 1) (n9 : n ≤ 9223372036854775807) (hin : i < n) (hc : (x :: r).length ≤ c) (hm : c ≤ maxLen) (hK : Kv w a (x :: r).reverse) (hE : Env w) (hi : ¬ i < Lg.hf n) :
    Calls Tryd.prog 34 #[.agg (krow s), .int .i64 (i : Int), .int .i64 (n : Int), .slice a (x :: r).length c] w fun e w' => e = .returned (.tuple #[.agg (krow (Lg.climb z32 s i n (x :: r)).1), .bool (Lg.climb z32 s i n (x :: r)).2]) ∧ Fr (fun _ => False) w w' := by
  obtain ⟨g, off, rfl⟩ := hK.at (by simp)
  have hx : x.length = 32 := hK.all x (by simp)
  have hlt := Lg.hf_lt (n := n) (by omega)
  have hpos := Lg.hf_pos n
  have htw := Lg.hf_two (n := n) (by omega)
  have he : Lg.climb z32 s i n (x :: r) = (Lg.node x (Lg.climb z32 s (i - Lg.hf n) (n - Lg.hf n) r).1, (Lg.climb z32 s (i - Lg.hf n) (n - Lg.hf n) r).2) := by
    rw [Lg.climb, if_neg hn1, if_neg hi]
  have hsp := fun w => split_same n (by omega) n9 w
  obtain ⟨h, hh⟩ : ∃ h, h = Lg.hf n := ⟨_, rfl⟩
  rw [← hh] at hlt hpos hi he htw
  have hsp2 : ∀ w : World, Calls Tryd.prog 42 #[.int .i64 (n : Int)] w fun e w' => e = .returned (.int .i64 (h : Int)) ∧ w = w' := by rw [hh]; exact hsp
  have HS := Lib.hid hsp2
  have HR := Lib.hid he
  have s1 := sz32' hs
  have B0 := heap_alloc2_old w (.cells (krow s) 31) (.cells (ub 32 (fun _ => 0)) 31)
  have B1 := heap_alloc2_new w (.cells (krow s) 31) (.cells (ub 32 (fun _ => 0)) 31)
  have F0 := ((Fr.refl (fun _ => False) w).alloc (.cells (krow s) 31)).alloc (.cells (ub 32 (fun _ => 0)) 31)
  have HB0 := Lib.hid B0
  have HB1 := Lib.hid B1
  have HF := Lib.hid F0
  have HC := Lib.hid ((hK.ext F0).cells (rev_last x r))
  have HG := Lib.hid (show ¬ (((w.alloc (.cells (krow s) 31)).alloc (.cells (ub 32 (fun _ => 0)) 31)).heap.size ≤ g) from by
    have h1 := (hK.ext F0).cells (rev_last x r) 0 (.int .u8 ((x[0]'(by omega)).toNat : Int)) (by rw [krow, List.getElem?_toArray, bv_get' x 0 (by omega)])
    have := World.block_lt_of_cell? _ _ h1
    exact Nat.not_le_of_lt this)
  have hKr := (hK.ext F0).take r.length
  rw [rev_take] at hKr
  have HK := Lib.hid hKr
  have HE := Lib.hid (hE.ext F0)
  have HX := Lib.hid hx
  have HSL := Lib.hid hs
  have HI := Lib.hid ih
  have HCL := Lib.hid (Lg.climb_len s hs r (i - h) (n - h))
  have HN := Lib.hid (show 1 ≤ (n - h) ∧ (n - h) ≤ 9223372036854775807 ∧ (i - h) < (n - h) ∧ r.length ≤ c ∧ c ≤ maxLen from ⟨by omega, by omega, by omega, by simp at hc; omega, hm⟩)
  have hlen : (x :: r).length = r.length + 1 := rfl
  have b1 : ((n : Int) == 1) = false := beq_eq_false_iff_ne.2 (by omega)
  rw [hlen] at hc ⊢
  have b0 : (((r.length + 1 : Nat) : Int) == 0) = false := beq_eq_false_iff_ne.2 (by omega)
  obtain ⟨k, hk⟩ : ∃ k, k = r.length := ⟨_, rfl⟩
  rw [← hk] at hc b0 HC HN HI ⊢
  have Hk := Lib.hid hk
  have hkb : k + 1 ≤ 9223372036854775807 := by unfold maxLen at hm; omega
  have q1 : k ≤ c := by omega
  have q2 : (k : Int) < (k : Int) + 1 := by omega
  have q3 : k < k + 1 := by omega
  have q6 : ¬ ((i : Int) < (h : Int)) := by omega
  have q7 : ¬ (i < h) := by omega
  have q8 : wrap64 ((i : Int) - (h : Int)) = ((i - h : Nat) : Int) ∧ wrap64 ((n : Int) - (h : Int)) = ((n - h : Nat) : Int) := ⟨wrS i h (by omega) (by omega), wrS n h (by omega) (by omega)⟩
  have Q8 := Lib.hid q8
  have u1 := wrA k hkb
  have u2 := wrC k (by omega)
  clear hx hlt hpos htw he hsp hsp2 hh F0 hK hKr hE hs ih hc hm hlen hk hkb h1 hn1 n9 hin hi B0 B1 q8
  go_enter Tryd.func34, Tryd.ntmps34
  go_wp2_with fail
  rw [zero32]
  generalize ((w.alloc (.cells (krow s) 31)).alloc (.cells (ub 32 (fun _ => 0)) 31)) = w1 at *
  refine Ks.wp_region_mono (fun b => w1.heap.size ≤ b) (sg 0 13 ++ ((13, true) :: (sg 14 2 ++ ((16, true) :: ([]))))) (by kernel_rfl) (by kernel_rfl) ?_
  refine Ks.Wk.seg 0 13 (by kernel_rfl) (by kernel_rfl) ?_
  apply Exists.intro
  refine ⟨?wk0, ?fin0⟩
  case wk0 =>
    intro γ
    have HC3 : ∀ z : Ks.Ws γ, ∀ (j : Nat) (u : Value), (krow x)[j]? = some u → z.w.cell? ⟨g, off + k * 32 + j, none⟩ = some u := fun z j u hu => z.h.cellSome HG.out (HC.out j u hu)
    have HSP := fun z : Ks.Ws γ => HS.out z.w
    simp only [List.drop_succ_cons, List.drop_zero, List.take_succ_cons, List.take_zero]
    repeat (any_goals (first | (focus (go_big_quiet_want; (refine quiet_load_cellsS 31 (.tmp 38) rfl g (off + k * 32) rfl (krow x) 32 _ Tryd.underlying31 rfl sz32 HC3 (by rw [krow_size]; exact HX.out) ?_); simp only [Act.put, List.setIfInBounds_toArray, List.set_cons_zero, List.set_cons_succ]; go_big_quiet_on)) | go_big_quiet_step (exact Calls.keepS (HSP _)) | quiet_step (exact Calls.keepS (HSP _))))
    exact wpQuiet_nil rfl
  case fin0 =>
  (try simp only [Act.put, List.setIfInBounds_toArray, List.set_cons_zero, List.set_cons_succ])
  refine Ks.Wk.one rfl (fun w2 Xw2 => ?_)
  go_wp2_with fail
  rw [zero32]
  refine ⟨Ks.Es.of ((Fr.refl _ w2).alloc _), ?_⟩
  (try simp only [List.getElem_toArray, List.getElem_cons_succ, List.getElem_cons_zero, Act.put, List.setIfInBounds_toArray, List.set_cons_zero, List.set_cons_succ])
  have B2 := heap_alloc_new w2 (.cells (ub 32 (fun _ => 0)) 31)
  have X2 : Fr (fun _ => False) w1 (w2.alloc (.cells (ub 32 (fun _ => 0)) 31)) := Xw2.alloc _
  refine Ks.Wk.seg 14 2 (by kernel_rfl) (by kernel_rfl) ?_
  apply Exists.intro
  refine ⟨?wk2, ?fin2⟩
  case wk2 =>
    intro γ
    simp only [List.drop_succ_cons, List.drop_zero, List.take_succ_cons, List.take_zero]
    repeat (any_goals (first | go_big_quiet_step (fail) | quiet_step (fail)))
    exact wpQuiet_nil rfl
  case fin2 =>
  (try simp only [Act.put, List.setIfInBounds_toArray, List.set_cons_zero, List.set_cons_succ])
  refine Ks.Wk.one rfl (fun w3 Xw3 => ?_)
  have B3 := (Xw3.block _ (lt_of_block B2) (fun h => h)).trans B2
  refine wpList_store_rowA rfl 31 (.tmp 12) (.tmp 39) rfl w2.heap.size (krow x) rfl rfl 31 _ B3 (sz32' HX.out) (by rw [ub_size, krow_size]; exact HX.out.symm) (krow_one _) (fun w4 B4 F4 => ⟨rfl, F4.mono (fun k _ h => by have := Xw2.size; rw [h]; exact this), ?_⟩)
  (try simp only [List.getElem_toArray, List.getElem_cons_succ, List.getElem_cons_zero, Act.put, List.setIfInBounds_toArray, List.set_cons_zero, List.set_cons_succ])
  intro w5 X5
  have X35 : Fr (fun b => w1.heap.size ≤ b) w1 w5 := (((X2.trans Xw3 (fun _ h => h.elim)).mono (T := fun b => w1.heap.size ≤ b) (fun _ _ h => h.elim)).trans F4 (fun k h => .inl (by rw [h]; exact Xw2.size))).trans X5 (fun _ h => h.elim)
  have Y15 : Fr (fun _ => False) w1 w5 := (Fr.refl (fun _ => False) w1).trans X35 (fun _ h => .inr h)
  have HD := Lib.hid (show w.heap.size + 2 ≤ w2.heap.size from Nat.le_trans (by have := lt_of_block HB1.out; omega) Xw2.size)
  have HB05 := Lib.hid ((Y15.block _ (lt_of_block HB0.out) (fun h => h)).trans HB0.out)
  have HB15 := Lib.hid ((Y15.block _ (lt_of_block HB1.out) (fun h => h)).trans HB1.out)
  have HBX := Lib.hid ((X5.block _ (lt_of_block B4) (fun h => h)).trans B4)
  have HF5 := Lib.hid (HF.out.trans Y15 (fun _ h => h.elim))
  have HK5 := Lib.hid (HK.out.ext Y15)
  have HE5 := Lib.hid (HE.out.ext Y15)
  obtain ⟨d, hd⟩ : ∃ d, d = w2.heap.size := ⟨_, rfl⟩
  rw [← hd] at HD HBX ⊢
  clear X35 Y15 hd X5 B4 F4 B3 Xw3 X2 B2 Xw2
  clear w4 w3 w2
  go_wp2_with (refine wpList_load_row rfl 31 (.tmp 4) rfl w.heap.size rfl 31 (krow s) (0, 0) _ HB05.out Tryd.underlying31 rfl (sz32' HSL.out) ?_)
  rw [Q8.out.1, Q8.out.2]
  refine (HI.out _ c (i - h) (n - h) w5 HN.out.1 HN.out.2.1 HN.out.2.2.1 HN.out.2.2.2.1 HN.out.2.2.2.2 HK5.out HE5.out).mono ?_
  rintro e w6 ⟨rfl, F6⟩
  obtain ⟨Y, hY⟩ : ∃ Y, Y = Lg.climb z32 s (i - h) (n - h) r := ⟨_, rfl⟩
  have HYL := Lib.hid (show Y.1.length = 32 by rw [hY]; exact HCL.out)
  rw [← hY]
  have HY := Lib.hid hY
  have HF6 := Lib.hid F6
  clear F6 hY
  go_wp2_with (refine wpList_store_rowA rfl 31 (.tmp 15) (.tmp 65) rfl w6.heap.size (krow Y.1) rfl rfl 31 _ (heap_alloc_new w6 _) (sz32' HYL.out) (by rw [krow_size, HYL.out]; rfl) (krow_one _) ?_; intro w7 B7 F7; refine Hid.out ?_)
  refine Lib.hid ?_
  have Y57 : Fr (fun _ => False) w5 w7 := (HF6.out.alloc _).trans F7 (fun k h => .inr (by rw [h]; exact HF6.out.size))
  have HB7 := Lib.hid B7
  have HB17 := Lib.hid ((Y57.block _ (lt_of_block HB15.out) (fun h => h)).trans HB15.out)
  have HBX7 := Lib.hid ((Y57.block _ (lt_of_block HBX.out) (fun h => h)).trans HBX.out)
  have HF7 := Lib.hid (HF5.out.trans Y57 (fun _ h => h.elim))
  have HE7 := Lib.hid (HE5.out.ext Y57)
  clear B7 F7 Y57
  (try simp only [Act.put, List.setIfInBounds_toArray, List.set_cons_zero, List.set_cons_succ])
  go_wp2_with (first | (refine wpList_load_row rfl 31 (.tmp 15) rfl w6.heap.size rfl 31 (krow Y.1) (0, 0) _ HB7.out Tryd.underlying31 rfl (sz32' HYL.out) ?_) | (refine wpList_load_row rfl 31 (.tmp 12) rfl d rfl 31 (krow x) (0, 0) _ HBX7.out Tryd.underlying31 rfl (sz32' HX.out) ?_))
  refine (nsum_any x Y.1 HX.out HYL.out w7 HE7.out).mono ?_
  rintro e w8 ⟨rfl, F8⟩
  have HB18 := Lib.hid ((F8.block _ (lt_of_block HB17.out) (fun h => h)).trans HB17.out)
  have HF8 := Lib.hid (HF7.out.trans F8 (fun _ h => h.elim))
  clear F8
  go_wp2_with (refine wpList_store_rowA rfl 31 (.tmp 8) (.tmp 69) rfl (w.heap.size + 1) (krow (Lg.node x Y.1)) rfl rfl 31 _ HB18.out (sz32' (Lg.node_len _ _)) (by rw [ub_size, krow_size, Lg.node_len]) (krow_one _) ?_; intro w9 B9 F9; refine Hid.out ?_)
  refine Lib.hid ?_
  have HB9 := Lib.hid B9
  have HF9 := Lib.hid (HF8.out.trans F9 (fun k h => .inr (by rw [h]; omega)))
  clear B9 F9
  (try simp only [Act.put, List.setIfInBounds_toArray, List.set_cons_zero, List.set_cons_succ])
  go_wp2_with fail
  refine bodyPost_ret (results_cell_tmp rfl _ _ (w.heap.size + 1) 31 (krow (Lg.node x Y.1)) (0, 0) _ rfl HB9.out Tryd.underlying31 rfl (sz32' (Lg.node_len _ _))) rfl ?_
  rw [HR.out, ← HY.out]
  exact ⟨rfl, HF9.out⟩
set_option maxRecDepth 100000 in
set_option maxHeartbeats 6400000 in
theorem climb_any (s : List UInt8) (hs : s.length = 32) : ∀ (r : List (List UInt8)), ∀ (a : Option Addr) (c : Nat) (i n : Nat) (w : World), 1 ≤ n → n ≤ 9223372036854775807 → i < n → r.length ≤ c → c ≤ maxLen → Kv w a r.reverse → Env w → Calls Tryd.prog 34 #[.agg (krow s), .int .i64 (i : Int), .int .i64 (n : Int), .slice a r.length c] w fun e w' => e = .returned (.tuple #[.agg (krow (Lg.climb z32 s i n r).1), .bool (Lg.climb z32 s i n r).2]) ∧ Fr (fun _ => False) w w'
  | [], a, c, i, n, w, h1, h9, hi, hc, hm, hK, hE => by
    by_cases hn : n = 1
    · subst hn
      refine (climb_n1 s hs [] a c i w).mono ?_
      rintro e w' ⟨rfl, F⟩
      exact ⟨rfl, F⟩
    · refine (climb_nil s hs a c i n hn w).mono ?_
      rintro e w' ⟨rfl, F⟩
      refine ⟨?_, F⟩
      rw [Lg.climb, if_neg hn]
  | x :: r, a, c, i, n, w, h1, h9, hi, hc, hm, hK, hE => by
    by_cases hn : n = 1
    · subst hn
      refine (climb_n1 s hs (x :: r) a c i w).mono ?_
      rintro e w' ⟨rfl, F⟩
      exact ⟨rfl, F⟩
    · by_cases hh : i < Lg.hf n
      · exact climb_left s hs x r (climb_any s hs r) a c i n w h1 hn h9 hi hc hm hK hE hh
      · exact climb_right s hs x r (climb_any s hs r) a c i n w h1 hn h9 hi hc hm hK hE hh
end Go.Proofs.YtjndkjgbplpfeaaDoor
namespace Go.Proofs.YtjndkjgbplpfeaaDoor
open Go.RowKit
set_option linter.unusedVariables false
namespace Kj
open Ks (Es)
section
variable {P : Program} {md : Region.Mode} {ops : Array Oper} {Q : Act → World → Prop} {S : Nat → Nat → Prop}

/-- Whatever order is picked from here on, from every world that keeps what is here. -/
def wpM (S : Nat → Nat → Prop) (P : Program) (md : Region.Mode) (ops : Array Oper) (Q : Act → World → Prop) : Nat → Array Bool → Act → World → Prop
  | 0, listed, a, w => Region.ready md ops listed = [] ∧ ∀ w', Ex w w' → Q a w'
  | fuel + 1, listed, a, w => (Region.ready md ops listed = [] → ∀ w', Ex w w' → Q a w') ∧
    ∀ i ∈ Region.ready md ops listed, ∀ w', Ex w w' → wpOp P ops NQ i (fun a'' w'' => Es (S i) w' w'' ∧ wpM S P md ops Q fuel (listed.setIfInBounds i true) a'' w'') a w'
set_option maxRecDepth 100000 in
theorem wpM.up : ∀ (fuel : Nat) (listed : Array Bool) (a : Act) (w w' : World), Ex w w' → wpM S P md ops Q fuel listed a w → wpM S P md ops Q fuel listed a w'
  | 0, _, _, _, _, hx, h => ⟨h.1, fun w2 h2 => h.2 w2 (hx.tr h2)⟩
  | _ + 1, _, _, _, _, hx, h => ⟨fun h0 w2 h2 => h.1 h0 w2 (hx.tr h2), fun i hi w2 h2 => h.2 i hi w2 (hx.tr h2)⟩
set_option maxRecDepth 100000 in
theorem wpAny_of_M {Q' : Exit → Act → World → Prop} (hQ : ∀ a w, Q a w → Q' .normal a w) : ∀ (fuel : Nat) (listed : Array Bool) (a : Act) (w : World), wpM S P md ops Q fuel listed a w → wpAny P md ops Q' fuel listed a w
  | 0, _, _, w, h => ⟨h.1, hQ _ _ (h.2 w (Fr.refl _ w))⟩
  | fuel + 1, _, _, w, h => ⟨fun h0 => hQ _ _ (h.1 h0 w (Fr.refl _ w)), fun i hi => wpOp_mono (fun a'' w'' h => wpAny_of_M hQ fuel _ a'' w'' h.2) (wpOp_nq (h.2 i hi w (Fr.refl _ w)))⟩

/-- In every world from W on the operation leaves v, and keeps what is there. -/
def YM (S : Nat → Prop) (P : Program) (ops : Array Oper) (W : World) (o : Oper) (v : Value) (a : Act) : Prop :=
  (Region.wanted o (yielded ops a.tmps) = true ∧ ∀ w, Es S W w → o.quietAt P a (Ex w) w v) ∨ (Region.wanted o (yielded ops a.tmps) = false ∧ v = undef)
set_option maxRecDepth 100000 in
theorem YM.up {S : Nat → Prop} {W W' : World} {o : Oper} {v : Value} {a : Act} (hx : Es S W W') (h : YM S P ops W o v a) : YM S P ops W' o v a :=
  h.imp (fun h => ⟨h.1, fun w hw => h.2 w (hx.tr hw)⟩) id
set_option maxRecDepth 100000 in
theorem YM.of_same {S : Nat → Prop} {W : World} {o : Oper} {v : Value} {a a' : Act} (hy : YM S P ops W o v a) (he : execOp a'.eval o = execOp a.eval o)
    (hw : Region.wanted o (yielded ops a'.tmps) = Region.wanted o (yielded ops a.tmps)) : YM S P ops W o v a' := by
  unfold YM Oper.quietAt at *
  rw [he, hw]
  exact hy
set_option maxRecDepth 100000 in
theorem YM.wpOp {S : Nat → Prop} {W w : World} {i : Nat} {o : Oper} {v : Value} {a : Act} (hi : ops[i]? = some o) (hy : YM S P ops W o v a) (hx : Ex W w) {K : Act → World → Prop} (h : ∀ w', Ex w w' → K (a.put o.dst v) w') : Go.wpOp P ops NQ i K a w := by
  unfold Go.wpOp
  simp only [hi]
  rcases hy with ⟨hw, hv⟩ | ⟨hw, rfl⟩
  · simp only [hw, if_true]
    exact .inl (Oper.wp_of_quiet (C := Ex w) (K := fun a' => a' = a.put o.dst v) (Fr.refl _ w) (fun a' w' hc e => by subst e; exact h w' hc) ⟨v, fun w1 h1 => quietAt_mono (fun w2 h2 => h1.tr h2) (hv w1 (Ks.Es.of (hx.tr h1))), rfl⟩)
  · simp only [hw, Bool.false_eq_true, if_false]; exact h w (Fr.refl _ w)
set_option maxRecDepth 100000 in
theorem wpM_first {T : Nat → Prop} {i : Nat} {oi : Oper} {v : Value} (hi : ops[i]? = some oi) (hz : ∀ j oz, ops[j]? = some oz → (∃ e ∈ oz.after, Region.binds md e = true ∧ e.on = i) ∨ ∀ b, S j b → T b) (hsel : ∀ (j : Nat) (o : Oper) cs b, ops[j]? = some o → o.op ≠ .select cs b) :
    ∀ (fuel : Nat) (listed : Array Bool) (a : Act) (W : World), Fre md ops oi i listed → i ∈ Region.ready md ops listed → YM T P ops W oi v a →
      wpM S P md ops Q fuel (listed.setIfInBounds i true) (a.put oi.dst v) W → wpM S P md ops Q (fuel + 1) listed a W
  | fuel, listed, a, W, hf, hr, hy, H => by
    refine ⟨fun e => absurd hr (by rw [e]; simp), fun j hj w' hx => ?_⟩
    rcases Nat.decEq j i with hji | hji
    · cases fuel with
      | zero => exact absurd (ready_mono hj hji) (by rw [H.1]; simp)
      | succ fuel =>
        obtain ⟨hun, oj, hoj, _⟩ := mem_ready.1 hj
        have hjz : ∀ b, S j b → T b := (hz j oj hoj).resolve_left (fun ⟨e, he, hb, hon⟩ => no_wait hr hj hoj e he hb hon)
        obtain ⟨s1, s2, s3⟩ := Oper.apart_spec (hf j oj hoj hji hun (no_wait hr hj hoj))
        have selj := fun cs b => hsel j oj cs b hoj
        have seli := fun cs b => hsel i oi cs b hi
        refine wpOp_over hoj (execOp_put oj selj a oi.dst v s1).symm (wanted_put oj a oi.dst v s1).symm (fun u w'' ⟨h1, h2⟩ => ⟨h1, ?_⟩) (fun d w'' ⟨h1, h2⟩ => ⟨h1, ?_⟩) (H.2 j (ready_mono hj hji) w' hx)
        · refine wpM_first (v := v) hi hz hsel fuel _ _ w'' (hf.next hun) (ready_mono hr (fun c => hji c.symm)) ?_ ?_
          · exact (hy.up (Ks.Es.tr (Ks.Es.of hx) (h1.mono (fun b _ => hjz b)))).of_same (execOp_put oi seli a oj.dst u s3) (wanted_put oi a oj.dst u s3)
          · rw [Array.setIfInBounds_comm _ _ hji, ← Act.put_comm a v u s2]
            exact h2
        · refine wpM_first (v := v) hi hz hsel fuel _ _ w'' (hf.next hun) (ready_mono hr (fun c => hji c.symm)) ?_ ?_
          · exact ((hy.up (Ks.Es.tr (Ks.Es.of hx) (h1.mono (fun b _ => hjz b)))).of_same (a' := { a with defers := d :: a.defers }) rfl rfl).of_same (execOp_put oi seli _ oj.dst undef s3) (wanted_put oi _ oj.dst undef s3)
          · rw [Array.setIfInBounds_comm _ _ hji, ← Act.put_comm _ v undef s2, ← Act.put_defers]
            exact h2
    · subst hji
      exact hy.wpOp hi hx fun w'' h2 => ⟨Ks.Es.of h2, wpM.up _ _ _ _ _ (hx.tr h2) H⟩

/-- The walk in an order of one's own: (k, false): the operation k leaves one value wherever it comes up; (k, true): it comes up when no other one can. -/
def Wk (S : Nat → Nat → Prop) (P : Program) (md : Region.Mode) (ops : Array Oper) (Q : Act → World → Prop) : List (Nat × Bool) → Act → World → Prop
  | [], a, w => ∀ w', Ex w w' → Q a w'
  | (k, false) :: r, a, w => ∃ (o : Oper) (v : Value) (T : Nat → Prop), ops[k]? = some o ∧ (∀ j oz, ops[j]? = some oz → (∃ e ∈ oz.after, Region.binds md e = true ∧ e.on = k) ∨ ∀ b, S j b → T b) ∧ YM T P ops w o v a ∧ Wk S P md ops Q r (a.put o.dst v) w
  | (k, true) :: r, a, w => ∀ w', Ex w w' → wpOp P ops NQ k (fun a'' w'' => Es (S k) w' w'' ∧ Wk S P md ops Q r a'' w'') a w'
/-- That z waits for k. -/
def zB (md : Region.Mode) (ops : Array Oper) (z k : Nat) : Bool := match ops[z]? with
  | some oz => oz.after.any fun e => Region.binds md e && e.on == k
  | none => true
set_option maxRecDepth 100000 in
theorem zB_spec {md : Region.Mode} {ops : Array Oper} {z k : Nat} (h : zB md ops z k = true) : ∀ oz, ops[z]? = some oz → ∃ e ∈ oz.after, Region.binds md e = true ∧ e.on = k := by
  intro oz ho
  unfold zB at h
  rw [ho] at h
  obtain ⟨i, hi, h2⟩ := Array.any_eq_true.1 h
  simp only [Bool.and_eq_true, beq_iff_eq] at h2
  exact ⟨_, Array.getElem_mem hi, h2.1, h2.2⟩
/-- That j waits for all of a stretch. -/
def segW (md : Region.Mode) (ops : Array Oper) (j k n : Nat) : Bool := (List.range n).all fun i => zB md ops j (k + i)
set_option maxRecDepth 100000 in
theorem segW_spec {md : Region.Mode} {ops : Array Oper} {j k n : Nat} (h : segW md ops j k n = true) {oz : Oper} (ho : ops[j]? = some oz) (i : Nat) (h1 : k ≤ i) (h2 : i < k + n) : ∃ e ∈ oz.after, Region.binds md e = true ∧ e.on = i := by
  have := List.all_eq_true.1 h (i - k) (List.mem_range.2 (by omega))
  rw [show k + (i - k) = i by omega] at this
  exact zB_spec this oz ho
/-- That the order may be walked so. -/
def okZ (md : Region.Mode) (ops : Array Oper) : List (Nat × Bool) → Array Bool → Bool
  | [], listed => (Region.ready md ops listed).isEmpty
  | (k, false) :: r, listed => (Region.ready md ops listed).contains k && Region.free md ops listed k && okZ md ops r (listed.setIfInBounds k true)
  | (k, true) :: r, listed => (Region.ready md ops listed == [k]) && okZ md ops r (listed.setIfInBounds k true)
set_option maxRecDepth 100000 in
theorem Wk.M (hs : Region.noSelect ops = true) : ∀ (l : List (Nat × Bool)) (listed : Array Bool) (a : Act) (w : World), okZ md ops l listed = true → Wk S P md ops Q l a w → wpM S P md ops Q l.length listed a w
  | [], _, _, _, hB, h => ⟨by simpa [okZ] using hB, h⟩
  | (k, false) :: r, listed, a, w, hB, h => by
    obtain ⟨o, v, T, h0, hw, hy, hk⟩ := h
    simp only [okZ, Bool.and_eq_true] at hB
    obtain ⟨⟨hr, hf⟩, hB'⟩ := hB
    exact wpM_first h0 hw (Region.noSelect_spec hs) r.length listed a w (Region.free_spec h0 hf) (by simpa using hr) hy (Wk.M hs r _ _ w hB' hk)
  | (k, true) :: r, listed, a, w, hB, h => by
    simp only [okZ, Bool.and_eq_true, beq_iff_eq] at hB
    refine ⟨fun h0 => (by rw [hB.1] at h0; cases h0), fun i hi w' hx => ?_⟩
    rw [hB.1] at hi
    obtain rfl : i = k := by simpa using hi
    exact wpOp_mono (fun a'' w'' ⟨h1, h2⟩ => ⟨h1, Wk.M hs r _ a'' w'' hB.2 h2⟩) (h w' hx)
end

set_option maxRecDepth 100000 in
theorem wp_region_mono (S : Nat → Nat → Prop) {P : Program} {id : Nat} {Q : Exit → Act → World → Prop} {a : Act} {W0 : World} {l : List Oper} (π : List (Nat × Bool)) (hm : P.follows .mixedOrders = true)
    (hB : (Region.noSelect l.toArray && (π.length == l.length) && okZ .any l.toArray π (Array.replicate l.length false)) = true)
    (h : Wk S P .any l.toArray (fun a w => Q .normal a w) π a W0) : (Code.region id l.toArray true).wp P Q a W0 := by
  simp only [Bool.and_eq_true, beq_iff_eq] at hB
  refine wp_region_any hm ?_
  have := wpM.up _ _ _ _ _ ((Fr.refl (fun _ => False) W0).drew) (Wk.M hB.1.1 π _ a W0 hB.2 h)
  rw [hB.1.2] at this
  have h2 := wpAny_of_M (Q' := Q) (fun _ _ h => h) _ _ _ _ this
  simpa using h2

section
variable {P : Program} {md : Region.Mode} {Q : Act → World → Prop} {S : Nat → Nat → Prop} {T : Nat → Prop}
open Ks (Gs Ws)
set_option maxRecDepth 100000 in
theorem Wk.steps {ops : Array Oper} {aF : Act} {W : World} {r : List (Nat × Bool)} : ∀ (os : List Oper) (k : Nat) (a : Act), (∀ j, j < os.length → ops[k + j]? = os[j]?) → segB a.tmps.size os = true → (∀ i, k ≤ i → i < k + os.length → ∀ j oz, ops[j]? = some oz → (∃ e ∈ oz.after, Region.binds md e = true ∧ e.on = i) ∨ ∀ b, S j b → T b) →
    (∀ γ : Gs T W, wpQuiet P ops (fun w' => ∃ y : Ws γ, w' = y.w) (fun a' => a' = aF) os a) → Wk S P md ops Q r aF W → Wk S P md ops Q (sg k os.length ++ r) a W
  | [], k, a, _, _, _, h, hr => by
    have h : a = aF := h ⟨fun _ => True, fun _ _ _ _ => trivial, W, Fr.refl _ W, trivial⟩
    rw [h]
    exact hr
  | o :: l, k, a, hl, hB, hT, h, hr => by
    have h0 : ops[k]? = some o := by simpa using hl 0 (by simp)
    simp only [segB, Bool.and_eq_true] at hB
    obtain ⟨hB1, hB2⟩ := hB
    obtain ⟨d, hod⟩ : ∃ d, o.dst = some d := by
      cases hd : o.dst with
      | none => rw [hd] at hB1; simp at hB1
      | some d => exact ⟨d, rfl⟩
    rw [hod] at hB1
    simp only [Bool.and_eq_true, decide_eq_true_eq, List.all_eq_true] at hB1
    have one : ∀ γ : Gs T W, ∀ v, wpQuiet P ops (fun w' => ∃ y : Ws γ, w' = y.w) (fun a' => a' = aF) l (a.put o.dst v) → aF.tmps[d]? = some v := fun γ v hq => by
      rw [quiet_final l _ hq d (fun x hx e => by have := hB1.2 x hx; simp [e] at this), hod]
      simp [Act.put, hB1.1]
    have key : ∀ γ : Gs T W, ∃ v, YieldsIn P ops (fun w' => ∃ y : Ws γ, w' = y.w) o v a ∧ wpQuiet P ops (fun w' => ∃ y : Ws γ, w' = y.w) (fun a' => a' = aF) l (a.put o.dst v) := fun γ => by
      have hq := h γ
      unfold wpQuiet at hq
      by_cases hw : Region.wanted o (yielded ops a.tmps) = true
      · rw [if_pos hw] at hq
        obtain ⟨v, h1, h2⟩ := hq
        exact ⟨v, .inl ⟨hw, h1⟩, h2⟩
      · rw [if_neg hw] at hq
        exact ⟨undef, .inr ⟨by simpa using hw, rfl⟩, hq⟩
    obtain ⟨v, hy0, hq0⟩ := key ⟨fun _ => True, fun _ _ _ _ => trivial, W, Fr.refl _ W, trivial⟩
    have hv := one _ v hq0
    have all : ∀ γ : Gs T W, YieldsIn P ops (fun w' => ∃ y : Ws γ, w' = y.w) o v a ∧ wpQuiet P ops (fun w' => ∃ y : Ws γ, w' = y.w) (fun a' => a' = aF) l (a.put o.dst v) := fun γ => by
      obtain ⟨u, h1, h2⟩ := key γ
      have hu := one γ u h2
      rw [hv] at hu
      obtain rfl := Option.some.inj hu
      exact ⟨h1, h2⟩
    refine ⟨o, v, T, h0, hT k (Nat.le_refl _) (by simp), ?_, Wk.steps l (k + 1) (a.put o.dst v) (fun j hj => by have := hl (j + 1) (by simpa using hj); simpa [Nat.add_assoc, Nat.add_comm 1 j] using this) (by rw [put_size]; exact hB2) (fun i h1 h2 => hT i (by omega) (by simp only [List.length_cons]; omega)) (fun γ => (all γ).2) hr⟩
    rcases hy0 with ⟨hw, _⟩ | ⟨hw, rfl⟩
    · refine .inl ⟨hw, fun w hx => ?_⟩
      have hg := (all ⟨fun w' => Ex w w', fun w1 w2 hF hw1 => Ex.tr hw1 hF, w, hx, Fr.refl _ w⟩).1
      rcases hg with ⟨_, hg⟩ | ⟨hw2, _⟩
      · exact quietAt_mono (fun w' ⟨y, e⟩ => by rw [e]; exact y.g) (hg w ⟨⟨w, hx, Fr.refl _ w⟩, rfl⟩)
      · rw [hw] at hw2; cases hw2
    · exact .inr ⟨hw, rfl⟩
set_option maxRecDepth 100000 in
/-- Operations that leave one value each, by the walk in the order of the text. -/
theorem Wk.seg {l : List Oper} {a : Act} {W : World} {r : List (Nat × Bool)} (T : Nat → Prop) (k n : Nat) (hn : ((l.drop k).take n).length = n) (hB : segB a.tmps.size ((l.drop k).take n) = true)
    (hT : ∀ j b, S j b → segW md l.toArray j k n = true ∨ T b)
    (h : ∃ aF, (∀ γ : Gs T W, wpQuiet P l.toArray (fun w' => ∃ y : Ws γ, w' = y.w) (fun a' => a' = aF) ((l.drop k).take n) a) ∧ Wk S P md l.toArray Q r aF W) : Wk S P md l.toArray Q (sg k n ++ r) a W := by
  obtain ⟨aF, h1, h2⟩ := h
  have := Wk.steps (md := md) (Q := Q) (r := r) ((l.drop k).take n) k a (fun j hj => by
    rw [List.getElem?_take_of_lt (by omega), List.getElem?_drop, List.getElem?_toArray]) hB (fun i hi1 hi2 j oz hoz => by
      rw [hn] at hi2
      by_cases hw : segW md l.toArray j k n = true
      · exact .inl (segW_spec hw hoz i hi1 hi2)
      · exact .inr fun b hb => (hT j b hb).resolve_left hw) h1 h2
  rwa [hn] at this
set_option maxRecDepth 100000 in
/-- A call, whatever it answers. -/
theorem Wk.call {ops : Array Oper} {a : Act} {W : World} {r : List (Nat × Bool)} {k : Nat} {o : Oper} (hi : ops[k]? = some o) (hw : Region.wanted o (yielded ops a.tmps) = true) (f : FuncId) (args : Array Value)
    (hrun : ∀ w, (execOp a.eval o).run P w = .ok (.enter f args) w) (R : Value → World → Prop) (hc : ∀ w, Ex W w → Calls P f args w fun e w' => ∃ v, e = .returned v ∧ Ex w w' ∧ R v w')
    (h : ∀ v w', Ex W w' → R v w' → Wk S P md ops Q r (a.put o.dst v) w') : Wk S P md ops Q ((k, true) :: r) a W := by
  intro w hx
  unfold wpOp
  simp only [hi, hw, if_true]
  refine .inl ?_
  unfold Oper.wp
  rw [hrun, Oper.upon_enter]
  refine (hc w hx).mono fun e w' hh => ?_
  obtain ⟨v, rfl, h1, h2⟩ := hh
  exact ⟨Ks.Es.of h1, h v w' (hx.tr h1) h2⟩

end
set_option maxRecDepth 100000 in
/-- An operation that comes up alone, by a law of the walk in the text's order. -/
theorem Wk.one {P : Program} {md : Region.Mode} {Q : Act → World → Prop} {S : Nat → Nat → Prop} {ops : Array Oper} {a : Act} {W : World} {r : List (Nat × Bool)} {k : Nat} {o : Oper} (hi : ops[k]? = some o)
    (h : ∀ w, Ex W w → wpList P ops (fun e a' w' => e = .normal ∧ Es (S k) w w' ∧ Wk S P md ops Q r a' w') [o] a w) : Wk S P md ops Q ((k, true) :: r) a W :=
  fun w hx => Ks.wpOp_of_list hi (h w hx)
end Kj
end Go.Proofs.YtjndkjgbplpfeaaDoor
namespace Go.Proofs.YtjndkjgbplpfeaaDoor
open Go.RowKit
set_option linter.unusedVariables false
set_option linter.unusedSimpArgs false
set_option maxRecDepth 100000 in
theorem results_cct {P : Program} {fn : Func} {p p2 q : Tmp} {ty ty2 : TypeId} (h : fn.results = #[.cell p ty, .cell p2 ty2, .tmp q]) (tmps : Array Value) (w : World) (g g2 : Nat) (t t2 : TypeId) (cs cs2 : Array Value) (fr fr2 : Nat × Nat) (d d2 : TypeDesc)
    (hp : tmps.getD p undef = .pointer (some ⟨g, 0, none⟩)) (hg : w.heap[g]? = some (.cells cs t fr)) (hu : P.underlying ty = some d) (hd : (match d with | .struct _ | .array _ _ => true | _ => false) = true) (hi : (P.info? ty).map (·.size) = some cs.size)
    (hp2 : tmps.getD p2 undef = .pointer (some ⟨g2, 0, none⟩)) (hg2 : w.heap[g2]? = some (.cells cs2 t2 fr2)) (hu2 : P.underlying ty2 = some d2) (hd2 : (match d2 with | .struct _ | .array _ _ => true | _ => false) = true) (hi2 : (P.info? ty2).map (·.size) = some cs2.size) :
    (results fn tmps).run P w = .ok (.tuple #[.agg cs, .agg cs2, tmps.getD q undef]) w := by
  have hp' : tmps[p]?.getD undef = .pointer (some ⟨g, 0, none⟩) := by simpa using hp
  have hp2' : tmps[p2]?.getD undef = .pointer (some ⟨g2, 0, none⟩) := by simpa using hp2
  simp [results, h, hp', hp2', asAddr, run_loadVar_row w g t ty cs fr d hg hu hd hi, run_loadVar_row w g2 t2 ty2 cs2 fr2 d2 hg2 hu2 hd2 hi2]
set_option maxRecDepth 100000 in
theorem Lg.both_len (old : List UInt8) (ho : old.length = 32) : ∀ (r : List (List UInt8)) (m n : Nat) (all : Bool), Lg.All32 r → (Lg.both z32 old m n all r).1.length = 32 ∧ (Lg.both z32 old m n all r).2.1.length = 32
  | [], m, n, all, _ => by
    unfold Lg.both; split
    · exact ⟨ho, ho⟩
    · exact ⟨rfl, rfl⟩
  | x :: r, m, n, all, h => by
    have hx : x.length = 32 := h x (List.mem_cons_self ..)
    have hr : Lg.All32 r := fun y hy => h y (List.mem_cons_of_mem _ hy)
    unfold Lg.both
    split
    · cases all
      · exact ⟨hx, hx⟩
      · exact ⟨ho, ho⟩
    · split
      · exact ⟨(Lg.both_len old ho r m (Lg.hf n) all hr).1, rfl⟩
      · exact ⟨rfl, rfl⟩
set_option maxRecDepth 100000 in
set_option maxHeartbeats 6400000 in
theorem both_all (old : List UInt8) (ho : old.length = 32) (a : Option Addr) (c m k : Nat) (w : World) : Calls Tryd.prog 37 #[.int .i64 (m : Int), .int .i64 (m : Int), .bool true, .slice a k c, .agg (krow old)] w fun e w' => e = .returned (.tuple #[.agg (krow old), .agg (krow old), .bool (k == 0)]) ∧ Fr (fun _ => False) w w' := by
  have s1 := sz32' ho
  have B0 := heap_three w (.cells (krow old) 31) (.cells (ub 32 (fun _ => 0)) 31) (.cells (ub 32 (fun _ => 0)) 31)
  have B1 := heap_three1 w (.cells (krow old) 31) (.cells (ub 32 (fun _ => 0)) 31) (.cells (ub 32 (fun _ => 0)) 31)
  have B2 := heap_three2 w (.cells (krow old) 31) (.cells (ub 32 (fun _ => 0)) 31) (.cells (ub 32 (fun _ => 0)) 31)
  have F0 := (((Fr.refl (fun _ => False) w).alloc (.cells (krow old) 31)).alloc (.cells (ub 32 (fun _ => 0)) 31)).alloc (.cells (ub 32 (fun _ => 0)) 31)
  have HB0 := Lib.hid B0
  have HB1 := Lib.hid B1
  have HB2 := Lib.hid B2
  have HF := Lib.hid F0
  have HO := Lib.hid ho
  have b1 : ((k : Int) == 0) = (k == 0) := by
    rcases Nat.eq_zero_or_pos k with h | h
    · rw [h]; rfl
    · rw [beq_eq_false_iff_ne.2 (by omega), beq_eq_false_iff_ne.2 (by omega)]
  have b2 : ((m : Int) == (m : Int)) = true := beq_self_eq_true _
  have b3 : (m == m) = true := beq_self_eq_true _
  clear B0 B1 B2 F0 ho
  go_enter Tryd.func37, Tryd.ntmps37
  go_wp2_with fail
  rw [zero32]
  generalize (((w.alloc (.cells (krow old) 31)).alloc (.cells (ub 32 (fun _ => 0)) 31)).alloc (.cells (ub 32 (fun _ => 0)) 31)) = w1 at *
  refine Kj.wp_region_mono (fun j b => (j = 5 ∧ b = w.heap.size + 1) ∨ (j = 6 ∧ b = w.heap.size + 2)) (sg 0 5 ++ ((5, true) :: ((6, true) :: ((7, true) :: ([]))))) (by kernel_rfl) (by kernel_rfl) ?_
  refine Kj.Wk.seg (fun b => b = w.heap.size + 1 ∨ b = w.heap.size + 2) 0 5 (by kernel_rfl) (by kernel_rfl) (fun j b h => h.elim (fun h => .inr (.inl h.2)) (fun h => .inr (.inr h.2))) ?_
  apply Exists.intro
  refine ⟨?wk0, ?fin0⟩
  case wk0 =>
    intro γ
    simp only [List.drop_succ_cons, List.drop_zero, List.take_succ_cons, List.take_zero]
    repeat (any_goals (first | (focus (go_big_quiet_want; (refine Ks.quiet_load_rows 31 (.tmp 9) rfl w.heap.size rfl 31 (krow old) (0, 0) _ HB0.out (by show ¬ (_ ∨ _); omega) Tryd.underlying31 rfl (sz32' HO.out) ?_); simp only [Act.put, List.setIfInBounds_toArray, List.set_cons_zero, List.set_cons_succ]; go_big_quiet_on)) | go_big_quiet_step (fail) | quiet_step (fail)))
    exact wpQuiet_nil rfl
  case fin0 =>
  (try simp only [Act.put, List.setIfInBounds_toArray, List.set_cons_zero, List.set_cons_succ])
  refine Kj.Wk.one rfl (fun u1 Xu1 => ?_)
  have BB1 := (Xu1.block _ (lt_of_block HB1.out) (fun h => h)).trans HB1.out
  refine wpList_store_rowA rfl 31 (.tmp 10) (.tmp 22) rfl (w.heap.size + 1) (krow old) rfl rfl 31 _ BB1 (sz32' HO.out) (by first | rfl | (rw [ub_size, krow_size]; exact HO.out.symm) | (rw [krow_size, krow_size, HO.out]; first | exact HE1.out | rfl)) (krow_one _) (fun u2 C1 G1 => ⟨rfl, G1.mono (fun b _ h => .inl ⟨rfl, h⟩), ?_⟩)
  (try simp only [List.getElem_toArray, List.getElem_cons_succ, List.getElem_cons_zero, Act.put, List.setIfInBounds_toArray, List.set_cons_zero, List.set_cons_succ])
  refine Kj.Wk.one rfl (fun u3 Xu3 => ?_)
  have Z2 : Fr (fun b => b = w.heap.size + 1) w1 u3 := ((Xu1.mono (T := fun b => b = w.heap.size + 1) (fun _ _ h => h.elim)).trans (G1.mono (fun b _ h => h)) (fun _ h => .inl h)).trans Xu3 (fun _ h => h.elim)
  have BB2 := (Z2.block _ (lt_of_block HB2.out) (fun h => by omega)).trans HB2.out
  refine wpList_store_rowA rfl 31 (.tmp 11) (.tmp 23) rfl (w.heap.size + 2) (krow old) rfl rfl 31 _ BB2 (sz32' HO.out) (by first | rfl | (rw [ub_size, krow_size]; exact HO.out.symm) | (rw [krow_size, krow_size, HO.out]; first | exact HE2.out | rfl)) (krow_one _) (fun u4 C2 G2 => ⟨rfl, G2.mono (fun b _ h => .inr ⟨rfl, h⟩), ?_⟩)
  (try simp only [List.getElem_toArray, List.getElem_cons_succ, List.getElem_cons_zero, Act.put, List.setIfInBounds_toArray, List.set_cons_zero, List.set_cons_succ])
  refine Kj.Wk.one rfl (fun u5 Xu5 => ?_)
  go_wp2_with fail
  refine ⟨Ks.Es.of (Fr.refl _ _), ?_⟩
  (try simp only [List.getElem_toArray, List.getElem_cons_succ, List.getElem_cons_zero, Act.put, List.setIfInBounds_toArray, List.set_cons_zero, List.set_cons_succ])
  intro u6 X6
  have D1 := (X6.block _ (by have h1 := lt_of_block C1; have := Xu3.size; have := G2.size; have := Xu5.size; omega) (fun h => h)).trans ((Xu5.block _ (by have h1 := lt_of_block C1; have := Xu3.size; have := G2.size; omega) (fun h => h)).trans ((G2.block _ (by have h1 := lt_of_block C1; have := Xu3.size; omega) (fun h => by omega)).trans ((Xu3.block _ (lt_of_block C1) (fun h => h)).trans C1)))
  have D2 := (X6.block _ (by have h1 := lt_of_block C2; have := Xu5.size; omega) (fun h => h)).trans ((Xu5.block _ (lt_of_block C2) (fun h => h)).trans C2)
  have HD1 := Lib.hid D1
  have HD2 := Lib.hid D2
  have Z3 : Fr (fun b => b = w.heap.size + 1 ∨ b = w.heap.size + 2) w1 u6 := (((Z2.mono (T := fun b => b = w.heap.size + 1 ∨ b = w.heap.size + 2) (fun _ _ h => .inl h)).trans G2 (fun _ h => .inl (.inr h))).trans Xu5 (fun _ h => h.elim)).trans X6 (fun _ h => h.elim)
  have HZ := Lib.hid (HF.out.trans Z3 (fun k h => .inr (by omega)))
  clear D1 D2 Z3 X6 Xu5 G2 C2 BB2 Z2 Xu3 G1 C1 BB1 Xu1
  go_wp2_with fail
  refine bodyPost_ret (results_cct rfl _ _ (w.heap.size + 1) (w.heap.size + 2) 31 31 (krow old) (krow old) (0, 0) (0, 0) _ _ rfl HD1.out Tryd.underlying31 rfl (sz32' HO.out) rfl HD2.out Tryd.underlying31 rfl (sz32' HO.out)) rfl ?_
  skip
  exact ⟨rfl, HZ.out⟩
set_option maxRecDepth 100000 in
set_option maxHeartbeats 6400000 in
theorem both_nil_ne (old : List UInt8) (ho : old.length = 32) (a : Option Addr) (c m n : Nat) (all : Bool) (hmn : m ≠ n) (w : World) : Calls Tryd.prog 37 #[.int .i64 (m : Int), .int .i64 (n : Int), .bool all, .slice a 0 c, .agg (krow old)] w fun e w' => e = .returned (.tuple #[.agg (krow z32), .agg (krow z32), .bool false]) ∧ Fr (fun _ => False) w w' := by
  have s1 := sz32' ho
  have B0 := heap_three w (.cells (krow old) 31) (.cells (ub 32 (fun _ => 0)) 31) (.cells (ub 32 (fun _ => 0)) 31)
  have B1 := heap_three1 w (.cells (krow old) 31) (.cells (ub 32 (fun _ => 0)) 31) (.cells (ub 32 (fun _ => 0)) 31)
  have B2 := heap_three2 w (.cells (krow old) 31) (.cells (ub 32 (fun _ => 0)) 31) (.cells (ub 32 (fun _ => 0)) 31)
  have F0 := (((Fr.refl (fun _ => False) w).alloc (.cells (krow old) 31)).alloc (.cells (ub 32 (fun _ => 0)) 31)).alloc (.cells (ub 32 (fun _ => 0)) 31)
  have HB0 := Lib.hid B0
  have HB1 := Lib.hid B1
  have HB2 := Lib.hid B2
  have HF := Lib.hid F0
  have HO := Lib.hid ho
  have b1 : ((m : Int) == (n : Int)) = false := beq_eq_false_iff_ne.2 (by omega)
  have b2 : (m == n) = false := beq_eq_false_iff_ne.2 hmn
  clear B0 B1 B2 F0 ho hmn
  go_enter Tryd.func37, Tryd.ntmps37
  go_wp2_with (first | (rw [zero32]) | (refine wpList_build_to rfl 31 #[] rfl (ub 32 (fun _ => 0)) (by kernel_rfl) ?_; simp only [Act.put, List.setIfInBounds_toArray, List.set_cons_zero, List.set_cons_succ]) | (refine wpList_store_rowA rfl 31 (.tmp 10) (.tmp 30) rfl (w.heap.size + 1) (ub 32 (fun _ => 0)) rfl rfl 31 _ HB1.out (by rw [ub_size]; exact sz32) rfl (ub_one _ _) ?_; intro w5 B5 F5; simp only [Act.put, List.setIfInBounds_toArray, List.set_cons_zero, List.set_cons_succ]) | (refine wpList_store_rowA rfl 31 (.tmp 11) (.tmp 31) rfl (w.heap.size + 2) (ub 32 (fun _ => 0)) rfl rfl 31 _ ((F5.block _ (lt_of_block HB2.out) (fun h => by omega)).trans HB2.out) (by rw [ub_size]; exact sz32) rfl (ub_one _ _) ?_; intro w6 B6 F6; simp only [Act.put, List.setIfInBounds_toArray, List.set_cons_zero, List.set_cons_succ]))
  have D1 := (F6.block _ (lt_of_block B5) (fun h => by omega)).trans B5
  refine bodyPost_ret (results_cct rfl _ _ (w.heap.size + 1) (w.heap.size + 2) 31 31 (ub 32 (fun _ => 0)) (ub 32 (fun _ => 0)) (0, 0) (0, 0) _ _ rfl D1 Tryd.underlying31 rfl (by rw [ub_size]; exact sz32) rfl B6 Tryd.underlying31 rfl (by rw [ub_size]; exact sz32)) rfl ?_
  rw [z32_row]
  exact ⟨rfl, (HF.out.trans F5 (fun k h => .inr (by rw [h]; omega))).trans F6 (fun k h => .inr (by rw [h]; omega))⟩
set_option maxRecDepth 100000 in
set_option maxHeartbeats 6400000 in
theorem both_nil_eq (old : List UInt8) (ho : old.length = 32) (a : Option Addr) (c m  : Nat)   (w : World) : Calls Tryd.prog 37 #[.int .i64 (m : Int), .int .i64 (m : Int), .bool false, .slice a 0 c, .agg (krow old)] w fun e w' => e = .returned (.tuple #[.agg (krow z32), .agg (krow z32), .bool false]) ∧ Fr (fun _ => False) w w' := by
  have s1 := sz32' ho
  have B0 := heap_three w (.cells (krow old) 31) (.cells (ub 32 (fun _ => 0)) 31) (.cells (ub 32 (fun _ => 0)) 31)
  have B1 := heap_three1 w (.cells (krow old) 31) (.cells (ub 32 (fun _ => 0)) 31) (.cells (ub 32 (fun _ => 0)) 31)
  have B2 := heap_three2 w (.cells (krow old) 31) (.cells (ub 32 (fun _ => 0)) 31) (.cells (ub 32 (fun _ => 0)) 31)
  have F0 := (((Fr.refl (fun _ => False) w).alloc (.cells (krow old) 31)).alloc (.cells (ub 32 (fun _ => 0)) 31)).alloc (.cells (ub 32 (fun _ => 0)) 31)
  have HB0 := Lib.hid B0
  have HB1 := Lib.hid B1
  have HB2 := Lib.hid B2
  have HF := Lib.hid F0
  have HO := Lib.hid ho
  have b1 : ((m : Int) == (m : Int)) = true := beq_self_eq_true _
  have b2 : (m == m) = true := beq_self_eq_true _
  clear B0 B1 B2 F0 ho 
  go_enter Tryd.func37, Tryd.ntmps37
  go_wp2_with (first | (rw [zero32]) | (refine wpList_build_to rfl 31 #[] rfl (ub 32 (fun _ => 0)) (by kernel_rfl) ?_; simp only [Act.put, List.setIfInBounds_toArray, List.set_cons_zero, List.set_cons_succ]) | (refine wpList_store_rowA rfl 31 (.tmp 10) (.tmp 30) rfl (w.heap.size + 1) (ub 32 (fun _ => 0)) rfl rfl 31 _ HB1.out (by rw [ub_size]; exact sz32) rfl (ub_one _ _) ?_; intro w5 B5 F5; simp only [Act.put, List.setIfInBounds_toArray, List.set_cons_zero, List.set_cons_succ]) | (refine wpList_store_rowA rfl 31 (.tmp 11) (.tmp 31) rfl (w.heap.size + 2) (ub 32 (fun _ => 0)) rfl rfl 31 _ ((F5.block _ (lt_of_block HB2.out) (fun h => by omega)).trans HB2.out) (by rw [ub_size]; exact sz32) rfl (ub_one _ _) ?_; intro w6 B6 F6; simp only [Act.put, List.setIfInBounds_toArray, List.set_cons_zero, List.set_cons_succ]))
  have D1 := (F6.block _ (lt_of_block B5) (fun h => by omega)).trans B5
  refine bodyPost_ret (results_cct rfl _ _ (w.heap.size + 1) (w.heap.size + 2) 31 31 (ub 32 (fun _ => 0)) (ub 32 (fun _ => 0)) (0, 0) (0, 0) _ _ rfl D1 Tryd.underlying31 rfl (by rw [ub_size]; exact sz32) rfl B6 Tryd.underlying31 rfl (by rw [ub_size]; exact sz32)) rfl ?_
  rw [z32_row]
  exact ⟨rfl, (HF.out.trans F5 (fun k h => .inr (by rw [h]; omega))).trans F6 (fun k h => .inr (by rw [h]; omega))⟩
set_option maxRecDepth 100000 in
set_option maxHeartbeats 6400000 in
theorem both_own (old : List UInt8) (ho : old.length = 32) (x : List UInt8) (r : List (List UInt8)) (a : Option Addr) (c m : Nat) (w : World) (hc : (x :: r).length ≤ c) (hm : c ≤ maxLen) (hK : Kv w a (x :: r).reverse) : Calls Tryd.prog 37 #[.int .i64 (m : Int), .int .i64 (m : Int), .bool false, .slice a (x :: r).length c, .agg (krow old)] w fun e w' => e = .returned (.tuple #[.agg (krow x), .agg (krow x), .bool r.isEmpty]) ∧ Fr (fun _ => False) w w' := by
  have s1 := sz32' ho
  have B0 := heap_three w (.cells (krow old) 31) (.cells (ub 32 (fun _ => 0)) 31) (.cells (ub 32 (fun _ => 0)) 31)
  have B1 := heap_three1 w (.cells (krow old) 31) (.cells (ub 32 (fun _ => 0)) 31) (.cells (ub 32 (fun _ => 0)) 31)
  have B2 := heap_three2 w (.cells (krow old) 31) (.cells (ub 32 (fun _ => 0)) 31) (.cells (ub 32 (fun _ => 0)) 31)
  have F0 := (((Fr.refl (fun _ => False) w).alloc (.cells (krow old) 31)).alloc (.cells (ub 32 (fun _ => 0)) 31)).alloc (.cells (ub 32 (fun _ => 0)) 31)
  have HB0 := Lib.hid B0
  have HB1 := Lib.hid B1
  have HB2 := Lib.hid B2
  have HF := Lib.hid F0
  have HO := Lib.hid ho
  obtain ⟨g, off, rfl⟩ := hK.at (by simp)
  have hx : x.length = 32 := hK.all x (by simp)
  have HC := Lib.hid ((hK.ext F0).cells (rev_last x r))
  have HG := Lib.hid (show ¬ ((((w.alloc (.cells (krow old) 31)).alloc (.cells (ub 32 (fun _ => 0)) 31)).alloc (.cells (ub 32 (fun _ => 0)) 31)).heap.size ≤ g) from by
    have h1 := (hK.ext F0).cells (rev_last x r) 0 (.int .u8 ((x[0]'(by omega)).toNat : Int)) (by rw [krow, List.getElem?_toArray, bv_get' x 0 (by omega)])
    have := World.block_lt_of_cell? _ _ h1
    exact Nat.not_le_of_lt this)
  have hKr := (hK.ext F0).take r.length
  rw [rev_take] at hKr
  have HK := Lib.hid hKr
  have HX := Lib.hid hx
  have b1 : ((m : Int) == (m : Int)) = true := beq_self_eq_true _
  have b2 : (m == m) = true := beq_self_eq_true _
  have hlen : (x :: r).length = r.length + 1 := rfl
  rw [hlen] at hc ⊢
  have b0 : (((r.length + 1 : Nat) : Int) == 0) = false := beq_eq_false_iff_ne.2 (by omega)
  obtain ⟨k, hk⟩ : ∃ k, k = r.length := ⟨_, rfl⟩
  rw [← hk] at hc b0 HC ⊢
  have Hk := Lib.hid hk
  have hkb : k + 1 ≤ 9223372036854775807 := by unfold maxLen at hm; omega
  have q1 : k ≤ c := by omega
  have q2 : (k : Int) < (k : Int) + 1 := by omega
  have q3 : k < k + 1 := by omega
  have u1 := wrA k hkb
  have u2 := wrC k (by omega)
  have e1 : r.isEmpty = (k == 0) := by rw [hk]; cases r <;> rfl
  have e2 : ((k : Int) == 0) = (k == 0) := by
    rcases Nat.eq_zero_or_pos k with h | h
    · rw [h]; rfl
    · rw [beq_eq_false_iff_ne.2 (by omega), beq_eq_false_iff_ne.2 (by omega)]
  rw [e1]
  clear B0 B1 B2 F0 ho hx hKr hK hc hm hlen hk hkb e1
  go_enter Tryd.func37, Tryd.ntmps37
  go_wp2_with fail
  rw [zero32]
  generalize (((w.alloc (.cells (krow old) 31)).alloc (.cells (ub 32 (fun _ => 0)) 31)).alloc (.cells (ub 32 (fun _ => 0)) 31)) = w1 at *
  refine Ks.wp_region_mono (fun b => w1.heap.size ≤ b) (sg 0 11 ++ ((11, true) :: (sg 12 1 ++ ((13, true) :: ([]))))) (by kernel_rfl) (by kernel_rfl) ?_
  refine Ks.Wk.seg 0 11 (by kernel_rfl) (by kernel_rfl) ?_
  apply Exists.intro
  refine ⟨?wk0, ?fin0⟩
  case wk0 =>
    intro γ
    have HC3 : ∀ z : Ks.Ws γ, ∀ (j : Nat) (u : Value), (krow x)[j]? = some u → z.w.cell? ⟨g, off + k * 32 + j, none⟩ = some u := fun z j u hu => z.h.cellSome HG.out (HC.out j u hu)
    simp only [List.drop_succ_cons, List.drop_zero, List.take_succ_cons, List.take_zero]
    repeat (any_goals (first | (focus (go_big_quiet_want; (refine quiet_load_cellsS 31 (.tmp 41) rfl g (off + k * 32) rfl (krow x) 32 _ Tryd.underlying31 rfl sz32 HC3 (by rw [krow_size]; exact HX.out) ?_); simp only [Act.put, List.setIfInBounds_toArray, List.set_cons_zero, List.set_cons_succ]; go_big_quiet_on)) | go_big_quiet_step (fail) | quiet_step (fail)))
    exact wpQuiet_nil rfl
  case fin0 =>
  (try simp only [Act.put, List.setIfInBounds_toArray, List.set_cons_zero, List.set_cons_succ])
  refine Ks.Wk.one rfl (fun w2 Xw2 => ?_)
  go_wp2_with fail
  rw [zero32]
  refine ⟨Ks.Es.of ((Fr.refl _ w2).alloc _), ?_⟩
  (try simp only [List.getElem_toArray, List.getElem_cons_succ, List.getElem_cons_zero, Act.put, List.setIfInBounds_toArray, List.set_cons_zero, List.set_cons_succ])
  have B2 := heap_alloc_new w2 (.cells (ub 32 (fun _ => 0)) 31)
  have X2 : Fr (fun _ => False) w1 (w2.alloc (.cells (ub 32 (fun _ => 0)) 31)) := Xw2.alloc _
  refine Ks.Wk.seg 12 1 (by kernel_rfl) (by kernel_rfl) ?_
  apply Exists.intro
  refine ⟨?wk2, ?fin2⟩
  case wk2 =>
    intro γ
    simp only [List.drop_succ_cons, List.drop_zero, List.take_succ_cons, List.take_zero]
    repeat (any_goals (first | go_big_quiet_step (fail) | quiet_step (fail)))
    exact wpQuiet_nil rfl
  case fin2 =>
  (try simp only [Act.put, List.setIfInBounds_toArray, List.set_cons_zero, List.set_cons_succ])
  refine Ks.Wk.one rfl (fun w3 Xw3 => ?_)
  have B3 := (Xw3.block _ (lt_of_block B2) (fun h => h)).trans B2
  refine wpList_store_rowA rfl 31 (.tmp 14) (.tmp 42) rfl w2.heap.size (krow x) rfl rfl 31 _ B3 (sz32' HX.out) (by rw [ub_size, krow_size]; exact HX.out.symm) (krow_one _) (fun w4 B4 F4 => ⟨rfl, F4.mono (fun k _ h => by have := Xw2.size; rw [h]; exact this), ?_⟩)
  (try simp only [List.getElem_toArray, List.getElem_cons_succ, List.getElem_cons_zero, Act.put, List.setIfInBounds_toArray, List.set_cons_zero, List.set_cons_succ])
  intro w5 X5
  have X35 : Fr (fun b => w1.heap.size ≤ b) w1 w5 := (((X2.trans Xw3 (fun _ h => h.elim)).mono (T := fun b => w1.heap.size ≤ b) (fun _ _ h => h.elim)).trans F4 (fun k h => .inl (by rw [h]; exact Xw2.size))).trans X5 (fun _ h => h.elim)
  have Y15 : Fr (fun _ => False) w1 w5 := (Fr.refl (fun _ => False) w1).trans X35 (fun _ h => .inr h)
  have HD := Lib.hid (show w.heap.size + 3 ≤ w2.heap.size from Nat.le_trans (by have := lt_of_block HB2.out; omega) Xw2.size)
  have HB05 := Lib.hid ((Y15.block _ (lt_of_block HB0.out) (fun h => h)).trans HB0.out)
  have HB15 := Lib.hid ((Y15.block _ (lt_of_block HB1.out) (fun h => h)).trans HB1.out)
  have HB25 := Lib.hid ((Y15.block _ (lt_of_block HB2.out) (fun h => h)).trans HB2.out)
  have HBX := Lib.hid ((X5.block _ (lt_of_block B4) (fun h => h)).trans B4)
  have HF5 := Lib.hid (HF.out.trans Y15 (fun _ h => h.elim))
  have HK5 := Lib.hid (HK.out.ext Y15)
  have HY15 := Lib.hid Y15
  obtain ⟨d, hd⟩ : ∃ d, d = w2.heap.size := ⟨_, rfl⟩
  rw [← hd] at HD HBX ⊢
  clear X35 Y15 hd X5 B4 F4 B3 Xw3 X2 B2 Xw2
  clear w4 w3 w2
  go_wp2_with fail
  refine Kj.wp_region_mono (fun j b => (j = 5 ∧ b = w.heap.size + 1) ∨ (j = 6 ∧ b = w.heap.size + 2)) (sg 0 5 ++ ((5, true) :: ((6, true) :: ((7, true) :: ([]))))) (by kernel_rfl) (by kernel_rfl) ?_
  refine Kj.Wk.seg (fun b => b = w.heap.size + 1 ∨ b = w.heap.size + 2) 0 5 (by kernel_rfl) (by kernel_rfl) (fun j b h => h.elim (fun h => .inr (.inl h.2)) (fun h => .inr (.inr h.2))) ?_
  apply Exists.intro
  refine ⟨?wk0, ?fin0⟩
  case wk0 =>
    intro γ
    simp only [List.drop_succ_cons, List.drop_zero, List.take_succ_cons, List.take_zero]
    repeat (any_goals (first | (focus (go_big_quiet_want; (refine Ks.quiet_load_rows 31 (.tmp 14) rfl d rfl 31 (krow x) (0, 0) _ HBX.out (by show ¬ (_ ∨ _); have := HD.out; omega) Tryd.underlying31 rfl (sz32' HX.out) ?_); simp only [Act.put, List.setIfInBounds_toArray, List.set_cons_zero, List.set_cons_succ]; go_big_quiet_on)) | go_big_quiet_step (fail) | quiet_step (fail)))
    exact wpQuiet_nil rfl
  case fin0 =>
  (try simp only [Act.put, List.setIfInBounds_toArray, List.set_cons_zero, List.set_cons_succ])
  refine Kj.Wk.one rfl (fun u1 Xu1 => ?_)
  have BB1 := (Xu1.block _ (lt_of_block HB15.out) (fun h => h)).trans HB15.out
  refine wpList_store_rowA rfl 31 (.tmp 10) (.tmp 46) rfl (w.heap.size + 1) (krow x) rfl rfl 31 _ BB1 (sz32' HX.out) (by first | rfl | (rw [ub_size, krow_size]; exact HX.out.symm) | (rw [krow_size, krow_size, HX.out]; first | exact HE1.out | rfl)) (krow_one _) (fun u2 C1 G1 => ⟨rfl, G1.mono (fun b _ h => .inl ⟨rfl, h⟩), ?_⟩)
  (try simp only [List.getElem_toArray, List.getElem_cons_succ, List.getElem_cons_zero, Act.put, List.setIfInBounds_toArray, List.set_cons_zero, List.set_cons_succ])
  refine Kj.Wk.one rfl (fun u3 Xu3 => ?_)
  have Z2 : Fr (fun b => b = w.heap.size + 1) w5 u3 := ((Xu1.mono (T := fun b => b = w.heap.size + 1) (fun _ _ h => h.elim)).trans (G1.mono (fun b _ h => h)) (fun _ h => .inl h)).trans Xu3 (fun _ h => h.elim)
  have BB2 := (Z2.block _ (lt_of_block HB25.out) (fun h => by omega)).trans HB25.out
  refine wpList_store_rowA rfl 31 (.tmp 11) (.tmp 47) rfl (w.heap.size + 2) (krow x) rfl rfl 31 _ BB2 (sz32' HX.out) (by first | rfl | (rw [ub_size, krow_size]; exact HX.out.symm) | (rw [krow_size, krow_size, HX.out]; first | exact HE2.out | rfl)) (krow_one _) (fun u4 C2 G2 => ⟨rfl, G2.mono (fun b _ h => .inr ⟨rfl, h⟩), ?_⟩)
  (try simp only [List.getElem_toArray, List.getElem_cons_succ, List.getElem_cons_zero, Act.put, List.setIfInBounds_toArray, List.set_cons_zero, List.set_cons_succ])
  refine Kj.Wk.one rfl (fun u5 Xu5 => ?_)
  go_wp2_with fail
  refine ⟨Ks.Es.of (Fr.refl _ _), ?_⟩
  (try simp only [List.getElem_toArray, List.getElem_cons_succ, List.getElem_cons_zero, Act.put, List.setIfInBounds_toArray, List.set_cons_zero, List.set_cons_succ])
  intro u6 X6
  have D1 := (X6.block _ (by have h1 := lt_of_block C1; have := Xu3.size; have := G2.size; have := Xu5.size; omega) (fun h => h)).trans ((Xu5.block _ (by have h1 := lt_of_block C1; have := Xu3.size; have := G2.size; omega) (fun h => h)).trans ((G2.block _ (by have h1 := lt_of_block C1; have := Xu3.size; omega) (fun h => by omega)).trans ((Xu3.block _ (lt_of_block C1) (fun h => h)).trans C1)))
  have D2 := (X6.block _ (by have h1 := lt_of_block C2; have := Xu5.size; omega) (fun h => h)).trans ((Xu5.block _ (lt_of_block C2) (fun h => h)).trans C2)
  have HD1 := Lib.hid D1
  have HD2 := Lib.hid D2
  have Z3 : Fr (fun b => b = w.heap.size + 1 ∨ b = w.heap.size + 2) w5 u6 := (((Z2.mono (T := fun b => b = w.heap.size + 1 ∨ b = w.heap.size + 2) (fun _ _ h => .inl h)).trans G2 (fun _ h => .inl (.inr h))).trans Xu5 (fun _ h => h.elim)).trans X6 (fun _ h => h.elim)
  have HZ := Lib.hid (HF5.out.trans Z3 (fun k h => .inr (by omega)))
  clear D1 D2 Z3 X6 Xu5 G2 C2 BB2 Z2 Xu3 G1 C1 BB1 Xu1
  go_wp2_with fail
  refine bodyPost_ret (results_cct rfl _ _ (w.heap.size + 1) (w.heap.size + 2) 31 31 (krow x) (krow x) (0, 0) (0, 0) _ _ rfl HD1.out Tryd.underlying31 rfl (sz32' HX.out) rfl HD2.out Tryd.underlying31 rfl (sz32' HX.out)) rfl ?_
  skip
  exact ⟨rfl, HZ.out⟩
end Go.Proofs.YtjndkjgbplpfeaaDoor
namespace Go.Proofs.YtjndkjgbplpfeaaDoor
open Go.RowKit
set_option linter.unusedVariables false
set_option linter.unusedSimpArgs false
set_option maxRecDepth 100000 in
set_option maxHeartbeats 6400000 in
theorem both_left (old : List UInt8) (ho : old.length = 32) (x : List UInt8) (r : List (List UInt8)) (ih : ∀ (a : Option Addr) (c m n : Nat) (all : Bool) (w : World), 1 ≤ m → m ≤ n → n ≤ 9223372036854775807 → r.length ≤ c → c ≤ maxLen → Kv w a r.reverse → Env w → Calls Tryd.prog 37 #[.int .i64 (m : Int), .int .i64 (n : Int), .bool all, .slice a r.length c, .agg (krow old)] w fun e w' => e = .returned (.tuple #[.agg (krow (Lg.both z32 old m n all r).1), .agg (krow (Lg.both z32 old m n all r).2.1), .bool (Lg.both z32 old m n all r).2.2]) ∧ Fr (fun _ => False) w w') (a : Option Addr) (c m n : Nat) (all : Bool) (w : World) (h1 : 1 ≤ m) (hin : m ≤ n) (hmn : m ≠ n) (n9 : n ≤ 9223372036854775807) (hc : (x :: r).length ≤ c) (hm : c ≤ maxLen) (hK : Kv w a (x :: r).reverse) (hE : Env w) (hi : m ≤ Lg.hf n) :
    Calls Tryd.prog 37 #[.int .i64 (m : Int), .int .i64 (n : Int), .bool all, .slice a (x :: r).length c, .agg (krow old)] w fun e w' => e = .returned (.tuple #[.agg (krow (Lg.both z32 old m n all (x :: r)).1), .agg (krow (Lg.both z32 old m n all (x :: r)).2.1), .bool (Lg.both z32 old m n all (x :: r)).2.2]) ∧ Fr (fun _ => False) w w' := by
  have s1 := sz32' ho
  have B0 := heap_three w (.cells (krow old) 31) (.cells (ub 32 (fun _ => 0)) 31) (.cells (ub 32 (fun _ => 0)) 31)
  have B1 := heap_three1 w (.cells (krow old) 31) (.cells (ub 32 (fun _ => 0)) 31) (.cells (ub 32 (fun _ => 0)) 31)
  have B2 := heap_three2 w (.cells (krow old) 31) (.cells (ub 32 (fun _ => 0)) 31) (.cells (ub 32 (fun _ => 0)) 31)
  have F0 := (((Fr.refl (fun _ => False) w).alloc (.cells (krow old) 31)).alloc (.cells (ub 32 (fun _ => 0)) 31)).alloc (.cells (ub 32 (fun _ => 0)) 31)
  have HB0 := Lib.hid B0
  have HB1 := Lib.hid B1
  have HB2 := Lib.hid B2
  have HF := Lib.hid F0
  have HO := Lib.hid ho
  obtain ⟨g, off, rfl⟩ := hK.at (by simp)
  have hx : x.length = 32 := hK.all x (by simp)
  have HC := Lib.hid ((hK.ext F0).cells (rev_last x r))
  have HG := Lib.hid (show ¬ ((((w.alloc (.cells (krow old) 31)).alloc (.cells (ub 32 (fun _ => 0)) 31)).alloc (.cells (ub 32 (fun _ => 0)) 31)).heap.size ≤ g) from by
    have h1 := (hK.ext F0).cells (rev_last x r) 0 (.int .u8 ((x[0]'(by omega)).toNat : Int)) (by rw [krow, List.getElem?_toArray, bv_get' x 0 (by omega)])
    have := World.block_lt_of_cell? _ _ h1
    exact Nat.not_le_of_lt this)
  have hKr := (hK.ext F0).take r.length
  rw [rev_take] at hKr
  have HK := Lib.hid hKr
  have HX := Lib.hid hx
  have hlt := Lg.hf_lt (n := n) (by omega)
  have hpos := Lg.hf_pos n
  have hr32 : Lg.All32 r := fun y hy => hK.all y (by simp [hy])
  have he : Lg.both z32 old m n all (x :: r) = ((Lg.both z32 old m (Lg.hf n) all r).1, Lg.node (Lg.both z32 old m (Lg.hf n) all r).2.1 x, (Lg.both z32 old m (Lg.hf n) all r).2.2) := by
    rw [Lg.both, if_neg hmn, if_pos hi]
  have hsp := fun w => split_same n (by omega) n9 w
  obtain ⟨h, hh⟩ : ∃ h, h = Lg.hf n := ⟨_, rfl⟩
  rw [← hh] at hlt hpos hi he
  have hsp2 : ∀ w : World, Calls Tryd.prog 42 #[.int .i64 (n : Int)] w fun e w' => e = .returned (.int .i64 (h : Int)) ∧ w = w' := by rw [hh]; exact hsp
  have HS := Lib.hid hsp2
  have HR := Lib.hid he
  have HE0 := Lib.hid (hE.ext F0)
  have HELT := Lib.hid hE.lt
  have HI := Lib.hid ih
  have HBL := Lib.hid (Lg.both_len old ho r m h all hr32)
  have HN := Lib.hid (show 1 ≤ m ∧ m ≤ h ∧ h ≤ 9223372036854775807 ∧ r.length ≤ c ∧ c ≤ maxLen from ⟨by omega, by omega, by omega, by simp at hc; omega, hm⟩)
  have b1 : ((m : Int) == (n : Int)) = false := beq_eq_false_iff_ne.2 (by omega)
  have b2 : (m == n) = false := beq_eq_false_iff_ne.2 hmn
  have hlen : (x :: r).length = r.length + 1 := rfl
  rw [hlen] at hc ⊢
  have b0 : (((r.length + 1 : Nat) : Int) == 0) = false := beq_eq_false_iff_ne.2 (by omega)
  obtain ⟨k, hk⟩ : ∃ k, k = r.length := ⟨_, rfl⟩
  rw [← hk] at hc b0 HC HN HI ⊢
  have Hk := Lib.hid hk
  have hkb : k + 1 ≤ 9223372036854775807 := by unfold maxLen at hm; omega
  have q1 : k ≤ c := by omega
  have q2 : (k : Int) < (k : Int) + 1 := by omega
  have q3 : k < k + 1 := by omega
  have u1 := wrA k hkb
  have u2 := wrC k (by omega)
  have q6 : (m : Int) ≤ (h : Int) := by omega
  have q7 : m ≤ h := by omega
  have q8 : True := trivial
  have Q8 := Lib.hid q8
  clear hx hlt hpos hr32 he hsp hsp2 hh F0 hK hKr hE ho ih hc hm hlen hk hkb h1 hin hmn n9 hi B0 B1 B2 q8
  go_enter Tryd.func37, Tryd.ntmps37
  go_wp2_with fail
  rw [zero32]
  generalize (((w.alloc (.cells (krow old) 31)).alloc (.cells (ub 32 (fun _ => 0)) 31)).alloc (.cells (ub 32 (fun _ => 0)) 31)) = w1 at *
  refine Ks.wp_region_mono (fun b => w1.heap.size ≤ b) (sg 0 11 ++ ((11, true) :: (sg 12 1 ++ ((13, true) :: ([]))))) (by kernel_rfl) (by kernel_rfl) ?_
  refine Ks.Wk.seg 0 11 (by kernel_rfl) (by kernel_rfl) ?_
  apply Exists.intro
  refine ⟨?wk0, ?fin0⟩
  case wk0 =>
    intro γ
    have HC3 : ∀ z : Ks.Ws γ, ∀ (j : Nat) (u : Value), (krow x)[j]? = some u → z.w.cell? ⟨g, off + k * 32 + j, none⟩ = some u := fun z j u hu => z.h.cellSome HG.out (HC.out j u hu)
    simp only [List.drop_succ_cons, List.drop_zero, List.take_succ_cons, List.take_zero]
    repeat (any_goals (first | (focus (go_big_quiet_want; (refine quiet_load_cellsS 31 (.tmp 41) rfl g (off + k * 32) rfl (krow x) 32 _ Tryd.underlying31 rfl sz32 HC3 (by rw [krow_size]; exact HX.out) ?_); simp only [Act.put, List.setIfInBounds_toArray, List.set_cons_zero, List.set_cons_succ]; go_big_quiet_on)) | go_big_quiet_step (fail) | quiet_step (fail)))
    exact wpQuiet_nil rfl
  case fin0 =>
  (try simp only [Act.put, List.setIfInBounds_toArray, List.set_cons_zero, List.set_cons_succ])
  refine Ks.Wk.one rfl (fun w2 Xw2 => ?_)
  go_wp2_with fail
  rw [zero32]
  refine ⟨Ks.Es.of ((Fr.refl _ w2).alloc _), ?_⟩
  (try simp only [List.getElem_toArray, List.getElem_cons_succ, List.getElem_cons_zero, Act.put, List.setIfInBounds_toArray, List.set_cons_zero, List.set_cons_succ])
  have B2 := heap_alloc_new w2 (.cells (ub 32 (fun _ => 0)) 31)
  have X2 : Fr (fun _ => False) w1 (w2.alloc (.cells (ub 32 (fun _ => 0)) 31)) := Xw2.alloc _
  refine Ks.Wk.seg 12 1 (by kernel_rfl) (by kernel_rfl) ?_
  apply Exists.intro
  refine ⟨?wk2, ?fin2⟩
  case wk2 =>
    intro γ
    simp only [List.drop_succ_cons, List.drop_zero, List.take_succ_cons, List.take_zero]
    repeat (any_goals (first | go_big_quiet_step (fail) | quiet_step (fail)))
    exact wpQuiet_nil rfl
  case fin2 =>
  (try simp only [Act.put, List.setIfInBounds_toArray, List.set_cons_zero, List.set_cons_succ])
  refine Ks.Wk.one rfl (fun w3 Xw3 => ?_)
  have B3 := (Xw3.block _ (lt_of_block B2) (fun h => h)).trans B2
  refine wpList_store_rowA rfl 31 (.tmp 14) (.tmp 42) rfl w2.heap.size (krow x) rfl rfl 31 _ B3 (sz32' HX.out) (by rw [ub_size, krow_size]; exact HX.out.symm) (krow_one _) (fun w4 B4 F4 => ⟨rfl, F4.mono (fun k _ h => by have := Xw2.size; rw [h]; exact this), ?_⟩)
  (try simp only [List.getElem_toArray, List.getElem_cons_succ, List.getElem_cons_zero, Act.put, List.setIfInBounds_toArray, List.set_cons_zero, List.set_cons_succ])
  intro w5 X5
  have X35 : Fr (fun b => w1.heap.size ≤ b) w1 w5 := (((X2.trans Xw3 (fun _ h => h.elim)).mono (T := fun b => w1.heap.size ≤ b) (fun _ _ h => h.elim)).trans F4 (fun k h => .inl (by rw [h]; exact Xw2.size))).trans X5 (fun _ h => h.elim)
  have Y15 : Fr (fun _ => False) w1 w5 := (Fr.refl (fun _ => False) w1).trans X35 (fun _ h => .inr h)
  have HD := Lib.hid (show w.heap.size + 3 ≤ w2.heap.size from Nat.le_trans (by have := lt_of_block HB2.out; omega) Xw2.size)
  have HB05 := Lib.hid ((Y15.block _ (lt_of_block HB0.out) (fun h => h)).trans HB0.out)
  have HB15 := Lib.hid ((Y15.block _ (lt_of_block HB1.out) (fun h => h)).trans HB1.out)
  have HB25 := Lib.hid ((Y15.block _ (lt_of_block HB2.out) (fun h => h)).trans HB2.out)
  have HBX := Lib.hid ((X5.block _ (lt_of_block B4) (fun h => h)).trans B4)
  have HF5 := Lib.hid (HF.out.trans Y15 (fun _ h => h.elim))
  have HK5 := Lib.hid (HK.out.ext Y15)
  have HY15 := Lib.hid Y15
  obtain ⟨d, hd⟩ : ∃ d, d = w2.heap.size := ⟨_, rfl⟩
  rw [← hd] at HD HBX ⊢
  clear X35 Y15 hd X5 B4 F4 B3 Xw3 X2 B2 Xw2
  clear w4 w3 w2
  have HE5 := Lib.hid (HE0.out.ext HY15.out)
  go_wp2_with fail
  refine (HS.out w5).mono ?_
  rintro e w6 ⟨rfl, rfl⟩
  go_wp2_with (refine wpList_load_row rfl 31 (.tmp 9) rfl w.heap.size rfl 31 (krow old) (0, 0) _ HB05.out Tryd.underlying31 rfl (sz32' HO.out) ?_)

  refine (HI.out _ c m h all w5 HN.out.1 HN.out.2.1 HN.out.2.2.1 HN.out.2.2.2.1 HN.out.2.2.2.2 HK5.out HE5.out).mono ?_
  rintro e w6 ⟨rfl, F6⟩
  obtain ⟨Y, hY⟩ : ∃ Y, Y = Lg.both z32 old m h all r := ⟨_, rfl⟩
  have HY1 := Lib.hid (show Y.1.length = 32 by rw [hY]; exact HBL.out.1)
  have HY2 := Lib.hid (show Y.2.1.length = 32 by rw [hY]; exact HBL.out.2)
  have HE1 := HY1
  have HE2 := HY2
  rw [← hY]
  have HY := Lib.hid hY
  have HB16 := Lib.hid ((F6.block _ (lt_of_block HB15.out) (fun h => h)).trans HB15.out)
  have HB26 := Lib.hid ((F6.block _ (lt_of_block HB25.out) (fun h => h)).trans HB25.out)
  have HBX6 := Lib.hid ((F6.block _ (lt_of_block HBX.out) (fun h => h)).trans HBX.out)
  have HE6 := Lib.hid (HE5.out.ext F6)
  have HF6 := Lib.hid (HF5.out.trans F6 (fun _ h => h.elim))
  clear F6 hY
  go_wp2_with (refine wpList_store_rowA rfl 31 (.tmp 10) (.tmp 63) rfl (w.heap.size + 1) (krow Y.1) rfl rfl 31 _ HB16.out (sz32' HY1.out) (by rw [ub_size, krow_size, HY1.out]) (krow_one _) ?_; intro w7 B7 F7; refine Hid.out ?_)
  refine Lib.hid ?_
  have HB7 := Lib.hid B7
  have HF7 := Lib.hid F7
  have HB27 := Lib.hid ((F7.block _ (lt_of_block HB26.out) (fun h => by omega)).trans HB26.out)
  clear B7 F7
  (try simp only [Act.put, List.setIfInBounds_toArray, List.set_cons_zero, List.set_cons_succ])
  go_wp2_with (refine wpList_store_rowA rfl 31 (.tmp 11) (.tmp 64) rfl (w.heap.size + 2) (krow Y.2.1) rfl rfl 31 _ HB27.out (sz32' HY2.out) (by rw [ub_size, krow_size, HY2.out]) (krow_one _) ?_; intro w9 B9 F9; refine Hid.out ?_)
  refine Lib.hid ?_
  have HB29 := Lib.hid B9
  have HB19 := Lib.hid ((F9.block _ (lt_of_block HB7.out) (fun h => by omega)).trans HB7.out)
  have Z69 : Fr (fun b => b = w.heap.size + 1 ∨ b = w.heap.size + 2) w6 w9 := (HF7.out.mono (T := fun b => b = w.heap.size + 1 ∨ b = w.heap.size + 2) (fun _ _ h => .inl h)).trans F9 (fun _ h => .inl (.inr h))
  have HBX9 := Lib.hid ((Z69.block _ (lt_of_block HBX6.out) (by show ¬ (_ ∨ _); have := HD.out; omega)).trans HBX6.out)
  have HE9 := Lib.hid (HE6.out.fr Z69 (by show ¬ (_ ∨ _); have := HELT.out; omega))
  have HE9lt := HELT
  have HF9 := Lib.hid (HF6.out.trans Z69 (fun k h => .inr (by omega)))
  clear B9 F9 Z69
  (try simp only [Act.put, List.setIfInBounds_toArray, List.set_cons_zero, List.set_cons_succ])
  go_wp2_with fail
  refine Kj.wp_region_mono (fun j b => (j = 5 ∧ b = w.heap.size + 1) ∨ (j = 6 ∧ b = w.heap.size + 2)) (sg 0 1 ++ (sg 1 3 ++ (sg 4 1 ++ ((5, true) :: ((6, true) :: ((7, true) :: ([]))))))) (by kernel_rfl) (by kernel_rfl) ?_
  refine Kj.Wk.seg (fun b => b = w.heap.size + 2) 0 1 (by kernel_rfl) (by kernel_rfl) (fun j b h => h.elim (fun h => .inl (by rw [h.1]; kernel_rfl)) (fun h => .inr h.2)) ?_
  apply Exists.intro
  refine ⟨?wk0, ?fin0⟩
  case wk0 =>
    intro γ
    simp only [List.drop_succ_cons, List.drop_zero, List.take_succ_cons, List.take_zero]
    repeat (any_goals (first | (focus (go_big_quiet_want; (refine Ks.quiet_load_rows 31 (.tmp 10) rfl (w.heap.size + 1) rfl 31 (krow Y.1) (0, 0) _ HB19.out (by show ¬ (_ = _); omega) Tryd.underlying31 rfl (sz32' HY1.out) ?_); simp only [Act.put, List.setIfInBounds_toArray, List.set_cons_zero, List.set_cons_succ]; go_big_quiet_on)) | go_big_quiet_step (fail) | quiet_step (fail)))
    exact wpQuiet_nil rfl
  case fin0 =>
  (try simp only [Act.put, List.setIfInBounds_toArray, List.set_cons_zero, List.set_cons_succ])
  refine Kj.Wk.seg (fun b => b = w.heap.size + 1) 1 3 (by kernel_rfl) (by kernel_rfl) (fun j b h => h.elim (fun h => .inr h.2) (fun h => .inl (by rw [h.1]; kernel_rfl))) ?_
  apply Exists.intro
  refine ⟨?wk1, ?fin1⟩
  case wk1 =>
    intro γ
    have HEz := fun (z : Ks.Ws γ) => HE9.out.fr z.h (show ¬ (_ = _) by have := HE9lt.out; omega)
    simp only [List.drop_succ_cons, List.drop_zero, List.take_succ_cons, List.take_zero]
    repeat (any_goals (first | (focus (go_big_quiet_want; (refine Ks.quiet_load_rows 31 (.tmp 11) rfl (w.heap.size + 2) rfl 31 (krow Y.2.1) (0, 0) _ HB29.out (by show ¬ (_ = _); omega) Tryd.underlying31 rfl (sz32' HY2.out) ?_); simp only [Act.put, List.setIfInBounds_toArray, List.set_cons_zero, List.set_cons_succ]; go_big_quiet_on)) | (focus (go_big_quiet_want; (refine Ks.quiet_load_rows 31 (.tmp 14) rfl d rfl 31 (krow x) (0, 0) _ HBX9.out (by show ¬ (_ = _); have := HD.out; omega) Tryd.underlying31 rfl (sz32' HX.out) ?_); simp only [Act.put, List.setIfInBounds_toArray, List.set_cons_zero, List.set_cons_succ]; go_big_quiet_on)) | go_big_quiet_step (exact Ks.Calls.keeps (nsum_any Y.2.1 x HY2.out HX.out _ (HEz _))) | quiet_step (exact Ks.Calls.keeps (nsum_any Y.2.1 x HY2.out HX.out _ (HEz _)))))
    exact wpQuiet_nil rfl
  case fin1 =>
  (try simp only [Act.put, List.setIfInBounds_toArray, List.set_cons_zero, List.set_cons_succ])
  refine Kj.Wk.seg (fun b => b = w.heap.size + 1 ∨ b = w.heap.size + 2) 4 1 (by kernel_rfl) (by kernel_rfl) (fun j b h => h.elim (fun h => .inr (.inl h.2)) (fun h => .inr (.inr h.2))) ?_
  apply Exists.intro
  refine ⟨?wk2, ?fin2⟩
  case wk2 =>
    intro γ
    simp only [List.drop_succ_cons, List.drop_zero, List.take_succ_cons, List.take_zero]
    repeat (any_goals (first | go_big_quiet_step (fail) | quiet_step (fail)))
    exact wpQuiet_nil rfl
  case fin2 =>
  (try simp only [Act.put, List.setIfInBounds_toArray, List.set_cons_zero, List.set_cons_succ])
  refine Kj.Wk.one rfl (fun u1 Xu1 => ?_)
  have BB1 := (Xu1.block _ (lt_of_block HB19.out) (fun h => h)).trans HB19.out
  refine wpList_store_rowA rfl 31 (.tmp 10) (.tmp 66) rfl (w.heap.size + 1) (krow Y.1) rfl rfl 31 _ BB1 (sz32' HY1.out) (by first | rfl | (rw [ub_size, krow_size]; exact HY1.out.symm) | (rw [krow_size, krow_size, HY1.out]; first | exact HE1.out | rfl)) (krow_one _) (fun u2 C1 G1 => ⟨rfl, G1.mono (fun b _ h => .inl ⟨rfl, h⟩), ?_⟩)
  (try simp only [List.getElem_toArray, List.getElem_cons_succ, List.getElem_cons_zero, Act.put, List.setIfInBounds_toArray, List.set_cons_zero, List.set_cons_succ])
  refine Kj.Wk.one rfl (fun u3 Xu3 => ?_)
  have Z2 : Fr (fun b => b = w.heap.size + 1) w9 u3 := ((Xu1.mono (T := fun b => b = w.heap.size + 1) (fun _ _ h => h.elim)).trans (G1.mono (fun b _ h => h)) (fun _ h => .inl h)).trans Xu3 (fun _ h => h.elim)
  have BB2 := (Z2.block _ (lt_of_block HB29.out) (fun h => by omega)).trans HB29.out
  refine wpList_store_rowA rfl 31 (.tmp 11) (.tmp 69) rfl (w.heap.size + 2) (krow (Lg.node Y.2.1 x)) rfl rfl 31 _ BB2 (sz32' (Lg.node_len _ _)) (by first | rfl | (rw [ub_size, krow_size]; exact (Lg.node_len _ _).symm) | (rw [krow_size, krow_size, (Lg.node_len _ _)]; first | exact HE2.out | rfl)) (krow_one _) (fun u4 C2 G2 => ⟨rfl, G2.mono (fun b _ h => .inr ⟨rfl, h⟩), ?_⟩)
  (try simp only [List.getElem_toArray, List.getElem_cons_succ, List.getElem_cons_zero, Act.put, List.setIfInBounds_toArray, List.set_cons_zero, List.set_cons_succ])
  refine Kj.Wk.one rfl (fun u5 Xu5 => ?_)
  go_wp2_with fail
  refine ⟨Ks.Es.of (Fr.refl _ _), ?_⟩
  (try simp only [List.getElem_toArray, List.getElem_cons_succ, List.getElem_cons_zero, Act.put, List.setIfInBounds_toArray, List.set_cons_zero, List.set_cons_succ])
  intro u6 X6
  have D1 := (X6.block _ (by have h1 := lt_of_block C1; have := Xu3.size; have := G2.size; have := Xu5.size; omega) (fun h => h)).trans ((Xu5.block _ (by have h1 := lt_of_block C1; have := Xu3.size; have := G2.size; omega) (fun h => h)).trans ((G2.block _ (by have h1 := lt_of_block C1; have := Xu3.size; omega) (fun h => by omega)).trans ((Xu3.block _ (lt_of_block C1) (fun h => h)).trans C1)))
  have D2 := (X6.block _ (by have h1 := lt_of_block C2; have := Xu5.size; omega) (fun h => h)).trans ((Xu5.block _ (lt_of_block C2) (fun h => h)).trans C2)
  have HD1 := Lib.hid D1
  have HD2 := Lib.hid D2
  have Z3 : Fr (fun b => b = w.heap.size + 1 ∨ b = w.heap.size + 2) w9 u6 := (((Z2.mono (T := fun b => b = w.heap.size + 1 ∨ b = w.heap.size + 2) (fun _ _ h => .inl h)).trans G2 (fun _ h => .inl (.inr h))).trans Xu5 (fun _ h => h.elim)).trans X6 (fun _ h => h.elim)
  have HZ := Lib.hid (HF9.out.trans Z3 (fun k h => .inr (by omega)))
  clear D1 D2 Z3 X6 Xu5 G2 C2 BB2 Z2 Xu3 G1 C1 BB1 Xu1
  go_wp2_with fail
  refine bodyPost_ret (results_cct rfl _ _ (w.heap.size + 1) (w.heap.size + 2) 31 31 (krow Y.1) (krow (Lg.node Y.2.1 x)) (0, 0) (0, 0) _ _ rfl HD1.out Tryd.underlying31 rfl (sz32' HY1.out) rfl HD2.out Tryd.underlying31 rfl (sz32' (Lg.node_len _ _))) rfl ?_
  rw [HR.out, ← HY.out]
  exact ⟨rfl, HZ.out⟩
set_option maxRecDepth 100000 in
set_option maxHeartbeats 6400000 in
theorem both_right (old : List UInt8) (ho : old.length = 32) (x : List UInt8) (r : List (List UInt8)) (ih : ∀ (a : Option Addr) (c m n : Nat) (all : Bool) (w : World), 1 ≤ m → m ≤ n → n ≤ 9223372036854775807 → r.length ≤ c → c ≤ maxLen → Kv w a r.reverse → Env w → Calls Tryd.prog 37 #[.int .i64 (m : Int), .int .i64 (n : Int), .bool all, .slice a r.length c, .agg (krow old)] w fun e w' => e = .returned (.tuple #[.agg (krow (Lg.both z32 old m n all r).1), .agg (krow (Lg.both z32 old m n all r).2.1), .bool (Lg.both z32 old m n all r).2.2]) ∧ Fr (fun _ => False) w w') (a : Option Addr) (c m n : Nat) (all : Bool) (w : World) (h1 : 1 ≤ m) (hin : m ≤ n) (hmn : m ≠ n) (n9 : n ≤ 9223372036854775807) (hc : (x :: r).length ≤ c) (hm : c ≤ maxLen) (hK : Kv w a (x :: r).reverse) (hE : Env w) (hi : ¬ m ≤ Lg.hf n) :
    Calls Tryd.prog 37 #[.int .i64 (m : Int), .int .i64 (n : Int), .bool all, .slice a (x :: r).length c, .agg (krow old)] w fun e w' => e = .returned (.tuple #[.agg (krow (Lg.both z32 old m n all (x :: r)).1), .agg (krow (Lg.both z32 old m n all (x :: r)).2.1), .bool (Lg.both z32 old m n all (x :: r)).2.2]) ∧ Fr (fun _ => False) w w' := by
  have s1 := sz32' ho
  have B0 := heap_three w (.cells (krow old) 31) (.cells (ub 32 (fun _ => 0)) 31) (.cells (ub 32 (fun _ => 0)) 31)
  have B1 := heap_three1 w (.cells (krow old) 31) (.cells (ub 32 (fun _ => 0)) 31) (.cells (ub 32 (fun _ => 0)) 31)
  have B2 := heap_three2 w (.cells (krow old) 31) (.cells (ub 32 (fun _ => 0)) 31) (.cells (ub 32 (fun _ => 0)) 31)
  have F0 := (((Fr.refl (fun _ => False) w).alloc (.cells (krow old) 31)).alloc (.cells (ub 32 (fun _ => 0)) 31)).alloc (.cells (ub 32 (fun _ => 0)) 31)
  have HB0 := Lib.hid B0
  have HB1 := Lib.hid B1
  have HB2 := Lib.hid B2
  have HF := Lib.hid F0
  have HO := Lib.hid ho
  obtain ⟨g, off, rfl⟩ := hK.at (by simp)
  have hx : x.length = 32 := hK.all x (by simp)
  have HC := Lib.hid ((hK.ext F0).cells (rev_last x r))
  have HG := Lib.hid (show ¬ ((((w.alloc (.cells (krow old) 31)).alloc (.cells (ub 32 (fun _ => 0)) 31)).alloc (.cells (ub 32 (fun _ => 0)) 31)).heap.size ≤ g) from by
    have h1 := (hK.ext F0).cells (rev_last x r) 0 (.int .u8 ((x[0]'(by omega)).toNat : Int)) (by rw [krow, List.getElem?_toArray, bv_get' x 0 (by omega)])
    have := World.block_lt_of_cell? _ _ h1
    exact Nat.not_le_of_lt this)
  have hKr := (hK.ext F0).take r.length
  rw [rev_take] at hKr
  have HK := Lib.hid hKr
  have HX := Lib.hid hx
  have hlt := Lg.hf_lt (n := n) (by omega)
  have hpos := Lg.hf_pos n
  have hr32 : Lg.All32 r := fun y hy => hK.all y (by simp [hy])
  have he : Lg.both z32 old m n all (x :: r) = (Lg.node x (Lg.both z32 old (m - Lg.hf n) (n - Lg.hf n) false r).1, Lg.node x (Lg.both z32 old (m - Lg.hf n) (n - Lg.hf n) false r).2.1, (Lg.both z32 old (m - Lg.hf n) (n - Lg.hf n) false r).2.2) := by
    rw [Lg.both, if_neg hmn, if_neg hi]
  have hsp := fun w => split_same n (by omega) n9 w
  obtain ⟨h, hh⟩ : ∃ h, h = Lg.hf n := ⟨_, rfl⟩
  rw [← hh] at hlt hpos hi he
  have hsp2 : ∀ w : World, Calls Tryd.prog 42 #[.int .i64 (n : Int)] w fun e w' => e = .returned (.int .i64 (h : Int)) ∧ w = w' := by rw [hh]; exact hsp
  have HS := Lib.hid hsp2
  have HR := Lib.hid he
  have HE0 := Lib.hid (hE.ext F0)
  have HELT := Lib.hid hE.lt
  have HI := Lib.hid ih
  have HBL := Lib.hid (Lg.both_len old ho r (m - h) (n - h) false hr32)
  have HN := Lib.hid (show 1 ≤ (m - h) ∧ (m - h) ≤ (n - h) ∧ (n - h) ≤ 9223372036854775807 ∧ r.length ≤ c ∧ c ≤ maxLen from ⟨by omega, by omega, by omega, by simp at hc; omega, hm⟩)
  have b1 : ((m : Int) == (n : Int)) = false := beq_eq_false_iff_ne.2 (by omega)
  have b2 : (m == n) = false := beq_eq_false_iff_ne.2 hmn
  have hlen : (x :: r).length = r.length + 1 := rfl
  rw [hlen] at hc ⊢
  have b0 : (((r.length + 1 : Nat) : Int) == 0) = false := beq_eq_false_iff_ne.2 (by omega)
  obtain ⟨k, hk⟩ : ∃ k, k = r.length := ⟨_, rfl⟩
  rw [← hk] at hc b0 HC HN HI ⊢
  have Hk := Lib.hid hk
  have hkb : k + 1 ≤ 9223372036854775807 := by unfold maxLen at hm; omega
  have q1 : k ≤ c := by omega
  have q2 : (k : Int) < (k : Int) + 1 := by omega
  have q3 : k < k + 1 := by omega
  have u1 := wrA k hkb
  have u2 := wrC k (by omega)
  have q6 : ¬ ((m : Int) ≤ (h : Int)) := by omega
  have q7 : ¬ (m ≤ h) := by omega
  have q8 : wrap64 ((m : Int) - (h : Int)) = ((m - h : Nat) : Int) ∧ wrap64 ((n : Int) - (h : Int)) = ((n - h : Nat) : Int) := ⟨wrS m h (by omega) (by omega), wrS n h (by omega) (by omega)⟩
  have Q8 := Lib.hid q8
  clear hx hlt hpos hr32 he hsp hsp2 hh F0 hK hKr hE ho ih hc hm hlen hk hkb h1 hin hmn n9 hi B0 B1 B2 q8
  go_enter Tryd.func37, Tryd.ntmps37
  go_wp2_with fail
  rw [zero32]
  generalize (((w.alloc (.cells (krow old) 31)).alloc (.cells (ub 32 (fun _ => 0)) 31)).alloc (.cells (ub 32 (fun _ => 0)) 31)) = w1 at *
  refine Ks.wp_region_mono (fun b => w1.heap.size ≤ b) (sg 0 11 ++ ((11, true) :: (sg 12 1 ++ ((13, true) :: ([]))))) (by kernel_rfl) (by kernel_rfl) ?_
  refine Ks.Wk.seg 0 11 (by kernel_rfl) (by kernel_rfl) ?_
  apply Exists.intro
  refine ⟨?wk0, ?fin0⟩
  case wk0 =>
    intro γ
    have HC3 : ∀ z : Ks.Ws γ, ∀ (j : Nat) (u : Value), (krow x)[j]? = some u → z.w.cell? ⟨g, off + k * 32 + j, none⟩ = some u := fun z j u hu => z.h.cellSome HG.out (HC.out j u hu)
    simp only [List.drop_succ_cons, List.drop_zero, List.take_succ_cons, List.take_zero]
    repeat (any_goals (first | (focus (go_big_quiet_want; (refine quiet_load_cellsS 31 (.tmp 41) rfl g (off + k * 32) rfl (krow x) 32 _ Tryd.underlying31 rfl sz32 HC3 (by rw [krow_size]; exact HX.out) ?_); simp only [Act.put, List.setIfInBounds_toArray, List.set_cons_zero, List.set_cons_succ]; go_big_quiet_on)) | go_big_quiet_step (fail) | quiet_step (fail)))
    exact wpQuiet_nil rfl
  case fin0 =>
  (try simp only [Act.put, List.setIfInBounds_toArray, List.set_cons_zero, List.set_cons_succ])
  refine Ks.Wk.one rfl (fun w2 Xw2 => ?_)
  go_wp2_with fail
  rw [zero32]
  refine ⟨Ks.Es.of ((Fr.refl _ w2).alloc _), ?_⟩
  (try simp only [List.getElem_toArray, List.getElem_cons_succ, List.getElem_cons_zero, Act.put, List.setIfInBounds_toArray, List.set_cons_zero, List.set_cons_succ])
  have B2 := heap_alloc_new w2 (.cells (ub 32 (fun _ => 0)) 31)
  have X2 : Fr (fun _ => False) w1 (w2.alloc (.cells (ub 32 (fun _ => 0)) 31)) := Xw2.alloc _
  refine Ks.Wk.seg 12 1 (by kernel_rfl) (by kernel_rfl) ?_
  apply Exists.intro
  refine ⟨?wk2, ?fin2⟩
  case wk2 =>
    intro γ
    simp only [List.drop_succ_cons, List.drop_zero, List.take_succ_cons, List.take_zero]
    repeat (any_goals (first | go_big_quiet_step (fail) | quiet_step (fail)))
    exact wpQuiet_nil rfl
  case fin2 =>
  (try simp only [Act.put, List.setIfInBounds_toArray, List.set_cons_zero, List.set_cons_succ])
  refine Ks.Wk.one rfl (fun w3 Xw3 => ?_)
  have B3 := (Xw3.block _ (lt_of_block B2) (fun h => h)).trans B2
  refine wpList_store_rowA rfl 31 (.tmp 14) (.tmp 42) rfl w2.heap.size (krow x) rfl rfl 31 _ B3 (sz32' HX.out) (by rw [ub_size, krow_size]; exact HX.out.symm) (krow_one _) (fun w4 B4 F4 => ⟨rfl, F4.mono (fun k _ h => by have := Xw2.size; rw [h]; exact this), ?_⟩)
  (try simp only [List.getElem_toArray, List.getElem_cons_succ, List.getElem_cons_zero, Act.put, List.setIfInBounds_toArray, List.set_cons_zero, List.set_cons_succ])
  intro w5 X5
  have X35 : Fr (fun b => w1.heap.size ≤ b) w1 w5 := (((X2.trans Xw3 (fun _ h => h.elim)).mono (T := fun b => w1.heap.size ≤ b) (fun _ _ h => h.elim)).trans F4 (fun k h => .inl (by rw [h]; exact Xw2.size))).trans X5 (fun _ h => h.elim)
  have Y15 : Fr (fun _ => False) w1 w5 := (Fr.refl (fun _ => False) w1).trans X35 (fun _ h => .inr h)
  have HD := Lib.hid (show w.heap.size + 3 ≤ w2.heap.size from Nat.le_trans (by have := lt_of_block HB2.out; omega) Xw2.size)
  have HB05 := Lib.hid ((Y15.block _ (lt_of_block HB0.out) (fun h => h)).trans HB0.out)
  have HB15 := Lib.hid ((Y15.block _ (lt_of_block HB1.out) (fun h => h)).trans HB1.out)
  have HB25 := Lib.hid ((Y15.block _ (lt_of_block HB2.out) (fun h => h)).trans HB2.out)
  have HBX := Lib.hid ((X5.block _ (lt_of_block B4) (fun h => h)).trans B4)
  have HF5 := Lib.hid (HF.out.trans Y15 (fun _ h => h.elim))
  have HK5 := Lib.hid (HK.out.ext Y15)
  have HY15 := Lib.hid Y15
  obtain ⟨d, hd⟩ : ∃ d, d = w2.heap.size := ⟨_, rfl⟩
  rw [← hd] at HD HBX ⊢
  clear X35 Y15 hd X5 B4 F4 B3 Xw3 X2 B2 Xw2
  clear w4 w3 w2
  have HE5 := Lib.hid (HE0.out.ext HY15.out)
  go_wp2_with fail
  refine (HS.out w5).mono ?_
  rintro e w6 ⟨rfl, rfl⟩
  go_wp2_with (refine wpList_load_row rfl 31 (.tmp 9) rfl w.heap.size rfl 31 (krow old) (0, 0) _ HB05.out Tryd.underlying31 rfl (sz32' HO.out) ?_)
  rw [Q8.out.1, Q8.out.2]
  refine (HI.out _ c (m - h) (n - h) false w5 HN.out.1 HN.out.2.1 HN.out.2.2.1 HN.out.2.2.2.1 HN.out.2.2.2.2 HK5.out HE5.out).mono ?_
  rintro e w6 ⟨rfl, F6⟩
  obtain ⟨Y, hY⟩ : ∃ Y, Y = Lg.both z32 old (m - h) (n - h) false r := ⟨_, rfl⟩
  have HY1 := Lib.hid (show Y.1.length = 32 by rw [hY]; exact HBL.out.1)
  have HY2 := Lib.hid (show Y.2.1.length = 32 by rw [hY]; exact HBL.out.2)
  have HE1 := HY1
  have HE2 := HY2
  rw [← hY]
  have HY := Lib.hid hY
  have HB16 := Lib.hid ((F6.block _ (lt_of_block HB15.out) (fun h => h)).trans HB15.out)
  have HB26 := Lib.hid ((F6.block _ (lt_of_block HB25.out) (fun h => h)).trans HB25.out)
  have HBX6 := Lib.hid ((F6.block _ (lt_of_block HBX.out) (fun h => h)).trans HBX.out)
  have HE6 := Lib.hid (HE5.out.ext F6)
  have HF6 := Lib.hid (HF5.out.trans F6 (fun _ h => h.elim))
  clear F6 hY
  go_wp2_with (refine wpList_store_rowA rfl 31 (.tmp 10) (.tmp 81) rfl (w.heap.size + 1) (krow Y.1) rfl rfl 31 _ HB16.out (sz32' HY1.out) (by rw [ub_size, krow_size, HY1.out]) (krow_one _) ?_; intro w7 B7 F7; refine Hid.out ?_)
  refine Lib.hid ?_
  have HB7 := Lib.hid B7
  have HF7 := Lib.hid F7
  have HB27 := Lib.hid ((F7.block _ (lt_of_block HB26.out) (fun h => by omega)).trans HB26.out)
  clear B7 F7
  (try simp only [Act.put, List.setIfInBounds_toArray, List.set_cons_zero, List.set_cons_succ])
  go_wp2_with (refine wpList_store_rowA rfl 31 (.tmp 11) (.tmp 82) rfl (w.heap.size + 2) (krow Y.2.1) rfl rfl 31 _ HB27.out (sz32' HY2.out) (by rw [ub_size, krow_size, HY2.out]) (krow_one _) ?_; intro w9 B9 F9; refine Hid.out ?_)
  refine Lib.hid ?_
  have HB29 := Lib.hid B9
  have HB19 := Lib.hid ((F9.block _ (lt_of_block HB7.out) (fun h => by omega)).trans HB7.out)
  have Z69 : Fr (fun b => b = w.heap.size + 1 ∨ b = w.heap.size + 2) w6 w9 := (HF7.out.mono (T := fun b => b = w.heap.size + 1 ∨ b = w.heap.size + 2) (fun _ _ h => .inl h)).trans F9 (fun _ h => .inl (.inr h))
  have HBX9 := Lib.hid ((Z69.block _ (lt_of_block HBX6.out) (by show ¬ (_ ∨ _); have := HD.out; omega)).trans HBX6.out)
  have HE9 := Lib.hid (HE6.out.fr Z69 (by show ¬ (_ ∨ _); have := HELT.out; omega))
  have HE9lt := HELT
  have HF9 := Lib.hid (HF6.out.trans Z69 (fun k h => .inr (by omega)))
  clear B9 F9 Z69
  (try simp only [Act.put, List.setIfInBounds_toArray, List.set_cons_zero, List.set_cons_succ])
  go_wp2_with fail
  refine Kj.wp_region_mono (fun j b => (j = 7 ∧ b = w.heap.size + 1) ∨ (j = 8 ∧ b = w.heap.size + 2)) (sg 0 3 ++ (sg 3 3 ++ (sg 6 1 ++ ((7, true) :: ((8, true) :: ((9, true) :: ([]))))))) (by kernel_rfl) (by kernel_rfl) ?_
  refine Kj.Wk.seg (fun b => b = w.heap.size + 2) 0 3 (by kernel_rfl) (by kernel_rfl) (fun j b h => h.elim (fun h => .inl (by rw [h.1]; kernel_rfl)) (fun h => .inr h.2)) ?_
  apply Exists.intro
  refine ⟨?wk0, ?fin0⟩
  case wk0 =>
    intro γ
    have HEz := fun (z : Ks.Ws γ) => HE9.out.fr z.h (show ¬ (_ = _) by have := HE9lt.out; omega)
    simp only [List.drop_succ_cons, List.drop_zero, List.take_succ_cons, List.take_zero]
    repeat (any_goals (first | (focus (go_big_quiet_want; (refine Ks.quiet_load_rows 31 (.tmp 14) rfl d rfl 31 (krow x) (0, 0) _ HBX9.out (by show ¬ (_ = _); have := HD.out; omega) Tryd.underlying31 rfl (sz32' HX.out) ?_); simp only [Act.put, List.setIfInBounds_toArray, List.set_cons_zero, List.set_cons_succ]; go_big_quiet_on)) | (focus (go_big_quiet_want; (refine Ks.quiet_load_rows 31 (.tmp 10) rfl (w.heap.size + 1) rfl 31 (krow Y.1) (0, 0) _ HB19.out (by show ¬ (_ = _); omega) Tryd.underlying31 rfl (sz32' HY1.out) ?_); simp only [Act.put, List.setIfInBounds_toArray, List.set_cons_zero, List.set_cons_succ]; go_big_quiet_on)) | go_big_quiet_step (exact Ks.Calls.keeps (nsum_any x Y.1 HX.out HY1.out _ (HEz _))) | quiet_step (exact Ks.Calls.keeps (nsum_any x Y.1 HX.out HY1.out _ (HEz _)))))
    exact wpQuiet_nil rfl
  case fin0 =>
  (try simp only [Act.put, List.setIfInBounds_toArray, List.set_cons_zero, List.set_cons_succ])
  refine Kj.Wk.seg (fun b => b = w.heap.size + 1) 3 3 (by kernel_rfl) (by kernel_rfl) (fun j b h => h.elim (fun h => .inr h.2) (fun h => .inl (by rw [h.1]; kernel_rfl))) ?_
  apply Exists.intro
  refine ⟨?wk1, ?fin1⟩
  case wk1 =>
    intro γ
    have HEz := fun (z : Ks.Ws γ) => HE9.out.fr z.h (show ¬ (_ = _) by have := HE9lt.out; omega)
    simp only [List.drop_succ_cons, List.drop_zero, List.take_succ_cons, List.take_zero]
    repeat (any_goals (first | (focus (go_big_quiet_want; (refine Ks.quiet_load_rows 31 (.tmp 14) rfl d rfl 31 (krow x) (0, 0) _ HBX9.out (by show ¬ (_ = _); have := HD.out; omega) Tryd.underlying31 rfl (sz32' HX.out) ?_); simp only [Act.put, List.setIfInBounds_toArray, List.set_cons_zero, List.set_cons_succ]; go_big_quiet_on)) | (focus (go_big_quiet_want; (refine Ks.quiet_load_rows 31 (.tmp 11) rfl (w.heap.size + 2) rfl 31 (krow Y.2.1) (0, 0) _ HB29.out (by show ¬ (_ = _); omega) Tryd.underlying31 rfl (sz32' HY2.out) ?_); simp only [Act.put, List.setIfInBounds_toArray, List.set_cons_zero, List.set_cons_succ]; go_big_quiet_on)) | go_big_quiet_step (exact Ks.Calls.keeps (nsum_any x Y.2.1 HX.out HY2.out _ (HEz _))) | quiet_step (exact Ks.Calls.keeps (nsum_any x Y.2.1 HX.out HY2.out _ (HEz _)))))
    exact wpQuiet_nil rfl
  case fin1 =>
  (try simp only [Act.put, List.setIfInBounds_toArray, List.set_cons_zero, List.set_cons_succ])
  refine Kj.Wk.seg (fun b => b = w.heap.size + 1 ∨ b = w.heap.size + 2) 6 1 (by kernel_rfl) (by kernel_rfl) (fun j b h => h.elim (fun h => .inr (.inl h.2)) (fun h => .inr (.inr h.2))) ?_
  apply Exists.intro
  refine ⟨?wk2, ?fin2⟩
  case wk2 =>
    intro γ
    simp only [List.drop_succ_cons, List.drop_zero, List.take_succ_cons, List.take_zero]
    repeat (any_goals (first | go_big_quiet_step (fail) | quiet_step (fail)))
    exact wpQuiet_nil rfl
  case fin2 =>
  (try simp only [Act.put, List.setIfInBounds_toArray, List.set_cons_zero, List.set_cons_succ])
  refine Kj.Wk.one rfl (fun u1 Xu1 => ?_)
  have BB1 := (Xu1.block _ (lt_of_block HB19.out) (fun h => h)).trans HB19.out
  refine wpList_store_rowA rfl 31 (.tmp 10) (.tmp 86) rfl (w.heap.size + 1) (krow (Lg.node x Y.1)) rfl rfl 31 _ BB1 (sz32' (Lg.node_len x Y.1)) (by first | rfl | (rw [ub_size, krow_size]; exact (Lg.node_len x Y.1).symm) | (rw [krow_size, krow_size, (Lg.node_len x Y.1)]; first | exact HE1.out | rfl)) (krow_one _) (fun u2 C1 G1 => ⟨rfl, G1.mono (fun b _ h => .inl ⟨rfl, h⟩), ?_⟩)
  (try simp only [List.getElem_toArray, List.getElem_cons_succ, List.getElem_cons_zero, Act.put, List.setIfInBounds_toArray, List.set_cons_zero, List.set_cons_succ])
  refine Kj.Wk.one rfl (fun u3 Xu3 => ?_)
  have Z2 : Fr (fun b => b = w.heap.size + 1) w9 u3 := ((Xu1.mono (T := fun b => b = w.heap.size + 1) (fun _ _ h => h.elim)).trans (G1.mono (fun b _ h => h)) (fun _ h => .inl h)).trans Xu3 (fun _ h => h.elim)
  have BB2 := (Z2.block _ (lt_of_block HB29.out) (fun h => by omega)).trans HB29.out
  refine wpList_store_rowA rfl 31 (.tmp 11) (.tmp 89) rfl (w.heap.size + 2) (krow (Lg.node x Y.2.1)) rfl rfl 31 _ BB2 (sz32' (Lg.node_len _ _)) (by first | rfl | (rw [ub_size, krow_size]; exact (Lg.node_len _ _).symm) | (rw [krow_size, krow_size, (Lg.node_len _ _)]; first | exact HE2.out | rfl)) (krow_one _) (fun u4 C2 G2 => ⟨rfl, G2.mono (fun b _ h => .inr ⟨rfl, h⟩), ?_⟩)
  (try simp only [List.getElem_toArray, List.getElem_cons_succ, List.getElem_cons_zero, Act.put, List.setIfInBounds_toArray, List.set_cons_zero, List.set_cons_succ])
  refine Kj.Wk.one rfl (fun u5 Xu5 => ?_)
  go_wp2_with fail
  refine ⟨Ks.Es.of (Fr.refl _ _), ?_⟩
  (try simp only [List.getElem_toArray, List.getElem_cons_succ, List.getElem_cons_zero, Act.put, List.setIfInBounds_toArray, List.set_cons_zero, List.set_cons_succ])
  intro u6 X6
  have D1 := (X6.block _ (by have h1 := lt_of_block C1; have := Xu3.size; have := G2.size; have := Xu5.size; omega) (fun h => h)).trans ((Xu5.block _ (by have h1 := lt_of_block C1; have := Xu3.size; have := G2.size; omega) (fun h => h)).trans ((G2.block _ (by have h1 := lt_of_block C1; have := Xu3.size; omega) (fun h => by omega)).trans ((Xu3.block _ (lt_of_block C1) (fun h => h)).trans C1)))
  have D2 := (X6.block _ (by have h1 := lt_of_block C2; have := Xu5.size; omega) (fun h => h)).trans ((Xu5.block _ (lt_of_block C2) (fun h => h)).trans C2)
  have HD1 := Lib.hid D1
  have HD2 := Lib.hid D2
  have Z3 : Fr (fun b => b = w.heap.size + 1 ∨ b = w.heap.size + 2) w9 u6 := (((Z2.mono (T := fun b => b = w.heap.size + 1 ∨ b = w.heap.size + 2) (fun _ _ h => .inl h)).trans G2 (fun _ h => .inl (.inr h))).trans Xu5 (fun _ h => h.elim)).trans X6 (fun _ h => h.elim)
  have HZ := Lib.hid (HF9.out.trans Z3 (fun k h => .inr (by omega)))
  clear D1 D2 Z3 X6 Xu5 G2 C2 BB2 Z2 Xu3 G1 C1 BB1 Xu1
  go_wp2_with fail
  refine bodyPost_ret (results_cct rfl _ _ (w.heap.size + 1) (w.heap.size + 2) 31 31 (krow (Lg.node x Y.1)) (krow (Lg.node x Y.2.1)) (0, 0) (0, 0) _ _ rfl HD1.out Tryd.underlying31 rfl (sz32' (Lg.node_len x Y.1)) rfl HD2.out Tryd.underlying31 rfl (sz32' (Lg.node_len _ _))) rfl ?_
  rw [HR.out, ← HY.out]
  exact ⟨rfl, HZ.out⟩
set_option maxRecDepth 100000 in
set_option maxHeartbeats 6400000 in
theorem both_any (old : List UInt8) (ho : old.length = 32) : ∀ (r : List (List UInt8)), ∀ (a : Option Addr) (c m n : Nat) (all : Bool) (w : World), 1 ≤ m → m ≤ n → n ≤ 9223372036854775807 → r.length ≤ c → c ≤ maxLen → Kv w a r.reverse → Env w → Calls Tryd.prog 37 #[.int .i64 (m : Int), .int .i64 (n : Int), .bool all, .slice a r.length c, .agg (krow old)] w fun e w' => e = .returned (.tuple #[.agg (krow (Lg.both z32 old m n all r).1), .agg (krow (Lg.both z32 old m n all r).2.1), .bool (Lg.both z32 old m n all r).2.2]) ∧ Fr (fun _ => False) w w'
  | [], a, c, m, n, all, w, h1, hin, h9, hc, hm, hK, hE => by
    by_cases hmn : m = n
    · subst hmn
      cases all
      · refine (both_nil_eq old ho a c m w).mono ?_
        rintro e w' ⟨rfl, F⟩
        refine ⟨?_, F⟩
        rw [Lg.both, if_neg (by simp)]
      · refine (both_all old ho a c m 0 w).mono ?_
        rintro e w' ⟨rfl, F⟩
        refine ⟨?_, F⟩
        rw [Lg.both, if_pos ⟨rfl, rfl⟩]; rfl
    · refine (both_nil_ne old ho a c m n all hmn w).mono ?_
      rintro e w' ⟨rfl, F⟩
      refine ⟨?_, F⟩
      rw [Lg.both, if_neg (fun h => hmn h.1)]
  | x :: r, a, c, m, n, all, w, h1, hin, h9, hc, hm, hK, hE => by
    by_cases hmn : m = n
    · subst hmn
      cases all
      · refine (both_own old ho x r a c m w hc hm hK).mono ?_
        rintro e w' ⟨rfl, F⟩
        refine ⟨?_, F⟩
        rw [Lg.both, if_pos rfl]; rfl
      · refine (both_all old ho a c m (x :: r).length w).mono ?_
        rintro e w' ⟨rfl, F⟩
        refine ⟨?_, F⟩
        rw [Lg.both, if_pos rfl]; rfl
    · by_cases hh : m ≤ Lg.hf n
      · exact both_left old ho x r (both_any old ho r) a c m n all w h1 hin hmn h9 hc hm hK hE hh
      · exact both_right old ho x r (both_any old ho r) a c m n all w h1 hin hmn h9 hc hm hK hE hh
end Go.Proofs.YtjndkjgbplpfeaaDoor

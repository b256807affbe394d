/-
  Links on each other: plain; what comes next, few rows, by rows.
  Few rows; a past's links.
  A past's links: the loop.
  A past's links, whole.
-/
import Derived.Test.YtikdgjgcopjocaaDoorQHb
import Derived.Test.YtikdgjgcopjocaaDoorQHd
namespace Go.Proofs.YtikdgjgcopjocaaDoor
open Go.RowKit
set_option linter.unusedVariables false
set_option linter.unusedSimpArgs false
/-- An epoch's number, so many behind another one's. -/
def Ck.ep (z : Int) (k : Nat) : Nat := ((z + k) % 18446744073709551616).toNat
def Ck.nx (id : List UInt8) (z : Int) (k : Nat) (r a : List UInt8) : List UInt8 := S2.sum (CH.text id (Ck.ep z k) r a)
def Ck.hd (id : List UInt8) (z : Int) (R : List (List UInt8)) (a : List UInt8) : Nat → List UInt8
  | 0 => a
  | k + 1 => Ck.nx id z k (R.getD k []) (Ck.hd id z R a k)
def Ck.links (id : List UInt8) (z : Int) (R : List (List UInt8)) (a : List UInt8) (n : Nat) : List (List UInt8) := (List.range n).map fun k => Ck.hd id z R a (k + 1)
def Ck.prev (L : List (List UInt8)) (a : List UInt8) : Nat → List UInt8
  | 0 => a
  | k + 1 => L.getD k []
def Ck.good (id : List UInt8) (z : Int) (R L : List (List UInt8)) (a : List UInt8) (k : Nat) : Bool := L.getD k [] == Ck.nx id z k (R.getD k []) (Ck.prev L a k)
def Ck.chk (id : List UInt8) (z : Int) (R L : List (List UInt8)) (a : List UInt8) : Int := if R.length = L.length then (if (List.range L.length).all (Ck.good id z R L a) then 0 else 17) else 1
set_option maxRecDepth 100000 in
theorem Ck.nx_len (id : List UInt8) (z : Int) (k : Nat) (r a : List UInt8) : (Ck.nx id z k r a).length = 32 := by unfold Ck.nx; exact sum_length _
set_option maxRecDepth 100000 in
theorem Ck.hd_len {id : List UInt8} {z : Int} {R : List (List UInt8)} {a : List UInt8} (ha : a.length = 32) : ∀ k, (Ck.hd id z R a k).length = 32
  | 0 => ha
  | k + 1 => Ck.nx_len _ _ _ _ _
set_option maxRecDepth 100000 in
theorem Ck.links_len (id : List UInt8) (z : Int) (R : List (List UInt8)) (a : List UInt8) (n : Nat) : (Ck.links id z R a n).length = n := by simp [Ck.links]
set_option maxRecDepth 100000 in
theorem Ck.links_all {id : List UInt8} {z : Int} {R : List (List UInt8)} {a : List UInt8} (n : Nat) : Lg.All32 (Ck.links id z R a n) := fun x hx => by
  obtain ⟨k, _, rfl⟩ := List.mem_map.1 hx
  exact Ck.nx_len _ _ _ _ _
set_option maxRecDepth 100000 in
theorem Ck.links_get {id : List UInt8} {z : Int} {R : List (List UInt8)} {a : List UInt8} {n k : Nat} (hk : k < n) : (Ck.links id z R a n).getD k [] = Ck.hd id z R a (k + 1) := by
  rw [List.getD_eq_getElem?_getD, List.getElem?_eq_getElem (by rw [Ck.links_len]; exact hk)]
  simp [Ck.links]
set_option maxRecDepth 100000 in
theorem Ck.links_snoc (id : List UInt8) (z : Int) (R : List (List UInt8)) (a : List UInt8) (n : Nat) : Ck.links id z R a (n + 1) = Ck.links id z R a n ++ [Ck.hd id z R a (n + 1)] := by
  unfold Ck.links; rw [List.range_succ, List.map_append]; rfl
set_option maxRecDepth 100000 in
theorem Ck.links_good {id : List UInt8} {z : Int} {R : List (List UInt8)} {a : List UInt8} {n k : Nat} (hk : k < n) : Ck.good id z R (Ck.links id z R a n) a k = true := by
  unfold Ck.good
  rw [Ck.links_get hk]
  have e : Ck.prev (Ck.links id z R a n) a k = Ck.hd id z R a k := by
    cases k with
    | zero => rfl
    | succ k => show (Ck.links id z R a n).getD k [] = _; rw [Ck.links_get (by omega)]
  rw [e]
  exact beq_self_eq_true _
set_option maxRecDepth 100000 in
theorem Ck.chk_links {id : List UInt8} {z : Int} {R : List (List UInt8)} {a : List UInt8} {n : Nat} (hR : R.length = n) : Ck.chk id z R (Ck.links id z R a n) a = 0 := by
  unfold Ck.chk
  rw [Ck.links_len, if_pos hR, if_pos]
  rw [List.all_eq_true]
  intro k hk
  exact Ck.links_good (by simpa using hk)
set_option maxRecDepth 100000 in
theorem Ck.chk_one {id : List UInt8} {z : Int} {R L : List (List UInt8)} {a : List UInt8} (h : R.length ≠ L.length) : Ck.chk id z R L a = 1 := if_neg h
set_option maxRecDepth 100000 in
theorem Ck.chk_bad {id : List UInt8} {z : Int} {R L : List (List UInt8)} {a : List UInt8} {k : Nat} (h : R.length = L.length) (hk : k < L.length) (hb : Ck.good id z R L a k = false) : Ck.chk id z R L a = 17 := by
  unfold Ck.chk
  rw [if_pos h, if_neg]
  intro h2
  have := List.all_eq_true.1 h2 k (by simpa using hk)
  rw [hb] at this
  cases this
set_option maxRecDepth 100000 in
theorem Ck.chk_ok {id : List UInt8} {z : Int} {R L : List (List UInt8)} {a : List UInt8} (h : R.length = L.length) (hg : ∀ k, k < L.length → Ck.good id z R L a k = true) : Ck.chk id z R L a = 0 := by
  unfold Ck.chk
  rw [if_pos h, if_pos]
  rw [List.all_eq_true]
  intro k hk
  exact hg k (by simpa using hk)
set_option maxRecDepth 100000 in
theorem Ck.ep_wrap (z : Int) (k : Nat) : IntKind.u64.wrap (IntKind.i64.wrap (z + k)) = (Ck.ep z k : Int) := by
  unfold Ck.ep
  rw [Int.toNat_of_nonneg (Int.emod_nonneg _ (by decide))]
  rw [IntKind.wrap_i64]
  show (((z + k) + 9223372036854775808) % 18446744073709551616 - 9223372036854775808) % 18446744073709551616 = _
  omega
set_option maxRecDepth 100000 in
theorem Ck.ep_wrap2 (z : Int) (k : Nat) : IntKind.u64.wrap (IntKind.i64.wrap (IntKind.u64.wrap (IntKind.u64.wrap z + IntKind.u64.wrap (k : Int)))) = (Ck.ep z k : Int) := by
  unfold Ck.ep
  rw [Int.toNat_of_nonneg (Int.emod_nonneg _ (by decide))]
  rw [IntKind.wrap_i64]
  show ((((z % 18446744073709551616 + (k : Int) % 18446744073709551616) % 18446744073709551616) + 9223372036854775808) % 18446744073709551616 - 9223372036854775808) % 18446744073709551616 = _
  omega
set_option maxRecDepth 100000 in
theorem Ck.w64 (n : Int) : wrap64 n = IntKind.i64.wrap n := by rw [IntKind.wrap_i64]; unfold wrap64; rfl
set_option maxRecDepth 100000 in
theorem row_ub {x : List UInt8} (h : x.length = 32) : krow x = ub 32 (fun j => x.getD j 0) := by
  apply Array.ext_getElem?
  intro j
  by_cases hj : j < 32
  · rw [ub_get 32 _ j hj, krow, List.getElem?_toArray, bv_get' x j (by omega), List.getD_eq_getElem?_getD, List.getElem?_eq_getElem (by omega)]; rfl
  · rw [Array.getElem?_eq_none (by rw [krow_size]; omega), Array.getElem?_eq_none (by rw [ub_size]; omega)]
set_option maxRecDepth 100000 in
theorem row_list {x : List UInt8} (h : x.length = 32) : (List.range 32).map (fun j => x.getD j 0) = x := by
  apply List.ext_getElem?
  intro j
  by_cases hj : j < 32
  · rw [List.getElem?_map, List.getElem?_range hj, List.getElem?_eq_getElem (by omega)]
    simp [List.getD_eq_getElem?_getD, show j < x.length by omega]
  · rw [List.getElem?_eq_none (by simp; omega), List.getElem?_eq_none (by omega)]
set_option maxRecDepth 100000 in
theorem next_row (a : Option Addr) (n c : Nat) (id : List UInt8) (zz z : Int) (k : Nat) (hu : IntKind.u64.wrap zz = (Ck.ep z k : Int)) (r ah : List UInt8) (hr : r.length = 32) (ha : ah.length = 32) (w : World) (hv : Came w a n c id) (hn : n ≤ 60000) (hE : Env w) :
    Calls Tryd.prog 7 #[.slice a n c, .int .i64 zz, .agg (krow r), .agg (krow ah)] w fun e w' => e = .returned (.agg (krow (Ck.nx id z k r ah))) ∧ Fr (fun _ => False) w w' := by
  have h := next_any a n c id zz (Ck.ep z k) hu (fun j => r.getD j 0) (fun j => ah.getD j 0) w hv hn hE
  rw [← row_ub hr, ← row_ub ha, row_list hr, row_list ha, krow_sum] at h
  exact h
set_option maxRecDepth 100000 in
theorem src_kv {w : World} {a : Option Addr} {P : List (List UInt8)} (h : Kv w a P) (c : Nat) : Src Tryd.prog 32 32 (.slice a P.length c) P.length (bv P.flatten) w := by
  have hfl := h.all.flat
  rcases h.lies with h0 | ⟨g, off, rfl, hc⟩
  · rw [h0] at hfl ⊢
    have h1 : P.length = 0 := by simp at hfl; omega
    rw [h1]
    cases a with
    | none => exact Src.ofNil _ Tryd.underlying32 c
    | some ad => exact Src.ofSlice _ Tryd.underlying32 ad 0 c [] rfl (by simp) (by simp)
  · exact Src.ofSlice _ Tryd.underlying32 ⟨g, off, none⟩ _ c _ (by rw [bv_length, hfl]) (fun j u hj => by
      rw [bv_get] at hj
      obtain ⟨b, h1, h2⟩ := Option.map_eq_some_iff.1 hj
      obtain ⟨hl, h3⟩ := List.getElem?_eq_some_iff.1 h1
      have h4 := hc j hl
      rw [Addr.add_mid, h4, ← h2, h3]) (bv_one _)
set_option maxRecDepth 100000 in
theorem own0_rows (w : World) : (w.alloc (.cells #[] 23)).ownsRow w.heap.size 23 32 (.slice (some ⟨w.heap.size, 0, none⟩) 0 0) 0 [] :=
  ⟨rfl, .inr ⟨w.heap.size, 0, #[], rfl, Nat.le_refl _, heap_alloc_new w _, Nat.le_refl _, Nat.zero_le _, rfl, rfl⟩⟩
set_option maxRecDepth 100000 in
theorem or32_kv {w : World} {Z n c : Nat} {a : Option Addr} {P : List (List UInt8)} (h : Or32 w Z (.slice a n c) P) (hA : Lg.All32 P) : P.length = n ∧ n ≤ c ∧ c ≤ maxLen ∧ Kv w a P := by
  obtain ⟨a', c', e, h1, h2, h3, _⟩ := h.view hA
  injection e with e1 e2 e3
  rw [e1, e2, e3]
  exact ⟨rfl, h1, h2, h3⟩
set_option maxRecDepth 100000 in
theorem or32_form {w : World} {Z : Nat} {v : Value} {P : List (List UInt8)} (h : Or32 w Z v P) (h0 : 0 < P.length) : ∃ g c, v = .slice (some ⟨g, 0, none⟩) P.length c := by
  rcases h.2 with ⟨_, h1⟩ | ⟨g, cap, cur, e, _⟩
  · omega
  · exact ⟨g, cap, e⟩
end Go.Proofs.YtikdgjgcopjocaaDoor
namespace Go.Proofs.YtikdgjgcopjocaaDoor
open Go.RowKit
set_option linter.unusedVariables false
set_option linter.unusedSimpArgs false
set_option maxRecDepth 100000 in
set_option maxHeartbeats 6400000 in
theorem few32_any (a : Option Addr) (n c : Nat) (P : List (List UInt8)) (hPn : P.length = n) (hnc : n ≤ c) (hcm : c ≤ maxLen) (w : World) (hK : Kv w a P) : Calls Tryd.prog 13 #[.slice a n c] w fun e w' => (∃ v, e = .returned v ∧ Or32 w' w.heap.size v (P.take 12)) ∧ Fr (fun _ => False) w w' := by
  obtain ⟨m, hm⟩ : ∃ m, m = min n 12 := ⟨_, rfl⟩
  have q2 : min (n : Int) 12 = (m : Int) := by omega
  have q5 : m ≤ c := by omega
  have q6 : (m : Int) ≤ (c : Int) := by omega
  have q8 : (0 : Int) ≤ (m : Int) := by omega
  have HM := Lib.hid (show m ≤ 12 by omega)
  have HPK := Lib.hid (hK.take 12)
  have HPL := Lib.hid (show (P.take 12).length = m by rw [List.length_take, hPn]; omega)
  generalize hp : P.take 12 = PP at *
  have hown : (w.alloc (.cells #[] 23)).ownsRow w.heap.size 23 32 (.slice (some ⟨w.heap.size, 0, none⟩) 0 0) 0 [] := own0_rows w
  have hsrc : ∀ o, Src Tryd.prog 32 32 (.slice a m c) m (bv PP.flatten) (w.alloc o) := fun o => by
    have := src_kv (HPK.out.ext ((Fr.refl (fun _ => False) w).alloc o)) c
    rwa [HPL.out] at this
  obtain ⟨ti, zz, HI⟩ := rI
  clear hp hPn hnc hcm hK hm
  go_enter Tryd.func13, Tryd.ntmps13
  go_wp2_with (at_builtin; refine wpList_app _ rfl (.tmp 3) (.tmp 8) 32 32 rfl w.heap.size 23 ti zz 32 32 Tryd.underlying32 HI.h1 HI.h2 HI.h3 HI.h4 HI.h5 (by decide) (.slice (some ⟨w.heap.size, 0, none⟩) 0 0) 0 [] rfl hown (.slice a m c) rfl m (bv PP.flatten) (hsrc _) (by have := HM.out; unfold maxLen; omega) (by have := HM.out; omega) (by simp) ?_; intro v5 w2 O5 G5 G5x; simp only [Act.put, List.setIfInBounds_toArray, List.set_cons_zero, List.set_cons_succ]; refine Hid.out ?_)
  have F2 : Fr (fun _ => False) w w2 := ((Fr.refl (fun _ => False) w).alloc (.cells #[] 23)).trans (Fr.ofGrown G5) (fun i hi => .inr (by simp [Value.ownBlock] at hi; omega))
  rw [List.nil_append, Nat.zero_add] at O5
  have hO5 : Or32 w2 w.heap.size v5 PP := by unfold Or32; rw [HPL.out]; exact O5
  have HO := Lib.hid (And.intro hO5 F2)
  clear O5 G5 G5x F2 hO5 hown hsrc
  refine Lib.hid ?_
  go_wp2_with fail
  go_ret
  exact ⟨⟨_, rfl, HO.out.1⟩, HO.out.2⟩
/-- A past's 34 cells. -/
def pastRow (z : Int) (ah : List UInt8) (s : Value) : Array Value := (.int .i64 z :: (bv ah ++ [s])).toArray
set_option maxRecDepth 100000 in
theorem past_facts (z : Int) (s : Value) (ah : List UInt8) (ho : ah.length = 32) : ∃ C, C = pastRow z ah s ∧ C.size = 34 ∧ C[0]? = some (.int .i64 z) ∧ C[33]? = some s ∧ Part C 1 (krow ah) := by
  refine ⟨_, rfl, by simp [pastRow, ho], rfl, ?_, fun j u hj => ?_⟩
  · unfold pastRow
    rw [List.getElem?_toArray, List.getElem?_cons_succ, List.getElem?_append_right (by rw [bv_length]; omega), bv_length, ho]; rfl
  · obtain ⟨x, hx, rfl⟩ := krow_get u hj
    have hl := (List.getElem?_eq_some_iff.1 hx).1
    unfold pastRow
    rw [List.getElem?_toArray, show 1 + j = j + 1 by omega, List.getElem?_cons_succ, List.getElem?_append_left (by rw [bv_length]; omega), bv_get, hx]; rfl
set_option maxRecDepth 100000 in
theorem came_part {w : World} {g : Nat} {C : Array Value} {T : TypeId} {fr : Nat × Nat} {o : Nat} {r : List UInt8} (h : w.heap[g]? = some (.cells C T fr)) (hp : Part C o (krow r)) (hr : r.length = 32) : Came w (some ⟨g, o, none⟩) 32 32 r :=
  ⟨hr, Nat.le_refl _, by unfold maxLen; omega, .inr ⟨g, o, rfl, fun j hj => by
    rw [cell_of_block h]
    exact hp j _ (by rw [krow, List.getElem?_toArray, bv_get' _ _ hj])⟩, fun e => by cases e⟩
end Go.Proofs.YtikdgjgcopjocaaDoor
namespace Go.Proofs.YtikdgjgcopjocaaDoor
open Go.RowKit
set_option linter.unusedVariables false
set_option linter.unusedSimpArgs false
set_option maxRecDepth 100000 in
theorem quiet_load_cellsg {P : Program} {C : Act → Prop} {a : Act} {o : Oper} {W0 : World} {γ : Gd W0} (ty : TypeId) (x : Operand) (ho : o.op = .load ty x) (g q : Nat) (hx : a.eval x = .pointer (some ⟨g, q, none⟩)) (R : Array Value) (m : Nat)
    (d : TypeDesc) (hu : P.underlying ty = some d) (hd : d.isRow = true) (hty : (P.info? ty).map (·.size) = some m) (hc : ∀ z : Wg γ, ∀ (i : Nat) (u : Value), R[i]? = some u → z.w.cell? ⟨g, q + i, none⟩ = some u) (hm : R.size = m)
    (hk : C (a.put o.dst (.agg R))) : o.quiet P a (fun w' => ∃ y : Wg γ, w' = y.w) C :=
  ⟨.agg R, fun w' ⟨y, e⟩ => by
    subst e
    have hr := run_loadVar_mid (P := P) y.w g q ty R.toList d (fun j u hj => hc y j u (by rw [← hj, Array.getElem?_toList])) hu hd (by rw [hty, Array.length_toList, hm])
    rw [Array.toArray_toList] at hr
    unfold Oper.quietAt execOp
    simp only [ho, hx, Instr.loadAt, Instr.sureAddr, Sem.run_bind, Sem.run_pure, Result.andThen_ok, hr, Oper.quietUpon]
    exact ⟨trivial, trivial⟩, hk⟩
set_option maxRecDepth 100000 in
theorem lit39 (f : Nat → Value) : ((List.range 39).map f).toArray = (f 0 :: f 1 :: f 2 :: f 3 :: f 4 :: f 5 :: f 6 :: f 7 :: f 8 :: f 9 :: f 10 :: f 11 :: f 12 :: f 13 :: f 14 :: f 15 :: f 16 :: f 17 :: f 18 :: f 19 :: f 20 :: f 21 :: f 22 :: f 23 :: f 24 :: f 25 :: f 26 :: f 27 :: f 28 :: f 29 :: f 30 :: f 31 :: f 32 :: f 33 :: f 34 :: f 35 :: f 36 :: f 37 :: f 38 :: []).toArray := by kernel_rfl
set_option maxRecDepth 100000 in
set_option maxHeartbeats 6400000 in
theorem links_in {KK : Act → World → Prop} {Q : Exit → Act → World → Prop} {w : World} {n c g b m rc k Z : Nat} {ida ra : Option Addr} {id : List UInt8} {z : Int} {R : List (List UInt8)} {ah : List UInt8} {v : Value} (hk : k < m) (hm12 : m ≤ 12) (hRm : R.length = m) (hah : ah.length = 32) (hid : Came w ida n c id) (hn6 : n ≤ 60000) (hC0 : w.cell? ⟨g, 0, none⟩ = some (.int .i64 z)) (hb : w.heap[b]? = some (.cells (krow (Ck.hd id z R ah k)) 23 (0, 0))) (hK : Kv w ra R) (hO : Or32 w Z v (Ck.links id z R ah k)) (hbZ : b < Z) (hZ : Z ≤ w.heap.size) (hE : Env w) (fr : Array Value) (hn : fr.size = 39) (p0 : fr[0]? = some (.slice ida n c)) (p3 : fr[3]? = some (.pointer (some ⟨g, 0, none⟩))) (p6 : fr[6]? = some (.pointer (some ⟨b, 0, none⟩))) (p7 : fr[7]? = some (.slice ra m rc)) (p8 : fr[8]? = some (.int .i64 (k : Int))) (p5 : fr[5]? = some (v))
    (hQ : ∀ t' w' v', t'.size = 39 → t'[0]? = some (.slice ida n c) → t'[3]? = some (.pointer (some ⟨g, 0, none⟩)) → t'[6]? = some (.pointer (some ⟨b, 0, none⟩)) → t'[7]? = some (.slice ra m rc) → t'[8]? = some (.int .i64 (((k + 1 : Nat) : Int) : Int)) → t'[5]? = some (v') → w'.heap[b]? = some (.cells (krow (Ck.hd id z R ah (k + 1))) 23 (0, 0)) → Or32 w' Z v' (Ck.links id z R ah (k + 1)) → Fr (fun i => i = b ∨ Z ≤ i) w w' → KK ⟨t', []⟩ w') :
    Code.wp Tryd.prog (loopAt Tryd.f14 0) (Exit.then KK Q) ⟨fr, []⟩ w := by
  obtain ⟨ti, zz, HI⟩ := rI
  obtain ⟨r, hr⟩ : ∃ r, r = R.getD k [] := ⟨_, rfl⟩
  have hri : R[k]? = some r := by rw [hr, List.getD_eq_getElem?_getD, List.getElem?_eq_getElem (by omega)]; rfl
  have hr32 := hK.all r (List.mem_of_getElem? hri)
  obtain ⟨gr, or, rfl⟩ := hK.at (by omega)
  have hcl := hK.cells hri
  have hh32 := Ck.hd_len (id := id) (z := z) (R := R) hah k
  have hs1 : Ck.hd id z R ah (k + 1) = Ck.nx id z k r (Ck.hd id z R ah k) := by rw [hr]; rfl
  have hsn := Ck.links_snoc id z R ah k
  have hll := Ck.links_len id z R ah k
  rw [hs1] at hQ hsn
  generalize Ck.hd id z R ah k = h0 at *
  obtain ⟨h1, hh1⟩ : ∃ h1, h1 = Ck.nx id z k r h0 := ⟨_, rfl⟩
  have hh1l : h1.length = 32 := by rw [hh1]; exact Ck.nx_len _ _ _ _ _
  obtain ⟨s, hs⟩ : ∃ s : Nat, IntKind.u64.wrap (IntKind.u64.wrap z + IntKind.u64.wrap (k : Int)) = (s : Int) := ⟨(IntKind.u64.wrap (IntKind.u64.wrap z + IntKind.u64.wrap (k : Int))).toNat, (Int.toNat_of_nonneg (Int.emod_nonneg _ (show (18446744073709551616 : Int) ≠ 0 by decide))).symm⟩
  have hep := Ck.ep_wrap2 z k
  rw [hs, ← Ck.w64] at hep
  have HNX := Lib.hid (fun (V : World) (F : Fr (fun _ => False) w V) => next_row ida n c id (wrap64 (s : Int)) z k hep r h0 hr32 hh32 V (hid.ext F) hn6 (hE.ext F))
  rw [← hh1] at HNX hQ hsn
  have q1 : (k : Int) < (m : Int) := by omega
  have q4 : (0 : Int) ≤ (k : Int) := Int.natCast_nonneg k
  have HW1 := Lib.hid (show wrap64 ((k : Int) + 1) = ((k + 1 : Nat) : Int) by rw [IntWalk.wrap64_in _ (by omega)]; omega)
  have HLN := Lib.hid (show (Ck.links id z R ah k).length ≤ 12 by rw [hll]; omega)
  generalize Ck.links id z R ah k = LK at *
  have HQ := Lib.hid hQ
  have HSN := Lib.hid hsn
  have HCL := Lib.hid hcl
  have HC0 := Lib.hid hC0
  have HB := Lib.hid hb
  have HO := Lib.hid hO
  have HZ := Lib.hid (And.intro hbZ hZ)
  have H0 := Lib.hid hh32
  have H1 := Lib.hid hh1l
  have HRL := Lib.hid hr32
  have E1 : Value.int .u64 (IntKind.u64.wrap (IntKind.u64.wrap z + IntKind.u64.wrap (k : Int))) = Value.int .u64 (s : Int) := by rw [hs]
  clear hQ hsn hcl hC0 hb hO hbZ hZ hh32 hh1l hr32 hep hs hh1 hs1 hri hr hK hid hn6 hE hll hah hRm hm12
  obtain ⟨f, hff, rfl⟩ := frame_open hn
  have e0 := hff 0 _ p0
  have e3 := hff 3 _ p3
  have e5 := hff 5 _ p5
  have e6 := hff 6 _ p6
  have e7 := hff 7 _ p7
  have e8 := hff 8 _ p8
  clear hff hn p0 p3 p5 p6 p7 p8
  rw [lit39, e0, e3, e5, e6, e7, e8]
  clear e0 e3 e5 e6 e7 e8
  conv => arg 2; whnf
  go_wp2_with fail
  refine wp_region_tail 14 [] (by kernel_rfl) (by kernel_rfl) mk_nil ?_
  apply Exists.intro
  refine ⟨?wk, ?fin⟩
  case wk =>
    intro γ
    have kx : ∀ u : Wg γ, u.w.cell? ⟨g, 0, none⟩ = some (.int .i64 z) := fun u => u.h.cellSome (p := ⟨g, 0, none⟩) (fun h => h) HC0.out
    have hc3 : ∀ u : Wg γ, ∀ (i : Nat) (x : Value), (krow r)[i]? = some x → u.w.cell? ⟨gr, or + k * 32 + i, none⟩ = some x := fun u i x hx => u.h.cellSome (p := ⟨gr, or + k * 32 + i, none⟩) (fun h => h) (HCL.out i x hx)
    simp only [List.take_succ_cons, List.take_zero]
    repeat (any_goals (first | (focus (go_big_quiet_want; (refine quiet_load_cellsg 23 (.tmp 30) rfl gr (or + k * 32) rfl (krow r) 32 _ Tryd.underlying23 rfl sz32 hc3 (by rw [krow_size]; exact HRL.out) ?_); simp only [Act.put, List.setIfInBounds_toArray, List.set_cons_zero, List.set_cons_succ]; go_big_quiet_on)) | (focus (go_big_quiet_want; (refine quiet_load_rowg 23 (.tmp 6) rfl b rfl 23 (krow h0) (0, 0) _ HB.out Tryd.underlying23 rfl (sz32' H0.out) ?_); simp only [Act.put, List.setIfInBounds_toArray, List.set_cons_zero, List.set_cons_succ]; go_big_quiet_on)) | go_big_quiet_step ((go_at_call 7; with_reducible exact Calls.keepg (HNX.out _ (Wg.h _)))) | quiet_step ((go_at_call 7; with_reducible exact Calls.keepg (HNX.out _ (Wg.h _))))))
    exact wpQuiet_nil rfl
  case fin =>
    intro gs wx hF hg hne
    simp only [putAll, List.drop_succ_cons, List.drop_zero, List.length_nil, Nat.add_zero]
    have hb2 := (hF.block _ (lt_of_block HB.out) (fun h => h)).trans HB.out
    refine wpList_store_rowA rfl 23 (.tmp 6) (.tmp 33) rfl b (krow h1) rfl rfl 23 _ hb2 (sz32' H1.out) (by rw [krow_size, krow_size, H0.out, H1.out]) (krow_one _) ?_
    intro w2 B2 F2
    have O2 := own_fr (own_ext HO.out hF) F2 (fun k hk e => absurd (ownsRow_lt HO.out k hk).1 (by have := HZ.out.1; omega))
    have hz2 : Z ≤ w2.heap.size := Nat.le_trans HZ.out.2 (Nat.le_trans hF.size F2.size)
    have G2 : Fr (fun i => i = b ∨ Z ≤ i) w w2 := (hF.mono (fun _ _ h => h.elim)).trans F2 (fun i hi => .inl (.inl hi))
    clear hg hne E1 hb2 hF F2
    simp only [Act.put, List.setIfInBounds_toArray, List.set_cons_zero, List.set_cons_succ]
    go_wp2_with (first | (focus ((refine wpList_load_row rfl 23 (.tmp 6) rfl b rfl 23 (krow h1) (0, 0) _ B2 Tryd.underlying23 rfl (sz32' H1.out) ?_); simp only [Act.put, List.setIfInBounds_toArray, List.set_cons_zero, List.set_cons_succ])) | (focus (refine wpList_buildSlice rfl 32 1 _ rfl #[(0, .agg (krow h1))] (by first | kernel_rfl | rfl | simp [Act.eval]) (mkR H1.out w2) ?_; simp only [Act.put, List.setIfInBounds_toArray, List.set_cons_zero, List.set_cons_succ])) | (focus (refine wpList_app _ rfl (.tmp 34) (.tmp 36) 32 32 rfl Z 23 ti zz 32 32 Tryd.underlying32 HI.h1 HI.h2 HI.h3 HI.h4 HI.h5 (by decide) v _ _ rfl (own_ext O2 ((Fr.refl (fun _ => False) w2).alloc _)) _ rfl 1 (bv h1) (src_row (heap_alloc_new w2 _) H1.out) (by have := HLN.out; unfold maxLen; omega) (by have := HLN.out; omega) (Nat.le_trans hz2 ((Fr.refl (fun _ => False) w2).alloc (.cells (krow h1) 23)).size) ?_; intro v3 w3 O3 G3 G3x; simp only [Act.put, List.setIfInBounds_toArray, List.set_cons_zero, List.set_cons_succ]; refine Hid.out ?_)))
    have F23 : Fr (fun k => v.ownBlock = some k) w2 w3 := (((Fr.refl (fun _ => False) w2).alloc (.cells (krow h1) 23)).mono (fun _ _ h => h.elim)).trans (Fr.ofGrown G3) (fun k hk => .inl hk)
    have B3 := (F23.block _ (lt_of_block B2) (fun e => absurd (ownsRow_lt HO.out _ e).1 (by have := HZ.out.1; omega))).trans B2
    have G03 : Fr (fun i => i = b ∨ Z ≤ i) w w3 := G2.trans F23 (fun i hi => .inl (.inr (ownsRow_lt HO.out i hi).1))
    have O3' : Or32 w3 Z v3 (LK ++ [h1]) := Or32.snoc O3
    rw [← HSN.out] at O3'
    have H3 := Lib.hid (And.intro B3 (And.intro O3' G03))
    clear F23 B3 G03 O3' O3 G3 G3x O2 hz2 G2 B2
    refine Lib.hid ?_
    go_wp2_with fail
    exact HQ.out _ _ v3 (by first | rfl | simp) rfl rfl rfl rfl (congrArg (fun z => some (Value.int .i64 z)) HW1.out) rfl H3.out.1 H3.out.2.1 H3.out.2.2
end Go.Proofs.YtikdgjgcopjocaaDoor
namespace Go.Proofs.YtikdgjgcopjocaaDoor
open Go.RowKit
set_option linter.unusedVariables false
set_option linter.unusedSimpArgs false
set_option maxRecDepth 100000 in
set_option maxHeartbeats 6400000 in
theorem links_end {KK : Act → World → Prop} {Q : Exit → Act → World → Prop} {w : World} {n c g b m rc : Nat} {ida ra : Option Addr} {v : Value} (fr : Array Value) (hn : fr.size = 39) (p0 : fr[0]? = some (.slice ida n c)) (p3 : fr[3]? = some (.pointer (some ⟨g, 0, none⟩))) (p6 : fr[6]? = some (.pointer (some ⟨b, 0, none⟩))) (p7 : fr[7]? = some (.slice ra m rc)) (p8 : fr[8]? = some (.int .i64 (m : Int))) (p5 : fr[5]? = some (v))
    (hQ : ∀ t', t'.size = 39 → t'[0]? = some (.slice ida n c) → t'[3]? = some (.pointer (some ⟨g, 0, none⟩)) → t'[6]? = some (.pointer (some ⟨b, 0, none⟩)) → t'[7]? = some (.slice ra m rc) → t'[8]? = some (.int .i64 (m : Int)) → t'[5]? = some (v) → Q (.exit 0) ⟨t', []⟩ w) :
    Code.wp Tryd.prog (loopAt Tryd.f14 0) (Exit.then KK Q) ⟨fr, []⟩ w := by
  have q2 : ¬ ((m : Int) < (m : Int)) := by omega
  have q2b : ¬ (m < m) := by omega
  have HK := Lib.hid hQ
  clear hQ
  obtain ⟨f, hff, rfl⟩ := frame_open hn
  have e0 := hff 0 _ p0
  have e3 := hff 3 _ p3
  have e5 := hff 5 _ p5
  have e6 := hff 6 _ p6
  have e7 := hff 7 _ p7
  have e8 := hff 8 _ p8
  clear hff hn p0 p3 p5 p6 p7 p8
  rw [lit39, e0, e3, e5, e6, e7, e8]
  clear e0 e3 e5 e6 e7 e8
  conv => arg 2; whnf
  go_wp2_with fail
  exact HK.out _ (by first | rfl | simp) rfl rfl rfl rfl rfl rfl
set_option maxRecDepth 100000 in
set_option maxHeartbeats 6400000 in
theorem links_loop {Q : Exit → Act → World → Prop} {w0 w : World} {n c g b m rc Z : Nat} {ida ra : Option Addr} {id : List UInt8} {z : Int} {R : List (List UInt8)} {ah : List UInt8} (hm12 : m ≤ 12) (hRm : R.length = m) (hah : ah.length = 32) (hid : Came w0 ida n c id) (F0 : Fr (fun _ => False) w0 w) (hb0 : w0.heap.size ≤ b) (hZ0 : w0.heap.size ≤ Z) (hn6 : n ≤ 60000) (hC0 : w.cell? ⟨g, 0, none⟩ = some (.int .i64 z)) (hgb : g ≠ b) (hgZ : g < Z) (hb : w.heap[b]? = some (.cells (krow ah) 23 (0, 0))) (hK : Kv w ra R) (hrb : ∀ k, inBlk ra k → k < Z ∧ k ≠ b) (hbZ : b < Z) (hZ : Z ≤ w.heap.size) (hE : Env w0) (fr : Array Value) (hn : fr.size = 39) (p0 : fr[0]? = some (.slice ida n c)) (p3 : fr[3]? = some (.pointer (some ⟨g, 0, none⟩))) (p6 : fr[6]? = some (.pointer (some ⟨b, 0, none⟩))) (p7 : fr[7]? = some (.slice ra m rc)) (p8 : fr[8]? = some (.int .i64 (0 : Int))) (p5 : fr[5]? = some (.slice none 0 0))
    (hQ : ∀ t' w' v, t'.size = 39 → t'[0]? = some (.slice ida n c) → t'[3]? = some (.pointer (some ⟨g, 0, none⟩)) → t'[6]? = some (.pointer (some ⟨b, 0, none⟩)) → t'[7]? = some (.slice ra m rc) → t'[8]? = some (.int .i64 (m : Int)) → t'[5]? = some (v) → Or32 w' Z v (Ck.links id z R ah m) → Fr (fun i => i = b ∨ Z ≤ i) w w' → Q (.exit 0) ⟨t', []⟩ w') :
    Code.wp Tryd.prog (.loop (loopAt Tryd.f14 0)) Q ⟨fr, []⟩ w := by
  refine wp_loop_up m (fun k t w' => ∃ v, t.size = 39 ∧ t[0]? = some (.slice ida n c) ∧ t[3]? = some (.pointer (some ⟨g, 0, none⟩)) ∧ t[6]? = some (.pointer (some ⟨b, 0, none⟩)) ∧ t[7]? = some (.slice ra m rc) ∧ t[8]? = some (.int .i64 (k : Int)) ∧ t[5]? = some (v) ∧ w'.heap[b]? = some (.cells (krow (Ck.hd id z R ah k)) 23 (0, 0)) ∧ Or32 w' Z v (Ck.links id z R ah k) ∧ Fr (fun i => i = b ∨ Z ≤ i) w w') fr w ⟨_, hn, p0, p3, p6, p7, p8, p5, hb, Or32.nil w Z, Fr.refl _ _⟩ ?_
  rintro k t w1 hk ⟨v, hn1, p0, p3, p6, p7, p8, p5, hb1, hO1, F1⟩ KK hKK
  by_cases hlt : k < m
  · have F01 : Fr (fun _ => False) w0 w1 := F0.trans F1 (fun i hi => .inr (by rcases hi with h | h; exact h ▸ hb0; exact Nat.le_trans hZ0 h))
    exact links_in (Z := Z) hlt hm12 hRm hah (hid.ext F01) hn6 (F1.cellSome (p := ⟨g, 0, none⟩) (fun h => by rcases h with h | h; exact hgb h; exact absurd hgZ (Nat.not_lt.2 h)) hC0) hb1 (hK.fr F1 (fun k hk h => by obtain ⟨h1, h2⟩ := hrb k hk; rcases h with h | h; exact h2 h; omega)) hO1 hbZ (Nat.le_trans hZ F1.size) (hE.ext F01) t hn1 p0 p3 p6 p7 p8 p5 (fun t' w' v' b0 b1 b2 b3 b4 b5 b6 b7 b8 b9 => hKK t' w' (by omega) ⟨v', b0, b1, b2, b3, b4, b5, b6, b7, b8, F1.trans b9 (fun _ h => .inl h)⟩)
  · have : k = m := by omega
    subst this
    exact links_end t hn1 p0 p3 p6 p7 p8 p5 (fun t' b0 b1 b2 b3 b4 b5 b6 => hQ t' w1 v b0 b1 b2 b3 b4 b5 b6 hO1 F1)
set_option maxRecDepth 100000 in
set_option maxHeartbeats 6400000 in
theorem links_any (ida : Option Addr) (n c : Nat) (id : List UInt8) (z : Int) (ah : List UInt8) (a : Option Addr) (n2 c2 : Nat) (P : List (List UInt8)) (w : World) (hid : Came w ida n c id) (hn6 : n ≤ 60000) (hah : ah.length = 32) (hPn : P.length = n2) (hnc : n2 ≤ c2) (hcm : c2 ≤ maxLen) (hK : Kv w a P) (hE : Env w) :
    Calls Tryd.prog 14 #[.slice ida n c, .agg (pastRow z ah (.slice a n2 c2))] w fun e w' => (∃ v, e = .returned v ∧ Or32 w' w.heap.size v (Ck.links id z (P.take 12) ah (P.take 12).length)) ∧ Fr (fun _ => False) w w' := by
  obtain ⟨C, hC, hC34, hC0, hC33, hC1⟩ := past_facts z (.slice a n2 c2) ah hah
  rw [← hC]
  obtain ⟨m, hm⟩ : ∃ m, m = (P.take 12).length := ⟨_, rfl⟩
  have HM := Lib.hid (show m ≤ 12 by rw [hm, List.length_take]; omega)
  have HAH := Lib.hid hah
  have HC := Lib.hid (And.intro hC34 (And.intro hC1 (And.intro hC0 hC33)))
  have HID := Lib.hid hid
  have HE := Lib.hid hE
  have HPK := Lib.hid (And.intro hK (And.intro hPn (And.intro hnc hcm)))
  have HN6 := Lib.hid hn6
  have K1 := (Kn.start w).new w.heap.size 34 C 34 rfl hC34
  have s32 : (Tryd.prog.info? 23).map (·.size) = some 32 := sz32
  rw [← hm]
  have HMM := Lib.hid hm
  clear hid hn6 hah hPn hnc hcm hK hE hC hC34 hC0 hC33 hC1 hm
  go_enter Tryd.func14, Tryd.ntmps14
  go_wp2_with (first | (focus (refine wpList_load_pt K1 rfl 23 (.tmp 9) rfl 0 w.heap.size 34 1 32 C (krow ah) 34 rfl _ Tryd.underlying23 rfl s32 rfl HC.out.2.1 (by rw [krow_size]; exact HAH.out) ?_; (try simp only [Act.put, List.setIfInBounds_toArray, List.set_cons_zero, List.set_cons_succ]))) | (focus (rw [zero32]; refine wpList_store_rowA rfl 23 (.tmp 6) (.tmp 10) rfl (w.heap.size + 1) (krow ah) rfl rfl 23 _ (heap_alloc2_new w _ _) (sz32' HAH.out) (by rw [ub_size, krow_size, HAH.out]) (krow_one _) ?_; intro w2 B2 F2; simp only [Act.put, List.setIfInBounds_toArray, List.set_cons_zero, List.set_cons_succ]; refine Hid.out ?_)))
  have C2 := (F2.block w.heap.size (lt_of_block (heap_alloc2_old w (.cells C 34) (.cells (ub 32 (fun _ => 0)) 23))) (by omega)).trans (heap_alloc2_old w (.cells C 34) (.cells (ub 32 (fun _ => 0)) 23))
  have G2 : Fr (fun _ => False) w w2 := (((Fr.refl (fun _ => False) w).alloc (.cells C 34)).alloc (.cells (ub 32 (fun _ => 0)) 23)).trans F2 (fun i hi => .inr (by omega))
  have c33 : w2.cell? ⟨w.heap.size, 33, none⟩ = some (.slice a n2 c2) := (cell_of_block C2 _).trans HC.out.2.2.2
  have HC2 := Lib.hid C2
  have HB2 := Lib.hid B2
  have HG2 := Lib.hid G2
  have HSZ := Lib.hid (lt_of_block B2)
  clear F2 G2 C2 B2 K1
  refine Lib.hid ?_
  go_wp2_with fail
  refine (few32_any a n2 c2 P HPK.out.2.1 HPK.out.2.2.1 HPK.out.2.2.2 w2 (HPK.out.1.ext HG2.out)).mono ?_
  rintro e w3 ⟨⟨v7, rfl, hO7⟩, F3⟩
  obtain ⟨a7, c7, rfl, h7a, h7b, hK7, hbl⟩ := hO7.view (HPK.out.1.all.take 12)
  rw [← HMM.out]
  have HG3 := Lib.hid (HG2.out.trans F3 (fun _ h => h.elim))
  have HF3 := Lib.hid F3
  have HK7 := Lib.hid hK7
  have HBL := Lib.hid hbl
  clear c33 F3 hK7 hbl h7a h7b hO7
  go_wp2_with fail
  refine links_loop (w0 := w) (g := w.heap.size) (b := w.heap.size + 1) (Z := w3.heap.size) (R := P.take 12) (z := z) (id := id) HM.out HMM.out.symm HAH.out HID.out HG3.out (by omega) HG3.out.size HN6.out (HF3.out.cellSome (p := ⟨w.heap.size, 0, none⟩) (fun h => h) ((cell_of_block HC2.out _).trans HC.out.2.2.1)) (by omega) (by have := HF3.out.size; have := HSZ.out; omega) ((HF3.out.block _ HSZ.out (fun h => h)).trans HB2.out) HK7.out (fun k hk => by obtain ⟨h1, h2⟩ := HBL.out k hk; have := HSZ.out; exact ⟨h2, by omega⟩) (by have := HF3.out.size; have := HSZ.out; omega) (Nat.le_refl _) HE.out _ (by first | rfl | simp) rfl rfl rfl rfl rfl rfl ?_
  intro t' w4 v hn p0 p3 p6 p7 p8 p5 hO4 F4
  have HO := Lib.hid (And.intro (own_up hO4 HG3.out.size) (HG3.out.trans F4 (fun i hi => .inr (by rcases hi with h | h; omega; exact Nat.le_trans HG3.out.size h))))
  clear hO4 F4
  obtain ⟨f, hff, rfl⟩ := frame_open hn
  have e5 := hff 5 _ p5
  clear hff hn p5
  rw [lit39, e5]
  clear e5
  go_wp2_with fail
  go_ret
  exact ⟨⟨_, rfl, HO.out.1⟩, HO.out.2⟩
end Go.Proofs.YtikdgjgcopjocaaDoor

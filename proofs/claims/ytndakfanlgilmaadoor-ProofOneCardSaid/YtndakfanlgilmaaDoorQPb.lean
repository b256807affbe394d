/-
  Plain laws of this verifier: so many noughts appended onto owned bytes (append of make).
  The contracts of slices.Grow (of nil) and slices.Concat over bytes.
  The text of a proof's end, and of a node.
  A round of a range over a function, in the widest fence: what holds of a list of operations, or of a drawn region, as anywhere, holds in a round. Plain: of no program.
  Backward of rows of 32 bytes: a range over it.
  A round of a range over a function: one operation by a law of the plain walk; the engine Kj in a round; a row stored into a part of a block. Plain: of no program.
-/
import Derived.Test.YtndakfanlgilmaaDoorSz
import Derived.Lib.AppendZerosOnto
import Derived.Test.YtndakfanlgilmaaDoorHm
import Derived.Lib.Hide
import Derived.Test.YtndakfanlgilmaaDoorQPa
import Derived.RangeFuncNested
import Derived.RangeFuncBound
import Derived.RangeFuncCalls
import Derived.RangeFuncLeaves
import Derived.RangeFuncBox
import Derived.OrdersIn
import Derived.Test.YtndakfanlgilmaaDoorKs
import Derived.Shelf.Abstract
import Derived.Shelf.RegionOpen
import Derived.WalkKit
import Derived.OwnWalkIn
import Derived.TacticsInMore
import Derived.LoopNIn
import Derived.LoopIn
import Derived.Maps.AppendAt
import Derived.Maps.OwnIn
import Derived.Test.YtndakfanlgilmaaDoorSc
namespace Go.Proofs.YtndakfanlgilmaaDoor
open Go.RowKit
set_option linter.unusedVariables false

set_option maxRecDepth 100000 in
theorem zc (k : Nat) : Builtin.zeroCells (Value.int .u8 0).cells k = (bv (noughts2 k)).toArray := by
  apply Array.toList_inj.1
  rw [List.toList_toArray]
  apply List.ext_getElem
  · simp [Builtin.zeroCells, noughts2, bv, Value.cells]
  · intro i h1 h2
    simp [Builtin.zeroCells, noughts2, bv, Value.cells, Nat.mod_one]
set_option maxRecDepth 100000 in
theorem nl (k : Nat) : (noughts2 k).length = k := by simp [noughts2]
section
variable (w : World)
set_option maxRecDepth 100000 in
theorem run_own_zeros (B : Nat) (ty tn : TypeId) (kq kn : IntKind) (htn : Tryd.prog.underlying tn = some (.int kn)) (v : Value) (l : List UInt8) (k : Nat) (hown : Own w B v l)
    (hbytes : l.length + k ≤ 1000000) (hbase : B ≤ w.heap.size) :
    ∃ v2 w2, (Builtin.append_ #[39, tn] ty #[v, .int kq (k : Int)]).run Tryd.prog w = .ok v2 w2 ∧ Own w2 B v2 (l ++ noughts2 k) ∧ w.grownBy w2 v.ownBlock ∧ (v2.ownBlock = v.ownBlock ∨ v2.ownBlock = some w.heap.size) := by
  obtain ⟨i, hi, hz, hs, hby⟩ : ∃ i, Tryd.prog.info? 5 = some i ∧ i.zero = some (.int .u8 0) ∧ i.size = 1 ∧ i.bytes = 1 := by
    have h := Tryd.infoB
    cases hi : Tryd.prog.info? 5 with
    | none => rw [hi] at h; cases h
    | some i =>
      rw [hi] at h
      simp only [Option.map_some, Option.some.injEq, Prod.mk.injEq] at h
      exact ⟨i, rfl, h.1, h.2.1, h.2.2⟩
  have hw : IntKind.i64.wrap (k : Int) = k := by rw [IntKind.wrap_i64]; omega
  have hneg : ¬ ((k : Int) < 0) := by omega
  have h48i : ¬ (281474976710656 < (k : Int) * (i.bytes : Int)) := by rw [hby]; omega
  have hmx : l.length + k ≤ maxLen := by unfold maxLen; omega
  have grown : ∀ (old : Nat) (row : Option Nat) (W2 : World), W2 = w.drew.alloc (.cells ((bv l).toArray ++ (bv (noughts2 k)).toArray ++ (bv (noughts2 (grownCap w (l.length + k) old 5 - (l.length + k)))).toArray) 5) →
      Own W2 B (.slice (some ⟨w.heap.size, 0, none⟩) (l.length + k) (grownCap w (l.length + k) old 5)) (l ++ noughts2 k) ∧ w.grownBy W2 row := by
    intro old row W2 hW
    subst hW
    have hge := grownCap_ge w (l.length + k) old 5
    have hcm := grownCap_le_maxLen w (l.length + k) old 5 hmx
    refine ⟨Or.inr ⟨w.heap.size, _, _, (0, 0), by rw [List.length_append, nl], hbase, heap_alloc_new w.drew _, Or.inl rfl, by rw [List.length_append, nl]; exact hge, hcm, ?_, ?_⟩, ⟨rfl, rfl, rfl, by simp, fun j hj _ => Below.heap_alloc w.drew _ j hj⟩⟩
    · simp [nl]; omega
    · simp only [Array.toList_append]
      rw [bv_append]
      exact List.take_left' (by simp [nl])
  rcases hown with ⟨rfl, rfl⟩ | ⟨g, cap, cur, fz, rfl, hbg, hg, hfz, hnc, hcm, hcs, htake⟩
  · by_cases hk : k = 0
    · subst hk
      refine ⟨.slice none 0 0, w, ?_, Or.inl ⟨rfl, rfl⟩, ⟨rfl, rfl, rfl, Nat.le_refl _, fun _ _ _ => rfl⟩, .inl rfl⟩
      have w0 : IntKind.i64.wrap 0 = 0 := by rw [IntKind.wrap_i64]; omega
      simp [Builtin.append_, run_underlying Tryd.underlying39, run_underlying htn, sizeOf, typeInfo, hi, asInt, asIntOf, w0]
    · have hr := Lib.run_append_nil_zeros (P := Tryd.prog) w 39 tn ty 5 i (.int .u8 0) kq kn Tryd.underlying39 htn hi hz k (by omega) (by omega) (by omega) (by rw [hby]; omega)
      rw [zc, zc] at hr
      obtain ⟨g1, g2⟩ := grown 0 (Value.ownBlock (.slice none 0 0)) _ (show w.drew.alloc (.cells ((bv (noughts2 k)).toArray ++ (bv (noughts2 (grownCap w k 0 5 - k))).toArray) 5) = _ by simp [bv])
      refine ⟨_, _, hr, ?_, g2, .inr rfl⟩
      simpa using g1
  · by_cases hroom : l.length + k ≤ cap
    · have hcur : w.heap[g]? = some (.cells cur.toList.toArray 5 fz) := by simpa using hg
      have hst := run_storeCells_cells (P := Tryd.prog) g l.length (bv (noughts2 k)) 0 w (fun j hj => by
          rw [bv_length, nl] at hj
          rw [Nat.add_zero, cell_of_block hg, Array.getElem?_eq_getElem (by omega)]; rfl) (fun j hj => by
          rw [bv_length, nl] at hj
          rw [Nat.add_zero]
          rcases hfz with e | e
          · subst e; simp [World.frozen?, hg]
          · simp [World.frozen?, hg]; omega) (bv_one _)
      simp only [Nat.add_zero] at hst
      have hr : (Builtin.append_ #[39, tn] ty #[.slice (some ⟨g, 0, none⟩) l.length cap, .int kq (k : Int)]).run Tryd.prog w = .ok (.slice (some ⟨g, 0, none⟩) (l.length + k) cap) (w.setCells g l.length (bv (noughts2 k))) := by
        by_cases hk : k = 0
        · subst hk
          have w0 : IntKind.i64.wrap 0 = 0 := by rw [IntKind.wrap_i64]; omega
          have hst0 : (storeCells ⟨g, l.length, none⟩ []).run Tryd.prog w = .ok () w := by simpa [noughts2, bv, World.setCells] using hst
          have hc : l.length ≤ cap := hnc
          simp [Builtin.append_, run_underlying Tryd.underlying39, run_underlying htn, sizeOf, typeInfo, hi, hs, asInt, asIntOf, w0, hc, Addr.add_lit, hst0, noughts2, bv, World.setCells]
        · simp [Builtin.append_, run_underlying Tryd.underlying39, run_underlying htn, sizeOf, typeInfo, zeroValue, hi, hz, asInt, asIntOf, hw, hneg, h48i, hroom, Addr.add_lit, hs, hk]
          rw [zc, List.toList_toArray, hst]
          rfl
      have hb := setCells_blockF (bv (noughts2 k)) l.length cur.toList w hcur (by simp [nl]; omega)
      refine ⟨_, _, hr, Or.inr ⟨g, cap, _, fz, by rw [List.length_append, nl], hbg, hb, ?_, by rw [List.length_append, nl]; omega, hcm, ?_, ?_⟩, setCells_grown _ _ _, .inl rfl⟩
      · rcases hfz with e | e
        · exact Or.inl e
        · refine Or.inr (Nat.le_trans (Nat.le_of_eq ?_) e)
          simp [nl]; omega
      · simp [nl]; omega
      · rw [htake, bv_append, ← List.append_assoc, List.toList_toArray]
        exact List.take_left' (by simp [nl])
    · have holds : ∀ j u, (bv l)[j]? = some u → w.drew.cell? ((⟨g, 0, none⟩ : Addr).add j) = some u := fun j u h => by
        rw [addr_add, Nat.zero_add]
        show w.cell? _ = _
        rw [cell_of_block hg, ← Array.getElem?_toList]
        rw [← htake, List.getElem?_take] at h
        split at h
        · exact h
        · cases h
      have hr := Lib.run_append_grow_zeros (P := Tryd.prog) w 39 tn ty 5 i (.int .u8 0) kq kn Tryd.underlying39 htn hi hz (some ⟨g, 0, none⟩) l.length cap (bv l) (run_firstCells_some w.drew i.size l.length ⟨g, 0, none⟩ l.length cap (bv l) (by rw [hs]; simp) holds) k (by omega) (by omega) (by omega) (by omega) (by rw [hby]; omega) (growslice_fits (by omega) (by rw [hby]; omega))
      rw [zc, zc] at hr
      have hgr := grown cap (Value.ownBlock (.slice (some ⟨g, 0, none⟩) l.length cap)) _ rfl
      exact ⟨_, _, hr, hgr.1, hgr.2, .inr rfl⟩
end
end Go.Proofs.YtndakfanlgilmaaDoor
namespace Go.Proofs.YtndakfanlgilmaaDoor
open Go.RowKit
set_option linter.unusedVariables false

set_option maxRecDepth 100000 in
theorem Own.zero {w : World} {B n c : Nat} {a : Option Addr} {l : List UInt8} (h : Own w B (.slice a n c) l) : Own w B (.slice a 0 c) [] := by
  rcases h with ⟨e, rfl⟩ | ⟨g, cap, cur, fz, e, h1, h2, h3, h4, h5, h6, h7⟩
  · cases e; exact Or.inl ⟨rfl, rfl⟩
  · cases e; exact Or.inr ⟨g, _, cur, fz, rfl, h1, h2, h3, Nat.zero_le _, h5, h6, rfl⟩
set_option maxRecDepth 100000 in
theorem Fr.grown0 {w w2 : World} {v : Value} (h : w.grownBy w2 v.ownBlock) (hv : ∀ k, v.ownBlock = some k → w.heap.size ≤ k) : Fr (fun _ => False) w w2 :=
  (Fr.refl (fun _ => False) w).trans (Fr.ofGrown h) (fun i hi => Or.inr (hv i hi))
set_option maxRecDepth 100000 in
theorem grow_any (n : Nat) (h0 : 0 < n) (hn : n ≤ 1000000) (w : World) :
    Calls Tryd.prog 35 #[.slice none 0 0, .int .i64 n] w fun e w' => ∃ a c, e = .returned (.slice a 0 c) ∧ Own w' w.heap.size (.slice a 0 c) [] ∧ Fr (fun _ => False) w w' := by
  have q0 : (0 : Int) ≤ (n : Int) := by omega
  have q1 : ¬ ((n : Int) < 0) := by omega
  have q2 : (n : Int) ≤ 1000000 := by omega
  have q3 : (0 : Int) < (n : Int) := by omega
  go_enter Tryd.func35, Tryd.ntmps35
  obtain ⟨v2, w2, hr, own, gr, hb⟩ := run_own_zeros w w.heap.size 39 3 .i64 .i64 Tryd.underlying3 (.slice none 0 0) [] n (Or.inl ⟨rfl, rfl⟩) (by simpa using hn) (Nat.le_refl _)
  rw [List.nil_append] at own
  obtain ⟨a, c, rfl⟩ := own.slice
  rw [nl] at own hr hb
  have hc1 := own.lies.2.1
  have hF := Fr.grown0 gr (fun k hk => by cases hk)
  have own2 := own.zero
  clear own hb
  go_wp2_with (at_builtin; refine Lib.wpList_append_run _ rfl _ _ _ _ rfl _ _ rfl rfl _ _ hr ?_)
  go_ret
  exact ⟨_, _, rfl, own2, hF⟩
set_option maxRecDepth 100000 in
theorem cat_take (L : List (List UInt8)) (q : Nat) (h : q < L.length) : (L.take (q + 1)).flatten = (L.take q).flatten ++ L[q] := by
  rw [List.take_succ_eq_append_getElem h, List.flatten_append]; simp
set_option maxRecDepth 100000 in
theorem cat_take_le (L : List (List UInt8)) (q : Nat) : (L.take q).flatten.length ≤ L.flatten.length := by
  have e3 : L.flatten = (L.take q).flatten ++ (L.drop q).flatten := by rw [← List.flatten_append, List.take_append_drop]
  rw [e3, List.length_append]; omega
set_option maxRecDepth 100000 in
set_option maxHeartbeats 1600000 in
theorem concat_any (a2 : Option Addr) (L : List (List UInt8)) (m c2 : Nat) (w : World) (hp : Parts w a2 L) (hm : L.length = m) (hm2 : m ≤ 1000) (h0 : 0 < L.flatten.length) (hl : L.flatten.length ≤ 1000000) :
    Calls Tryd.prog 27 #[.slice a2 m c2] w fun e w' => ∃ a c, e = .returned (.slice a L.flatten.length c) ∧ Own w' w.heap.size (.slice a L.flatten.length c) L.flatten ∧ Fr (fun _ => False) w w' := by
  have hm3 : m ≤ 9223372036854775807 := by omega
  obtain ⟨N, hN⟩ : ∃ N, N = L.flatten.length := ⟨_, rfl⟩
  rw [← hN] at h0 hl ⊢
  have HN := Lib.hid hN
  clear hN
  go_enter Tryd.func27, Tryd.ntmps27
  go_wp2_with fail
  go_loopw [3, 11] (fun s i wr => ∃ q : Nat, q ≤ m ∧ i = .int .i64 q ∧ s = .int .i64 ((L.take q).flatten.length : Nat) ∧ wr = w) (fun _ i _ => m - (intOf i).toNat)
  case atStart => exact ⟨0, by omega, by simp, by simp, rfl⟩
  case round =>
    obtain ⟨q, hq, rfl, rfl, hwr⟩ := hrel
    rw [hwr]
    clear hwr wr
    by_cases hlt : q < m
    · have hkL : q < L.length := by omega
      have e2 := cat_take L q hkL
      have e3 := cat_take_le L (q + 1)
      rw [← HN.out] at e3
      have e4 : (L.take q).flatten.length + L[q].length ≤ 1000000 := by rw [e2, List.length_append] at e3; omega
      have e5 : (L.take (q + 1)).flatten.length = (L.take q).flatten.length + L[q].length := by rw [e2, List.length_append]
      obtain ⟨g, o, ha, hc⟩ := hp.resolve_left (fun e => by rw [e] at hm; simp at hm; omega)
      obtain ⟨aj, cj, h1, h2, h3, h4⟩ := hc q hkL
      subst ha
      generalize hz : (L.take q).flatten.length = z at *
      generalize hy : L[q].length = y at *
      have ez := Lib.hid e5
      have t1 : decide ((q : Int) < (m : Int)) = true := by simp; omega
      have t2 : decide (((z : Int) + (y : Int)) < 0) = false := by simp; omega
      clear e5 e2 e3 hc hy hz hp h2 h3 h4 hkL
      go_wp2_with fail
      refine ⟨⟨q + 1, by omega, by go_num, ?_, trivial⟩, by simp [intOf]; omega⟩
      rw [ez.out]
      go_num
    · obtain rfl : q = m := by omega
      have hLm : L.take q = L := List.take_of_length_le (by omega)
      rw [hLm, ← HN.out]
      go_wp2_with fail
      with_reducible refine (grow_any N h0 hl _).mono ?_
      rintro e w1 ⟨a1, c1, rfl, own1, F1⟩
      go_wp2_with fail
      go_loopw [6, 27] (fun v i wr => ∃ (r : Nat) (a : Option Addr) (c : Nat), r ≤ q ∧ i = .int .i64 r ∧ v = .slice a (L.take r).flatten.length c ∧ Own wr w.heap.size v (L.take r).flatten ∧ Fr (fun _ => False) w wr) (fun _ i _ => q - (intOf i).toNat)
      case atStart => exact ⟨0, a1, c1, by omega, by simp, by simp, by simpa using own1, F1⟩
      case round =>
        obtain ⟨r, a, c, hr, rfl, rfl, hO, hF⟩ := hrel
        by_cases hlt : r < q
        · have hkL : r < L.length := by omega
          have e2 := cat_take L r hkL
          have e3 := cat_take_le L (r + 1)
          rw [← HN.out] at e3
          obtain ⟨g, o, ha, hc⟩ := hp.resolve_left (fun e => by rw [e] at hm; simp at hm; omega)
          obtain ⟨aj, cj, h1, h2, h3, h4⟩ := hc r hkL
          subst ha
          obtain ⟨p, hpp⟩ : ∃ p, p = L[r] := ⟨_, rfl⟩
          rw [← hpp] at e2 h1 h2 h3
          have e4 : (L.take r).flatten.length + p.length ≤ 1000000 := by rw [e2, List.length_append] at e3; omega
          have h1' := hF.cellSome (p := ⟨g, o + r, none⟩) (fun h => h) h1
          have hsrc : Src Tryd.prog 1 39 (.slice aj p.length cj) p.length (bv p) wr := (h2.grow hF).src cj
          have hb1 : (L.take r).flatten.length + p.length ≤ 140737488355328 := by omega
          have hz := hF.size
          generalize (L.take r).flatten = x at *
          have E2 := Lib.hid e2
          have HP := Lib.hid hp
          clear e2 e3 hc hpp hkL hp h1 own1 F1
          go_wp2_with (at_builtin; refine wpList_own _ rfl (.tmp 31) (.tmp 32) 39 rfl w.heap.size (.slice a x.length c) x p rfl hO _ rfl hsrc hb1 hz ?k)
          case k =>
          intro v2 w2 own2 hg2 hb2
          obtain ⟨a3, c3, rfl⟩ := own2.slice
          have F2 : Fr (fun _ => False) w w2 := hF.trans (Fr.ofGrown hg2) (fun i hi => Or.inr (hO.lt i hi).1)
          rw [← E2.out] at own2 ⊢
          go_wp2_with fail
          exact ⟨⟨r + 1, a3, c3, by omega, by go_num, rfl, own2, F2⟩, by simp [intOf]; omega⟩
        · obtain rfl : r = q := by omega
          rw [hLm, ← HN.out] at hO ⊢
          go_wp2_with fail
          go_ret
          exact ⟨_, _, rfl, hO, hF⟩
end Go.Proofs.YtndakfanlgilmaaDoor
namespace Go.Proofs.YtndakfanlgilmaaDoor
open Go.RowKit
set_option linter.unusedVariables false
set_option linter.unusedSimpArgs false
set_option maxRecDepth 100000 in
theorem Own.ext {w w' : World} {B : Nat} {v : Value} {l : List UInt8} (h : Own w B v l) (F : Fr (fun _ => False) w w') : Own w' B v l := h.fr F (fun _ _ h => h)
set_option maxRecDepth 100000 in
theorem own_cells {w : World} {B g n : Nat} {l : List UInt8} (h : w.heap[g]? = some (.cells (krow l) 5 (0, 0))) (hB : B ≤ g) (hn : l.length = n) (hm : n ≤ maxLen) : Own w B (.slice (some ⟨g, 0, none⟩) n n) l := by
  subst hn
  exact .inr ⟨g, l.length, krow l, (0, 0), rfl, hB, h, .inl rfl, Nat.le_refl _, hm, krow_size l, by simp [krow, List.take_of_length_le, bv_length]⟩
set_option maxRecDepth 100000 in
theorem Pf.en_true (k v : List UInt8) : Pf.en true k v = 0 :: (k ++ v) := rfl
set_option maxRecDepth 100000 in
theorem Pf.en_false (k v : List UInt8) : Pf.en false k v = [2] := rfl
set_option maxRecDepth 100000 in
set_option maxHeartbeats 6400000 in
theorem pnode_any (y : Int) (b1 b2 : UInt8) (hb1 : y / 256 % 256 = (b1.toNat : Int)) (hb2 : y % 256 = (b2.toNat : Int)) (a b : List UInt8) (ha : a.length = 32) (hb : b.length = 32) (w : World) :
    Calls Tryd.prog 20 #[.int .i64 y, .agg (leafRow a b)] w fun e w' => (∃ u, e = .returned u ∧ Own w' w.heap.size u (1 :: b1 :: b2 :: (a ++ b))) ∧ Fr (fun _ => False) w w' := by
  have s1 : (Tryd.prog.info? 55).map (·.size) = some (leafRow a b).size := by rw [leaf_size ha hb]; kernel_rfl
  have B0 := heap_alloc_new w (.cells (leafRow a b) 55)
  have F0 := (Fr.refl (fun _ => False) w).alloc (.cells (leafRow a b) 55)
  have HL := Lib.hid (And.intro ha hb)
  have HA := Lib.hid (leaf_came B0 ha hb).1
  have HB := Lib.hid (leaf_came B0 ha hb).2
  have HF := Lib.hid F0
  clear B0 F0 ha hb
  go_enter Tryd.func20, Tryd.ntmps20
  go_wp2_with fail
  generalize (w.alloc (.cells (leafRow a b) 55)) = w3 at *
  refine Ks.wp_region_mono (fun _ => False) (sg 0 5 ++ (sg 6 4 ++ ((5, true) :: ((10, true) :: ((11, true) :: (sg 12 1 ++ ([]))))))) (by kernel_rfl) (by kernel_rfl) ?_
  refine Ks.Wk.seg 0 5 (by kernel_rfl) (by kernel_rfl) ?_
  apply Exists.intro
  refine ⟨?wk0, ?fin0⟩
  case wk0 =>
    intro γ
    simp only [List.drop_succ_cons, List.drop_zero, List.take_succ_cons, List.take_zero]
    repeat (any_goals (first | go_big_quiet_step (fail) | quiet_step (fail)))
    exact wpQuiet_nil rfl
  case fin0 =>
  (try simp only [Act.put, List.setIfInBounds_toArray, List.set_cons_zero, List.set_cons_succ])
  refine Ks.Wk.seg 6 4 (by kernel_rfl) (by kernel_rfl) ?_
  apply Exists.intro
  refine ⟨?wk1, ?fin1⟩
  case wk1 =>
    intro γ
    simp only [List.drop_succ_cons, List.drop_zero, List.take_succ_cons, List.take_zero]
    repeat (any_goals (first | go_big_quiet_step (fail) | quiet_step (fail)))
    exact wpQuiet_nil rfl
  case fin1 =>
  (try simp only [Act.put, List.setIfInBounds_toArray, List.set_cons_zero, List.set_cons_succ])
  simp only [hb1, hb2]
  refine Ks.Wk.one rfl (fun w4 Xw4 => ?_)
  refine wpList_buildSlice rfl 39 3 _ rfl #[(0, .int .u8 1), (1, .int .u8 (b1.toNat : Int)), (2, .int .u8 (b2.toNat : Int))] (by first | kernel_rfl | rfl | simp [Act.eval]) (mkB3 1 (b1.toNat : Int) (b2.toNat : Int) w4) ⟨rfl, Ks.Es.of ((Fr.refl _ w4).alloc _), ?_⟩
  (try simp only [List.getElem_toArray, List.getElem_cons_succ, List.getElem_cons_zero, Act.put, List.setIfInBounds_toArray, List.set_cons_zero, List.set_cons_succ])
  have B1 := heap_alloc_new w4 (.cells #[.int .u8 1, .int .u8 (b1.toNat : Int), .int .u8 (b2.toNat : Int)] 5)
  have X4 : Fr (fun _ => False) w3 (w4.alloc (.cells #[.int .u8 1, .int .u8 (b1.toNat : Int), .int .u8 (b2.toNat : Int)] 5)) := Xw4.alloc _
  refine Ks.Wk.one rfl (fun w5 Xw5 => ?_)
  refine wpList_buildSlice rfl 30 3 _ rfl #[(0, .slice (some ⟨w4.heap.size, 0, none⟩) 3 3), (1, .slice (some ⟨w.heap.size, 0, none⟩) 32 32), (2, .slice (some ⟨w.heap.size, 32, none⟩) 32 32)] (by first | kernel_rfl | rfl | simp [Act.eval]) (mkP3 _ _ _ _ _ _ _ _ _ w5) ⟨rfl, Ks.Es.of ((Fr.refl _ w5).alloc _), ?_⟩
  (try simp only [List.getElem_toArray, List.getElem_cons_succ, List.getElem_cons_zero, Act.put, List.setIfInBounds_toArray, List.set_cons_zero, List.set_cons_succ])
  have F5 := (Fr.refl (fun _ => False) w5).alloc (.cells #[.slice (some ⟨w4.heap.size, 0, none⟩) 3 3, .slice (some ⟨w.heap.size, 0, none⟩) 32 32, .slice (some ⟨w.heap.size, 32, none⟩) 32 32] 39)
  have B2 := heap_alloc_new w5 (.cells #[.slice (some ⟨w4.heap.size, 0, none⟩) 3 3, .slice (some ⟨w.heap.size, 0, none⟩) 32 32, .slice (some ⟨w.heap.size, 32, none⟩) 32 32] 39)
  have X5 : Fr (fun _ => False) w3 (w5.alloc (.cells #[.slice (some ⟨w4.heap.size, 0, none⟩) 3 3, .slice (some ⟨w.heap.size, 0, none⟩) 32 32, .slice (some ⟨w.heap.size, 32, none⟩) 32 32] 39)) := (X4.trans Xw5 (fun _ h => h.elim)).trans F5 (fun _ h => h.elim)
  have C1 : Came (w5.alloc (.cells #[.slice (some ⟨w4.heap.size, 0, none⟩) 3 3, .slice (some ⟨w.heap.size, 0, none⟩) 32 32, .slice (some ⟨w.heap.size, 32, none⟩) 32 32] 39)) (some ⟨w4.heap.size, 0, none⟩) 3 3 [1, b1, b2] := ((came_cells (l := [1, b1, b2]) B1 rfl (by simp)).ext Xw5).ext F5
  have C2 := HA.out.ext X5
  have C3 := HB.out.ext X5
  have P3 := parts3g B2 C1 C2 C3
  have HS5 := Lib.hid (Nat.le_trans HF.out.size X5.size)
  generalize (w5.alloc (.cells #[.slice (some ⟨w4.heap.size, 0, none⟩) 3 3, .slice (some ⟨w.heap.size, 0, none⟩) 32 32, .slice (some ⟨w.heap.size, 32, none⟩) 32 32] 39)) = v5 at *
  refine Ks.Wk.call rfl (by kernel_rfl) 27 #[.slice (some ⟨w5.heap.size, 0, none⟩) 3 3] (fun W => by first | kernel_rfl | rfl) (fun vv W => Own W w.heap.size vv (1 :: b1 :: b2 :: (a ++ b))) (fun W hx => (concat_any _ [[1, b1, b2], a, b] 3 3 W (P3.grow hx) rfl (by omega) (by simp) (by have := HL.out.1; have := HL.out.2; simp; omega)).mono (fun e W' he => by obtain ⟨a1, c1, e1, ho, hf⟩ := he; exact ⟨_, e1, hf, by have := ho.up (Nat.le_trans HS5.out hx.size); simpa using this⟩)) ?_
  rintro vv w6 X6 hO6
  (try simp only [List.getElem_toArray, List.getElem_cons_succ, List.getElem_cons_zero, Act.put, List.setIfInBounds_toArray, List.set_cons_zero, List.set_cons_succ])
  have HO6 := Lib.hid hO6
  clear hO6
  refine Ks.Wk.seg 12 1 (by kernel_rfl) (by kernel_rfl) ?_
  apply Exists.intro
  refine ⟨?wk5, ?fin5⟩
  case wk5 =>
    intro γ
    simp only [List.drop_succ_cons, List.drop_zero, List.take_succ_cons, List.take_zero]
    repeat (any_goals (first | go_big_quiet_step (fail) | quiet_step (fail)))
    exact wpQuiet_nil rfl
  case fin5 =>
  (try simp only [Act.put, List.setIfInBounds_toArray, List.set_cons_zero, List.set_cons_succ])
  intro w9 X9
  have HO := Lib.hid (HO6.out.ext X9)
  have HX := Lib.hid (HF.out.trans ((X5.trans X6 (fun _ h => h.elim)).trans X9 (fun _ h => h.elim)) (fun _ h => h.elim))
  clear X9 X6 X5 P3 C1 C2 C3 B2 F5 X4 B1 Xw4 Xw5
  go_wp2_with fail
  go_ret
  exact ⟨⟨_, rfl, HO.out⟩, HX.out⟩
set_option maxRecDepth 100000 in
set_option maxHeartbeats 6400000 in
theorem end_there (s : Value) (k v : List UInt8) (hk : k.length = 32) (hv : v.length = 32) (w : World) :
    Calls Tryd.prog 16 #[.agg (pfRow s true k v)] w fun e w' => (∃ u, e = .returned u ∧ Own w' w.heap.size u (0 :: (k ++ v))) ∧ Fr (fun _ => False) w w' := by
  have s1 : (Tryd.prog.info? 35).map (·.size) = some (pfRow s true k v).size := by rw [pf_size hk hv]; kernel_rfl
  have B0 := heap_alloc_new w (.cells (pfRow s true k v) 35)
  have F0 := (Fr.refl (fun _ => False) w).alloc (.cells (pfRow s true k v) 35)
  have P0 := Pb.of B0 hk
  have HL := Lib.hid (And.intro hk hv)
  have HA := Lib.hid (P0.came hk hv).1
  have HB := Lib.hid (P0.came hk hv).2
  have c1 := P0.c1
  have HF := Lib.hid F0
  clear B0 F0 P0 hk hv
  go_enter Tryd.func16, Tryd.ntmps16
  go_wp2_with fail
  clear c1
  generalize (w.alloc (.cells (pfRow s true k v) 35)) = w3 at *
  refine Ks.wp_region_mono (fun _ => False) (sg 1 6 ++ ((0, true) :: ((7, true) :: ((8, true) :: (sg 9 1 ++ ([])))))) (by kernel_rfl) (by kernel_rfl) ?_
  refine Ks.Wk.seg 1 6 (by kernel_rfl) (by kernel_rfl) ?_
  apply Exists.intro
  refine ⟨?wk0, ?fin0⟩
  case wk0 =>
    intro γ
    simp only [List.drop_succ_cons, List.drop_zero, List.take_succ_cons, List.take_zero]
    repeat (any_goals (first | go_big_quiet_step (fail) | quiet_step (fail)))
    exact wpQuiet_nil rfl
  case fin0 =>
  (try simp only [Act.put, List.setIfInBounds_toArray, List.set_cons_zero, List.set_cons_succ])
  refine Ks.Wk.one rfl (fun w4 Xw4 => ?_)
  refine wpList_buildSlice rfl 39 1 _ rfl #[(0, .int .u8 0)] (by first | kernel_rfl | rfl | simp [Act.eval]) (mkB 0 w4) ⟨rfl, Ks.Es.of ((Fr.refl _ w4).alloc _), ?_⟩
  (try simp only [List.getElem_toArray, List.getElem_cons_succ, List.getElem_cons_zero, Act.put, List.setIfInBounds_toArray, List.set_cons_zero, List.set_cons_succ])
  have B1 := heap_alloc_new w4 (.cells #[.int .u8 0] 5)
  have X4 : Fr (fun _ => False) w3 (w4.alloc (.cells #[.int .u8 0] 5)) := Xw4.alloc _
  refine Ks.Wk.one rfl (fun w5 Xw5 => ?_)
  refine wpList_buildSlice rfl 30 3 _ rfl #[(0, .slice (some ⟨w4.heap.size, 0, none⟩) 1 1), (1, .slice (some ⟨w.heap.size, 2, none⟩) 32 32), (2, .slice (some ⟨w.heap.size, 34, none⟩) 32 32)] (by first | kernel_rfl | rfl | simp [Act.eval]) (mkP3 _ _ _ _ _ _ _ _ _ w5) ⟨rfl, Ks.Es.of ((Fr.refl _ w5).alloc _), ?_⟩
  (try simp only [List.getElem_toArray, List.getElem_cons_succ, List.getElem_cons_zero, Act.put, List.setIfInBounds_toArray, List.set_cons_zero, List.set_cons_succ])
  have F5 := (Fr.refl (fun _ => False) w5).alloc (.cells #[.slice (some ⟨w4.heap.size, 0, none⟩) 1 1, .slice (some ⟨w.heap.size, 2, none⟩) 32 32, .slice (some ⟨w.heap.size, 34, none⟩) 32 32] 39)
  have B2 := heap_alloc_new w5 (.cells #[.slice (some ⟨w4.heap.size, 0, none⟩) 1 1, .slice (some ⟨w.heap.size, 2, none⟩) 32 32, .slice (some ⟨w.heap.size, 34, none⟩) 32 32] 39)
  have X5 : Fr (fun _ => False) w3 (w5.alloc (.cells #[.slice (some ⟨w4.heap.size, 0, none⟩) 1 1, .slice (some ⟨w.heap.size, 2, none⟩) 32 32, .slice (some ⟨w.heap.size, 34, none⟩) 32 32] 39)) := (X4.trans Xw5 (fun _ h => h.elim)).trans F5 (fun _ h => h.elim)
  have C1 : Came (w5.alloc (.cells #[.slice (some ⟨w4.heap.size, 0, none⟩) 1 1, .slice (some ⟨w.heap.size, 2, none⟩) 32 32, .slice (some ⟨w.heap.size, 34, none⟩) 32 32] 39)) (some ⟨w4.heap.size, 0, none⟩) 1 1 [0] := ((came_cells (l := [0]) B1 rfl (by simp)).ext Xw5).ext F5
  have C2 := HA.out.ext X5
  have C3 := HB.out.ext X5
  have P3 := parts3g B2 C1 C2 C3
  have HS5 := Lib.hid (Nat.le_trans HF.out.size X5.size)
  generalize (w5.alloc (.cells #[.slice (some ⟨w4.heap.size, 0, none⟩) 1 1, .slice (some ⟨w.heap.size, 2, none⟩) 32 32, .slice (some ⟨w.heap.size, 34, none⟩) 32 32] 39)) = v5 at *
  refine Ks.Wk.call rfl (by kernel_rfl) 27 #[.slice (some ⟨w5.heap.size, 0, none⟩) 3 3] (fun W => by first | kernel_rfl | rfl) (fun vv W => Own W w.heap.size vv (0 :: (k ++ v))) (fun W hx => (concat_any _ [[0], k, v] 3 3 W (P3.grow hx) rfl (by omega) (by simp) (by have := HL.out.1; have := HL.out.2; simp; omega)).mono (fun e W' he => by obtain ⟨a1, c1, e1, ho, hf⟩ := he; exact ⟨_, e1, hf, by have := ho.up (Nat.le_trans HS5.out hx.size); simpa using this⟩)) ?_
  rintro vv w6 X6 hO6
  (try simp only [List.getElem_toArray, List.getElem_cons_succ, List.getElem_cons_zero, Act.put, List.setIfInBounds_toArray, List.set_cons_zero, List.set_cons_succ])
  have HO6 := Lib.hid hO6
  clear hO6
  refine Ks.Wk.seg 9 1 (by kernel_rfl) (by kernel_rfl) ?_
  apply Exists.intro
  refine ⟨?wk4, ?fin4⟩
  case wk4 =>
    intro γ
    simp only [List.drop_succ_cons, List.drop_zero, List.take_succ_cons, List.take_zero]
    repeat (any_goals (first | go_big_quiet_step (fail) | quiet_step (fail)))
    exact wpQuiet_nil rfl
  case fin4 =>
  (try simp only [Act.put, List.setIfInBounds_toArray, List.set_cons_zero, List.set_cons_succ])
  intro w9 X9
  have HO := Lib.hid (HO6.out.ext X9)
  have HX := Lib.hid (HF.out.trans ((X5.trans X6 (fun _ h => h.elim)).trans X9 (fun _ h => h.elim)) (fun _ h => h.elim))
  clear X9 X6 X5 P3 C1 C2 C3 B2 F5 X4 B1 Xw4 Xw5
  go_wp2_with fail
  go_ret
  exact ⟨⟨_, rfl, HO.out⟩, HX.out⟩
set_option maxRecDepth 100000 in
set_option maxHeartbeats 6400000 in
theorem end_none (s : Value) (k v : List UInt8) (hk : k.length = 32) (hv : v.length = 32) (w : World) :
    Calls Tryd.prog 16 #[.agg (pfRow s false k v)] w fun e w' => (∃ u, e = .returned u ∧ Own w' w.heap.size u [2]) ∧ Fr (fun _ => False) w w' := by
  have s1 : (Tryd.prog.info? 35).map (·.size) = some (pfRow s false k v).size := by rw [pf_size hk hv]; kernel_rfl
  have B0 := heap_alloc_new w (.cells (pfRow s false k v) 35)
  have F0 := (Fr.refl (fun _ => False) w).alloc (.cells (pfRow s false k v) 35)
  have P0 := Pb.of B0 hk
  have c1 := P0.c1
  have HF := Lib.hid F0
  clear B0 F0 P0 hk hv
  go_enter Tryd.func16, Tryd.ntmps16
  go_wp2_with fail
  have hsz : (w.alloc (.cells (pfRow s false k v) 35)).heap.size = w.heap.size + 1 := by simp
  have B1 := heap_alloc_new (w.alloc (.cells (pfRow s false k v) 35)) (.cells #[.int .u8 2] 5)
  rw [hsz] at B1
  have HO := Lib.hid (show Own ((w.alloc (.cells (pfRow s false k v) 35)).alloc (.cells #[.int .u8 2] 5)) w.heap.size (.slice (some ⟨w.heap.size + 1, 0, none⟩) 1 1) [2] from own_cells (n := 1) (l := [2]) B1 (by omega) rfl (by decide))
  have HX := Lib.hid (HF.out.alloc (.cells #[.int .u8 2] 5))
  clear B1
  go_ret
  exact ⟨⟨_, rfl, HO.out⟩, HX.out⟩
set_option maxRecDepth 100000 in
theorem end_any (s : Value) (th : Bool) (k v : List UInt8) (hk : k.length = 32) (hv : v.length = 32) (w : World) :
    Calls Tryd.prog 16 #[.agg (pfRow s th k v)] w fun e w' => (∃ u, e = .returned u ∧ Own w' w.heap.size u (Pf.en th k v)) ∧ Fr (fun _ => False) w w' := by
  cases th
  · exact end_none s k v hk hv w
  · exact end_there s k v hk hv w
end Go.Proofs.YtndakfanlgilmaaDoor
namespace Go.Proofs.YtndakfanlgilmaaDoor
open Go.RowKit
set_option linter.unusedVariables false
section
variable {l₀ n : Nat} {P : Program} {ops : Array Oper} {Q : Exit → Act → World → Prop}
set_option maxRecDepth 100000 in
theorem Oper.wpIn_round {o : Oper} {a : Act} {w : World} {K : Act → World → Prop} {R : Exit → Act → World → Prop} (hR : ∀ e a w, R e a w → e = .normal) (hd : ∀ c, o.op ≠ .defer c) (h : o.wp P a w K R) : o.wpIn (Fence.wide.inRound l₀) n P a w K Q := by
  refine ⟨fun _ _ => trivial, ?_⟩
  rw [Oper.semAt_eq _ _ _ hd]
  unfold Oper.wp at h
  generalize (execOp a.eval o).run P w = r at *
  cases r with
  | ok x w' =>
    cases x with
    | value v => exact h
    | skip => exact h
    | defer d => exact h
    | enter f args =>
      refine ⟨fun h => (by cases h), CallsIn.inRound l₀ ((callsIn_wide.2 h).mono fun e w'' he => ?_)⟩
      cases e with
      | returned v => exact he
      | panicked c => have := hR _ _ _ he; cases this
      | outgrown => obtain ⟨a1, w1, h1⟩ := he; have := hR _ _ _ h1; cases this
    | row row args =>
      refine ⟨fun h => (by cases h), fun c cs _ => ?_⟩
      obtain ⟨v, w1, r, s⟩ := h c cs
      exact ⟨v, w1, r, stepsIn_wide.2 s⟩
    | _ => exact h.elim
  | halt x w' =>
    cases x <;> first | exact h.elim | (have := hR _ _ _ h; cases this)
set_option maxRecDepth 100000 in
theorem wpListIn_round {R : Exit → Act → World → Prop} (hR : ∀ e a w, R e a w → e = .normal ∧ Q .normal a w) : ∀ (l : List Oper) (a : Act) (w : World), (∀ o ∈ l, ∀ c, o.op ≠ .defer c) → wpList P ops R l a w → wpListIn (Fence.wide.inRound l₀) n P ops Q l a w
  | [], a, w, _, h => (hR _ _ _ h).2
  | o :: rest, a, w, hd, h => by
    unfold wpList at h
    unfold wpListIn
    split
    · rename_i hw
      simp only [hw, if_true] at h
      rcases h with h | ⟨_, a1, w1, h1⟩
      · exact Go.Oper.wpIn_mono (fun a w h => wpListIn_round hR rest a w (fun o ho => hd o (List.mem_cons_of_mem _ ho)) h) (Oper.wpIn_round (fun e a w h => (hR e a w h).1) (hd o List.mem_cons_self) h)
      · have := (hR _ _ _ h1).1; cases this
    · rename_i hw
      simp only [hw] at h
      exact ⟨fun _ _ => trivial, wpListIn_round hR rest _ w (fun o ho => hd o (List.mem_cons_of_mem _ ho)) h⟩
def noDefer (l : List Oper) : Bool := l.all fun o => match o.op with | .defer _ => false | _ => true
set_option maxRecDepth 100000 in
theorem noDefer_spec {l : List Oper} (h : noDefer l = true) : ∀ o ∈ l, ∀ c, o.op ≠ .defer c := fun o ho c e => by
  have := List.all_eq_true.1 h o ho
  rw [e] at this
  cases this
set_option maxRecDepth 100000 in
/-- A plain region in a round. -/
theorem wpIn_region_round {id : Nat} {l : List Oper} {a : Act} {w : World} (hd : noDefer l = true) (h : wpList P l.toArray (fun e a w => e = .normal ∧ Q .normal a w) l a w) : (Code.region id l.toArray false).wpIn (Fence.wide.inRound l₀) n P Q a w :=
  wpIn_region_lit (wpListIn_round (fun _ _ _ h => h) l a w (noDefer_spec hd) h)
set_option maxRecDepth 100000 in
theorem wpOpIn_round {i : Nat} {K : Act → World → Prop} {a : Act} {w : World} (hd : ∀ (i : Nat) (o : Oper) c, ops[i]? = some o → o.op ≠ .defer c) (h : wpOp P ops NQ i K a w) : wpOpIn (Fence.wide.inRound l₀) n P ops Q i K a w := by
  unfold wpOp at h
  unfold wpOpIn
  cases ho : ops[i]? with
  | none => simp only [ho] at h; exact h
  | some o =>
    simp only [ho] at h ⊢
    split
    · rename_i hw
      simp only [hw, if_true] at h
      rcases h with h | ⟨_, a1, w1, h1⟩
      · exact Oper.wpIn_round (fun e a w h => h.elim) (fun c => hd i o c ho) h
      · exact h1.elim
    · rename_i hw
      simp only [hw] at h
      exact ⟨fun _ _ => trivial, h⟩
set_option maxRecDepth 100000 in
theorem Ks.wpAnyIn_of_M {md : Region.Mode} {S : Nat → Prop} {Q0 : Act → World → Prop} (hd : ∀ (i : Nat) (o : Oper) c, ops[i]? = some o → o.op ≠ .defer c) (hQ : ∀ a w, Q0 a w → Q .normal a w) : ∀ (fuel : Nat) (listed : Array Bool) (a : Act) (w : World), Ks.wpM S P md ops Q0 fuel listed a w → wpAnyIn (Fence.wide.inRound l₀) n P md ops Q fuel listed a w
  | 0, _, _, w, h => ⟨h.1, hQ _ _ (h.2 w (Fr.refl _ w))⟩
  | fuel + 1, _, _, w, h => ⟨fun h0 => hQ _ _ (h.1 h0 w (Fr.refl _ w)), fun i hi => wpOpIn_mono (fun a'' w'' h => Ks.wpAnyIn_of_M hd hQ fuel _ a'' w'' h.2) (wpOpIn_round hd (h.2 i hi w (Fr.refl _ w)))⟩
set_option maxRecDepth 100000 in
/-- A drawn region in a round. -/
theorem Ks.wpIn_region_mono (S : Nat → Prop) {id : Nat} {a : Act} {W0 : World} {l : List Oper} (π : List (Nat × Bool)) (hm : P.follows .mixedOrders = true)
    (hB : (Region.noSelect l.toArray && noDefer l && (π.length == l.length) && okB .any l.toArray π (Array.replicate l.length false)) = true)
    (h : Ks.Wk S P .any l.toArray (fun a w => Q .normal a w) π a W0) : (Code.region id l.toArray true).wpIn (Fence.wide.inRound l₀) n P Q a W0 := by
  simp only [Bool.and_eq_true, beq_iff_eq] at hB
  obtain ⟨⟨⟨h1, h2⟩, h3⟩, h4⟩ := hB
  refine wpIn_region_any hm ?_
  have := Ks.wpM.up _ _ _ _ _ ((Fr.refl (fun _ => False) W0).drew) (Ks.Wk.M h1 π _ a W0 h4 h)
  rw [h3] at this
  have h5 := Ks.wpAnyIn_of_M (l₀ := l₀) (n := n) (Q := Q) (fun i o c ho => noDefer_spec h2 o (by rw [List.getElem?_toArray] at ho; exact List.mem_of_getElem? ho) c) (fun _ _ h => h) _ _ _ _ this
  have hsz : l.toArray.size = l.length := by simp
  rw [hsz]
  exact h5
end
end Go.Proofs.YtndakfanlgilmaaDoor
namespace Go.Proofs.YtndakfanlgilmaaDoor
open Go.RowKit Go.Shelf
set_option linter.unusedVariables false
set_option linter.unusedSimpArgs false
attribute [local go_sem] Oper.semAt_some
abbrev Er := Nat × List UInt8
/-- Of whatever bytes 32. -/
def nrm (l : List UInt8) : List UInt8 := if l.length = 32 then l else List.replicate 32 0
set_option maxRecDepth 100000 in
theorem nrm_len (l : List UInt8) : (nrm l).length = 32 := by unfold nrm; split <;> simp_all
set_option maxRecDepth 100000 in
theorem nrm_id {l : List UInt8} (h : l.length = 32) : nrm l = l := if_pos h
/-- What has come when k rounds are over. -/
def br (S : List (List UInt8)) (k : Nat) : List Er := (List.range k).map fun j => (S.length - 1 - j, S.getD (S.length - 1 - j) [])
set_option maxRecDepth 100000 in
theorem br_succ (S : List (List UInt8)) (k : Nat) : br S (k + 1) = br S k ++ [(S.length - 1 - k, S.getD (S.length - 1 - k) [])] := by simp [br, List.range_succ]
set_option maxRecDepth 100000 in
theorem br_len (S : List (List UInt8)) (k : Nat) : (br S k).length = k := by simp [br]
/-- What a round keeps: the box of what is gone over, and what it shows. -/
def KP (Bs : Nat) (a : Option Addr) (W W' : World) : Prop := Fr (fun k => ¬ (k = Bs ∨ inBlk a k)) W W'
set_option maxRecDepth 100000 in
theorem KP.t {Bs : Nat} {a : Option Addr} {X Y Z : World} (h : KP Bs a X Y) (k : KP Bs a Y Z) : KP Bs a X Z := Fr.trans h k (fun _ hi => .inl hi)
set_option maxRecDepth 100000 in
theorem KP.put {Bs m : Nat} {a : Option Addr} (hB : Bs < m) (ha : ∀ k, inBlk a k → k < m) (W : World) (l : Nat) (o o' : Obj) (hl : m ≤ l) (h : W.heap[l]? = some o) (_ : o.isCells = false) (_ : o.isWalk = false) : KP Bs a W (W.putObj l o') :=
  (Fr.ofGrown (grownBy_putObj' W l o')).mono (fun k _ e hk => by
    cases e
    rcases hk with rfl | hk
    · omega
    · have := ha _ hk; omega)
set_option maxRecDepth 100000 in
theorem wpListIn_load_cells {F : Fence} {nF : Nat} {P : Program} {ops : Array Oper} {rest : List Oper} {o : Oper} {a : Act} {w : World} {Q : Exit → Act → World → Prop} (hgd : o.guard = none) (ty : TypeId) (x : Operand) (ho : o.op = .load ty x) (g q : Nat) (hx : a.eval x = .pointer (some ⟨g, q, none⟩)) (R : Array Value) (m : Nat)
    (d : TypeDesc) (hu : P.underlying ty = some d) (hd : d.isRow = true) (hty : (P.info? ty).map (·.size) = some m) (hc : ∀ (i : Nat) (u : Value), R[i]? = some u → w.cell? ⟨g, q + i, none⟩ = some u) (hm : R.size = m)
    (h : wpListIn F nF P ops Q rest (a.put o.dst (.agg R)) w) : wpListIn F nF P ops Q (o :: rest) a w := by
  have hr := run_loadVar_mid (P := P) w g q ty R.toList d (fun j u hj => hc j u (by rw [← hj, Array.getElem?_toList])) hu hd (by rw [hty, Array.length_toList, hm])
  rw [Array.toArray_toList] at hr
  refine wpListIn_plain hgd fun K hK => ?_
  unfold Oper.wpIn
  refine ⟨by simp [Oper.about, ho], ?_⟩
  rw [Oper.semAt_plain F _ _ (by rw [ho]; intro c hc'; cases hc')]
  simp only [execOp, ho, hx, Instr.loadAt, Instr.sureAddr, Sem.run_bind, Sem.run_pure, Result.andThen_ok, hr]
  exact hK _ _ h
set_option maxRecDepth 100000 in
set_option maxHeartbeats 6400000 in
theorem back1_any (F : Fence) (n : Nat) (h7 : F.fn 28) (hro : F.round = none) (hn : 1 ≤ n) (l Bs len cap : Nat) (a : Option Addr) (S : List (List UInt8)) (hL : S.length = len) (hlc : len ≤ cap) (hcm : cap ≤ maxLen) (J Jx : List Er → World → Prop)
    (hY : ∀ pre x W, J pre W → pre.length < len → YieldAt F (n - 1) Tryd.prog l #[.int .i64 ((x : Er).1 : Int), .agg (krow (nrm x.2))] W fun e W' =>
      (e = .returned (.bool true) ∧ J (pre ++ [x]) W' ∧ KP Bs a W W') ∨ (e = .returned (.bool false) ∧ Jx (pre ++ [x]) W'))
    (W : World) (hBs : W.cell? ⟨Bs, 0, none⟩ = some (.slice a len cap)) (hK : Kv W a S) (h0 : J [] W) :
    CallsIn F n Tryd.prog 28 #[.func (.yield l) #[] #[], .pointer (some ⟨Bs, 0, none⟩)] W fun e W' => (∃ v, e = .returned v) ∧
      ((∃ ys, ys = br S len ∧ J ys W') ∨ (∃ pre, (∃ k, k ≤ len ∧ pre = br S k) ∧ Jx pre W')) := by
  have kc : ∀ wr : World, KP Bs a W wr → wr.cell? ⟨Bs, 0, none⟩ = some (.slice a len cap) ∧ Kv wr a S := fun wr h =>
    ⟨Fr.cellSome (p := ⟨Bs, 0, none⟩) h (fun hn => hn (.inl rfl)) hBs, hK.fr h (fun k hk hn => hn (.inr hk))⟩
  have HKC := Lib.hid kc
  have w0 : wrap64 ((len : Int) - 1) = (len : Int) - 1 := IntWalk.wrap64_in _ (by simp only [maxLen] at hcm; omega)
  have hlm2 : len ≤ 9223372036854775807 := by simp only [maxLen] at hcm; omega
  clear kc hK hcm
  refine callsIn_of_wp Tryd.func28 rfl h7 ?_ hro
  simp only [Tryd.ntmps28, List.size_toArray, List.length_cons, List.length_nil, Nat.reduceAdd, Nat.reduceSub, Array.replicate_succ, Array.replicate_zero, List.push_toArray, List.append_toArray, List.nil_append, List.cons_append]
  gi_wp2
  gi_loopw [3] (fun i wr => ∃ k : Nat, k ≤ len ∧ i = .int .i64 ((len : Int) - 1 - (k : Int)) ∧ J (br S k) wr ∧ KP Bs a W wr)
    (fun i _ => (intOf i + 1).toNat)
  case atStart => exact ⟨0, Nat.zero_le _, by simp [w0], h0, Fr.refl _ _⟩
  case round =>
    obtain ⟨k, hk, rfl, hJs, hnx⟩ := hrel
    clear w0
    obtain ⟨hs, hK2⟩ := HKC.out wr hnx
    by_cases hlt : k < len
    · obtain ⟨j, hj⟩ : ∃ j : Nat, j = len - 1 - k := ⟨_, rfl⟩
      have hji : (len : Int) - 1 - (k : Int) = (j : Int) := by omega
      rw [hji]
      obtain ⟨x, hx⟩ : ∃ x, S[j]? = some x := ⟨_, List.getElem?_eq_getElem (by omega)⟩
      obtain ⟨fn, tmps, assign, body, hy, hR⟩ := hY _ (j, x) wr hJs (by rw [br_len]; exact hlt)
      have hx32 := hK2.all x (List.mem_of_getElem? hx)
      obtain ⟨g, off, rfl⟩ := hK2.at (by omega)
      have hcl := hK2.cells hx
      have q0 : (0 : Int) ≤ (j : Int) := Int.natCast_nonneg j
      have q1 : (j : Int) < (len : Int) := by omega
      have w2 : wrap64 ((j : Int) - 1) = (j : Int) - 1 := IntWalk.wrap64_in _ (by omega)
      have HX := Lib.hid (show br S (k + 1) = br S k ++ [(j, x)] from by rw [br_succ, hL, ← hj, List.getD_eq_getElem?_getD, hx]; rfl)
      have HCL := Lib.hid hcl
      have HX32 := Lib.hid (show (krow x).size = 32 by rw [krow_size, hx32])
      dsimp only at hy
      rw [nrm_id hx32] at hy
      have HJ := Lib.hid hj
      clear hji hcl hj hK2 hx32 hx
      gi_wp2_with (refine wpListIn_load_cells rfl 22 (.tmp 15) rfl g (off + j * 32) rfl (krow x) 32 _ Tryd.underlying22 rfl sz32 HCL.out HX32.out ?_)
      refine hR.mono ?_
      rintro e W3 (⟨rfl, hJ3, hk3⟩ | ⟨rfl, hJx3⟩)
      · gi_wp2
        go_roundw
        case rel =>
          have hJ := HJ.out
          have e : (j : Int) - 1 = (len : Int) - 1 - ((k + 1 : Nat) : Int) := by omega
          refine ⟨k + 1, by omega, ?_, by rw [HX.out]; exact hJ3, hnx.t hk3⟩
          first
            | rw [w2, e]
            | rw [e]
        case measure =>
          have hJ := HJ.out
          have e1 : intOf (Value.int .i64 ((j : Int) - 1)) = (j : Int) - 1 := rfl
          have e2 : intOf (Value.int .i64 (j : Int)) = (j : Int) := rfl
          first
            | (rw [w2, e1, e2]; omega)
            | (rw [e1, e2]; omega)
      · gi_wp2
        refine bodyPost_ret (results_none rfl _ _ _) rfl ?_
        exact ⟨⟨_, rfl⟩, .inr ⟨_, ⟨k + 1, by omega, HX.out.symm⟩, hJx3⟩⟩
    · obtain rfl : k = len := by omega
      have hm : (k : Int) - 1 - (k : Int) = -1 := by omega
      rw [hm]
      gi_wp2
      go_end0
      exact ⟨⟨_, rfl⟩, .inl ⟨_, rfl, hJs⟩⟩
set_option maxRecDepth 100000 in
set_option maxHeartbeats 6400000 in
theorem back_any (F : Fence) (n : Nat) (h5 : F.fn 17) (hro : F.round = none) (a : Option Addr) (len cap : Nat) (w : World) :
    CallsIn F n Tryd.prog 17 #[.slice a len cap] w fun e w' => e = .returned (.func (.func 28) #[] #[.pointer (some ⟨w.heap.size, 0, none⟩)]) ∧ w' = w.alloc (.cells #[.slice a len cap] 24) := by
  refine callsIn_of_wp Tryd.func17 rfl h5 ?_ hro
  simp only [Tryd.ntmps17, List.size_toArray, List.length_cons, List.length_nil, Nat.reduceAdd, Nat.reduceSub, Array.replicate_succ, Array.replicate_zero, List.push_toArray, List.append_toArray, List.nil_append, List.cons_append]
  gi_wp2
  go_ret
  exact ⟨rfl, rfl⟩
set_option maxRecDepth 100000 in
theorem back32_stops (F : Fence) (n : Nat) (h7 : F.fn 28) (hro : F.round = none) (hn : 1 ≤ n) (Bs len cap : Nat) (a : Option Addr) (S : List (List UInt8)) (hL : S.length = len) (hlc : len ≤ cap) (hcm : cap ≤ maxLen) (w : World) (hBs : Bs < w.heap.size) (ha : ∀ k, inBlk a k → k < w.heap.size)
    (hc : w.cell? ⟨Bs, 0, none⟩ = some (.slice a len cap)) (hI : Kv w a S) :
    SeqStopsK F n Tryd.prog 28 #[.pointer (some ⟨Bs, 0, none⟩)] (fun x : Er => #[Value.int .i64 (x.1 : Int), Value.agg (krow (nrm x.2))]) (KP Bs a) (fun ys => ys = br S len) (fun pre => ∃ k, k ≤ len ∧ pre = br S k) len w := fun l J Jx W hW _ _ hY h0 => by
  have hF : Fr (fun k => w.heap.size ≤ k) w W := ⟨hW.os, hW.tape, hW.output, hW.size, fun k hk hs => hW.block k (by omega)⟩
  exact back1_any F n h7 hro hn l Bs len cap a S hL hlc hcm J Jx hY W (hF.cellSome (p := ⟨Bs, 0, none⟩) (by show ¬ _ ≤ Bs; omega) hc) (hI.fr hF (fun k hk hs => by have := ha k hk; omega)) h0
end Go.Proofs.YtndakfanlgilmaaDoor
namespace Go.Proofs.YtndakfanlgilmaaDoor
open Go.RowKit
set_option linter.unusedVariables false
section
variable {l₀ n : Nat} {P : Program} {ops : Array Oper} {Q : Exit → Act → World → Prop}
set_option maxRecDepth 100000 in
/-- One operation of a round, by a law of the plain walk. -/
theorem wpListIn_one {o : Oper} {rest : List Oper} {a : Act} {w : World} (hd : ∀ c, o.op ≠ .defer c) (h : wpList P ops (fun e a w => e = .normal ∧ wpListIn (Fence.wide.inRound l₀) n P ops Q rest a w) [o] a w) : wpListIn (Fence.wide.inRound l₀) n P ops Q (o :: rest) a w := by
  unfold wpList at h
  unfold wpListIn
  split
  · rename_i hw
    simp only [hw, if_true] at h
    rcases h with h | ⟨_, a1, w1, h1⟩
    · exact Go.Oper.wpIn_mono (fun a w h => (show Exit.normal = Exit.normal ∧ _ from h).2) (Oper.wpIn_round (fun e a w h => h.1) hd h)
    · have := h1.1; cases this
  · rename_i hw
    simp only [hw] at h
    exact ⟨fun _ _ => trivial, (show Exit.normal = Exit.normal ∧ _ from h).2⟩
set_option maxRecDepth 100000 in
theorem Kj.wpAnyIn_of_M {md : Region.Mode} {S : Nat → Nat → Prop} {Q0 : Act → World → Prop} (hd : ∀ (i : Nat) (o : Oper) c, ops[i]? = some o → o.op ≠ .defer c) (hQ : ∀ a w, Q0 a w → Q .normal a w) : ∀ (fuel : Nat) (listed : Array Bool) (a : Act) (w : World), Kj.wpM S P md ops Q0 fuel listed a w → wpAnyIn (Fence.wide.inRound l₀) n P md ops Q fuel listed a w
  | 0, _, _, w, h => ⟨h.1, hQ _ _ (h.2 w (Fr.refl _ w))⟩
  | fuel + 1, _, _, w, h => ⟨fun h0 => hQ _ _ (h.1 h0 w (Fr.refl _ w)), fun i hi => wpOpIn_mono (fun a'' w'' h => Kj.wpAnyIn_of_M hd hQ fuel _ a'' w'' h.2) (wpOpIn_round hd (h.2 i hi w (Fr.refl _ w)))⟩
set_option maxRecDepth 100000 in
/-- A drawn region in a round, each operation with blocks of its own. -/
theorem Kj.wpIn_region_mono (S : Nat → Nat → Prop) {id : Nat} {a : Act} {W0 : World} {l : List Oper} (π : List (Nat × Bool)) (hm : P.follows .mixedOrders = true)
    (hB : (Region.noSelect l.toArray && noDefer l && (π.length == l.length) && Kj.okZ .any l.toArray π (Array.replicate l.length false)) = true)
    (h : Kj.Wk S P .any l.toArray (fun a w => Q .normal a w) π a W0) : (Code.region id l.toArray true).wpIn (Fence.wide.inRound l₀) n P Q a W0 := by
  simp only [Bool.and_eq_true, beq_iff_eq] at hB
  obtain ⟨⟨⟨h1, h2⟩, h3⟩, h4⟩ := hB
  refine wpIn_region_any hm ?_
  have := Kj.wpM.up _ _ _ _ _ ((Fr.refl (fun _ => False) W0).drew) (Kj.Wk.M h1 π _ a W0 h4 h)
  rw [h3] at this
  have h5 := Kj.wpAnyIn_of_M (l₀ := l₀) (n := n) (Q := Q) (fun i o c ho => noDefer_spec h2 o (by rw [List.getElem?_toArray] at ho; exact List.mem_of_getElem? ho) c) (fun _ _ h => h) _ _ _ _ this
  have hsz : l.toArray.size = l.length := by simp
  rw [hsz]
  exact h5
end
set_option maxRecDepth 100000 in
theorem wpList_store_seg {P : Program} {ops : Array Oper} {rest : List Oper} {o : Oper} {a : Act} {w : World} {Q : Exit → Act → World → Prop} (hgd : o.guard = none) (ty : TypeId) (x y : Operand) (ho : o.op = .store ty x y)
    (g off : Nat) (R : Array Value) (hx : a.eval x = .pointer (some ⟨g, off, none⟩)) (hy : a.eval y = .agg R) (h1 : R.all (·.oneCell') = true) (hi : (P.info? ty).map (·.size) = some R.size)
    (t : TypeId) (cs : Array Value) (hg : w.heap[g]? = some (.cells cs t (0, 0))) (hoff : off + R.size ≤ cs.size)
    (h : ∀ w2 : World, w2.heap[g]? = some (.cells (cs.toList.take off ++ R.toList ++ cs.toList.drop (off + R.size)).toArray t (0, 0)) → Fr (fun i => i = g) w w2 → wpList P ops Q rest (a.put o.dst undef) w2) : wpList P ops Q (o :: rest) a w := by
  refine wpList_plain hgd fun _ hK => ?_
  have hst := run_storeCells_at P g off t R.toList 0 cs w hg (by simp; omega) (fun u hu => by
    rw [Array.all_eq_true_iff_forall_mem] at h1
    exact h1 u (by simpa using hu))
  have key := h _ (setRow_heap w g cs _ t (0, 0) hg) (Fr.setRow' (S := fun i => i = g) (Fr.refl _ w) rfl _)
  simp only [Nat.add_zero, Array.length_toList] at hst
  cases hq : P.info? ty with
  | none => simp [hq] at hi
  | some i =>
    have hs : R.size = i.size := by simp [hq] at hi; omega
    unfold Oper.wp execOp
    simp only [ho, hx, hy, Instr.storeAt, Instr.sureAddr, Sem.run_bind, Sem.run_pure, Result.andThen_ok]
    have hrun : (storeVar ty ⟨g, off, none⟩ (.agg R)).run P w = .ok () (w.setRow g (cs.toList.take off ++ R.toList ++ cs.toList.drop (off + R.size)).toArray) := by
      simp [storeVar, sizeOf, typeInfo, hq, Value.cells, ← hs]
      simpa using hst
    rw [hrun]
    exact hK _ _ key
set_option maxRecDepth 100000 in
theorem wpList_store_one {P : Program} {ops : Array Oper} {rest : List Oper} {o : Oper} {a : Act} {w : World} {Q : Exit → Act → World → Prop} (hgd : o.guard = none) (ty : TypeId) (x y : Operand) (ho : o.op = .store ty x y)
    (g off : Nat) (v : Value) (hx : a.eval x = .pointer (some ⟨g, off, none⟩)) (hy : a.eval y = v) (hc : v.cells = #[v]) (h1 : v.oneCell' = true) (hi : (P.info? ty).map (·.size) = some 1)
    (t : TypeId) (cs : Array Value) (hg : w.heap[g]? = some (.cells cs t (0, 0))) (hoff : off < cs.size)
    (h : ∀ w2 : World, w2.heap[g]? = some (.cells (cs.setIfInBounds off v) t (0, 0)) → Fr (fun i => i = g) w w2 → wpList P ops Q rest (a.put o.dst undef) w2) : wpList P ops Q (o :: rest) a w := by
  refine wpList_plain hgd fun _ hK => ?_
  have hst := run_storeCells_at P g off t [v] 0 cs w hg (by simp; omega) (fun u hu => by rw [List.mem_singleton.1 hu]; exact h1)
  have e : (cs.toList.take off ++ [v] ++ cs.toList.drop (off + 1)).toArray = cs.setIfInBounds off v := by
    apply Array.ext'
    rw [Array.toList_setIfInBounds, List.set_eq_take_append_cons_drop, if_pos (by simpa using hoff)]
    simp
  have key := h _ (setRow_heap w g cs (cs.setIfInBounds off v) t (0, 0) hg) (Fr.setRow' (S := fun i => i = g) (Fr.refl _ w) rfl _)
  simp only [Nat.add_zero, List.length_singleton] at hst
  rw [e] at hst
  cases hq : P.info? ty with
  | none => simp [hq] at hi
  | some i =>
    have hs : 1 = i.size := by simp [hq] at hi; omega
    unfold Oper.wp execOp
    simp only [ho, hx, hy, Instr.storeAt, Instr.sureAddr, Sem.run_bind, Sem.run_pure, Result.andThen_ok]
    have hrun : (storeVar ty ⟨g, off, none⟩ v).run P w = .ok () (w.setRow g (cs.setIfInBounds off v)) := by
      simp [storeVar, sizeOf, typeInfo, hq, hc, ← hs]
      simpa using hst
    rw [hrun]
    exact hK _ _ key
end Go.Proofs.YtndakfanlgilmaaDoor

/-
  The walk of CustumalMarks.
-/
import Derived.Test.YtbpblheaiancaaaDoorQK
import Derived.Test.YtbpblheaiancaaaDoorKw
import Derived.Test.YtbpblheaiancaaaDoorQJ
namespace Go.Proofs.YtbpblheaiancaaaDoor
open Go.RowKit
set_option linter.unusedVariables false
set_option linter.unusedSimpArgs false

set_option maxRecDepth 100000 in
theorem wpList_copy_key {ops : Array Oper} {rest : List Oper} {o : Oper} {a : Act} {w : World} {Q : Exit → Act → World → Prop} (hgd : o.guard = none) (d s : Operand)
    (ho : o.op = .call { callee := .builtin .copy, args := #[d, s], argTypes := #[23, 23] }) (g src : Nat) (kl : List UInt8) (hk : kl.length = 32) (hd : a.eval d = .slice (some ⟨g, 0, none⟩) 64 64) (hs : a.eval s = .slice (some ⟨src, 0, none⟩) 32 32)
    (hg : w.heap[g]? = some (.cells (ub 64 (fun _ => 0)) 5 (0, 0))) (hL : Lies w (some ⟨src, 0, none⟩) kl)
    (h : ∀ w', w'.heap[g]? = some (.cells (ub 64 (HM.blk kl)) 5 (0, 0)) → Fr (fun k => k = g) w w' → wpList Tryd.prog ops Q rest (a.put o.dst (goInt (bv kl).length)) w') : wpList Tryd.prog ops Q (o :: rest) a w := by
  have hb : HM.blk kl = fun j => kl.getD j 0 := by
    funext j
    unfold HM.blk HM.fill
    rw [if_neg (by omega)]
  refine wpList_copy_own hgd d s _ _ ho 5 Tryd.underlying23 Tryd.sizeB g 0 64 64 ⟨src, 0, none⟩ 32 32 hd hs (ub 64 (fun _ => 0)) 5 hg (bv kl) (by rw [bv_length, hk]; rfl) ?_ (by rw [bv_length, hk, ub_size]; omega) (bv_one _) ?_
  · intro j v hv
    have hlt : j < kl.length := by have := (List.getElem?_eq_some_iff.1 hv).1; simpa using this
    rcases hL with e | ⟨g2, o2, e, hc⟩
    · rw [e] at hk; simp at hk
    · cases e
      rw [addr_add, hc j hlt]
      rw [bv_get' _ j hlt] at hv
      exact hv
  · refine h _ ?_ (Fr.setRow (S := fun k => k = g) (Fr.refl _ _) rfl _)
    rw [hb, ← ub_splice kl (by omega)]
    exact setRow_heap _ _ _ _ _ _ hg

theorem two_set {w : World} {b1 b2 : Nat} {c1 c2 : Array Value} {t1 t2 : TypeId} (h1 : w.heap[b1]? = some (.cells c1 t1 (0, 0))) (h2 : w.heap[b2]? = some (.cells c2 t2 (0, 0))) (hne : b1 ≠ b2) (k : Nat) (v1 v2 : Value) :
    ((w.setCell ⟨b1, k, none⟩ v1).setCell ⟨b2, k, none⟩ v2).heap[b1]? = some (.cells (c1.setIfInBounds k v1) t1 (0, 0)) ∧ ((w.setCell ⟨b1, k, none⟩ v1).setCell ⟨b2, k, none⟩ v2).heap[b2]? = some (.cells (c2.setIfInBounds k v2) t2 (0, 0)) ∧
    Fr (fun j => j = b1 ∨ j = b2) w ((w.setCell ⟨b1, k, none⟩ v1).setCell ⟨b2, k, none⟩ v2) := by
  have e1 := block_setCell h1 k v1
  have F1 : Fr (fun j => j = b1) w (w.setCell ⟨b1, k, none⟩ v1) := (Fr.refl (fun j => j = b1) w).setCell (Or.inl rfl) v1
  have e2 := (F1.block b2 (lt_of_block h2) (fun e => hne e.symm)).trans h2
  have e3 := block_setCell e2 k v2
  have F2 : Fr (fun j => j = b2) (w.setCell ⟨b1, k, none⟩ v1) ((w.setCell ⟨b1, k, none⟩ v1).setCell ⟨b2, k, none⟩ v2) := (Fr.refl (fun j => j = b2) _).setCell (Or.inl rfl) v2
  exact ⟨(F2.block b1 (lt_of_block e1) hne).trans e1, e3, (Fr.mono F1 (fun i _ h => Or.inl h)).trans F2 (fun i h => Or.inl (Or.inr h))⟩

set_option maxRecDepth 100000 in
theorem sumc5_lies2 {w : World} {b : Nat} {l : List UInt8} {t : TypeId} {fr : Nat × Nat} (h : w.heap[b]? = some (.cells (sumc5 l) t fr)) : Lies w (some ⟨b, 0, none⟩) (S5.sum l) := by
  refine Or.inr ⟨b, 0, rfl, fun j hj => ?_⟩
  have hl : (S5.sum l).length = 64 := rfl
  rw [Nat.zero_add, cell_of_block h, show (sumc5 l)[j]? = some (.int .u8 (((S5.sum l).getD j 0).toNat : Int)) from ub_get 64 _ j (by omega), List.getD_eq_getElem?_getD, List.getElem?_eq_getElem hj]
  rfl

/-- What stands behind r of the bytes. -/
theorem Came.tail {w : World} {g q c r : Nat} {x : List UInt8} (h : Came w (some ⟨g, 0, none⟩) q c x) (hr : r ≤ q) : Came w (if c = r then some ⟨g, 0, none⟩ else some ⟨g, r, none⟩) (q - r) (c - r) (x.drop r) := by
  have h1 := h.len
  have h2 := h.le
  have h3 := h.mx
  refine ⟨by rw [List.length_drop]; omega, by omega, by omega, ?_, fun e => by split at e <;> cases e⟩
  split
  · exact Or.inl (List.drop_eq_nil_of_le (by omega))
  · have := h.lies.drop r
    rwa [Nat.zero_add] at this
set_option maxRecDepth 100000 in
set_option maxHeartbeats 6400000 in
theorem cmarks_any (f : Nat → UInt8) (a1 : Option Addr) (n1 c1 : Nat) (l1 : List UInt8) (z : Int) (w : World) (h1 : Came w a1 n1 c1 l1) (hz : IntKind.i64.wrap z = z) (hE : Env w) (hE5 : Env5 w) :
    Calls Tryd.prog 9 #[.agg (ub 32 f), .slice a1 n1 c1, .int .i64 z] w fun e w' => e = .returned (.bool true) ∧ Fr (fun _ => False) w w' := by
  have k1 : n1 ≤ 9223372036854775807 := by have := h1.le; have := h1.mx; unfold maxLen at this; omega
  have d1 := h1.le
  have d2 : (c1 : Int) ≤ 9223372036854775807 := by have := h1.mx; unfold maxLen at this; omega
  obtain ⟨q, hq⟩ : ∃ q, q = min n1 300 := ⟨_, rfl⟩
  have hq1 : (if (300 : Int) < (n1 : Int) then (300 : Int) else (n1 : Int)) = (q : Int) := by split <;> omega
  have hq2 : min (n1 : Int) 300 = (q : Int) := by omega
  have hq0 : (0 : Int) ≤ (q : Int) := by omega
  have hqc : (q : Int) ≤ (c1 : Int) := by omega
  have hq3 : q ≤ 300 := by omega
  have C1 := h1.cut q (by omega) (Fr.refl _ w)
  generalize l1.take q = x at C1
  have hxl := C1.len
  obtain ⟨u, hu⟩ := u64_nat z
  have hmk : ∀ w : World, (Instr.makeSlice 23 (.int .i64 64) (.int .i64 64)).run Tryd.prog w = .ok (.slice (some ⟨w.heap.size, 0, none⟩) 64 64) (w.alloc (.cells (ub 64 (fun _ => 0)) 5)) := fun _ => by kernel_rfl
  have HX := Lib.hid hxl
  have HU := Lib.hid hu
  have HZ := Lib.hid hz
  have Hmk := Lib.hid hmk
  clear hxl hu hz h1 hq hmk
  go_enter Tryd.func9, Tryd.ntmps9
  go_upto_region 3 with fail
  have B0 := heap_alloc2_old w (.cells (ub 32 f) 22) (.cells #[.slice none 0 0, .int .i64 0] 64)
  have h0 : Wr ((w.alloc (.cells (ub 32 f) 22)).alloc (.cells #[.slice none 0 0, .int .i64 0] 64)) (w.heap.size + 1) (w.heap.size + 1) (.slice none 0 0) [] 0 :=
    ⟨heap_alloc2_new w _ _, World.ownsRow_nil _ _ _ _, by simp⟩
  have F0 : Fr (fun _ => False) w ((w.alloc (.cells (ub 32 f) 22)).alloc (.cells #[.slice none 0 0, .int .i64 0] 64)) := ((Fr.refl _ w).alloc _).alloc _
  generalize (w.alloc (.cells (ub 32 f) 22)).alloc (.cells #[.slice none 0 0, .int .i64 0] 64) = W0 at *
  have hsrc : ∀ w2 : World, Fr (fun k => k = w.heap.size + 1 ∨ (Value.slice none 0 0).ownBlock = some k) W0 w2 → Src Tryd.prog 1 23 (.slice a1 q c1) q (bv x) w2 := fun w2 hF => by
    have := (C1.grow (F0.trans hF (fun i hi => Or.inr (by rcases hi with e | e; omega; cases e))) (fun _ _ h => h)).lies.src c1
    rwa [HX.out] at this
  go_wp2_with fail
  refine (text_ok (w.heap.size + 1) (w.heap.size + 1) (.slice none 0 0) 0 q c1 a1 [] (bv x) _ h0 hsrc (by omega) (by simp; omega)).mono ?_
  rintro e w1 ⟨rfl, v1, g1, G1, r1⟩
  have F1 : Fr (fun _ => False) w w1 := F0.trans G1 (fun i hi => Or.inr (by rcases hi with e | e; omega; cases e))
  have B1 : w1.heap[w.heap.size]? = some (.cells (ub 32 f) 22 (0, 0)) := (G1.block _ (lt_of_block B0) (by rintro (e | e); omega; cases e)).trans B0
  rw [List.nil_append, text_bytes q (by omega) x] at g1
  clear h0 B0 F0 G1 hsrc r1
  go_wp2_with fail
  refine (num_any (w.heap.size + 1) (w.heap.size + 1) v1 0 z _ _ g1 (by rw [bv_length]; have := HX.out; simp; omega)).mono ?_
  rintro e w2 ⟨rfl, v2, g2, G2, r2⟩
  rw [nbs_cells z u HU.out, ← bv_append] at g2
  have F2 : Fr (fun _ => False) w w2 := F1.trans G2 (fun i hi => Or.inr (by rcases hi with e | e; omega; have := (g1.row_lt _ e).1; omega))
  have B2 : w2.heap[w.heap.size]? = some (.cells (ub 32 f) 22 (0, 0)) := (G2.block _ (lt_of_block B1) (by rintro (e | e); omega; have := (g1.row_lt _ e).1; omega)).trans B1
  obtain ⟨b, hbb⟩ : ∃ b, b = hb q :: lb q :: x ++ nbs u := ⟨_, rfl⟩
  have hbl : b.length = q + 10 := by rw [hbb]; simp [nbs_length, HX.out]
  rw [← hbb] at g2
  have HBB := Lib.hid hbb
  clear F1 G2 r2 B1 g1 hbb
  go_wp2_with fail
  refine (bytes_any (w.heap.size + 1) (w.heap.size + 1) v2 0 _ _ g2 (bv_one _) (by rw [bv_length]; omega)).mono ?_
  rintro e w3 ⟨v3, rfl, own3, G3⟩
  obtain ⟨a3, c3, rfl, nil3⟩ := slice_of_own own3
  rw [bv_length, hbl] at own3 nil3 ⊢
  have HA3 := Lib.hid (show ∃ g3, a3 = some ⟨g3, 0, none⟩ by
    rcases own3.2 with ⟨e, h0⟩ | ⟨g, cap, cur, e, _⟩
    · omega
    · injection e with e1
      exact ⟨g, e1⟩)
  obtain ⟨e3, le3, mx3, L3⟩ := lies_own own3
  have F3 : Fr (fun _ => False) w w3 := F2.trans G3 (fun _ h => h.elim)
  have B3 : w3.heap[w.heap.size]? = some (.cells (ub 32 f) 22 (0, 0)) := (G3.block _ (lt_of_block B2) (fun h => h)).trans B2
  have C3 : Came w3 a3 (q + 10) c3 b := ⟨hbl, le3, mx3, L3, fun e => by have := nil3 e; omega⟩
  clear F2 G3 B2 g2 own3 e3 L3
  go_upto_region 6 with fail
  have hmk := Hmk.out
  go_cut [10, 11] from 36 to 37 (fun vi vo wx => ∃ bi bo, vi = .slice (some ⟨bi, 0, none⟩) 64 64 ∧ vo = .slice (some ⟨bo, 0, none⟩) 64 64 ∧ bi ≠ bo ∧ w3.heap.size ≤ bi ∧ w3.heap.size ≤ bo ∧ wx.heap[bi]? = some (.cells (ub 64 (fun _ => 0)) 5 (0, 0)) ∧ wx.heap[bo]? = some (.cells (ub 64 (fun _ => 0)) 5 (0, 0)) ∧ Fr (fun _ => False) w3 wx)
  case first =>
    go_region
    all_goals
      go_wp2_with fail
      go_meet
      first
        | exact ⟨_, _, rfl, rfl, by simp, by simp, by simp, heap_alloc2_old _ _ _, heap_alloc2_new _ _ _, ((Fr.refl _ w3).alloc _).alloc _⟩
        | exact ⟨_, _, rfl, rfl, by simp, by simp, by simp, heap_alloc2_new _ _ _, heap_alloc2_old _ _ _, ((Fr.refl _ w3).alloc _).alloc _⟩
        | exact ⟨_, _, rfl, rfl, by simp, by simp, by simp, heap_alloc2_old _ _ _, heap_alloc2_new _ _ _, (((Fr.refl _ w3).drew).alloc _).alloc _⟩
        | exact ⟨_, _, rfl, rfl, by simp, by simp, by simp, heap_alloc2_new _ _ _, heap_alloc2_old _ _ _, (((Fr.refl _ w3).drew).alloc _).alloc _⟩
  case rest =>
    obtain ⟨bi, bo, rfl, rfl, hne, li, lo, Bi, Bo, F4⟩ := hcut
    clear hmk
    have z3 := lt_of_block B3
    have ne1 : w.heap.size ≠ bi := by omega
    have ne2 : w.heap.size ≠ bo := by omega
    obtain ⟨kl, hkl⟩ : ∃ kl, kl = (List.range 32).map f := ⟨_, rfl⟩
    have hk32 : kl.length = 32 := by rw [hkl]; simp
    have LK : Lies w3 (some ⟨w.heap.size, 0, none⟩) kl := ub_lies B3 (by omega) (fun j hj => by rw [hkl] at hj ⊢; simp at hj; simp [List.getD, hj])
    clear hkl
    have CK : Came w3 (some ⟨w.heap.size, 0, none⟩) 32 32 kl := ⟨hk32, Nat.le_refl _, by unfold maxLen; omega, LK, fun e => by cases e⟩
    go_wp2_with (with_reducible refine wpList_copy_key rfl (.tmp 38) (.tmp 39) rfl bi w.heap.size kl hk32 rfl rfl Bi (LK.grow F4) ?k5)
    case k5 =>
    intro w5 Bi5 G5
    have F5 : Fr (fun _ => False) w3 w5 := F4.trans G5 (fun i hi => Or.inr (by omega))
    have Bo5 := (G5.block bo (lt_of_block Bo) (fun e => hne e.symm)).trans Bo
    clear Bi Bo G5 F4
    go_wp2_with (with_reducible refine wpList_copy_key rfl (.tmp 41) (.tmp 42) rfl bo w.heap.size kl hk32 rfl rfl Bo5 (LK.grow F5) ?k6)
    case k6 =>
    intro w6 Bo6 G6
    have F6 : Fr (fun _ => False) w3 w6 := F5.trans G6 (fun i hi => Or.inr (by omega))
    have Bi6 := (G6.block bi (lt_of_block Bi5) hne).trans Bi5
    clear Bi5 Bo5 G6 F5
    go_wp2_with fail
    go_loopw [12] (fun i wr => ∃ k : Nat, k ≤ 64 ∧ i = .int .i64 k ∧ wr.heap[bi]? = some (.cells (ub 64 (fun j => if j < k then HM.blk kl j ^^^ 0x36 else HM.blk kl j)) 5 (0, 0)) ∧ wr.heap[bo]? = some (.cells (ub 64 (fun j => if j < k then HM.blk kl j ^^^ 0x5c else HM.blk kl j)) 5 (0, 0)) ∧ Fr (fun _ => False) w3 wr) (fun i _ => 64 - (intOf i).toNat)
    case atStart => exact ⟨0, by omega, by simp, by rw [Bi6]; congr 2, by rw [Bo6]; congr 2, F6⟩
    case round =>
      clear Bi6 Bo6 F6
      obtain ⟨k, hk, rfl, hBi, hBo, hF⟩ := hrel
      by_cases hlt : k < 64
      · have hci : wr.cell? ⟨bi, k, none⟩ = some (.int .u8 ((HM.blk kl k).toNat : Int)) := by
          rw [cell_of_block hBi, ub_get _ _ _ hlt, if_neg (by omega)]
        have hco : wr.cell? ⟨bo, k, none⟩ = some (.int .u8 ((HM.blk kl k).toNat : Int)) := by
          rw [cell_of_block hBo, ub_get _ _ _ hlt, if_neg (by omega)]
        have hfi := free_of_block hBi k
        have hfo := free_of_block hBo k
        have sti := xor_step (HM.blk kl) 0x36 k hlt
        have sto := xor_step (HM.blk kl) 0x5c k hlt
        have ei : (HM.blk kl k ^^^ 0x36).toNat = (HM.blk kl k).toNat ^^^ 54 := by rw [UInt8.toNat_xor]; rfl
        have eo : (HM.blk kl k ^^^ 0x5c).toNat = (HM.blk kl k).toNat ^^^ 92 := by rw [UInt8.toNat_xor]; rfl
        rw [ei] at sti
        rw [eo] at sto
        have ht : decide ((k : Int) < 64) = true := by simp; omega
        have exi : bits .xor .u8 ((HM.blk kl k).toNat : Int) 54 = (((HM.blk kl k ^^^ 0x36).toNat : Nat) : Int) := xor_u8 (HM.blk kl k) 0x36
        have exo : bits .xor .u8 ((HM.blk kl k).toNat : Int) 92 = (((HM.blk kl k ^^^ 0x5c).toNat : Nat) : Int) := xor_u8 (HM.blk kl k) 0x5c
        have hne2 := hne.symm
        have T1 := two_set hBi hBo hne k (.int .u8 (((HM.blk kl k).toNat ^^^ 54 : Nat) : Int)) (.int .u8 (((HM.blk kl k).toNat ^^^ 92 : Nat) : Int))
        have T2 := two_set hBo hBi hne2 k (.int .u8 (((HM.blk kl k).toNat ^^^ 92 : Nat) : Int)) (.int .u8 (((HM.blk kl k).toNat ^^^ 54 : Nat) : Int))
        rw [sti, sto] at T1
        rw [sti, sto] at T2
        have HT1 := Lib.hid T1
        have HT2 := Lib.hid T2
        clear T1 T2 sti sto hBi hBo
        go_wp2_with fail
        go_region
        all_goals
          go_wp2
          refine ⟨⟨k + 1, by omega, by go_num, ?_⟩, by simp [intOf]; omega⟩
          first
            | exact ⟨HT1.out.1, HT1.out.2.1, (hF.trans HT1.out.2.2 (fun i hi => Or.inr (by omega))).drew⟩
            | exact ⟨HT2.out.2.1, HT2.out.1, (hF.trans HT2.out.2.2 (fun i hi => Or.inr (by omega))).drew⟩
            | exact ⟨HT1.out.1, HT1.out.2.1, hF.trans HT1.out.2.2 (fun i hi => Or.inr (by omega))⟩
            | exact ⟨HT2.out.2.1, HT2.out.1, hF.trans HT2.out.2.2 (fun i hi => Or.inr (by omega))⟩
      · obtain rfl : k = 64 := by omega
        have ht : decide (((64 : Nat) : Int) < 64) = false := by decide
        rw [show ub 64 (fun j => if j < 64 then HM.blk kl j ^^^ 0x36 else HM.blk kl j) = ub 64 (fun j => HM.blk kl j ^^^ 0x36) from ub_congr (fun j hj => by rw [if_pos hj])] at hBi
        rw [show ub 64 (fun j => if j < 64 then HM.blk kl j ^^^ 0x5c else HM.blk kl j) = ub 64 (fun j => HM.blk kl j ^^^ 0x5c) from ub_congr (fun j hj => by rw [if_pos hj])] at hBo
        have cI : Came wr (some ⟨bi, 0, none⟩) 64 64 (HM.xor (HM.blk kl) 0x36) := ⟨HM.xor_length _ _, Nat.le_refl _, by unfold maxLen; omega, xor_lies hBi, fun e => by cases e⟩
        have cO : Came wr (some ⟨bo, 0, none⟩) 64 64 (HM.xor (HM.blk kl) 0x5c) := ⟨HM.xor_length _ _, Nat.le_refl _, by unfold maxLen; omega, xor_lies hBo, fun e => by cases e⟩
        have Fa : Fr (fun _ => False) w wr := F3.trans hF (fun _ h => h.elim)
        have C4 := C3.grow hF (fun _ _ h => h)
        have K4 := CK.grow hF (fun _ _ h => h)
        have X4 := C1.grow Fa (fun _ _ h => h)
        clear hBi hBo CK C3 LK
        go_wp2_with fail
        have Fn := (Fr.refl (fun _ => False) wr).alloc (.cells #[.slice (some ⟨bi, 0, none⟩) 64 64, .slice a3 (q + 10) c3] 23)
        refine (psum_any _ [HM.xor (HM.blk kl) 0x36, b] 2 2 rfl _ (parts2 (heap_alloc_new wr _) (cI.grow Fn (fun _ _ h => h)) (C4.grow Fn (fun _ _ h => h))) (by unfold maxLen; omega) (by simp [HM.xor_length]; omega) (hE.fr (Fa.trans Fn (fun _ h => h.elim)) (fun h => h))).mono ?_
        rintro e w7 ⟨rfl, F7⟩
        rw [show [HM.xor (HM.blk kl) 0x36, b].flatten = HM.inn kl b by simp [HM.inn]]
        have F7a : Fr (fun _ => False) wr w7 := Fn.trans F7 (fun _ h => h.elim)
        have hone : (sumc (HM.inn kl b)).all (·.oneCell') = true := sumv_one _
        have hsz : (ub 32 (fun _ => 0)).size = (sumc (HM.inn kl b)).size := (ub_size _ _).trans (sumv_size _).symm
        have hnew := heap_alloc_new w7 (.cells (ub 32 (fun _ => 0)) 22)
        rw [← zero32] at hnew hsz
        go_wp2_with (with_reducible refine wpList_store_rowA rfl 22 (.tmp 13) (.tmp 67) rfl w7.heap.size (sumc (HM.inn kl b)) rfl rfl 22 _ hnew Tryd.sizeC hsz hone ?k7)
        case k7 =>
        intro w8 B8 G8
        have F8 : Fr (fun _ => False) wr w8 := F7a.trans (((Fr.refl (fun _ => False) w7).alloc _).trans G8 (fun i hi => Or.inr (by omega))) (fun _ h => h.elim)
        have cS : Came w8 (some ⟨w7.heap.size, 0, none⟩) 32 32 (S2.sum (HM.inn kl b)) := ⟨sum_length _, Nat.le_refl _, by unfold maxLen; omega, sum_lies B8, fun e => by cases e⟩
        generalize w7.heap.size = bs at *
        have C8 := C4.grow F8 (fun _ _ h => h)
        clear hone hsz hnew G8 B8 F7 F7a Fn cI
        go_wp2_with fail
        refine (read_any a3 c3 b (q + 10) hbl w8 C8.lies (fun e => by have := C8.nil e; omega) (by omega)).mono ?_
        rintro e w9 ⟨br, ar, cr, rfl, R9, ha9, lb9, lk9, F9⟩
        obtain ⟨gr, ofr, rfl⟩ := ha9.resolve_left (fun e => by rw [e] at hbl; simp at hbl)
        have R9b : Rd w9 br (some ⟨gr, ofr, none⟩) cr (hb q :: lb q :: (x ++ nbs u)) 0 := by
          rw [HBB.out] at R9; exact R9
        have zb := lt_of_block R9.blk
        have hct := cnt_text q (by omega)
        have hu64 : u < 18446744073709551616 := by have := HU.out; rw [IntKind.wrap_u64] at this; omega
        go_wp2_with fail
        refine (rtext_ok br cr gr ofr (hb q) (lb q) (x ++ nbs u) 300 w9 R9b (by rw [hct]; omega) (by rw [hct, List.length_append, HX.out]; omega)).mono ?_
        rintro e w10 ⟨vt, rfl, ownT, o10, R10, F10⟩
        rw [hct] at ownT R10
        rw [List.take_left' HX.out] at ownT
        rw [List.drop_left' HX.out] at R10
        obtain ⟨at_, ct, rfl, nilT⟩ := slice_of_own ownT
        have LT := (lies_own ownT).2.2.2
        have hltT : ∀ k, inBlk at_ k → w9.heap.size ≤ k := by
          rintro k ⟨ad, rfl, rfl⟩
          exact (ownT.lt _ rfl).1
        go_wp2_with fail
        refine (rnum_ok br _ gr o10 (nbs u) (by rw [nbs_length]; exact Nat.le_refl _) w10 R10).mono ?_
        rintro e w11 ⟨rfl, o11, R11, F11⟩
        rw [show (nbs u).take 8 = nbs u from List.take_of_length_le (by rw [nbs_length]; exact Nat.le_refl _), nbs_beN u hu64, wrap_back z u HZ.out HU.out]
        rw [show (nbs u).drop 8 = [] from List.drop_eq_nil_of_le (by rw [nbs_length]; exact Nat.le_refl _)] at R11
        have LT11 : Lies w11 at_ x := LT.fr F11 (fun k hk e => by have := hltT k hk; omega)
        have G11 : Fr (fun _ => False) w8 w11 := (F9.trans F10 (fun i hi => Or.inr (by omega))).trans F11 (fun i hi => Or.inr (by omega))
        have Fw11 : Fr (fun _ => False) w w11 := (Fa.trans F8 (fun _ h => h.elim)).trans G11 (fun _ h => h.elim)
        have C11 := C8.grow G11 (fun _ _ h => h)
        have S11 := cS.grow G11 (fun _ _ h => h)
        have O11 := (cO.grow F8 (fun _ _ h => h)).grow G11 (fun _ _ h => h)
        have K11 := (K4.grow F8 (fun _ _ h => h)).grow G11 (fun _ _ h => h)
        have X11 := (X4.grow F8 (fun _ _ h => h)).grow G11 (fun _ _ h => h)
        clear R9 R9b R10 F10 F11 F9 LT ownT hltT G11 C8 cS cO K4 X4 C4 F8 Fa hF lk9
        go_wp2_with fail
        have Fm := (Fr.refl (fun _ => False) w11).alloc (.cells #[.slice a3 (q + 10) c3] 23)
        refine (psum_any5 _ [b] 1 1 rfl _ (parts1 (heap_alloc_new w11 _) (C11.grow Fm (fun _ _ h => h))) (by unfold maxLen; omega) (by simp; omega) (hE5.fr (Fw11.trans Fm (fun _ h => h.elim)) (fun h => h))).mono ?_
        rintro e w12 ⟨rfl, F12⟩
        rw [show [b].flatten = b by simp]
        have F12a : Fr (fun _ => False) w11 w12 := Fm.trans F12 (fun _ h => h.elim)
        have hone5 : (sumc5 b).all (·.oneCell') = true := sumv_one5 _
        have hsz5 : (ub 64 (fun _ => 0)).size = (sumc5 b).size := (ub_size _ _).trans (ub_size _ _).symm
        have hnew5 := heap_alloc_new w12 (.cells (ub 64 (fun _ => 0)) 74)
        rw [← zero64] at hnew5 hsz5
        go_wp2_with (with_reducible refine wpList_store_rowA rfl 74 (.tmp 17) (.tmp 76) rfl w12.heap.size (sumc5 b) rfl rfl 74 _ hnew5 Tryd.sizeC5 hsz5 hone5 ?k8)
        case k8 =>
        intro w13 B13 G13
        have F13 : Fr (fun _ => False) w11 w13 := F12a.trans (((Fr.refl (fun _ => False) w12).alloc _).trans G13 (fun i hi => Or.inr (by omega))) (fun _ h => h.elim)
        have L13 := sumc5_lies2 B13
        obtain ⟨g3, rfl⟩ := HA3.out
        have C13 := C11.grow F13 (fun _ _ h => h)
        have S13 := S11.grow F13 (fun _ _ h => h)
        have O13 := O11.grow F13 (fun _ _ h => h)
        have K13 := K11.grow F13 (fun _ _ h => h)
        have X13 := X11.grow F13 (fun _ _ h => h)
        have LT13 := LT11.grow F13
        have R13 := R11.fr F13 (fun h => h) (fun _ _ h => h)
        have Fw13 : Fr (fun _ => False) w w13 := Fw11.trans F13 (fun _ h => h.elim)
        generalize w12.heap.size = b5 at *
        clear C11 S11 O11 K11 X11 LT11 R11 F13 F12a F12 Fm hone5 hsz5 hnew5 G13 B13 Fw11
        go_wp2_with fail
        have hc2 : ¬ (c3 = 2) := by omega
        have TD := C13.tail (r := 2) (by omega)
        rw [if_neg hc2] at TD
        have TK := C13.cut 2 (by omega) (Fr.refl _ w13)
        have h2a : (2 : Int) ≤ ((q + 10 : Nat) : Int) := by omega
        have h2b : (2 : Int) ≤ (c3 : Int) := by omega
        have h2c : ((q + 10 : Nat) : Int) ≤ (c3 : Int) := by omega
        have hcm : (c3 : Int) ≤ 9223372036854775807 := by unfold maxLen at mx3; omega
        obtain ⟨MM, hMM⟩ : ∃ MM, MM = sumc (HM.out kl b) := ⟨_, rfl⟩
        have hof := fun (W : World) (b2 : Nat) (hx : Ex w13 W) (hb : W.heap[b2]? = some (.cells #[Value.slice (some ⟨g3, 0, none⟩) (q + 10) c3] 23 (0, 0))) => hof_any (some ⟨w.heap.size, 0, none⟩) (some ⟨b2, 0, none⟩) kl 32 32 [b] 1 1 W (K13.grow hx (fun _ _ h => h)) (by omega) (parts1 hb (C13.grow hx (fun _ _ h => h))) rfl (by unfold maxLen; omega) (by simp; omega) (hE.fr (Ex.tr Fw13 hx) (fun h => h))
        have hof2 := fun (W : World) (b2 : Nat) (hx : Ex w13 W) (hb : W.heap[b2]? = some (.cells #[Value.slice (some ⟨g3, 0, none⟩) 2 c3, Value.slice (some ⟨g3, 2, none⟩) (q + 10 - 2) (c3 - 2)] 23 (0, 0))) => hof_any (some ⟨w.heap.size, 0, none⟩) (some ⟨b2, 0, none⟩) kl 32 32 [b.take 2, b.drop 2] 2 2 W (K13.grow hx (fun _ _ h => h)) (by omega) (parts2 hb (TK.grow hx (fun _ _ h => h)) (TD.grow hx (fun _ _ h => h))) rfl (by unfold maxLen; omega) (by simp; omega) (hE.fr (Ex.tr Fw13 hx) (fun h => h))
        have hsm := fun (W : World) (b2 : Nat) (hx : Ex w13 W) (hb : W.heap[b2]? = some (.cells #[Value.slice (some ⟨bo, 0, none⟩) 64 64, Value.slice (some ⟨bs, 0, none⟩) 32 32] 23 (0, 0))) => psum_any (some ⟨b2, 0, none⟩) [HM.xor (HM.blk kl) 0x5c, S2.sum (HM.inn kl b)] 2 2 rfl W (parts2 hb (O13.grow hx (fun _ _ h => h)) (S13.grow hx (fun _ _ h => h))) (by unfold maxLen; omega) (by simp [HM.xor_length, sum_length]) (hE.fr (Ex.tr Fw13 hx) (fun h => h))
        rw [show [b].flatten = b by simp, ← hMM] at hof
        rw [show [b.take 2, b.drop 2].flatten = b by simp, ← hMM] at hof2
        rw [show [HM.xor (HM.blk kl) 0x5c, S2.sum (HM.inn kl b)].flatten = HM.out kl b by simp [HM.out], ← hMM] at hsm
        have eq1 : ∀ W : World, (binOp .eql 22 (.agg MM) (.agg MM)).run Tryd.prog W = .ok (.bool true) W := fun W => by
          rw [hMM, eql_sumc, beq_self_eq_true]
        have HOF := Lib.hid hof
        have HOF2 := Lib.hid hof2
        have HSM := Lib.hid hsm
        have HMM := Lib.hid hMM
        clear hof hof2 hsm hMM
        refine wp_region_M (Array.replicate 53 false) 53 (by kernel_rfl) (by kernel_rfl) ?_
        refine wpM.part' (sg 0 8 ++ (sg 10 2 ++ [])) 43 53 (by kernel_rfl) ?_
        refine Wk.seg 0 8 (by kernel_rfl) (by kernel_rfl) ?_
        apply Exists.intro
        refine ⟨?wk0, ?fin0⟩
        case wk0 =>
          intro γ
          have sn := fun y : Wg γ => stands_any y.w (hE.fr (Ex.tr Fw13 y.h) (fun h => h))
          simp only [List.drop_succ_cons, List.drop_zero, List.take_succ_cons, List.take_zero]
          repeat (any_goals (first | go_big_quiet_step ((first | (go_at_call 41; with_reducible exact Calls.keepg (sn _)))) | quiet_step ((first | (go_at_call 41; with_reducible exact Calls.keepg (sn _))))))
          exact wpQuiet_nil rfl
        case fin0 =>
        (try simp only [Act.put, List.setIfInBounds_toArray, List.set_cons_zero, List.set_cons_succ])
        refine Wk.seg 10 2 (by kernel_rfl) (by kernel_rfl) ?_
        apply Exists.intro
        refine ⟨?wk10, ?fin10⟩
        case wk10 =>
          intro γ
          simp only [List.drop_succ_cons, List.drop_zero, List.take_succ_cons, List.take_zero]
          repeat (any_goals (first | go_big_quiet_step (fail) | quiet_step (fail)))
          exact wpQuiet_nil rfl
        case fin10 =>
        (try simp only [Act.put, List.setIfInBounds_toArray, List.set_cons_zero, List.set_cons_succ])
        intro w14 X14
        refine wpM.pair 39 8 9 12 13 rfl rfl rfl rfl (fun v W => ∃ b, v = .slice (some ⟨b, 0, none⟩) 1 1 ∧ W.heap[b]? = some (.cells #[Value.slice (some ⟨g3, 0, none⟩) (q + 10) c3] 23 (0, 0))) (fun v W => ∃ b, v = .slice (some ⟨b, 0, none⟩) 2 2 ∧ W.heap[b]? = some (.cells #[Value.slice (some ⟨bo, 0, none⟩) 64 64, Value.slice (some ⟨bs, 0, none⟩) 32 32] 23 (0, 0))) (.agg MM) (.agg MM) (fun v W W' hx ⟨b, e, hb⟩ => ⟨b, e, (hx.block _ (lt_of_block hb) (fun h => h)).trans hb⟩) (fun v W W' hx ⟨b, e, hb⟩ => ⟨b, e, (hx.block _ (lt_of_block hb) (fun h => h)).trans hb⟩) (by kernel_rfl) (by kernel_rfl) ⟨rfl, fun W hx => ⟨_, W.alloc (.cells #[Value.slice (some ⟨g3, 0, none⟩) (q + 10) c3] 23), by kernel_rfl, (Fr.refl _ W).alloc _, ⟨W.heap.size, rfl, heap_alloc_new W _⟩⟩⟩ ⟨rfl, fun W hx => ⟨_, W.alloc (.cells #[Value.slice (some ⟨bo, 0, none⟩) 64 64, Value.slice (some ⟨bs, 0, none⟩) 32 32] 23), by kernel_rfl, (Fr.refl _ W).alloc _, ⟨W.heap.size, rfl, heap_alloc_new W _⟩⟩⟩
          ⟨fun v => rfl, fun v W hx ⟨b2, e, hb⟩ => ⟨42, #[.slice (some ⟨w.heap.size, 0, none⟩) 32 32, v], by subst e; kernel_rfl, by
            subst e
            exact HOF.out W b2 (Ex.tr X14 hx) hb⟩⟩
          (fun v1 => ⟨fun v => rfl, fun v W hx ⟨b2, e, hb⟩ => ⟨36, #[v], by subst e; kernel_rfl, by
            subst e
            exact HSM.out W b2 (Ex.tr X14 hx) hb⟩⟩) ?_
        intro v85 v89 w15 X15
        have Y15 := Ex.tr X14 X15
        clear X14 X15
        simp only [List.getElem_toArray, List.getElem_cons_succ, List.getElem_cons_zero, Act.put, List.setIfInBounds_toArray, List.set_cons_zero, List.set_cons_succ]
        refine wpM.part' (sg 14 8 ++ (sg 24 2 ++ [])) 29 39 (by kernel_rfl) ?_
        refine Wk.seg 14 8 (by kernel_rfl) (by kernel_rfl) ?_
        apply Exists.intro
        refine ⟨?wk14, ?fin14⟩
        case wk14 =>
          intro γ
          simp only [List.drop_succ_cons, List.drop_zero, List.take_succ_cons, List.take_zero]
          repeat (any_goals (first | go_big_quiet_step (fail) | quiet_step (fail)))
          exact wpQuiet_nil rfl
        case fin14 =>
        (try simp only [Act.put, List.setIfInBounds_toArray, List.set_cons_zero, List.set_cons_succ])
        refine Wk.seg 24 2 (by kernel_rfl) (by kernel_rfl) ?_
        apply Exists.intro
        refine ⟨?wk24, ?fin24⟩
        case wk24 =>
          intro γ
          simp only [List.drop_succ_cons, List.drop_zero, List.take_succ_cons, List.take_zero]
          repeat (any_goals (first | go_big_quiet_step (fail) | quiet_step (fail)))
          exact wpQuiet_nil rfl
        case fin24 =>
        (try simp only [Act.put, List.setIfInBounds_toArray, List.set_cons_zero, List.set_cons_succ])
        intro w16 X16
        have Y16 := Ex.tr Y15 X16
        refine wpM.pair 25 22 23 26 27 rfl rfl rfl rfl (fun v W => ∃ b, v = .slice (some ⟨b, 0, none⟩) 2 2 ∧ W.heap[b]? = some (.cells #[Value.slice (some ⟨g3, 0, none⟩) 2 c3, Value.slice (some ⟨g3, 2, none⟩) (q + 10 - 2) (c3 - 2)] 23 (0, 0))) (fun v W => ∃ b, v = .slice (some ⟨b, 0, none⟩) 1 1 ∧ W.heap[b]? = some (.cells #[Value.slice (some ⟨g3, 0, none⟩) (q + 10) c3] 23 (0, 0))) (.agg MM) (.agg MM) (fun v W W' hx ⟨b, e, hb⟩ => ⟨b, e, (hx.block _ (lt_of_block hb) (fun h => h)).trans hb⟩) (fun v W W' hx ⟨b, e, hb⟩ => ⟨b, e, (hx.block _ (lt_of_block hb) (fun h => h)).trans hb⟩) (by kernel_rfl) (by kernel_rfl) ⟨rfl, fun W hx => ⟨_, W.alloc (.cells #[Value.slice (some ⟨g3, 0, none⟩) 2 c3, Value.slice (some ⟨g3, 2, none⟩) (q + 10 - 2) (c3 - 2)] 23), by kernel_rfl, (Fr.refl _ W).alloc _, ⟨W.heap.size, rfl, heap_alloc_new W _⟩⟩⟩ ⟨rfl, fun W hx => ⟨_, W.alloc (.cells #[Value.slice (some ⟨g3, 0, none⟩) (q + 10) c3] 23), by kernel_rfl, (Fr.refl _ W).alloc _, ⟨W.heap.size, rfl, heap_alloc_new W _⟩⟩⟩
          ⟨fun v => rfl, fun v W hx ⟨b2, e, hb⟩ => ⟨42, #[.slice (some ⟨w.heap.size, 0, none⟩) 32 32, v], by subst e; kernel_rfl, by
            subst e
            exact HOF2.out W b2 (Ex.tr Y16 hx) hb⟩⟩
          (fun v1 => ⟨fun v => rfl, fun v W hx ⟨b2, e, hb⟩ => ⟨42, #[.slice (some ⟨w.heap.size, 0, none⟩) 32 32, v], by subst e; kernel_rfl, by
            subst e
            exact HOF.out W b2 (Ex.tr Y16 hx) hb⟩⟩) ?_
        intro v99 v103 w17 X17
        have Y17 := Ex.tr Y16 X17
        simp only [List.getElem_toArray, List.getElem_cons_succ, List.getElem_cons_zero, Act.put, List.setIfInBounds_toArray, List.set_cons_zero, List.set_cons_succ]
        refine wpM.last (sg 28 25 ++ []) 25 (by kernel_rfl) ?_
        refine Wk.seg 28 25 (by kernel_rfl) (by kernel_rfl) ?_
        apply Exists.intro
        refine ⟨?wk28, ?fin28⟩
        case wk28 =>
          intro γ
          have cvx : ∀ y : Wg γ, (convert 23 9 (.slice a1 q c1)).run Tryd.prog y.w = .ok (.string ⟨x.toArray⟩) y.w := fun y => (X13.grow (Ex.tr Y17 y.h) (fun _ _ h => h)).str2
          have cvt : ∀ y : Wg γ, (convert 23 9 (.slice at_ q ct)).run Tryd.prog y.w = .ok (.string ⟨x.toArray⟩) y.w := fun y => by
            have := run_str (LT13.grow (Ex.tr Y17 y.h)) ct 9 Tryd.underlying9
            rwa [HX.out] at this
          have en : ∀ y : Wg γ, Calls Tryd.prog 43 #[.pointer (some ⟨br, 0, none⟩)] y.w fun e w' => e = .returned (.int .i64 0) ∧ Fr (fun _ => False) y.w w' := fun y => (end_ok br _ _ y.w (R13.fr (Ex.tr Y17 y.h) (fun h => h) (fun _ _ h => h))).mono (fun e w' ⟨he, hw⟩ => ⟨he, hw ▸ Fr.refl _ _⟩)
          have C5 : ∀ y : Wg γ, Came y.w (some ⟨b5, 0, none⟩) 64 64 (S5.sum b) := fun y => ⟨rfl, Nat.le_refl _, by unfold maxLen; omega, L13.grow (Ex.tr Y17 y.h), fun e => by cases e⟩
          have sm : ∀ y : Wg γ, Calls Tryd.prog 44 #[.slice (some ⟨b5, 0, none⟩) 64 64, .slice (some ⟨b5, 0, none⟩) 64 64] y.w fun e w' => e = .returned (.bool true) ∧ Fr (fun _ => False) y.w w' := fun y => by
            have := same_any _ _ _ _ 64 64 64 64 y.w (C5 y) (C5 y)
            rwa [decide_eq_true (rfl : S5.sum b = S5.sum b)] at this
          simp only [List.drop_succ_cons, List.drop_zero, List.take_succ_cons, List.take_zero]
          repeat (any_goals (first | go_big_quiet_step ((first | (go_at_call 43; with_reducible exact Calls.keepg (en _)) | (go_at_call 44; with_reducible exact Calls.keepg (sm _)))) | quiet_step ((first | (go_at_call 43; with_reducible exact Calls.keepg (en _)) | (go_at_call 44; with_reducible exact Calls.keepg (sm _))))))
          exact wpQuiet_nil rfl
        case fin28 =>
        (try simp only [Act.put, List.setIfInBounds_toArray, List.set_cons_zero, List.set_cons_succ])
        intro wE XE
        go_wp2_with fail
        go_ret
        exact ⟨rfl, Ex.tr (Ex.tr Fw13 Y17) XE⟩
end Go.Proofs.YtbpblheaiancaaaDoor

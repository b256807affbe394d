/-
  A schedule of any length: a tick, whole.
-/
import Derived.Test.YtcpapielklplcaaAi
namespace Go.Proofs.Ytcpapielklplcaa
open Go.RowKit
set_option linter.unusedVariables false
set_option linter.unusedSimpArgs false
theorem sInfo : ∃ ti z, Try.prog.info? 9 = some ti ∧ ti.zero = some z ∧ ti.size = 1 ∧ ti.bytes = 16 ∧ z.cells.size = 1 := ⟨_, .string ⟨#[]⟩, rfl, by kernel_rfl, by kernel_rfl, by kernel_rfl, by kernel_rfl⟩
theorem src_s (s : ByteArray) (V : World) : Src Try.prog 1 32 (.slice (some ⟨V.heap.size, 0, none⟩) 1 1) 1 [.string s] (V.alloc (.cells #[.string s] 9)) := Src.ofSlice _ Try.underlying32 ⟨V.heap.size, 0, none⟩ 1 1 [.string s] rfl (fun j u hj => by
  rw [Addr.add_mid, Nat.zero_add, cell_of_block (heap_alloc_new V _), ← Array.getElem?_toList]; exact hj) (fun u hu => by
  have : u = .string s := by simpa using hu
  rw [this]; rfl)
abbrev DR (w : World) (base : Nat) (u : Value) (l : List ByteArray) : Prop := w.ownsRow base 9 1 u l.length (sv l)
theorem dueL_len (L : List Mb) : (dueL L).length ≤ L.length := by
  unfold dueL
  rw [List.length_map]
  exact Nat.le_trans (List.length_filter_le _ _) (by rw [List.length_map]; exact Nat.le_refl _)
/-- What Tick leaves. -/
def TickPost (base ps : Nat) (now : Int) (v : Value) (L : List Mb) (w : World) (e : Ending) (w' : World) : Prop := ∃ u, e = .returned (.tuple #[u, .int .i64 0]) ∧ DR w' w.heap.size u (dueL L) ∧ Sd w' base ps (now + 1) v (L.map gr) ∧ Fr (fun k => k = ps ∨ v.ownBlock = some k) w w'
set_option maxRecDepth 100000 in
set_option maxHeartbeats 1600000 in
theorem tick_any (ps base : Nat) (now : Int) (v : Value) (L : List Mb) (n0 : 0 ≤ now) (n1 : now ≤ 1000000) (hl : L.length ≤ 1000) (good : Good L) (w : World) (h : Sd w base ps now v L) : Calls Try.prog 8 #[.pointer (some ⟨ps, 0, none⟩)] w (TickPost base ps now v L w) := by
  obtain ⟨a9, c9, rfl⟩ := mr_form h.own
  obtain ⟨c0, c1, f0, _⟩ := h.blk.c
  have m1 : wrap64 (now + 1) = now + 1 := IntWalk.wrap64_in _ (by omega)
  have q1 : (now == 9223372036854775807) = false := beq_eq_false_iff_ne.2 (by omega)
  have HGD := Lib.hid good
  have HL := Lib.hid hl
  have HN := Lib.hid h.ne
  have HPS := Lib.hid (lt_of_block h.blk)
  have HBS := Lib.hid h.b
  have HOL := Lib.hid (fun j (e : (Value.slice a9 L.length c9).ownBlock = some j) => (h.own.lt j e).2)
  have F0 : Fr (fun k => k = ps) w (w.setCell ⟨ps, 0, none⟩ (.int .i64 (now + 1))) := Fr.setCell (S := fun k => k = ps) (Fr.refl _ w) (Or.inl rfl) _
  have HF0 := Lib.hid (F0.mono (T := fun k => k = ps ∨ (Value.slice a9 L.length c9).ownBlock = some k) (fun _ _ h => .inl h))
  have B0 := h.blk.set0 (now + 1)
  obtain ⟨_, d1, _, _⟩ := B0.c
  have HB0 := Lib.hid B0
  have HO0 := Lib.hid (F0.own h.own (fun k e h2 => h.ne (h2 ▸ e)))
  clear F0 B0 n0 n1 h good hl
  go_enter Try.func8, Try.ntmps8
  go_wp2_with fail
  clear c0 c1 f0 d1 m1 q1
  go_loopw [26, 4] (fun i dd wr => ∃ k : Nat, k ≤ L.length ∧ i = .int .i64 (k : Int) ∧ DR wr w.heap.size dd (dueL (L.take k)) ∧ SB wr ps (now + 1) (.slice a9 L.length c9) ∧ wr.ownsRow base 43 3 (.slice a9 L.length c9) (tk L k).length (mc (tk L k)) ∧ Fr (fun k => k = ps ∨ (Value.slice a9 L.length c9).ownBlock = some k) w wr) (fun i _ _ => L.length - (intOf i).toNat)
  case atStart => exact ⟨0, Nat.zero_le _, by simp, World.ownsRow_nil _ _ _ _, HB0.out, HO0.out, HF0.out⟩
  case round =>
    obtain ⟨k, hk, rfl, hD, hB, hO, hF⟩ := hrel
    by_cases hlt : k < L.length
    · obtain ⟨m, hm⟩ : ∃ m, L[k]? = some m := ⟨_, List.getElem?_eq_getElem hlt⟩
      have hmt := tk_get hm
      obtain ⟨g1, p1, a0, a1⟩ := HGD.out m (List.mem_of_getElem? hm)
      have hO2 := hO
      rw [tk_len] at hO2
      obtain ⟨g, rfl, hbg⟩ : ∃ g, a9 = some ⟨g, 0, none⟩ ∧ base ≤ g := by
        rcases hO2.2 with ⟨_, h0⟩ | ⟨g, cap, cur, e, hb, _⟩
        · omega
        · obtain ⟨rfl, _⟩ : a9 = some ⟨g, 0, none⟩ ∧ c9 = cap := by simpa using e
          exact ⟨g, rfl, hb⟩
      obtain ⟨_, b1, _, _⟩ := hB.c
      have q1 : (k : Int) < (L.length : Int) := by omega
      have hl := HL.out
      have w1' : wrap64 ((k : Int) + 1) = ((k + 1 : Nat) : Int) := by rw [IntWalk.wrap64_in _ (by omega)]; omega
      have W1 := Lib.hid w1'
      have HG := Lib.hid (grow_row hO (tk_len L k).symm hmt a0 a1)
      have HD := Lib.hid hD
      have HB := Lib.hid hB
      have HF := Lib.hid hF
      have HM := Lib.hid hm
      have HLT := Lib.hid hlt
      have H1 := Lib.hid g1
      have hgm := Lib.hid (List.getElem?_eq_some_iff.1 (show (tk L (k + 1))[k]? = some (gr m) by rw [← tk_succ hm, List.getElem?_set_self (by rw [tk_len]; exact hlt)]))
      have HTS := Lib.hid (tk_succ hm)
      have HDS := Lib.hid (due_succ hm)
      have hgd := Lib.hid (show (gr m).id = m.id ∧ (gr m).per = m.per from ⟨rfl, rfl⟩)
      clear hD hB hF hm hO hO2 hmt g1 p1 a0 a1 hbg hlt hk w1' hl
      go_wp2_with fail
      refine HG.out.mono ?_
      rintro e w3 ⟨rfl, hO3, F3⟩
      rw [HTS.out] at hO3
      have HB3 := Lib.hid (HB.out.fr F3 (fun e => HN.out (by rw [e]; rfl)))
      have HGL := Lib.hid (HOL.out g rfl)
      have HD3 := Lib.hid (F3.own HD.out (fun j e h => by
        have h1 := (HD.out.lt j e).1
        have h2 := HGL.out
        omega))
      have HF3 := Lib.hid (HF.out.trans F3 (fun j e => .inl (.inr (by rw [e]; rfl))))
      have hO3' : MR w3 base (.slice (some ⟨g, 0, none⟩) (tk L (k + 1)).length c9) (tk L (k + 1)) := by
        show World.ownsRow _ _ _ _ _ _ _
        rw [tk_len] at hO3 ⊢
        exact hO3
      obtain ⟨g0, eg, _, c0, c1, c2⟩ := mr_cells hO3' (show (tk L (k + 1))[k]? = some (gr m) by rw [← tk_succ HM.out, List.getElem?_set_self (by rw [tk_len]; exact HLT.out)])
      obtain rfl : g = g0 := by simpa using eg
      have HO3 := Lib.hid hO3
      obtain ⟨r, hr⟩ : ∃ r, (gr m).age.tmod (gr m).per = r := ⟨_, rfl⟩
      have HDU := Lib.hid (due_row g (k * 3) (gr m).per (gr m).age r H1.out hr w3 c1 c2)
      have HE := Lib.hid (show dueM (gr m) = (r == 0) by rw [← hr]; rfl)
      have HC0 := Lib.hid c0
      clear hO3 hO3' F3 c0 c1 c2 eg b1 hr HG
      go_wp2_with fail
      refine HDU.out.mono ?_
      rintro e w4 ⟨rfl, F4⟩
      have HB4 := Lib.hid (HB3.out.fr F4 (fun h => h))
      have HD4 := Lib.hid (F4.own HD3.out (fun _ _ h => h))
      have HO4 := Lib.hid (F4.own HO3.out (fun _ _ h => h))
      have HF4 := Lib.hid (HF3.out.trans F4 (fun _ h => h.elim))
      have m0 : w4.cell? ⟨g, k * 3, none⟩ = some (.string m.id) := F4.cellSome (fun h => h) HC0.out
      clear F4
      by_cases hdue : r = 0
      · have hdb : (r == 0) = true := by rw [hdue]; rfl
        have HEE := Lib.hid (HE.out.trans hdb)
        obtain ⟨ti, zv, t1, t2, t3, t4, t5⟩ := sInfo
        have HT := Lib.hid (And.intro t1 (And.intro t2 (And.intro t3 (And.intro t4 t5))))
        have HSRC := Lib.hid (fun V : World => src_s m.id V)
        have HSZ := Lib.hid HF4.out.size
        have hdl := dueL_len (L.take k)
        have hl := HL.out
        rw [List.length_take] at hdl
        have HMX := Lib.hid (show (dueL (L.take k)).length + 1 ≤ maxLen by unfold maxLen; omega)
        have HBY := Lib.hid (show ((dueL (L.take k)).length + 1) * 16 ≤ 140737488355328 by omega)
        have HBZ := Lib.hid (show w.heap.size ≤ (w4.alloc (.cells #[.string m.id] 9)).heap.size by have := HSZ.out; simp; omega)
        clear t1 t2 t3 t4 t5 hdl hdue
        go_wp2_with (at_builtin; refine wpList_app _ rfl (.tmp 39) (.tmp 44) 32 32 rfl w.heap.size 9 ti zv 1 16 Try.underlying32 HT.out.1 HT.out.2.1 HT.out.2.2.1 HT.out.2.2.2.1 HT.out.2.2.2.2 (by decide) _ (dueL (L.take k)).length (sv (dueL (L.take k))) rfl (HD4.out.alloc _) _ rfl 1 [.string m.id] (HSRC.out _) HMX.out HBY.out HBZ.out ?_; intro v2 w5 O5 G5 B5; refine Hid.out ?_)
        refine Lib.hid ?_
        obtain ⟨g9, c8, rfl⟩ := own_succ O5
        have F5 := ((Fr.refl _ w4).alloc (.cells #[.string m.id] 9)).trans (Fr.ofGrown G5) (fun _ h => .inl h)
        have HB5 := Lib.hid (HB4.out.fr F5 (fun e => by have h1 := (HD4.out.lt _ e).1; have h2 := HPS.out; omega))
        have HO5 := Lib.hid (F5.own HO4.out (fun j e h => by
          have h1 := (HD4.out.lt _ h).1
          have h2 := HGL.out
          have h3 : g = j := by simpa [Value.ownBlock] using e
          omega))
        have HF5 := Lib.hid (HF4.out.trans F5 (fun j h => .inr (HD4.out.lt j h).1))
        have HD5 := Lib.hid O5
        clear O5 G5 B5 F5 m0
        (try simp only [Act.put, List.setIfInBounds_toArray, List.set_cons_zero, List.set_cons_succ])
        go_wp2_with fail
        (try rw [W1.out])
        refine ⟨⟨k + 1, HLT.out, rfl, ?_, HB5.out, ?_, HF5.out⟩, by simp [intOf]; have := HLT.out; omega⟩
        · show World.ownsRow _ _ _ _ _ _ _
          rw [HDS.out, if_pos HEE.out, List.length_append, sv, List.map_append]
          exact HD5.out
        · have := HO5.out
          rw [tk_len] at this ⊢
          exact this
      · have hdb : (r == 0) = false := beq_eq_false_iff_ne.2 hdue
        have HEE := Lib.hid (HE.out.trans hdb)
        clear hdue
        go_wp2_with fail
        (try rw [W1.out])
        refine ⟨⟨k + 1, HLT.out, rfl, ?_, HB4.out, ?_, HF4.out⟩, by simp [intOf]; have := HLT.out; omega⟩
        · show World.ownsRow _ _ _ _ _ _ _
          rw [HDS.out, HEE.out]
          simpa using HD4.out
        · have := HO4.out
          rw [tk_len] at this ⊢
          exact this
    · obtain rfl : k = L.length := by omega
      have q1 : ¬ ((L.length : Int) < (L.length : Int)) := by omega
      rw [List.take_length] at hD
      have htk : tk L L.length = L.map gr := by rw [tk, List.take_length, List.drop_length, List.append_nil]
      have hO2 : MR wr base (.slice a9 L.length c9) (L.map gr) := by
        show World.ownsRow _ _ _ _ _ _ _
        rw [← htk]; exact hO
      have HD := Lib.hid hD
      have HO := Lib.hid hO2
      have HB := Lib.hid hB
      have HF := Lib.hid hF
      clear hD hO hO2 hB hF hlt hk htk
      go_wp2_with fail
      go_returns
      exact ⟨_, rfl, HD.out, ⟨HB.out, HO.out, HN.out, HBS.out⟩, HF.out⟩
end Go.Proofs.Ytcpapielklplcaa

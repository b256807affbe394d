/-
  slices.Insert of one more.
-/
import Derived.Test.YtcpapielklplcaaAc
namespace Go.Proofs.Ytcpapielklplcaa
open Go.RowKit
set_option linter.unusedVariables false
set_option linter.unusedSimpArgs false
theorem mInfo : ∃ ti z, Try.prog.info? 43 = some ti ∧ ti.zero = some z ∧ ti.size = 3 ∧ ti.bytes = 32 ∧ z.cells.size = 3 := ⟨_, .agg #[.string ⟨#[]⟩, .int .i64 0, .int .i64 0], rfl, by kernel_rfl, by kernel_rfl, by kernel_rfl, by kernel_rfl⟩
theorem szM : (Try.prog.info? 43).map (·.size) = some 3 := by kernel_rfl
def m3 (x : Mb) : List Value := [.string x.id, .int .i64 x.per, .int .i64 x.age]
theorem m3_one (x : Mb) : ∀ u ∈ m3 x, u.oneCell' = true := by
  intro u hu
  simp only [m3, List.mem_cons, List.not_mem_nil, or_false] at hu
  rcases hu with rfl | rfl | rfl <;> rfl
def ins (L : List Mb) (i : Nat) (x : Mb) : List Mb := L.take i ++ x :: L.drop i
theorem mc_ins (L : List Mb) (i : Nat) (x : Mb) : mc (ins L i x) = mc (L.take i) ++ m3 x ++ mc (L.drop i) := by
  unfold ins
  rw [mc_app, mc_cons, List.append_assoc]
  rfl
theorem ins_len (L : List Mb) (i : Nat) (x : Mb) (h : i ≤ L.length) : (ins L i x).length = L.length + 1 := by
  simp only [ins, List.length_append, List.length_cons, List.length_take, List.length_drop]; omega
/-- What Insert leaves. -/
def InsPost (base : Nat) (v : Value) (L : List Mb) (i : Nat) (x : Mb) (w : World) (e : Ending) (w' : World) : Prop := ∃ v', e = .returned v' ∧ MR w' base v' (ins L i x) ∧ (v'.ownBlock = v.ownBlock ∨ ∃ k, v'.ownBlock = some k ∧ w.heap.size ≤ k) ∧ Fr (fun k => v.ownBlock = some k) w w'
abbrev VB (w : World) (gv : Nat) (x : Mb) : Prop := w.heap[gv]? = some (.cells #[.string x.id, .int .i64 x.per, .int .i64 x.age] 43 (0, 0))
theorem src_v {gv : Nat} {x : Mb} {w : World} (h : VB w gv x) : Src Try.prog 3 36 (.slice (some ⟨gv, 0, none⟩) 1 1) 1 (m3 x) w := Src.ofSlice w Try.underlying36 ⟨gv, 0, none⟩ 1 1 _ rfl (fun j u hj => by
    rw [Addr.add_mid, Nat.zero_add, cell_of_block h]
    rw [← Array.getElem?_toList]; exact hj) (m3_one x)
set_option maxRecDepth 100000 in
set_option maxHeartbeats 1600000 in
theorem ins_none (gv : Nat) (x : Mb) (base : Nat) (w : World) (hv : VB w gv x) (hb : base ≤ w.heap.size) : Calls Try.prog 10 #[.slice none 0 0, .int .i64 0, .slice (some ⟨gv, 0, none⟩) 1 1] w (InsPost base (.slice none 0 0) [] 0 x w) := by
  obtain ⟨ti, zv, t1, t2, t3, t4, t5⟩ := mInfo
  have HT := Lib.hid (And.intro t1 (And.intro t2 (And.intro t3 (And.intro t4 t5))))
  have HS := Lib.hid (src_v hv)
  have HB := Lib.hid hb
  clear t1 t2 t3 t4 t5 hv hb
  go_enter Try.func10, Try.ntmps10
  go_wp2_with (focus ((refine wpList_app _ rfl (.tmp 23) (.tmp 24) 36 36 rfl base 43 ti zv 3 32 Try.underlying36 HT.out.1 HT.out.2.1 HT.out.2.2.1 HT.out.2.2.2.1 HT.out.2.2.2.2 (by decide) (.slice none 0 0) 0 [] rfl (World.ownsRow_nil _ _ _ _) _ rfl 1 (m3 x) HS.out (by unfold maxLen; omega) (by decide) HB.out ?_); intro v2 w2 O2 G2 G2x; simp only [Act.put, List.setIfInBounds_toArray, List.set_cons_zero, List.set_cons_succ]))
  obtain ⟨g, c, rfl⟩ := own_succ O2
  have HO := Lib.hid O2
  have HG := Lib.hid G2
  have HX := Lib.hid G2x
  clear O2 G2 G2x
  go_wp2_with fail
  go_ret
  exact ⟨_, rfl, HO.out, .inr ⟨_, rfl, by rcases HX.out with h | h
                                          · simp [Value.ownBlock] at h
                                          · have : g = w.heap.size := by simpa [Value.ownBlock] using h
                                            exact Nat.le_of_eq this.symm⟩, Fr.ofGrown HG.out⟩
set_option maxRecDepth 100000 in
set_option maxHeartbeats 1600000 in
theorem ins_end (gv g c : Nat) (x : Mb) (L : List Mb) (base : Nat) (w : World) (own : MR w base (.slice (some ⟨g, 0, none⟩) L.length c) L) (hl : L.length ≤ 1000) (hv : VB w gv x) (hb : base ≤ w.heap.size) : Calls Try.prog 10 #[.slice (some ⟨g, 0, none⟩) L.length c, .int .i64 (L.length : Int), .slice (some ⟨gv, 0, none⟩) 1 1] w (InsPost base (.slice (some ⟨g, 0, none⟩) L.length c) L L.length x w) := by
  obtain ⟨ti, zv, t1, t2, t3, t4, t5⟩ := mInfo
  have HT := Lib.hid (And.intro t1 (And.intro t2 (And.intro t3 (And.intro t4 t5))))
  have HS := Lib.hid (src_v hv)
  have HB := Lib.hid hb
  have HO := Lib.hid own
  have HL := Lib.hid hl
  have hc : L.length ≤ c := by
    rcases own.2 with ⟨e, h0⟩ | ⟨g2, cap, cur, e, _, _, h, _⟩
    · simp at e
    · obtain ⟨rfl, rfl⟩ : g = g2 ∧ c = cap := by simpa using e
      exact h
  clear t1 t2 t3 t4 t5 hv hb own
  by_cases hcn : c = L.length
  · go_enter Try.func10, Try.ntmps10
    go_wp2_with (focus ((refine wpList_app _ rfl (.tmp 23) (.tmp 24) 36 36 rfl base 43 ti zv 3 32 Try.underlying36 HT.out.1 HT.out.2.1 HT.out.2.2.1 HT.out.2.2.2.1 HT.out.2.2.2.2 (by decide) (.slice (some ⟨g, 0, none⟩) L.length c) L.length (mc L) rfl HO.out _ rfl 1 (m3 x) HS.out (by have := HL.out; unfold maxLen; omega) (by have := HL.out; omega) HB.out ?_); intro v2 w2 O2 G2 G2x; simp only [Act.put, List.setIfInBounds_toArray, List.set_cons_zero, List.set_cons_succ]))
    obtain ⟨g2, c2, rfl⟩ := own_succ O2
    have HO2 := Lib.hid O2
    have HG := Lib.hid G2
    have HX := Lib.hid G2x
    clear O2 G2 G2x
    go_wp2_with fail
    go_ret
    refine ⟨_, rfl, ?_, HX.out.imp (fun h => h) (fun h => ⟨_, h, Nat.le_refl _⟩), Fr.ofGrown HG.out⟩
    show World.ownsRow _ _ _ _ _ _ _
    rw [mc_ins, ins_len L _ x (Nat.le_refl _), List.take_length, List.drop_length, mc_nil, List.append_nil]
    exact HO2.out
  · go_enter Try.func10, Try.ntmps10
    go_wp2_with (focus ((refine wpList_app _ rfl (.tmp 23) (.tmp 24) 36 36 rfl base 43 ti zv 3 32 Try.underlying36 HT.out.1 HT.out.2.1 HT.out.2.2.1 HT.out.2.2.2.1 HT.out.2.2.2.2 (by decide) (.slice (some ⟨g, 0, none⟩) L.length c) L.length (mc L) rfl HO.out _ rfl 1 (m3 x) HS.out (by have := HL.out; unfold maxLen; omega) (by have := HL.out; omega) HB.out ?_); intro v2 w2 O2 G2 G2x; simp only [Act.put, List.setIfInBounds_toArray, List.set_cons_zero, List.set_cons_succ]))
    obtain ⟨g2, c2, rfl⟩ := own_succ O2
    have HO2 := Lib.hid O2
    have HG := Lib.hid G2
    have HX := Lib.hid G2x
    clear O2 G2 G2x
    go_wp2_with fail
    go_ret
    refine ⟨_, rfl, ?_, HX.out.imp (fun h => h) (fun h => ⟨_, h, Nat.le_refl _⟩), Fr.ofGrown HG.out⟩
    show World.ownsRow _ _ _ _ _ _ _
    rw [mc_ins, ins_len L _ x (Nat.le_refl _), List.take_length, List.drop_length, mc_nil, List.append_nil]
    exact HO2.out
end Go.Proofs.Ytcpapielklplcaa

/-
  The schedule of one: its calls.
-/
import Derived.Test.YtkhaopmacjbgoaaLa
namespace Go.Proofs.Ytkhaopmacjbgoaa
open Go.RowKit
set_option linter.unusedVariables false
set_option linter.unusedSimpArgs false
def SB (w : World) (ps : Nat) (now : Int) (v : Value) : Prop := w.heap[ps]? = some (.cells #[.int .i64 now, v] 38 (0, 0))
theorem SB.c {w : World} {ps : Nat} {now : Int} {v : Value} (h : SB w ps now v) : w.cell? ⟨ps, 0, none⟩ = some (.int .i64 now) ∧ w.cell? ⟨ps, 1, none⟩ = some v ∧ w.frozen? ⟨ps, 0, none⟩ = false ∧ w.frozen? ⟨ps, 1, none⟩ = false :=
  ⟨(cell_of_block h 0).trans rfl, (cell_of_block h 1).trans rfl, free_of_block h 0, free_of_block h 1⟩
theorem SB.fr {w w' : World} {ps : Nat} {now : Int} {v : Value} {S : Nat → Prop} (h : SB w ps now v) (F : Fr S w w') (hS : ¬ S ps) : SB w' ps now v := (F.block ps (lt_of_block h) hS).trans h
theorem SB.set0 {w : World} {ps : Nat} {now : Int} {v : Value} (h : SB w ps now v) (n' : Int) : SB (w.setCell ⟨ps, 0, none⟩ (.int .i64 n')) ps n' v := (block_setCell h 0 _).trans rfl
theorem SB.set1 {w : World} {ps : Nat} {now : Int} {v : Value} (h : SB w ps now v) (v' : Value) : SB (w.setCell ⟨ps, 1, none⟩ v') ps now v' := (block_setCell h 1 _).trans rfl
structure S1 (w : World) (ps gm c : Nat) (now : Int) (s : ByteArray) (p a : Int) : Prop where
  blk : SB w ps now (.slice (some ⟨gm, 0, none⟩) 1 c)
  mem : M1 w gm s p a
  ne : ps ≠ gm
theorem S1.fr {w w' : World} {ps gm c : Nat} {now : Int} {s : ByteArray} {p a : Int} (h : S1 w ps gm c now s p a) (F : Fr (fun _ => False) w w') : S1 w' ps gm c now s p a := ⟨h.blk.fr F (fun h => h), h.mem.fr F (fun h => h), h.ne⟩
set_option maxRecDepth 100000 in
set_option maxHeartbeats 1600000 in
theorem find_none (ps : Nat) (now : Int) (s : ByteArray) (w : World) (h : SB w ps now (.slice none 0 0)) : Calls Try.prog 10 #[.pointer (some ⟨ps, 0, none⟩), .string s] w fun e w' => e = .returned (.tuple #[.int .i64 0, .bool false]) ∧ Fr (fun _ => False) w w' := by
  obtain ⟨_, c1, _⟩ := h.c
  go_enter Try.func10, Try.ntmps10
  go_wp2_with fail
  refine (bs_none s w).mono ?_
  rintro e w1 ⟨rfl, F1⟩
  go_wp2_with fail
  go_returns
  exact ⟨rfl, F1⟩
set_option maxRecDepth 100000 in
set_option maxHeartbeats 1600000 in
theorem find_one (ps gm c : Nat) (now : Int) (s : ByteArray) (hs : Own1 s) (p a : Int) (w : World) (h : S1 w ps gm c now s p a) : Calls Try.prog 10 #[.pointer (some ⟨ps, 0, none⟩), .string s] w fun e w' => e = .returned (.tuple #[.int .i64 0, .bool true]) ∧ Fr (fun _ => False) w w' := by
  obtain ⟨_, c1, _⟩ := h.blk.c
  go_enter Try.func10, Try.ntmps10
  go_wp2_with fail
  refine (bs_one s hs gm c p a w h.mem).mono ?_
  rintro e w1 ⟨rfl, F1⟩
  go_wp2_with fail
  go_returns
  exact ⟨rfl, F1⟩
set_option maxRecDepth 100000 in
set_option maxHeartbeats 1600000 in
theorem new0 (w : World) : Calls Try.prog 4 #[.int .i64 0] w fun e w' => e = .returned (.tuple #[.pointer (some ⟨w.heap.size, 0, none⟩), .int .i64 0]) ∧ SB w' w.heap.size 0 (.slice none 0 0) ∧ Fr (fun _ => False) w w' := by
  go_enter Try.func4, Try.ntmps4
  go_wp2_with fail
  go_returns
  exact ⟨rfl, heap_alloc_new w _, (Fr.refl _ w).alloc _⟩
theorem mInfo : ∃ ti z, Try.prog.info? 43 = some ti ∧ ti.zero = some z ∧ ti.size = 3 ∧ ti.bytes = 32 ∧ z.cells.size = 3 := ⟨_, .agg #[.string ⟨#[]⟩, .int .i64 0, .int .i64 0], rfl, by kernel_rfl, by kernel_rfl, by kernel_rfl, by kernel_rfl⟩
theorem sInfo : ∃ ti z, Try.prog.info? 9 = some ti ∧ ti.zero = some z ∧ ti.size = 1 ∧ ti.bytes = 16 ∧ z.cells.size = 1 := ⟨_, .string ⟨#[]⟩, rfl, by kernel_rfl, by kernel_rfl, by kernel_rfl, by kernel_rfl⟩
set_option maxRecDepth 100000 in
set_option maxHeartbeats 1600000 in
theorem ins_none (gv : Nat) (s : ByteArray) (p a : Int) (w : World) (h : w.heap[gv]? = some (.cells #[.string s, .int .i64 p, .int .i64 a] 43 (0, 0))) : Calls Try.prog 11 #[.slice none 0 0, .int .i64 0, .slice (some ⟨gv, 0, none⟩) 1 1] w fun e w' => ∃ gm c, e = .returned (.slice (some ⟨gm, 0, none⟩) 1 c) ∧ w.heap.size ≤ gm ∧ M1 w' gm s p a ∧ Fr (fun _ => False) w w' := by
  obtain ⟨ti, zv, t1, t2, t3, t4, t5⟩ := mInfo
  have HT := Lib.hid (And.intro t1 (And.intro t2 (And.intro t3 (And.intro t4 t5))))
  have hsrc : Src Try.prog 3 36 (.slice (some ⟨gv, 0, none⟩) 1 1) 1 [.string s, .int .i64 p, .int .i64 a] w := Src.ofSlice w Try.underlying36 ⟨gv, 0, none⟩ 1 1 _ rfl (fun j u hj => by
    rw [Addr.add_mid, Nat.zero_add, cell_of_block h]
    rw [← Array.getElem?_toList]; exact hj) (fun u hu => by
    simp only [List.mem_cons, List.not_mem_nil, or_false] at hu
    rcases hu with rfl | rfl | rfl <;> rfl)
  have HS := Lib.hid hsrc
  clear t1 t2 t3 t4 t5 hsrc h
  go_enter Try.func11, Try.ntmps11
  go_wp2_with (focus ((refine wpList_app _ rfl (.tmp 23) (.tmp 24) 36 36 rfl w.heap.size 43 ti zv 3 32 Try.underlying36 HT.out.1 HT.out.2.1 HT.out.2.2.1 HT.out.2.2.2.1 HT.out.2.2.2.2 (by decide) (.slice none 0 0) 0 [] rfl (World.ownsRow_nil _ _ _ _) _ rfl 1 [.string s, .int .i64 p, .int .i64 a] HS.out (by unfold maxLen; omega) (by decide) (Nat.le_refl _) ?_); intro v2 w2 O2 G2 G2x; simp only [Act.put, List.setIfInBounds_toArray, List.set_cons_zero, List.set_cons_succ]))
  rcases O2.2 with ⟨_, h0⟩ | ⟨g, cap, cur, rfl, hb, hg, _, _, _, hx⟩
  · omega
  · go_wp2_with fail
    go_ret
    have h3 : cur.toList.take 3 = [.string s, .int .i64 p, .int .i64 a] := hx
    have hc : ∀ j, j < 3 → cur[j]? = ([.string s, .int .i64 p, .int .i64 a] : List Value)[j]? := fun j hj => by
      rw [← Array.getElem?_toList, ← h3, List.getElem?_take_of_lt hj]
    exact ⟨g, cap, rfl, hb, ⟨cur, hg, hc 0 (by decide), hc 1 (by decide), hc 2 (by decide)⟩, (Fr.ofGrown G2).mono (fun _ _ e => by simp [Value.ownBlock] at e)⟩
set_option maxRecDepth 100000 in
set_option maxHeartbeats 1600000 in
theorem add_new (ps : Nat) (now p a : Int) (s : ByteArray) (w : World) (h : SB w ps now (.slice none 0 0)) (p1 : 1 ≤ p) (p2 : p ≤ 1000) (a0 : 0 ≤ a) : Calls Try.prog 5 #[.pointer (some ⟨ps, 0, none⟩), .string s, .int .i64 p, .int .i64 a] w fun e w' => e = .returned (.int .i64 0) ∧ ∃ gm c, S1 w' ps gm c now s p a ∧ w.heap.size ≤ gm ∧ Fr (fun k => k = ps) w w' := by
  have n1 : ¬ (p < 1) := by omega
  have n2 : ¬ (1000 < p) := by omega
  have n3 : ¬ (a < 0) := by omega
  have HS := Lib.hid h
  clear h p1 p2 a0
  go_enter Try.func5, Try.ntmps5
  go_wp2_with fail
  refine (find_none ps now s w HS.out).mono ?_
  rintro e w1 ⟨rfl, F1⟩
  have HB1 := Lib.hid (HS.out.fr F1 (fun h => h))
  obtain ⟨_, c1, _⟩ := HB1.out.c
  have HF1 := Lib.hid F1
  clear F1
  go_wp2_with fail
  have A1 := (Fr.refl (fun _ => False) w1).alloc (.cells #[.string s, .int .i64 p, .int .i64 a] 43)
  refine (ins_none w1.heap.size s p a _ (heap_alloc_new w1 _)).mono ?_
  rintro e w2 ⟨gm, c, rfl, hgm, hM, F2⟩
  have F12 := A1.trans F2 (fun _ h => h.elim)
  have HB2 := Lib.hid (HB1.out.fr F12 (fun h => h))
  obtain ⟨_, c1', _, f1'⟩ := HB2.out.c
  have hpl : ps < w1.heap.size := lt_of_block HB1.out
  have hgm2 : w1.heap.size < gm := by simp at hgm; omega
  have HM := Lib.hid hM
  have HF2 := Lib.hid (HF1.out.trans F12 (fun _ h => h.elim))
  have HP := Lib.hid hpl
  have HG := Lib.hid hgm2
  have HSZ := Lib.hid HF1.out.size
  clear A1 hgm hM F2 F12 c1 hpl hgm2
  go_wp2_with fail
  go_ret
  have FS : Fr (fun k => k = ps) w2 (w2.setCell ⟨ps, 1, none⟩ (.slice (some ⟨gm, 0, none⟩) 1 c)) := Fr.setCell (S := fun k => k = ps) (Fr.refl _ w2) (Or.inl rfl) _
  exact ⟨rfl, gm, c, ⟨HB2.out.set1 _, HM.out.fr FS (fun e => by have := HP.out; have := HG.out; omega), fun e => by have := HP.out; have := HG.out; omega⟩, by have := HG.out; have := HSZ.out; omega, (HF2.out.mono (fun _ _ h => h.elim)).trans FS (fun i hi => .inl hi)⟩
set_option maxRecDepth 100000 in
set_option maxHeartbeats 1600000 in
theorem grow_any (gm : Nat) (s : ByteArray) (p a : Int) (ha : a < 9223372036854775807) (a0 : 0 ≤ a) (w : World) (h : M1 w gm s p a) : Calls Try.prog 12 #[.pointer (some ⟨gm, 0, none⟩)] w fun e w' => e = .returned (.tuple #[]) ∧ M1 w' gm s p (a + 1) ∧ Fr (fun k => k = gm) w w' := by
  obtain ⟨_, _, c2, f2⟩ := h.c
  have m1 : wrap64 (a + 1) = a + 1 := IntWalk.wrap64_in _ (by omega)
  have HM := Lib.hid (h.set (a + 1))
  go_enter Try.func12, Try.ntmps12
  go_wp2_with fail
  go_end0
  refine ⟨rfl, ?_, Fr.setCell (S := fun k => k = gm) (Fr.refl _ w) (Or.inl rfl) _⟩
  exact HM.out
set_option maxRecDepth 100000 in
set_option maxHeartbeats 1600000 in
theorem due_any (gm : Nat) (s : ByteArray) (p a r : Int) (hp : 1 ≤ p) (hr : a.tmod p = r) (w : World) (h : M1 w gm s p a) : Calls Try.prog 13 #[.pointer (some ⟨gm, 0, none⟩)] w fun e w' => e = .returned (.bool (r == 0)) ∧ Fr (fun _ => False) w w' := by
  obtain ⟨_, q1, q2, _⟩ := h.c
  have HM := Lib.hid h
  have hp0 : ¬ (p = 0) := by omega
  have c1 : ∀ y : Wd w, y.w.cell? ⟨gm, 1, none⟩ = some (.int .i64 p) := fun y => (HM.out.fr y.h (fun h => h)).c.2.1
  have c2 : ∀ y : Wd w, y.w.cell? ⟨gm, 2, none⟩ = some (.int .i64 a) := fun y => (HM.out.fr y.h (fun h => h)).c.2.2.1
  clear q1 q2 h hp
  go_enter Try.func13, Try.ntmps13
  go_wp2_with fail
  refine wp_region_keep (by kernel_rfl) (by kernel_rfl) ?_
  repeat (any_goals (first | go_big_quiet_step (fail) | quiet_step (fail)))
  refine wpQuiet_nil ?_
  intro _ hwz
  obtain ⟨y, rfl⟩ := hwz
  have HF := Lib.hid y.h
  go_wp2_with fail
  go_ret
  exact ⟨rfl, HF.out⟩
set_option maxRecDepth 100000 in
set_option maxHeartbeats 1600000 in
theorem now_any (ps : Nat) (now : Int) (v : Value) (w : World) (h : SB w ps now v) : Calls Try.prog 9 #[.pointer (some ⟨ps, 0, none⟩)] w fun e w' => e = .returned (.int .i64 now) ∧ w = w' := by
  obtain ⟨c0, _, _⟩ := h.c
  go_enter Try.func9, Try.ntmps9
  go_wp2_with fail
  go_ret
  exact ⟨rfl, rfl⟩
end Go.Proofs.Ytkhaopmacjbgoaa

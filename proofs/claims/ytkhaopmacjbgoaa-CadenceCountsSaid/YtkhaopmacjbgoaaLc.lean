/-
  The schedule of one: Tick and Next.
-/
import Derived.Test.YtkhaopmacjbgoaaLb
namespace Go.Proofs.Ytkhaopmacjbgoaa
open Go.RowKit
set_option linter.unusedVariables false
set_option linter.unusedSimpArgs false
theorem szM : (Try.prog.info? 43).map (·.size) = some 3 := by kernel_rfl
theorem szMr (s : ByteArray) (p a : Int) : Sz 3 #[.string s, .int .i64 p, .int .i64 a] := ⟨rfl, by simp [Value.oneCell']⟩
theorem src_s (s : ByteArray) (V : World) : Src Try.prog 1 31 (.slice (some ⟨V.heap.size, 0, none⟩) 1 1) 1 [.string s] (V.alloc (.cells #[.string s] 9)) := Src.ofSlice _ Try.underlying31 ⟨V.heap.size, 0, none⟩ 1 1 [.string s] rfl (fun j u hj => by
  rw [Addr.add_mid, Nat.zero_add, cell_of_block (heap_alloc_new V _), ← Array.getElem?_toList]; exact hj) (fun u hu => by
  have : u = .string s := by simpa using hu
  rw [this]; rfl)
set_option maxRecDepth 100000 in
set_option maxHeartbeats 1600000 in
theorem tick_yes (ps gm c : Nat) (now p a : Int) (hr : (a + 1).tmod p = 0) (s : ByteArray) (hp : 1 ≤ p) (n0 : 0 ≤ now) (n1 : now ≤ 1000000) (a0 : 0 ≤ a) (a1 : a ≤ 1000000) (w : World) (h : S1 w ps gm c now s p a) : Calls Try.prog 8 #[.pointer (some ⟨ps, 0, none⟩)] w fun e w' => ∃ g c', e = .returned (.tuple #[.slice (some ⟨g, 0, none⟩) 1 c', .int .i64 0]) ∧ w'.cell? ⟨g, 0, none⟩ = some (.string s) ∧ w.heap.size ≤ g ∧ S1 w' ps gm c (now + 1) s p (a + 1) ∧ Fr (fun k => k = ps ∨ k = gm) w w' := by
  obtain ⟨c0, c1, f0, _⟩ := h.blk.c
  have m1 : wrap64 (now + 1) = now + 1 := IntWalk.wrap64_in _ (by omega)
  have q1 : (now == 9223372036854775807) = false := beq_eq_false_iff_ne.2 (by omega)
  have HS := Lib.hid h
  have HA0 := Lib.hid a0
  have HA1 := Lib.hid a1
  have HP := Lib.hid hp
  have HR := Lib.hid hr
  have F0 : Fr (fun k => k = ps ∨ k = gm) w (w.setCell ⟨ps, 0, none⟩ (.int .i64 (now + 1))) := Fr.setCell (S := fun k => k = ps ∨ k = gm) (Fr.refl _ w) (Or.inl (.inl rfl)) _
  have S0 : S1 (w.setCell ⟨ps, 0, none⟩ (.int .i64 (now + 1))) ps gm c (now + 1) s p a := ⟨h.blk.set0 _, h.mem.fr (Fr.setCell (S := fun k => k = ps) (Fr.refl _ w) (Or.inl rfl) _) (fun e => h.ne e.symm), h.ne⟩
  obtain ⟨_, d1, _, _⟩ := S0.blk.c
  have HS0 := Lib.hid S0
  have HF0 := Lib.hid F0
  clear S0 F0 hp a0 a1 hr n0 n1 h
  go_enter Try.func8, Try.ntmps8
  go_wp2_with fail
  clear c0 c1 f0 d1 m1 q1
  go_loopw [26, 4] (fun i dd wr => ∃ k : Nat, k ≤ 1 ∧ ∃ d : Value, i = .int .i64 (k : Int) ∧ dd = d ∧ ((k = 0 ∧ d = .slice none 0 0 ∧ S1 wr ps gm c (now + 1) s p a ∧ Fr (fun k => k = ps ∨ k = gm) w wr) ∨ (k = 1 ∧ ∃ g c', d = .slice (some ⟨g, 0, none⟩) 1 c' ∧ wr.cell? ⟨g, 0, none⟩ = some (.string s) ∧ w.heap.size ≤ g ∧ S1 wr ps gm c (now + 1) s p (a + 1) ∧ Fr (fun k => k = ps ∨ k = gm) w wr))) (fun i _ _ => 1 - (intOf i).toNat)
  case atStart => exact ⟨0, by omega, _, by simp, rfl, .inl ⟨rfl, rfl, HS0.out, HF0.out⟩⟩
  case round =>
    obtain ⟨k, hk, d, rfl, rfl, hrr⟩ := hrel
    rcases hrr with ⟨rfl, rfl, hS, hF⟩ | ⟨rfl, hA⟩
    · obtain ⟨_, c1, _, _⟩ := hS.blk.c
      have HS2 := Lib.hid hS
      have HF2 := Lib.hid hF
      clear hS hF
      go_wp2_with fail
      refine (grow_any gm s p a (by have := HA1.out; omega) HA0.out wr HS2.out.mem).mono ?_
      rintro e w3 ⟨rfl, hM3, F3⟩
      have HB3 := Lib.hid (HS2.out.blk.fr F3 (fun e => HS2.out.ne e))
      have HM3 := Lib.hid hM3
      have HF3 := Lib.hid (HF2.out.trans F3 (fun i e => .inl (.inr e)))
      clear c1 hM3 F3
      go_wp2_with fail
      refine (due_any gm s p (a + 1) 0 HP.out HR.out w3 HM3.out).mono ?_
      rintro e w4 ⟨rfl, F4⟩
      have HB4 := Lib.hid (HB3.out.fr F4 (fun h => h))
      have HM4 := Lib.hid (HM3.out.fr F4 (fun h => h))
      have HF4 := Lib.hid (HF3.out.trans F4 (fun _ h => h.elim))
      clear F4
      obtain ⟨m0, _, _, _⟩ := HM4.out.c
      obtain ⟨ti, zv, t1, t2, t3, t4, t5⟩ := sInfo
      have HT := Lib.hid (And.intro t1 (And.intro t2 (And.intro t3 (And.intro t4 t5))))
      have HSRC := Lib.hid (fun V : World => src_s s V)
      have HSZ := Lib.hid HF4.out.size
      have A4 := (Fr.refl (fun _ => False) w4).alloc (.cells #[.string s] 9)
      have HA4 := Lib.hid A4
      clear t1 t2 t3 t4 t5 A4
      go_wp2_with (focus ((refine wpList_app _ rfl (.tmp 39) (.tmp 44) 31 31 rfl w.heap.size 9 ti zv 1 16 Try.underlying31 HT.out.1 HT.out.2.1 HT.out.2.2.1 HT.out.2.2.2.1 HT.out.2.2.2.2 (by decide) (.slice none 0 0) 0 [] rfl (World.ownsRow_nil _ _ _ _) _ rfl 1 [.string s] (HSRC.out _) (by unfold maxLen; omega) (by decide) (by have := HSZ.out; simp; omega) ?_); intro v2 w5 O5 G5 G5x; simp only [Act.put, List.setIfInBounds_toArray, List.set_cons_zero, List.set_cons_succ]))
      rcases O5.2 with ⟨_, h0⟩ | ⟨g, cap, cur, rfl, hb, hg, _, _, _, hx⟩
      · omega
      · have F5 := HA4.out.trans ((Fr.ofGrown G5).mono (T := fun _ => False) (fun _ _ e => by simp [Value.ownBlock] at e)) (fun _ h => h.elim)
        have hcx : w5.cell? ⟨g, 0, none⟩ = some (.string s) := by
          rw [cell_of_block hg, ← Array.getElem?_toList, ← List.getElem?_take_of_lt (show 0 < (0 + 1) * 1 by decide), hx]; rfl
        have HS5 := Lib.hid (show S1 w5 ps gm c (now + 1) s p (a + 1) from ⟨HB4.out.fr F5 (fun h => h), HM4.out.fr F5 (fun h => h), HS2.out.ne⟩)
        have HF5 := Lib.hid (HF4.out.trans F5 (fun _ h => h.elim))
        have HC5 := Lib.hid hcx
        have HG5 := Lib.hid hb
        clear O5 G5 G5x hb hg hx F5 hcx m0
        go_wp2_with fail
        exact ⟨⟨1, by omega, _, by simp, rfl, .inr ⟨rfl, g, cap, rfl, HC5.out, HG5.out, HS5.out, HF5.out⟩⟩, by simp [intOf]⟩
    · obtain ⟨g, c', rfl, hcx, hgs, hS, hF⟩ := hA
      have H1 := Lib.hid hcx
      have H2 := Lib.hid hS
      have H3 := Lib.hid hF
      clear hcx hS hF
      go_wp2_with fail
      go_returns
      exact ⟨g, c', rfl, H1.out, hgs, H2.out, H3.out⟩
set_option maxRecDepth 100000 in
set_option maxHeartbeats 1600000 in
theorem tick_no (ps gm c : Nat) (now p a : Int) {r : Int} (hr : (a + 1).tmod p = r) (hr0 : (r == 0) = false) (s : ByteArray) (hp : 1 ≤ p) (n0 : 0 ≤ now) (n1 : now ≤ 1000000) (a0 : 0 ≤ a) (a1 : a ≤ 1000000) (w : World) (h : S1 w ps gm c now s p a) : Calls Try.prog 8 #[.pointer (some ⟨ps, 0, none⟩)] w fun e w' => e = .returned (.tuple #[.slice none 0 0, .int .i64 0]) ∧ S1 w' ps gm c (now + 1) s p (a + 1) ∧ Fr (fun k => k = ps ∨ k = gm) w w' := by
  obtain ⟨c0, c1, f0, _⟩ := h.blk.c
  have m1 : wrap64 (now + 1) = now + 1 := IntWalk.wrap64_in _ (by omega)
  have q1 : (now == 9223372036854775807) = false := beq_eq_false_iff_ne.2 (by omega)
  have HS := Lib.hid h
  have HA0 := Lib.hid a0
  have HA1 := Lib.hid a1
  have HP := Lib.hid hp
  have HR := Lib.hid hr
  have F0 : Fr (fun k => k = ps ∨ k = gm) w (w.setCell ⟨ps, 0, none⟩ (.int .i64 (now + 1))) := Fr.setCell (S := fun k => k = ps ∨ k = gm) (Fr.refl _ w) (Or.inl (.inl rfl)) _
  have S0 : S1 (w.setCell ⟨ps, 0, none⟩ (.int .i64 (now + 1))) ps gm c (now + 1) s p a := ⟨h.blk.set0 _, h.mem.fr (Fr.setCell (S := fun k => k = ps) (Fr.refl _ w) (Or.inl rfl) _) (fun e => h.ne e.symm), h.ne⟩
  obtain ⟨_, d1, _, _⟩ := S0.blk.c
  have HS0 := Lib.hid S0
  have HF0 := Lib.hid F0
  clear S0 F0 hp a0 a1 hr n0 n1 h
  go_enter Try.func8, Try.ntmps8
  go_wp2_with fail
  clear c0 c1 f0 d1 m1 q1
  go_loopw [26, 4] (fun i dd wr => ∃ k : Nat, k ≤ 1 ∧ ∃ d : Value, i = .int .i64 (k : Int) ∧ dd = d ∧ ((k = 0 ∧ d = .slice none 0 0 ∧ S1 wr ps gm c (now + 1) s p a ∧ Fr (fun k => k = ps ∨ k = gm) w wr) ∨ (k = 1 ∧ d = .slice none 0 0 ∧ S1 wr ps gm c (now + 1) s p (a + 1) ∧ Fr (fun k => k = ps ∨ k = gm) w wr))) (fun i _ _ => 1 - (intOf i).toNat)
  case atStart => exact ⟨0, by omega, _, by simp, rfl, .inl ⟨rfl, rfl, HS0.out, HF0.out⟩⟩
  case round =>
    obtain ⟨k, hk, d, rfl, rfl, hrr⟩ := hrel
    rcases hrr with ⟨rfl, rfl, hS, hF⟩ | ⟨rfl, hA⟩
    · obtain ⟨_, c1, _, _⟩ := hS.blk.c
      have HS2 := Lib.hid hS
      have HF2 := Lib.hid hF
      clear hS hF
      go_wp2_with fail
      refine (grow_any gm s p a (by have := HA1.out; omega) HA0.out wr HS2.out.mem).mono ?_
      rintro e w3 ⟨rfl, hM3, F3⟩
      have HB3 := Lib.hid (HS2.out.blk.fr F3 (fun e => HS2.out.ne e))
      have HM3 := Lib.hid hM3
      have HF3 := Lib.hid (HF2.out.trans F3 (fun i e => .inl (.inr e)))
      clear c1 hM3 F3
      go_wp2_with fail
      refine (due_any gm s p (a + 1) r HP.out HR.out w3 HM3.out).mono ?_
      rintro e w4 ⟨rfl, F4⟩
      have HB4 := Lib.hid (HB3.out.fr F4 (fun h => h))
      have HM4 := Lib.hid (HM3.out.fr F4 (fun h => h))
      have HF4 := Lib.hid (HF3.out.trans F4 (fun _ h => h.elim))
      clear F4
      go_wp2_with fail
      exact ⟨⟨1, by omega, _, by simp, rfl, .inr ⟨rfl, rfl, ⟨HB4.out, HM4.out, HS2.out.ne⟩, HF4.out⟩⟩, by simp [intOf]⟩
    · obtain ⟨rfl, hS, hF⟩ := hA
      have H2 := Lib.hid hS
      have H3 := Lib.hid hF
      clear hS hF
      go_wp2_with fail
      go_returns
      exact ⟨rfl, H2.out, H3.out⟩
set_option maxRecDepth 100000 in
set_option maxHeartbeats 1600000 in
theorem next_one (ps gm c : Nat) (now p a r : Int) (hr : a.tmod p = r) (s : ByteArray) (hs : Own1 s) (hp : 1 ≤ p) (hp2 : p ≤ 1000) (r0 : 0 ≤ r) (r1 : r < p) (n0 : 0 ≤ now) (n1 : now ≤ 1000000) (a0 : 0 ≤ a) (a1 : a ≤ 1000000) (w : World) (h : S1 w ps gm c now s p a) : Calls Try.prog 7 #[.pointer (some ⟨ps, 0, none⟩), .string s] w fun e w' => e = .returned (.tuple #[.int .i64 (now + (p - r)), .int .i64 0]) ∧ Fr (fun _ => False) w w' := by
  have HS := Lib.hid h
  have hb : 1 ≤ p - r ∧ p - r ≤ 1000 := by omega
  have m1 : wrap64 (p - r) = p - r := IntWalk.wrap64_in _ (by omega)
  have m2 : wrap64 (9223372036854775807 - now) = 9223372036854775807 - now := IntWalk.wrap64_in _ (by omega)
  have m3 : wrap64 (9223372036854775807 - a) = 9223372036854775807 - a := IntWalk.wrap64_in _ (by omega)
  have m4 : wrap64 (now + (p - r)) = now + (p - r) := IntWalk.wrap64_in _ (by omega)
  have i1 : ¬ (9223372036854775807 - now < p - r) := by omega
  have i2 : ¬ (9223372036854775807 - a < p - r) := by omega
  have hp0 : ¬ (p = 0) := by omega
  have H1 := Lib.hid m1
  have H2 := Lib.hid m2
  have H3 := Lib.hid m3
  have H4 := Lib.hid m4
  have H5 := Lib.hid i1
  have H6 := Lib.hid i2
  have H7 := Lib.hid hr
  have H8 := Lib.hid hp0
  clear m1 m2 m3 m4 i1 i2 hr hp0 hb hp hp2 r0 r1 n0 n1 a0 a1 h
  go_enter Try.func7, Try.ntmps7
  go_wp2_with fail
  refine (find_one ps gm c now s hs p a w HS.out).mono ?_
  rintro e w1 ⟨rfl, F1⟩
  have HS1 := Lib.hid (HS.out.fr F1)
  have HF1 := Lib.hid F1
  obtain ⟨b0, b1, _, _⟩ := HS1.out.blk.c
  obtain ⟨d0, d1, d2, _⟩ := HS1.out.mem.c
  have K1 := (Kn.start w1).new w1.heap.size 3 #[.string ⟨#[]⟩, .int .i64 0, .int .i64 0] 43 rfl rfl
  clear F1
  go_wp2_with (first | (focus (((with_reducible refine' wpList_store_kn K1 rfl 43 (.tmp 8) (.tmp 26) rfl 0 _ _ _ _ _ rfl rfl szM _ _ _); rotate_left 2; (focus exact rfl)); (focus exact szMr _ _ _); intro wz Kz; simp only [List.set_cons_zero, List.set_cons_succ] at Kz; clear K1; have K2 := Kz; clear Kz; try (simp only [Act.put, List.setIfInBounds_toArray, List.set_cons_zero, List.set_cons_succ]))))
  clear b0 b1 d0 d1 d2
  have HK2 := Lib.hid K2
  have x1 : ∀ y : Wd wz, y.w.cell? ⟨w1.heap.size, 1, none⟩ = some (.int .i64 p) := fun y => HK2.out.celld y 0 rfl 1 rfl
  have x2 : ∀ y : Wd wz, y.w.cell? ⟨w1.heap.size, 2, none⟩ = some (.int .i64 a) := fun y => HK2.out.celld y 0 rfl 2 rfl
  have m1 := H1.out
  have hr := H7.out
  have hp0 := H8.out
  refine wp_region_keep (by kernel_rfl) (by kernel_rfl) ?_
  repeat (any_goals (first | go_big_quiet_step (fail) | quiet_step (fail)))
  refine wpQuiet_nil ?_
  intro _ hwz
  obtain ⟨y, rfl⟩ := hwz
  have FY := HK2.out.fr.trans y.h (fun _ h => h.elim)
  obtain ⟨b0, _, _, _⟩ := (HS1.out.fr FY).blk.c
  have e2 : y.w.cell? ⟨w1.heap.size, 2, none⟩ = some (.int .i64 a) := x2 y
  have HF2 := Lib.hid (HF1.out.trans FY (fun _ h => h.elim))
  clear x1 x2 m1 hr hp0 FY HK2 K2
  rw [H1.out]
  have m2 := H2.out
  have m3 := H3.out
  have m4 := H4.out
  have i1 := H5.out
  have i2 := H6.out
  go_wp2_with fail
  go_returns
  exact ⟨by rw [show wrap64 (now + (p - r)) = now + (p - r) from H4.out]; rfl, HF2.out⟩
end Go.Proofs.Ytkhaopmacjbgoaa

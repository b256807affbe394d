/-
  The contract of mix of package sha5.
-/
import Derived.Test.YtmoepalhoaekgaaDoorSch5
import Derived.Test.YtmoepalhoaekgaaDoorMix
namespace Go.Proofs.YtmoepalhoaekgaaDoor
open Go.RowKit
set_option linter.unusedVariables false

/-- A state as eight words. -/
def stv5 (s : S5.St) : Array Value := #[.int .u64 (s.a : Int), .int .u64 (s.b : Int), .int .u64 (s.c : Int), .int .u64 (s.d : Int), .int .u64 (s.e : Int), .int .u64 (s.f : Int), .int .u64 (s.g : Int), .int .u64 (s.h : Int)]
/-- The table of the rounds' words. -/
def Tab5 (w : World) : Prop := ∀ j, j < 80 → w.cell? ⟨5, j, none⟩ = some (.int .u64 (S5.K j : Int))

theorem Tab5.fr {w w2 : World} {S : Nat → Prop} (h : Tab5 w) (hF : Fr S w w2) (hs : ¬ S 5) : Tab5 w2 := fun j hj => hF.cellSome (p := ⟨5, j, none⟩) hs (h j hj)
/-- The rounds' state as slots. -/
def RSt5 (t : S5.St) (va vb vc vd ve vf vg vh : Value) : Prop := va = .int .u64 (t.a : Int) ∧ vb = .int .u64 (t.b : Int) ∧ vc = .int .u64 (t.c : Int) ∧ vd = .int .u64 (t.d : Int) ∧ ve = .int .u64 (t.e : Int) ∧ vf = .int .u64 (t.f : Int) ∧ vg = .int .u64 (t.g : Int) ∧ vh = .int .u64 (t.h : Int)
/-- What stands while the rounds go on. -/
structure MixAt5 (w wr : World) (s : S5.St) : Prop where
  box : wr.heap[w.heap.size]? = some (.cells (stv5 s) 65 (0, 0))
  res : ∃ rs, wr.heap[w.heap.size + 1]? = some (.cells rs 65 (0, 0)) ∧ rs.size = 8
  fr : Fr (fun _ => False) w wr
theorem MixAt5.to {w wr w2 : World} {s : S5.St} (h : MixAt5 w wr s) (hF : Fr (fun _ => False) wr w2) : MixAt5 w w2 s := by
  obtain ⟨rs, h1, h2⟩ := h.res
  exact ⟨(hF.block _ (lt_of_block h.box) (fun h => h)).trans h.box, ⟨rs, (hF.block _ (lt_of_block h1) (fun h => h)).trans h1, h2⟩, h.fr.trans hF (fun _ h => h.elim)⟩
theorem rnds_ok5 (W : List Nat) (s : S5.St) (hs : s.ok) (k : Nat) : (S5.rnds W s k).ok := by
  induction k with
  | zero => exact hs
  | succ k ih =>
    have hm : ∀ n, n % S5.M < S5.M := fun n => Nat.mod_lt _ (by decide)
    obtain ⟨h1, h2, h3, h4, h5, h6, h7, h8⟩ := ih
    exact ⟨hm _, h1, h2, h3, hm _, h5, h6, h7⟩

theorem run_index645 (f : Nat → Nat) (k : Nat) (hk : k < 80) (w : World) : (Instr.index 74 (.agg (uv5 80 f)) (.int .i64 (k : Int))).run Tryd.prog w = .ok (.int .u64 (f k : Int)) w := by
  have h1 := uv_get5 80 f k hk
  have hc : (0 : Int) ≤ (k : Int) ∧ (k : Int) < 80 := by omega
  obtain ⟨i0, hi, hz⟩ := Option.map_eq_some_iff.1 (show (Tryd.prog.info? 34).map (·.size) = some 1 by kernel_rfl)
  simp [Instr.index, asIntOf, run_underlying Tryd.underlying74, hk, part, sizeOf, typeInfo, hi, hz, h1]
theorem T1_eq5 (t : S5.St) (ok : t.ok) (k w : Nat) :
    IntKind.u64.wrap (IntKind.u64.wrap (IntKind.u64.wrap (IntKind.u64.wrap (↑t.h + ↑(S5.bs1 t.e)) + bits .xor .u64 (bits .and .u64 ↑t.e ↑t.f) (bits .and .u64 (bits .xor .u64 (if IntKind.u64.signed = true then -1 else IntKind.u64.max) ↑t.e) ↑t.g)) + ↑k) + ↑w) = ((S5.T1 t k w : Nat) : Int) := by
  obtain ⟨h1, h2, h3, h4, h5, h6, h7, h8⟩ := ok
  simp only [S5.M] at h1 h2 h3 h4 h5 h6 h7 h8
  have e1 : (if IntKind.u64.signed = true then (-1 : Int) else IntKind.u64.max) = ((18446744073709551615 : Nat) : Int) := by decide
  rw [e1, (bits_u64_nat5 _ _ (by decide) h5).2.2, (bits_u64_nat5 _ _ h5 h6).2.1, (bits_u64_nat5 _ _ (Nat.xor_lt_two_pow (n := 64) (by decide) h5) h7).2.1,
    (bits_u64_nat5 _ _ (Nat.and_lt_two_pow (n := 64) _ h6) (Nat.and_lt_two_pow (n := 64) _ h7)).2.2]
  rw [IntKind.wrap_u64, IntKind.wrap_u64, IntKind.wrap_u64, IntKind.wrap_u64]
  unfold S5.T1 S5.ch S5.M
  omega
theorem T2_eq5 (t : S5.St) (ok : t.ok) :
    IntKind.u64.wrap (↑(S5.bs0 t.a) + bits .xor .u64 (bits .xor .u64 (bits .and .u64 ↑t.a ↑t.b) (bits .and .u64 ↑t.a ↑t.c)) (bits .and .u64 ↑t.b ↑t.c)) = ((S5.T2 t : Nat) : Int) := by
  obtain ⟨h1, h2, h3, h4, h5, h6, h7, h8⟩ := ok
  simp only [S5.M] at h1 h2 h3 h4 h5 h6 h7 h8
  rw [(bits_u64_nat5 _ _ h1 h2).2.1, (bits_u64_nat5 _ _ h1 h3).2.1, (bits_u64_nat5 _ _ h2 h3).2.1,
    (bits_u64_nat5 _ _ (Nat.and_lt_two_pow (n := 64) _ h2) (Nat.and_lt_two_pow (n := 64) _ h3)).2.2,
    (bits_u64_nat5 _ _ (Nat.xor_lt_two_pow (n := 64) (Nat.and_lt_two_pow (n := 64) _ h2) (Nat.and_lt_two_pow (n := 64) _ h3)) (Nat.and_lt_two_pow (n := 64) _ h3)).2.2]
  rw [IntKind.wrap_u64]
  unfold S5.T2 S5.maj S5.M
  omega

theorem rst_of5 (t : S5.St) (k w : Nat) : RSt5 (S5.rnd t k w) (.int .u64 (IntKind.u64.wrap (↑(S5.T1 t k w) + ↑(S5.T2 t)))) (.int .u64 ↑t.a) (.int .u64 ↑t.b) (.int .u64 ↑t.c) (.int .u64 (IntKind.u64.wrap (↑t.d + ↑(S5.T1 t k w)))) (.int .u64 ↑t.e) (.int .u64 ↑t.f) (.int .u64 ↑t.g) :=
  ⟨by rw [IntKind.wrap_u64]; show _ = Value.int .u64 (((S5.T1 t k w + S5.T2 t) % 18446744073709551616 : Nat) : Int); simp, rfl, rfl, rfl, by rw [IntKind.wrap_u64]; show _ = Value.int .u64 (((t.d + S5.T1 t k w) % 18446744073709551616 : Nat) : Int); simp, rfl, rfl, rfl⟩

theorem Tryd.size8w {m : S5.St} : (Tryd.prog.info? 65).map (·.size) = some (stv5 m).size := by
  show _ = some 8
  kernel_rfl
theorem stv_size5 (m : S5.St) : (stv5 m).size = 8 := rfl
theorem stv_one5 (m : S5.St) : (stv5 m).all (·.oneCell') = true := by simp [stv5, Value.oneCell']
theorem mix_end5 {w wr : World} {s t m : S5.St} (h : MixAt5 w wr s) (hm : s.add t = m) :
    MixAt5 w ((((((((wr.setCell ⟨w.heap.size, 0, none⟩ (.int .u64 (IntKind.u64.wrap (↑s.a + ↑t.a)))).setCell ⟨w.heap.size, 1, none⟩ (.int .u64 (IntKind.u64.wrap (↑s.b + ↑t.b)))).setCell ⟨w.heap.size, 2, none⟩ (.int .u64 (IntKind.u64.wrap (↑s.c + ↑t.c)))).setCell ⟨w.heap.size, 3, none⟩ (.int .u64 (IntKind.u64.wrap (↑s.d + ↑t.d)))).setCell ⟨w.heap.size, 4, none⟩ (.int .u64 (IntKind.u64.wrap (↑s.e + ↑t.e)))).setCell ⟨w.heap.size, 5, none⟩ (.int .u64 (IntKind.u64.wrap (↑s.f + ↑t.f)))).setCell ⟨w.heap.size, 6, none⟩ (.int .u64 (IntKind.u64.wrap (↑s.g + ↑t.g)))).setCell ⟨w.heap.size, 7, none⟩ (.int .u64 (IntKind.u64.wrap (↑s.h + ↑t.h)))) m := by
  have hF : ∀ (W : World) (o : Nat) (v : Value), Fr (fun k => k = w.heap.size) wr W → Fr (fun k => k = w.heap.size) wr (W.setCell ⟨w.heap.size, o, none⟩ v) := fun W o v hW => hW.setCell (Or.inl rfl) v
  have hT := hF _ 7 (.int .u64 (IntKind.u64.wrap (↑s.h + ↑t.h))) (hF _ 6 (.int .u64 (IntKind.u64.wrap (↑s.g + ↑t.g))) (hF _ 5 (.int .u64 (IntKind.u64.wrap (↑s.f + ↑t.f))) (hF _ 4 (.int .u64 (IntKind.u64.wrap (↑s.e + ↑t.e))) (hF _ 3 (.int .u64 (IntKind.u64.wrap (↑s.d + ↑t.d))) (hF _ 2 (.int .u64 (IntKind.u64.wrap (↑s.c + ↑t.c))) (hF _ 1 (.int .u64 (IntKind.u64.wrap (↑s.b + ↑t.b))) (hF _ 0 (.int .u64 (IntKind.u64.wrap (↑s.a + ↑t.a))) (Fr.refl _ wr))))))))
  obtain ⟨rs, r1, r2⟩ := h.res
  refine ⟨?_, ⟨rs, (hT.block _ (lt_of_block r1) (by omega)).trans r1, r2⟩, h.fr.trans hT (fun i hi => Or.inr (by omega))⟩
  have hb := block_setCell (block_setCell (block_setCell (block_setCell (block_setCell (block_setCell (block_setCell (block_setCell h.box 0 (.int .u64 (IntKind.u64.wrap (↑s.a + ↑t.a)))) 1 (.int .u64 (IntKind.u64.wrap (↑s.b + ↑t.b)))) 2 (.int .u64 (IntKind.u64.wrap (↑s.c + ↑t.c)))) 3 (.int .u64 (IntKind.u64.wrap (↑s.d + ↑t.d)))) 4 (.int .u64 (IntKind.u64.wrap (↑s.e + ↑t.e)))) 5 (.int .u64 (IntKind.u64.wrap (↑s.f + ↑t.f)))) 6 (.int .u64 (IntKind.u64.wrap (↑s.g + ↑t.g)))) 7 (.int .u64 (IntKind.u64.wrap (↑s.h + ↑t.h)))
  rw [hb]
  subst hm
  simp [stv5, S5.St.add, S5.M, IntKind.wrap_u64]

set_option maxRecDepth 100000 in
set_option maxHeartbeats 1600000 in
theorem mix_any5 (s : S5.St) (hs : s.ok) (b off : Nat) (l : List UInt8) (w : World) (hb : Blk5 w b off l) (hlt : b < w.heap.size) (hT : Tab5 w) (hT2 : 5 < w.heap.size) :
    Calls Tryd.prog 53 #[.agg (stv5 s), .pointer (some ⟨b, off, none⟩)] w fun e w' => e = .returned (.agg (stv5 (S5.mix s l))) ∧ Fr (fun _ => False) w w' := by
  have h0 : MixAt5 w ((w.alloc (.cells (stv5 s) 65)).alloc (.cells #[.int .u64 0, .int .u64 0, .int .u64 0, .int .u64 0, .int .u64 0, .int .u64 0, .int .u64 0, .int .u64 0] 65)) s :=
    ⟨heap_alloc2_old w _ _, ⟨_, heap_alloc2_new w _ _, rfl⟩, ((Fr.refl _ w).alloc _).alloc _⟩
  generalize hpost : S5.mix s l = m
  have Hpost := Lib.hid hpost
  clear hpost
  unfold stv5 at h0 ⊢
  go_enter Tryd.func53, Tryd.ntmps53
  go_wp2_with fail
  go_quiet (fail)
  go_wp2_with fail
  refine (sched_any5 b off l _ (hb.fr (h0.fr.drewN nq) (fun h => h)) (by simp; omega)).mono ?_
  rintro e w1 ⟨rfl, F1⟩
  have h1 := h0.to (((Fr.refl (fun _ => False) _).drewN nq).trans F1 (fun _ h => h.elim))
  clear F1 h0
  go_wp2_with fail
  go_loopw [5, 6, 7, 8, 9, 10, 11, 12, 37] (fun va vb vc vd ve vf vg vh i wr => ∃ k : Nat, k ≤ 80 ∧ i = .int .i64 k ∧ RSt5 (S5.rnds (S5.sch l 64) s k) va vb vc vd ve vf vg vh ∧ MixAt5 w wr s) (fun _ _ _ _ _ _ _ _ i _ => 80 - (intOf i).toNat)
  case atStart => exact ⟨0, by omega, by simp, ⟨rfl, rfl, rfl, rfl, rfl, rfl, rfl, rfl⟩, h1⟩
  case round =>
    obtain ⟨k, hk, rfl, ⟨rfl, rfl, rfl, rfl, rfl, rfl, rfl, rfl⟩, hM⟩ := hrel
    by_cases hlt64 : k < 80
    · have ok := rnds_ok5 (S5.sch l 64) s hs k
      have hn : S5.rnds (S5.sch l 64) s (k + 1) = S5.rnd (S5.rnds (S5.sch l 64) s k) (S5.K k) (S5.W l k) := rfl
      generalize ht : S5.rnds (S5.sch l 64) s k = t at ok hn ⊢
      have Ht := Lib.hid ht
      have Hn := Lib.hid hn
      clear ht hn
      have hK := (hT.fr hM.fr (fun h => h)) k hlt64
      have hu := run_index645 (S5.W l) k hlt64
      have q0 : (0 : Int) ≤ (k : Int) := by omega
      have q1 : (k : Int) < 80 := by omega
      go_wp2_with fail
      go_quiet ((go_at_call 57; exact Calls.quiet_of_same (bs1_any5 t.e ok.2.2.2.2.1 _)))
      rw [T1_eq5 t ok]
      have hu2 := T2_eq5 t ok
      go_wp2_with (go_at_call 57; refine (bs0_any5 t.a ok.1 _).mono ?_; rintro e w' ⟨rfl, rfl⟩)
      have hrel : RSt5 (S5.rnds (S5.sch l 64) s (k + 1)) (.int .u64 (IntKind.u64.wrap (↑(S5.T1 t (S5.K k) (S5.W l k)) + ↑(S5.T2 t)))) (.int .u64 ↑t.a) (.int .u64 ↑t.b) (.int .u64 ↑t.c) (.int .u64 (IntKind.u64.wrap (↑t.d + ↑(S5.T1 t (S5.K k) (S5.W l k))))) (.int .u64 ↑t.e) (.int .u64 ↑t.f) (.int .u64 ↑t.g) := by
        rw [Hn.out]; exact rst_of5 t _ _
      go_roundw
      case rel => exact ⟨k + 1, by omega, by go_num, hrel, hM.to ((Fr.refl _ _).drewN _)⟩
      case measure => simp [intOf]; omega
    · have e64 : k = 80 := by omega
      have q1 : ¬ (k : Int) < 80 := by omega
      have ok := rnds_ok5 (S5.sch l 64) s hs 80
      have Hm : Hid (s.add (S5.rnds (S5.sch l 64) s k) = m) := by rw [e64]; exact Hpost.out
      generalize ht : S5.rnds (S5.sch l 64) s k = t at ok Hm ⊢
      clear e64 ht
      have k0 := cell_of_block hM.box 0
      have k1 := cell_of_block hM.box 1
      have k2 := cell_of_block hM.box 2
      have k3 := cell_of_block hM.box 3
      have k4 := cell_of_block hM.box 4
      have k5 := cell_of_block hM.box 5
      have k6 := cell_of_block hM.box 6
      have k7 := cell_of_block hM.box 7
      have hf := fun o => free_of_block hM.box o
      simp [stv5] at k0 k1 k2 k3 k4 k5 k6 k7
      have i0 : ∀ w : World, (Instr.index 65 (.agg #[.int .u64 ↑t.a, .int .u64 ↑t.b, .int .u64 ↑t.c, .int .u64 ↑t.d, .int .u64 ↑t.e, .int .u64 ↑t.f, .int .u64 ↑t.g, .int .u64 ↑t.h]) (.int .i64 0)).run Tryd.prog w = .ok (.int .u64 ↑t.a) w := fun _ => by kernel_rfl
      have i1 : ∀ w : World, (Instr.index 65 (.agg #[.int .u64 ↑t.a, .int .u64 ↑t.b, .int .u64 ↑t.c, .int .u64 ↑t.d, .int .u64 ↑t.e, .int .u64 ↑t.f, .int .u64 ↑t.g, .int .u64 ↑t.h]) (.int .i64 1)).run Tryd.prog w = .ok (.int .u64 ↑t.b) w := fun _ => by kernel_rfl
      have i2 : ∀ w : World, (Instr.index 65 (.agg #[.int .u64 ↑t.a, .int .u64 ↑t.b, .int .u64 ↑t.c, .int .u64 ↑t.d, .int .u64 ↑t.e, .int .u64 ↑t.f, .int .u64 ↑t.g, .int .u64 ↑t.h]) (.int .i64 2)).run Tryd.prog w = .ok (.int .u64 ↑t.c) w := fun _ => by kernel_rfl
      have i3 : ∀ w : World, (Instr.index 65 (.agg #[.int .u64 ↑t.a, .int .u64 ↑t.b, .int .u64 ↑t.c, .int .u64 ↑t.d, .int .u64 ↑t.e, .int .u64 ↑t.f, .int .u64 ↑t.g, .int .u64 ↑t.h]) (.int .i64 3)).run Tryd.prog w = .ok (.int .u64 ↑t.d) w := fun _ => by kernel_rfl
      have i4 : ∀ w : World, (Instr.index 65 (.agg #[.int .u64 ↑t.a, .int .u64 ↑t.b, .int .u64 ↑t.c, .int .u64 ↑t.d, .int .u64 ↑t.e, .int .u64 ↑t.f, .int .u64 ↑t.g, .int .u64 ↑t.h]) (.int .i64 4)).run Tryd.prog w = .ok (.int .u64 ↑t.e) w := fun _ => by kernel_rfl
      have i5 : ∀ w : World, (Instr.index 65 (.agg #[.int .u64 ↑t.a, .int .u64 ↑t.b, .int .u64 ↑t.c, .int .u64 ↑t.d, .int .u64 ↑t.e, .int .u64 ↑t.f, .int .u64 ↑t.g, .int .u64 ↑t.h]) (.int .i64 5)).run Tryd.prog w = .ok (.int .u64 ↑t.f) w := fun _ => by kernel_rfl
      have i6 : ∀ w : World, (Instr.index 65 (.agg #[.int .u64 ↑t.a, .int .u64 ↑t.b, .int .u64 ↑t.c, .int .u64 ↑t.d, .int .u64 ↑t.e, .int .u64 ↑t.f, .int .u64 ↑t.g, .int .u64 ↑t.h]) (.int .i64 6)).run Tryd.prog w = .ok (.int .u64 ↑t.g) w := fun _ => by kernel_rfl
      have i7 : ∀ w : World, (Instr.index 65 (.agg #[.int .u64 ↑t.a, .int .u64 ↑t.b, .int .u64 ↑t.c, .int .u64 ↑t.d, .int .u64 ↑t.e, .int .u64 ↑t.f, .int .u64 ↑t.g, .int .u64 ↑t.h]) (.int .i64 7)).run Tryd.prog w = .ok (.int .u64 ↑t.h) w := fun _ => by kernel_rfl
      go_wp2_with fail
      refine wp_loop_rounds 9 ?_
      rw [rounds_succ]
      go_wp2_with fail
      rw [rounds_succ]
      go_wp2_with fail
      rw [rounds_succ]
      go_wp2_with fail
      rw [rounds_succ]
      go_wp2_with fail
      rw [rounds_succ]
      go_wp2_with fail
      rw [rounds_succ]
      go_wp2_with fail
      rw [rounds_succ]
      go_wp2_with fail
      rw [rounds_succ]
      go_wp2_with fail
      have E := mix_end5 (s := s) (t := t) (m := m) hM Hm.out
      clear hM k0 k1 k2 k3 k4 k5 k6 k7 hf i0 i1 i2 i3 i4 i5 i6 i7
      generalize World.setCell _ ⟨w.heap.size, 7, none⟩ _ = w8 at E ⊢
      obtain ⟨hbox, ⟨rs, hres, hrs⟩, hF⟩ := E
      rw [rounds_succ]
      go_wp2_with (first
        | (with_reducible refine wpList_load_row rfl 65 (.tmp 2) rfl w.heap.size rfl 65 (stv5 m) (0, 0) _ hbox Tryd.underlying65 rfl Tryd.size8w ?_)
        | (with_reducible refine wpList_store_row rfl 65 (.tmp 4) (.tmp 107) rfl (w.heap.size + 1) (stv5 m) rfl rfl 65 rs hres Tryd.size8w (hrs.trans (stv_size5 m).symm) (stv_one5 m) ?_))
      refine bodyPost_ret (results_cell_row rfl _ _ (w.heap.size + 1) 65 (stv5 m) (0, 0) _ rfl (setRow_heap _ _ _ _ _ _ hres) Tryd.underlying65 rfl Tryd.size8w) rfl ?_
      exact ⟨rfl, hF.trans (Fr.setRow (S := fun k => k = w.heap.size + 1) (Fr.refl _ _) rfl _) (fun i hi => Or.inr (by omega))⟩
end Go.Proofs.YtmoepalhoaekgaaDoor


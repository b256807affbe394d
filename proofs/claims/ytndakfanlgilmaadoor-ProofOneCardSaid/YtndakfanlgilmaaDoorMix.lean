/-
  The contract of mix of package sha2.
-/
import Derived.Test.YtndakfanlgilmaaDoorSch
namespace Go.Proofs.YtndakfanlgilmaaDoor
open Go.RowKit
set_option linter.unusedVariables false

/-- A state as eight words. -/
def stv (s : S2.St) : Array Value := #[.int .u32 (s.a : Int), .int .u32 (s.b : Int), .int .u32 (s.c : Int), .int .u32 (s.d : Int), .int .u32 (s.e : Int), .int .u32 (s.f : Int), .int .u32 (s.g : Int), .int .u32 (s.h : Int)]
/-- The table of the rounds' words. -/
def Tab (w : World) : Prop := ∀ j, j < 64 → w.cell? ⟨2, j, none⟩ = some (.int .u32 (S2.K j : Int))

set_option maxRecDepth 100000 in
theorem Tab.fr {w w2 : World} {S : Nat → Prop} (h : Tab w) (hF : Fr S w w2) (hs : ¬ S 2) : Tab w2 := fun j hj => hF.cellSome (p := ⟨2, j, none⟩) hs (h j hj)
/-- The rounds' state as slots. -/
def RSt (t : S2.St) (va vb vc vd ve vf vg vh : Value) : Prop := va = .int .u32 (t.a : Int) ∧ vb = .int .u32 (t.b : Int) ∧ vc = .int .u32 (t.c : Int) ∧ vd = .int .u32 (t.d : Int) ∧ ve = .int .u32 (t.e : Int) ∧ vf = .int .u32 (t.f : Int) ∧ vg = .int .u32 (t.g : Int) ∧ vh = .int .u32 (t.h : Int)
/-- What stands while the rounds go on. -/
structure MixAt (w wr : World) (s : S2.St) : Prop where
  box : wr.heap[w.heap.size]? = some (.cells (stv s) 72 (0, 0))
  res : ∃ rs, wr.heap[w.heap.size + 1]? = some (.cells rs 72 (0, 0)) ∧ rs.size = 8
  fr : Fr (fun _ => False) w wr
set_option maxRecDepth 100000 in
theorem MixAt.to {w wr w2 : World} {s : S2.St} (h : MixAt w wr s) (hF : Fr (fun _ => False) wr w2) : MixAt w w2 s := by
  obtain ⟨rs, h1, h2⟩ := h.res
  exact ⟨(hF.block _ (lt_of_block h.box) (fun h => h)).trans h.box, ⟨rs, (hF.block _ (lt_of_block h1) (fun h => h)).trans h1, h2⟩, h.fr.trans hF (fun _ h => h.elim)⟩
set_option maxRecDepth 100000 in
theorem rnds_ok (W : List Nat) (s : S2.St) (hs : s.ok) (k : Nat) : (S2.rnds W s k).ok := by
  induction k with
  | zero => exact hs
  | succ k ih =>
    have hm : ∀ n, n % S2.M < S2.M := fun n => Nat.mod_lt _ (by decide)
    obtain ⟨h1, h2, h3, h4, h5, h6, h7, h8⟩ := ih
    exact ⟨hm _, h1, h2, h3, hm _, h5, h6, h7⟩

set_option maxRecDepth 100000 in
theorem run_index64 (f : Nat → Nat) (k : Nat) (hk : k < 64) (w : World) : (Instr.index 96 (.agg (uv 64 f)) (.int .i64 (k : Int))).run Tryd.prog w = .ok (.int .u32 (f k : Int)) w := by
  have h1 := uv_get 64 f k hk
  have hc : (0 : Int) ≤ (k : Int) ∧ (k : Int) < 64 := by omega
  obtain ⟨i0, hi, hz⟩ := Option.map_eq_some_iff.1 (show (Tryd.prog.info? 71).map (·.size) = some 1 by kernel_rfl)
  simp [Instr.index, asIntOf, run_underlying Tryd.underlying96, hk, part, sizeOf, typeInfo, hi, hz, h1]
set_option maxRecDepth 100000 in
theorem T1_eq (t : S2.St) (ok : t.ok) (k w : Nat) :
    ((↑t.h + ↑(S2.bs1 t.e) + bits .xor .u32 (bits .and .u32 ↑t.e ↑t.f) (bits .and .u32 (bits .xor .u32 (if IntKind.u32.signed = true then -1 else IntKind.u32.max) ↑t.e) ↑t.g) + ↑k) % 4294967296 + ↑w) % 4294967296 = ((S2.T1 t k w : Nat) : Int) := by
  obtain ⟨h1, h2, h3, h4, h5, h6, h7, h8⟩ := ok
  simp only [S2.M] at h1 h2 h3 h4 h5 h6 h7 h8
  have e1 : (if IntKind.u32.signed = true then (-1 : Int) else IntKind.u32.max) = ((4294967295 : Nat) : Int) := by decide
  rw [e1, (bits_u32_nat _ _ (by decide) h5).2.2, (bits_u32_nat _ _ h5 h6).2.1, (bits_u32_nat _ _ (Nat.xor_lt_two_pow (n := 32) (by decide) h5) h7).2.1,
    (bits_u32_nat _ _ (Nat.and_lt_two_pow (n := 32) _ h6) (Nat.and_lt_two_pow (n := 32) _ h7)).2.2]
  unfold S2.T1 S2.ch S2.M
  omega
set_option maxRecDepth 100000 in
theorem T2_eq (t : S2.St) (ok : t.ok) :
    (↑(S2.bs0 t.a) + bits .xor .u32 (bits .xor .u32 (bits .and .u32 ↑t.a ↑t.b) (bits .and .u32 ↑t.a ↑t.c)) (bits .and .u32 ↑t.b ↑t.c)) % 4294967296 = ((S2.T2 t : Nat) : Int) := by
  obtain ⟨h1, h2, h3, h4, h5, h6, h7, h8⟩ := ok
  simp only [S2.M] at h1 h2 h3 h4 h5 h6 h7 h8
  rw [(bits_u32_nat _ _ h1 h2).2.1, (bits_u32_nat _ _ h1 h3).2.1, (bits_u32_nat _ _ h2 h3).2.1,
    (bits_u32_nat _ _ (Nat.and_lt_two_pow (n := 32) _ h2) (Nat.and_lt_two_pow (n := 32) _ h3)).2.2,
    (bits_u32_nat _ _ (Nat.xor_lt_two_pow (n := 32) (Nat.and_lt_two_pow (n := 32) _ h2) (Nat.and_lt_two_pow (n := 32) _ h3)) (Nat.and_lt_two_pow (n := 32) _ h3)).2.2]
  unfold S2.T2 S2.maj S2.M
  omega

set_option maxRecDepth 100000 in
theorem rst_of (t : S2.St) (k w : Nat) : RSt (S2.rnd t k w) (.int .u32 ((↑(S2.T1 t k w) + ↑(S2.T2 t)) % 4294967296)) (.int .u32 ↑t.a) (.int .u32 ↑t.b) (.int .u32 ↑t.c) (.int .u32 ((↑t.d + ↑(S2.T1 t k w)) % 4294967296)) (.int .u32 ↑t.e) (.int .u32 ↑t.f) (.int .u32 ↑t.g) :=
  ⟨by show _ = Value.int .u32 (((S2.T1 t k w + S2.T2 t) % 4294967296 : Nat) : Int); simp, rfl, rfl, rfl, by show _ = Value.int .u32 (((t.d + S2.T1 t k w) % 4294967296 : Nat) : Int); simp, rfl, rfl, rfl⟩

set_option maxRecDepth 100000 in
theorem Tryd.size8 {m : S2.St} : (Tryd.prog.info? 72).map (·.size) = some (stv m).size := by
  show _ = some 8
  kernel_rfl
set_option maxRecDepth 100000 in
theorem stv_size (m : S2.St) : (stv m).size = 8 := rfl
set_option maxRecDepth 100000 in
theorem stv_one (m : S2.St) : (stv m).all (·.oneCell') = true := by simp [stv, Value.oneCell']
set_option maxRecDepth 100000 in
theorem mix_end {w wr : World} {s t m : S2.St} (h : MixAt w wr s) (hm : s.add t = m) :
    MixAt w ((((((((wr.setCell ⟨w.heap.size, 0, none⟩ (.int .u32 ((↑s.a + ↑t.a) % 4294967296))).setCell ⟨w.heap.size, 1, none⟩ (.int .u32 ((↑s.b + ↑t.b) % 4294967296))).setCell ⟨w.heap.size, 2, none⟩ (.int .u32 ((↑s.c + ↑t.c) % 4294967296))).setCell ⟨w.heap.size, 3, none⟩ (.int .u32 ((↑s.d + ↑t.d) % 4294967296))).setCell ⟨w.heap.size, 4, none⟩ (.int .u32 ((↑s.e + ↑t.e) % 4294967296))).setCell ⟨w.heap.size, 5, none⟩ (.int .u32 ((↑s.f + ↑t.f) % 4294967296))).setCell ⟨w.heap.size, 6, none⟩ (.int .u32 ((↑s.g + ↑t.g) % 4294967296))).setCell ⟨w.heap.size, 7, none⟩ (.int .u32 ((↑s.h + ↑t.h) % 4294967296))) m := by
  have hF : ∀ (W : World) (o : Nat) (v : Value), Fr (fun k => k = w.heap.size) wr W → Fr (fun k => k = w.heap.size) wr (W.setCell ⟨w.heap.size, o, none⟩ v) := fun W o v hW => hW.setCell (Or.inl rfl) v
  have hT := hF _ 7 (.int .u32 ((↑s.h + ↑t.h) % 4294967296)) (hF _ 6 (.int .u32 ((↑s.g + ↑t.g) % 4294967296)) (hF _ 5 (.int .u32 ((↑s.f + ↑t.f) % 4294967296)) (hF _ 4 (.int .u32 ((↑s.e + ↑t.e) % 4294967296)) (hF _ 3 (.int .u32 ((↑s.d + ↑t.d) % 4294967296)) (hF _ 2 (.int .u32 ((↑s.c + ↑t.c) % 4294967296)) (hF _ 1 (.int .u32 ((↑s.b + ↑t.b) % 4294967296)) (hF _ 0 (.int .u32 ((↑s.a + ↑t.a) % 4294967296)) (Fr.refl _ wr))))))))
  obtain ⟨rs, r1, r2⟩ := h.res
  refine ⟨?_, ⟨rs, (hT.block _ (lt_of_block r1) (by omega)).trans r1, r2⟩, h.fr.trans hT (fun i hi => Or.inr (by omega))⟩
  have hb := block_setCell (block_setCell (block_setCell (block_setCell (block_setCell (block_setCell (block_setCell (block_setCell h.box 0 (.int .u32 ((↑s.a + ↑t.a) % 4294967296))) 1 (.int .u32 ((↑s.b + ↑t.b) % 4294967296))) 2 (.int .u32 ((↑s.c + ↑t.c) % 4294967296))) 3 (.int .u32 ((↑s.d + ↑t.d) % 4294967296))) 4 (.int .u32 ((↑s.e + ↑t.e) % 4294967296))) 5 (.int .u32 ((↑s.f + ↑t.f) % 4294967296))) 6 (.int .u32 ((↑s.g + ↑t.g) % 4294967296))) 7 (.int .u32 ((↑s.h + ↑t.h) % 4294967296))
  rw [hb]
  subst hm
  simp [stv, S2.St.add, S2.M]

set_option maxRecDepth 100000 in
set_option maxHeartbeats 1600000 in
theorem mix_any (s : S2.St) (hs : s.ok) (b off : Nat) (l : List UInt8) (w : World) (hb : Blk w b off l) (hlt : b < w.heap.size) (hT : Tab w) (hT2 : 2 < w.heap.size) :
    Calls Tryd.prog 37 #[.agg (stv s), .pointer (some ⟨b, off, none⟩)] w fun e w' => e = .returned (.agg (stv (S2.mix s l))) ∧ Fr (fun _ => False) w w' := by
  have h0 : MixAt w ((w.alloc (.cells (stv s) 72)).alloc (.cells #[.int .u32 0, .int .u32 0, .int .u32 0, .int .u32 0, .int .u32 0, .int .u32 0, .int .u32 0, .int .u32 0] 72)) s :=
    ⟨heap_alloc2_old w _ _, ⟨_, heap_alloc2_new w _ _, rfl⟩, ((Fr.refl _ w).alloc _).alloc _⟩
  generalize hpost : S2.mix s l = m
  have Hpost := Lib.hid hpost
  clear hpost
  unfold stv at h0 ⊢
  go_enter Tryd.func37, Tryd.ntmps37
  go_wp2_with fail
  go_quiet (fail)
  go_wp2_with fail
  refine (sched_any b off l _ (hb.fr (h0.fr.drewN nq) (fun h => h)) (by simp; omega)).mono ?_
  rintro e w1 ⟨rfl, F1⟩
  have h1 := h0.to (((Fr.refl (fun _ => False) _).drewN nq).trans F1 (fun _ h => h.elim))
  clear F1 h0
  go_wp2_with fail
  go_loopw [5, 6, 7, 8, 9, 10, 11, 12, 37] (fun va vb vc vd ve vf vg vh i wr => ∃ k : Nat, k ≤ 64 ∧ i = .int .i64 k ∧ RSt (S2.rnds (S2.sch l 48) s k) va vb vc vd ve vf vg vh ∧ MixAt w wr s) (fun _ _ _ _ _ _ _ _ i _ => 64 - (intOf i).toNat)
  case atStart => exact ⟨0, by omega, by simp, ⟨rfl, rfl, rfl, rfl, rfl, rfl, rfl, rfl⟩, h1⟩
  case round =>
    obtain ⟨k, hk, rfl, ⟨rfl, rfl, rfl, rfl, rfl, rfl, rfl, rfl⟩, hM⟩ := hrel
    by_cases hlt64 : k < 64
    · have ok := rnds_ok (S2.sch l 48) s hs k
      have hn : S2.rnds (S2.sch l 48) s (k + 1) = S2.rnd (S2.rnds (S2.sch l 48) s k) (S2.K k) (S2.W l k) := rfl
      generalize ht : S2.rnds (S2.sch l 48) s k = t at ok hn ⊢
      have Ht := Lib.hid ht
      have Hn := Lib.hid hn
      clear ht hn
      have hK := (hT.fr hM.fr (fun h => h)) k hlt64
      have hu := run_index64 (S2.W l) k hlt64
      have q0 : (0 : Int) ≤ (k : Int) := by omega
      have q1 : (k : Int) < 64 := by omega
      go_wp2_with fail
      go_quiet ((go_at_call 44; exact Calls.quiet_of_same (bs1_any t.e ok.2.2.2.2.1 _)))
      rw [T1_eq t ok]
      have hu2 := T2_eq t ok
      go_wp2_with (go_at_call 44; refine (bs0_any t.a ok.1 _).mono ?_; rintro e w' ⟨rfl, rfl⟩)
      have hrel : RSt (S2.rnds (S2.sch l 48) s (k + 1)) (.int .u32 ((↑(S2.T1 t (S2.K k) (S2.W l k)) + ↑(S2.T2 t)) % 4294967296)) (.int .u32 ↑t.a) (.int .u32 ↑t.b) (.int .u32 ↑t.c) (.int .u32 ((↑t.d + ↑(S2.T1 t (S2.K k) (S2.W l k))) % 4294967296)) (.int .u32 ↑t.e) (.int .u32 ↑t.f) (.int .u32 ↑t.g) := by
        rw [Hn.out]; exact rst_of t _ _
      go_roundw
      case rel => exact ⟨k + 1, by omega, by go_num, hrel, hM.to ((Fr.refl _ _).drewN _)⟩
      case measure => simp [intOf]; omega
    · have e64 : k = 64 := by omega
      have q1 : ¬ (k : Int) < 64 := by omega
      have ok := rnds_ok (S2.sch l 48) s hs 64
      have Hm : Hid (s.add (S2.rnds (S2.sch l 48) s k) = m) := by rw [e64]; exact Hpost.out
      generalize ht : S2.rnds (S2.sch l 48) s k = t at ok Hm ⊢
      clear e64 ht
      have k0 := cell_of_block hM.box 0
      have k1 := cell_of_block hM.box 1
      have k2 := cell_of_block hM.box 2
      have k3 := cell_of_block hM.box 3
      have k4 := cell_of_block hM.box 4
      have k5 := cell_of_block hM.box 5
      have k6 := cell_of_block hM.box 6
      have k7 := cell_of_block hM.box 7
      have hf := fun o => free_of_block hM.box o
      simp [stv] at k0 k1 k2 k3 k4 k5 k6 k7
      have i0 : ∀ w : World, (Instr.index 72 (.agg #[.int .u32 ↑t.a, .int .u32 ↑t.b, .int .u32 ↑t.c, .int .u32 ↑t.d, .int .u32 ↑t.e, .int .u32 ↑t.f, .int .u32 ↑t.g, .int .u32 ↑t.h]) (.int .i64 0)).run Tryd.prog w = .ok (.int .u32 ↑t.a) w := fun _ => by kernel_rfl
      have i1 : ∀ w : World, (Instr.index 72 (.agg #[.int .u32 ↑t.a, .int .u32 ↑t.b, .int .u32 ↑t.c, .int .u32 ↑t.d, .int .u32 ↑t.e, .int .u32 ↑t.f, .int .u32 ↑t.g, .int .u32 ↑t.h]) (.int .i64 1)).run Tryd.prog w = .ok (.int .u32 ↑t.b) w := fun _ => by kernel_rfl
      have i2 : ∀ w : World, (Instr.index 72 (.agg #[.int .u32 ↑t.a, .int .u32 ↑t.b, .int .u32 ↑t.c, .int .u32 ↑t.d, .int .u32 ↑t.e, .int .u32 ↑t.f, .int .u32 ↑t.g, .int .u32 ↑t.h]) (.int .i64 2)).run Tryd.prog w = .ok (.int .u32 ↑t.c) w := fun _ => by kernel_rfl
      have i3 : ∀ w : World, (Instr.index 72 (.agg #[.int .u32 ↑t.a, .int .u32 ↑t.b, .int .u32 ↑t.c, .int .u32 ↑t.d, .int .u32 ↑t.e, .int .u32 ↑t.f, .int .u32 ↑t.g, .int .u32 ↑t.h]) (.int .i64 3)).run Tryd.prog w = .ok (.int .u32 ↑t.d) w := fun _ => by kernel_rfl
      have i4 : ∀ w : World, (Instr.index 72 (.agg #[.int .u32 ↑t.a, .int .u32 ↑t.b, .int .u32 ↑t.c, .int .u32 ↑t.d, .int .u32 ↑t.e, .int .u32 ↑t.f, .int .u32 ↑t.g, .int .u32 ↑t.h]) (.int .i64 4)).run Tryd.prog w = .ok (.int .u32 ↑t.e) w := fun _ => by kernel_rfl
      have i5 : ∀ w : World, (Instr.index 72 (.agg #[.int .u32 ↑t.a, .int .u32 ↑t.b, .int .u32 ↑t.c, .int .u32 ↑t.d, .int .u32 ↑t.e, .int .u32 ↑t.f, .int .u32 ↑t.g, .int .u32 ↑t.h]) (.int .i64 5)).run Tryd.prog w = .ok (.int .u32 ↑t.f) w := fun _ => by kernel_rfl
      have i6 : ∀ w : World, (Instr.index 72 (.agg #[.int .u32 ↑t.a, .int .u32 ↑t.b, .int .u32 ↑t.c, .int .u32 ↑t.d, .int .u32 ↑t.e, .int .u32 ↑t.f, .int .u32 ↑t.g, .int .u32 ↑t.h]) (.int .i64 6)).run Tryd.prog w = .ok (.int .u32 ↑t.g) w := fun _ => by kernel_rfl
      have i7 : ∀ w : World, (Instr.index 72 (.agg #[.int .u32 ↑t.a, .int .u32 ↑t.b, .int .u32 ↑t.c, .int .u32 ↑t.d, .int .u32 ↑t.e, .int .u32 ↑t.f, .int .u32 ↑t.g, .int .u32 ↑t.h]) (.int .i64 7)).run Tryd.prog w = .ok (.int .u32 ↑t.h) w := fun _ => by kernel_rfl
      go_wp2_with fail
      refine wp_loop_rounds 9 ?_
      rw [rounds_succ]
      go_wp2_with fail
      rw [rounds_succ]
      go_wp2_with fail
      rw [rounds_succ]
      go_wp2_with fail
      rw [rounds_succ]
      go_wp2_with fail
      rw [rounds_succ]
      go_wp2_with fail
      rw [rounds_succ]
      go_wp2_with fail
      rw [rounds_succ]
      go_wp2_with fail
      rw [rounds_succ]
      go_wp2_with fail
      have E := mix_end (s := s) (t := t) (m := m) hM Hm.out
      clear hM k0 k1 k2 k3 k4 k5 k6 k7 hf i0 i1 i2 i3 i4 i5 i6 i7
      generalize World.setCell _ ⟨w.heap.size, 7, none⟩ _ = w8 at E ⊢
      obtain ⟨hbox, ⟨rs, hres, hrs⟩, hF⟩ := E
      rw [rounds_succ]
      go_wp2_with (first
        | (with_reducible refine wpList_load_row rfl 72 (.tmp 2) rfl w.heap.size rfl 72 (stv m) (0, 0) _ hbox Tryd.underlying72 rfl Tryd.size8 ?_)
        | (with_reducible refine wpList_store_row rfl 72 (.tmp 4) (.tmp 107) rfl (w.heap.size + 1) (stv m) rfl rfl 72 rs hres Tryd.size8 (hrs.trans (stv_size m).symm) (stv_one m) ?_))
      refine bodyPost_ret (results_cell_row rfl _ _ (w.heap.size + 1) 72 (stv m) (0, 0) _ rfl (setRow_heap _ _ _ _ _ _ hres) Tryd.underlying72 rfl Tryd.size8) rfl ?_
      exact ⟨rfl, hF.trans (Fr.setRow (S := fun k => k = w.heap.size + 1) (Fr.refl _ _) rfl _) (fun i hi => Or.inr (by omega))⟩
end Go.Proofs.YtndakfanlgilmaaDoor


/-
  The law's own look: does a crash keep what is kept?
-/
import Derived.Test.YtgladedjgjhlaaaTt
namespace Go.Proofs.Ytgladedjgjhlaaa
open Go.RowKit
set_option linter.unusedVariables false
set_option linter.unusedSimpArgs false
/-- A new disk. -/
theorem dnew_da (n : Nat) (h1 : 1 ≤ n) (h2 : n ≤ 8192) (w : World) :
    Calls Try.prog 13 #[.int .i64 (n : Int)] w fun e w' => ∃ d bn bl, e = .returned (.tuple #[.pointer (some ⟨d, 0, none⟩), .int .i64 0]) ∧ DA w' d bn bl n (fun _ _ => 0) (fun _ _ => 0) [] (.slice none 0 0) 0 0 false w.heap.size ∧ Fr (fun _ => False) w w' := by
  obtain ⟨Z, hz, hs, hmk⟩ := mk_blocks n h2
  refine (dnew_ok n h1 h2 Z hmk w).mono ?_
  rintro e w' ⟨d, bn, bl, rfl, hF, F⟩
  exact ⟨d, bn, bl, rfl, hF.da h2 (z_bk n Z hz hs), F⟩
/-- All that a disk's calls touch is new. -/
theorem DA.grow {w0 w w' : World} {d bn bl n : Nat} {N L : Nat → Nat → UInt8} {ws : List (Nat × (Nat → UInt8))} {wv : Value} {wr ar : Int} {dn : Bool} (h : DA w d bn bl n N L ws wv wr ar dn w0.heap.size) (F0 : Fr (fun _ => False) w0 w) {S : Nat → Prop} (F : Fr S w w') (hS : ∀ k, S k → Tch d bn bl wv k) : Fr (fun _ => False) w0 w' := by
  refine F0.trans F (fun k hk => Or.inr ?_)
  rcases hS k hk with e | e | e | e
  · rw [e]; exact h.b1
  · rw [e]; exact h.b2
  · rw [e]; exact h.b3
  · rcases h.own.2 with ⟨e2, _⟩ | ⟨g, cap, cur, e2, hb, _⟩
    · rw [e2] at e; exact absurd e (by simp [Value.ownBlock])
    · rw [e2] at e
      have : g = k := by simpa [Value.ownBlock] using e
      omega
theorem wt_tch {d bn bl : Nat} {wv : Value} (k : Nat) (h : Wt d bn wv k) : Tch d bn bl wv k := by
  rcases h with e | e | e
  · exact .inl e
  · exact .inr (.inl e)
  · exact .inr (.inr (.inr e))
/-- A Write of a disk at which nothing is armed. -/
theorem write_0 {w0 w : World} {d bn bl n : Nat} {N L : Nat → Nat → UInt8} {ws : List (Nat × (Nat → UInt8))} {wv : Value} {wr : Int} (h : DA w d bn bl n N L ws wv wr 0 false w0.heap.size) (F0 : Fr (fun _ => False) w0 w) (hm : ws.length < 1000000000000) (hwr : In64 (wr + 1)) (i : Nat) (hi : i < n) (b : Nat → UInt8) :
    Calls Try.prog 19 #[.pointer (some ⟨d, 0, none⟩), .int .i64 (i : Int), .agg (ub 128 b)] w fun e w' => e = .returned (.int .i64 0) ∧ ∃ v', DA w' d bn bl n (bset N i b) L (ws ++ [(i, b)]) v' (wr + 1) 0 false w0.heap.size ∧ Fr (fun _ => False) w0 w' := by
  refine (write_any h hm hwr (by unfold In64; omega) (by decide) i hi b).mono ?_
  rintro e w' ⟨rfl, v', D, _, F⟩
  exact ⟨rfl, v', D, h.grow F0 F wt_tch⟩
theorem sync_0 {w0 w : World} {d bn bl n : Nat} {N L : Nat → Nat → UInt8} {ws : List (Nat × (Nat → UInt8))} {wv : Value} {wr ar : Int} (h : DA w d bn bl n N L ws wv wr ar false w0.heap.size) (F0 : Fr (fun _ => False) w0 w) (hm : ws.length < 1000000000000) :
    Calls Try.prog 20 #[.pointer (some ⟨d, 0, none⟩)] w fun e w' => e = .returned (.int .i64 0) ∧ DA w' d bn bl n N (lay L ws) [] (.slice none 0 0) wr ar false w0.heap.size ∧ Fr (fun _ => False) w0 w' := by
  refine (sync_any h hm).mono ?_
  rintro e w' ⟨rfl, D, F⟩
  exact ⟨rfl, D, h.grow F0 F (fun k e => e.elim .inl (fun e => .inr (.inr (.inl e))))⟩
theorem crash_0 {w0 w : World} {d bn bl n : Nat} {N L : Nat → Nat → UInt8} {ws : List (Nat × (Nat → UInt8))} {wv : Value} {wr ar : Int} {dn : Bool} (h : DA w d bn bl n N L ws wv wr ar dn w0.heap.size) (F0 : Fr (fun _ => False) w0 w) (hm : ws.length < 1000000000000) {kv : Value} {ks : List Bool} (hkb : KB w kv ks (fun k => k = d ∨ k = bn ∨ k = bl)) :
    Calls Try.prog 16 #[.pointer (some ⟨d, 0, none⟩), kv] w fun e w' => e = .returned (.tuple #[]) ∧ DA w' d bn bl n (lay L (keepOf ws ks)) (lay L (keepOf ws ks)) [] (.slice none 0 0) wr 0 false w0.heap.size ∧ Fr (fun _ => False) w0 w' := by
  refine (crash_any h hm hkb).mono ?_
  rintro e w' ⟨rfl, D, F⟩
  exact ⟨rfl, D, h.grow F0 F (fun k e => e.elim .inl (fun e => e.elim (fun e => .inr (.inl e)) (fun e => .inr (.inr (.inl e)))))⟩
theorem read_in {w : World} {d bn bl n : Nat} {N L : Nat → Nat → UInt8} {ws : List (Nat × (Nat → UInt8))} {wv : Value} {wr ar : Int} {base : Nat} (h : DA w d bn bl n N L ws wv wr ar false base) (i : Nat) (hi : i < n) (b : Nat → UInt8) (hb : N i = b) :
    Calls Try.prog 17 #[.pointer (some ⟨d, 0, none⟩), .int .i64 (i : Int)] w fun e w' => e = .returned (.tuple #[.agg (ub 128 b), .int .i64 0]) ∧ Fr (fun _ => False) w w' := by
  have := read_any h (i : Int)
  rw [show rcode n false (i : Int) = 0 by unfold rcode; simp; omega, if_pos rfl, Int.toNat_natCast, hb] at this
  exact this
theorem kb_new {w0 w : World} {d bn bl n : Nat} {N L : Nat → Nat → UInt8} {ws : List (Nat × (Nat → UInt8))} {wv : Value} {wr ar : Int} {dn : Bool} {base : Nat} (h : DA w d bn bl n N L ws wv wr ar dn base) (ks : List Bool) (T : TypeId) : KB (w.alloc (.cells (ks.map Value.bool).toArray T)) (.slice (some ⟨w.heap.size, 0, none⟩) ks.length ks.length) ks (fun k => k = d ∨ k = bn ∨ k = bl) := by
  refine ⟨_, _, rfl, fun j b hj => ⟨w.heap.size, 0, rfl, ?_, by simp, ?_⟩⟩
  · have := lt_of_block h.blk
    have := lt_of_block h.now
    have := lt_of_block h.las
    rintro (e | e | e) <;> omega
  · rw [cell_of_block (heap_alloc_new w _), Nat.zero_add]
    simp [hj]
/-- A byte, and noughts. -/
def b1 (x : UInt8) : Nat → UInt8 := fun j => if j = 0 then x else 0
theorem bld (x : UInt8) : Try.zeroCells30.setIfInBounds 0 (.int .u8 (x.toNat : Int)) = ub 128 (b1 x) := by
  rw [Try.zBk, ub_set 128 _ 0 x (by decide)]; rfl
theorem bld1 : Try.zeroCells30.setIfInBounds 0 (.int .u8 1) = ub 128 (b1 1) := bld 1
theorem bld2 : Try.zeroCells30.setIfInBounds 0 (.int .u8 2) = ub 128 (b1 2) := bld 2
theorem bld3 : Try.zeroCells30.setIfInBounds 0 (.int .u8 3) = ub 128 (b1 3) := bld 3
set_option maxRecDepth 100000 in
theorem bd_ks (w : World) : (Instr.buildSlice 42 2 #[(0, .bool false), (1, .bool true)]).run Try.prog w = .ok (.slice (some ⟨w.heap.size, 0, none⟩) 2 2) (w.alloc (.cells #[.bool false, .bool true] 4)) := by kernel_rfl
theorem ub_head (n : Nat) (f : Nat → UInt8) (hn : 0 < n) (x : UInt8) (h : f 0 = x) : (ub n f)[0]? = some (.int .u8 (x.toNat : Int)) := by rw [ub_get n f 0 hn, h]
set_option maxRecDepth 100000 in
set_option maxHeartbeats 6400000 in
theorem disks_any (w : World) : Calls Try.prog 18 #[] w fun e w' => e = .returned (.bool true) ∧ Fr (fun _ => False) w w' := by
  have sZ : Sz 128 Try.zeroCells30 := by rw [Try.zBk]; exact ⟨ub_size _ _, ub_one _ _⟩
  have h4 := bd_ks
  go_enter Try.func18, Try.ntmps18
  go_wp2_with fail
  refine (dnew_da 2 (by decide) (by decide) w).mono ?_
  rintro e w1 ⟨d, bn, bl, rfl, D, F⟩
  have HD := Lib.hid D
  clear D
  go_wp2_with fail
  rw [bld1]
  refine (write_0 HD.out F (by decide) (by unfold In64; omega) 0 (by decide) (b1 1)).mono ?_
  rintro e w2 ⟨rfl, v2, D2, F2⟩
  have HD2 := Lib.hid D2
  clear D2 F HD
  go_wp2_with fail
  refine (sync_0 HD2.out F2 (by simp)).mono ?_
  rintro e w3 ⟨rfl, D3, F3⟩
  have HD3 := Lib.hid D3
  clear D3 F2 HD2
  go_wp2_with fail
  rw [bld2]
  refine (write_0 HD3.out F3 (by decide) (by unfold In64; omega) 0 (by decide) (b1 2)).mono ?_
  rintro e w4 ⟨rfl, v4, D4, F4⟩
  have HD4 := Lib.hid D4
  clear D4 F3 HD3
  go_wp2_with fail
  rw [bld3]
  refine (write_0 HD4.out F4 (by simp) (by unfold In64; omega) 1 (by decide) (b1 3)).mono ?_
  rintro e w5 ⟨rfl, v5, D5, F5⟩
  have HD5 := Lib.hid D5
  clear D5 F4 HD4
  go_wp2_with fail
  have K6 := kb_new (w0 := w) HD5.out [false, true] 4
  have A6 : Fr (fun _ => False) w5 (w5.alloc (.cells #[Value.bool false, Value.bool true] 4)) := (Fr.refl _ w5).alloc _
  refine (crash_0 (HD5.out.fr A6 (fun _ _ h => h)) (F5.trans A6 (fun _ h => h.elim)) (by simp) K6).mono ?_
  rintro e w6 ⟨rfl, D6, F6⟩
  have HD6 := Lib.hid D6
  clear D6 F5 HD5 K6 A6
  go_wp2_with fail
  refine (read_in HD6.out 0 (by decide) (b1 1) rfl).mono ?_
  rintro e w7 ⟨rfl, F7⟩
  have HD7 := Lib.hid (HD6.out.fr F7 (fun _ _ h => h))
  have F7' := F6.trans F7 (fun _ h => h.elim)
  have K1 := (Kn.start w7).new (w7.heap.size) 128 Try.zeroCells30 30 rfl sZ.1
  have sB1 : Sz 128 (ub 128 (b1 1)) := ⟨ub_size _ _, ub_one _ _⟩
  have g1 : (ub 128 (b1 1))[0]? = some (.int .u8 1) := ub_head 128 _ (by decide) 1 rfl
  generalize ub 128 (b1 1) = B1 at sB1 g1 ⊢
  clear HD6 F6 F7
  go_wp2_with (focus (((with_reducible refine' wpList_store_kn K1 rfl 30 (.tmp 5) _ rfl 0 _ _ _ _ _ rfl rfl Try.szBk _ _ _); rotate_left 2; (focus exact rfl)); (focus (with_reducible assumption)); intro wz Kz; clear K1; have K1 := Kz; clear Kz; simp only [List.set_cons_zero] at K1; try (simp only [Act.put, List.setIfInBounds_toArray, List.set_cons_zero, List.set_cons_succ])))
  refine (read_in (HD7.out.fr K1.fr (fun _ _ h => h)) 1 (by decide) (b1 3) rfl).mono ?_
  rintro e w8 ⟨rfl, F8⟩
  have K2 := (K1.call F8).new (w8.heap.size) 128 Try.zeroCells30 30 rfl sZ.1
  have sB3 : Sz 128 (ub 128 (b1 3)) := ⟨ub_size _ _, ub_one _ _⟩
  have g3 : (ub 128 (b1 3))[0]? = some (.int .u8 3) := ub_head 128 _ (by decide) 3 rfl
  generalize ub 128 (b1 3) = B3 at sB3 g3 ⊢
  clear K1 F8 HD7
  go_wp2_with (focus (((with_reducible refine' wpList_store_kn K2 rfl 30 (.tmp 7) _ rfl 0 _ _ _ _ _ rfl rfl Try.szBk _ _ _); rotate_left 2; (focus exact rfl)); (focus (with_reducible assumption)); intro wz Kz; clear K2; have K2 := Kz; clear Kz; simp only [List.set_cons_zero] at K2; have q1 := K2.cell 1 rfl 0 g1; have q3 := K2.cell 0 rfl 0 g3; try (simp only [Act.put, List.setIfInBounds_toArray, List.set_cons_zero, List.set_cons_succ])))
  go_ret
  exact ⟨rfl, F7'.trans K2.fr (fun _ h => h.elim)⟩
end Go.Proofs.Ytgladedjgjhlaaa

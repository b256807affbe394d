/-
  wipe of an extent's block.
-/
import Derived.Test.YtgladedjgjhlaaaTw
namespace Go.Proofs.Ytgladedjgjhlaaa
open Go.RowKit
set_option linter.unusedVariables false
set_option linter.unusedSimpArgs false
/-- Is it of noughts? -/
def zr (f : Nat → UInt8) : Bool := bl128 f == bl128 (fun _ => 0)
theorem zr_iff (f : Nat → UInt8) : zr f = true ↔ ∀ j, j < 128 → f j = 0 := by
  unfold zr
  rw [beq_iff_eq, bl128_eq]
theorem eql_zero (f : Nat → UInt8) (W : World) : (binOp .eql 30 (.agg (ub 128 f)) (.agg Try.zeroCells30)).run Try.prog W = .ok (.bool (zr f)) W := by
  rw [Try.zBk, eql_blk]; rfl
/-- What a Write answers, and what is left armed. -/
def wcode (ar : Int) : Int := if ar = 1 then 13 else 0
def wleft (ar : Int) : Int := if 0 < ar then ar - 1 else ar
def woff (ar : Int) : Bool := decide (ar = 1)
theorem write_def {w : World} {d bn bl n : Nat} {N L : Nat → Nat → UInt8} {ws : List (Nat × (Nat → UInt8))} {wv : Value} {wr ar : Int} {base : Nat} (h : DA w d bn bl n N L ws wv wr ar false base) (hm : ws.length < 1000000000000) (hwr : In64 (wr + 1)) (ha : In64 ar) (h0 : 0 ≤ ar) (i : Nat) (hi : i < n) (b : Nat → UInt8) :
    Calls Try.prog 19 #[.pointer (some ⟨d, 0, none⟩), .int .i64 (i : Int), .agg (ub 128 b)] w fun e w' => e = .returned (.int .i64 (wcode ar)) ∧ ∃ v', DA w' d bn bl n (bset N i b) L (ws ++ [(i, b)]) v' (wr + 1) (wleft ar) (woff ar) base ∧
      (v'.ownBlock = wv.ownBlock ∨ ∃ k, v'.ownBlock = some k ∧ w.heap.size ≤ k) ∧ Fr (Wt d bn wv) w w' := write_any h hm hwr ha h0 i hi b
theorem read_off {w : World} {d bn bl n : Nat} {N L : Nat → Nat → UInt8} {ws : List (Nat × (Nat → UInt8))} {wv : Value} {wr ar : Int} {base : Nat} (h : DA w d bn bl n N L ws wv wr ar true base) (i : Int) :
    Calls Try.prog 17 #[.pointer (some ⟨d, 0, none⟩), .int .i64 i] w fun e w' => e = .returned (.tuple #[.agg (ub 128 fun _ => 0), .int .i64 13]) ∧ Fr (fun _ => False) w w' := by
  have := read_any h i
  rw [show rcode n true i = 13 from rfl, if_neg (by decide)] at this
  exact this
set_option maxRecDepth 100000 in
set_option maxHeartbeats 6400000 in
theorem wipe_down {w : World} {x d bn bl n : Nat} {f c s : Int} {N L : Nat → Nat → UInt8} {ws : List (Nat × (Nat → UInt8))} {wv : Value} {wr ar : Int} {base : Nat} (hx : Ext w x (.pointer (some ⟨d, 0, none⟩)) f c s) (D : DA w d bn bl n N L ws wv wr ar true base)  (i : Nat) (hi : i < n) :
    Calls Try.prog 68 #[(.pointer (some ⟨x, 0, none⟩)), .int .i64 (i : Int)] w fun e w' => e = .returned (.int .i64 13) ∧ Fr (fun _ => False) w w' := by
  have HX := Lib.hid (show ∀ W : World, Fr (fun _ => False) w W → W.cell? ⟨x, 0, none⟩ = some (.pointer (some ⟨d, 0, none⟩)) from fun W hF => (cell_of_block (hx.fr hF) 0).trans rfl)
  have c0 := HX.out w (Fr.refl _ _)
  have sZ : Sz 128 Try.zeroCells30 := by rw [Try.zBk]; exact ⟨ub_size _ _, ub_one _ _⟩
  have HD := Lib.hid D
  clear D hx
  go_enter Try.func68, Try.ntmps68
  go_wp2_with fail
  refine (read_off HD.out (i : Int)).mono ?_
  rintro e w2 ⟨rfl, F2⟩
  have K1 := ((Kn.start w).call F2).new (w2.heap.size) 128 Try.zeroCells30 30 rfl sZ.1
  clear F2
  rw [← Try.zBk]
  go_wp2_with (focus (((with_reducible refine' wpList_store_kn K1 rfl 30 (.tmp 5) _ rfl 0 _ _ _ _ _ rfl rfl Try.szBk _ _ _); rotate_left 2; (focus exact rfl)); (focus (with_reducible assumption)); intro wz Kz; clear K1; have K1 := Kz; clear Kz; simp only [List.set_cons_zero, List.set_cons_succ] at K1; try (simp only [Act.put, List.setIfInBounds_toArray, List.set_cons_zero, List.set_cons_succ])))
  go_ret
  exact ⟨rfl, K1.fr⟩
set_option maxRecDepth 100000 in
set_option maxHeartbeats 6400000 in
theorem wipe_none {w : World} {x d bn bl n : Nat} {f c s : Int} {N L : Nat → Nat → UInt8} {ws : List (Nat × (Nat → UInt8))} {wv : Value} {wr ar : Int} {base : Nat} (hx : Ext w x (.pointer (some ⟨d, 0, none⟩)) f c s) (D : DA w d bn bl n N L ws wv wr ar false base)  (i : Nat) (hi : i < n) (hz : zr (N i) = true) :
    Calls Try.prog 68 #[(.pointer (some ⟨x, 0, none⟩)), .int .i64 (i : Int)] w fun e w' => e = .returned (.int .i64 0) ∧ Fr (fun _ => False) w w' := by
  have HX := Lib.hid (show ∀ W : World, Fr (fun _ => False) w W → W.cell? ⟨x, 0, none⟩ = some (.pointer (some ⟨d, 0, none⟩)) from fun W hF => (cell_of_block (hx.fr hF) 0).trans rfl)
  have c0 := HX.out w (Fr.refl _ _)
  have sZ : Sz 128 Try.zeroCells30 := by rw [Try.zBk]; exact ⟨ub_size _ _, ub_one _ _⟩
  have HD := Lib.hid D
  clear D hx
  go_enter Try.func68, Try.ntmps68
  go_wp2_with fail
  refine (read_in HD.out i hi (N i) rfl).mono ?_
  rintro e w2 ⟨rfl, F2⟩
  have K1 := ((Kn.start w).call F2).new (w2.heap.size) 128 Try.zeroCells30 30 rfl sZ.1
  clear F2
  have sB : Sz 128 (ub 128 (N i)) := ⟨ub_size _ _, ub_one _ _⟩
  have heq : ∀ W : World, (binOp .eql 30 (.agg (ub 128 (N i))) (.agg Try.zeroCells30)).run Try.prog W = .ok (.bool true) W := fun W => by rw [eql_zero, hz]
  generalize ub 128 (N i) = B at sB heq ⊢
  go_wp2_with (first | (focus (((with_reducible refine' wpList_store_kn K1 rfl 30 (.tmp 5) _ rfl 0 _ _ _ _ _ rfl rfl Try.szBk _ _ _); rotate_left 2; (focus exact rfl)); (focus (with_reducible assumption)); intro wz Kz; clear K1; have K1 := Kz; clear Kz; simp only [List.set_cons_zero, List.set_cons_succ] at K1; try (simp only [Act.put, List.setIfInBounds_toArray, List.set_cons_zero, List.set_cons_succ]))) | (focus (refine' wpList_load_pt_gd K1 rfl 30 (.tmp 5) rfl 0 _ _ 0 128 _ _ _ rfl _ Try.underlying30 rfl Try.szBk rfl (Part.whole _) sB.1 _)))
  go_ret
  exact ⟨rfl, K1.fr⟩
set_option maxRecDepth 100000 in
set_option maxHeartbeats 6400000 in
theorem wipe_write {w : World} {x d bn bl n : Nat} {f c s : Int} {N L : Nat → Nat → UInt8} {ws : List (Nat × (Nat → UInt8))} {wv : Value} {wr ar : Int} {base : Nat} (hx : Ext w x (.pointer (some ⟨d, 0, none⟩)) f c s) (D : DA w d bn bl n N L ws wv wr ar false base) (hm : ws.length < 1000000000000) (hwr : In64 (wr + 1)) (ha : In64 ar) (h0 : 0 ≤ ar) (i : Nat) (hi : i < n) (hz : zr (N i) = false) :
    Calls Try.prog 68 #[(.pointer (some ⟨x, 0, none⟩)), .int .i64 (i : Int)] w fun e w' => e = .returned (.int .i64 (wcode ar)) ∧ ∃ v', DA w' d bn bl n (bset N i (fun _ => 0)) L (ws ++ [(i, fun _ => 0)]) v' (wr + 1) (wleft ar) (woff ar) base ∧ (v'.ownBlock = wv.ownBlock ∨ ∃ k, v'.ownBlock = some k ∧ w.heap.size ≤ k) ∧ Fr (Wt d bn wv) w w' := by
  have HX := Lib.hid (show ∀ W : World, Fr (fun _ => False) w W → W.cell? ⟨x, 0, none⟩ = some (.pointer (some ⟨d, 0, none⟩)) from fun W hF => (cell_of_block (hx.fr hF) 0).trans rfl)
  have c0 := HX.out w (Fr.refl _ _)
  have sZ : Sz 128 Try.zeroCells30 := by rw [Try.zBk]; exact ⟨ub_size _ _, ub_one _ _⟩
  have HD := Lib.hid D
  clear D hx
  go_enter Try.func68, Try.ntmps68
  go_wp2_with fail
  refine (read_in HD.out i hi (N i) rfl).mono ?_
  rintro e w2 ⟨rfl, F2⟩
  have K1 := ((Kn.start w).call F2).new (w2.heap.size) 128 Try.zeroCells30 30 rfl sZ.1
  clear F2
  have sB : Sz 128 (ub 128 (N i)) := ⟨ub_size _ _, ub_one _ _⟩
  have heq : ∀ W : World, (binOp .eql 30 (.agg (ub 128 (N i))) (.agg Try.zeroCells30)).run Try.prog W = .ok (.bool false) W := fun W => by rw [eql_zero, hz]
  generalize ub 128 (N i) = B at sB heq ⊢
  have HA := Lib.hid ha
  have HW := Lib.hid hwr
  have HM := Lib.hid hm
  have H0 := Lib.hid h0
  clear ha hwr hm h0 c0
  go_wp2_with (first | (focus (((with_reducible refine' wpList_store_kn K1 rfl 30 (.tmp 5) _ rfl 0 _ _ _ _ _ rfl rfl Try.szBk _ _ _); rotate_left 2; (focus exact rfl)); (focus (with_reducible assumption)); intro wz Kz; clear K1; have K1 := Kz; clear Kz; simp only [List.set_cons_zero, List.set_cons_succ] at K1; have cx := HX.out _ K1.fr; try (simp only [Act.put, List.setIfInBounds_toArray, List.set_cons_zero, List.set_cons_succ]))) | (focus (refine' wpList_load_pt_gd K1 rfl 30 (.tmp 5) rfl 0 _ _ 0 128 _ _ _ rfl _ Try.underlying30 rfl Try.szBk rfl (Part.whole _) sB.1 _)))
  rw [Try.zBk]
  refine (write_def (HD.out.fr K1.fr (fun _ _ h => h)) HM.out HW.out HA.out H0.out i hi (fun _ => 0)).mono ?_
  rintro e w4 ⟨rfl, v', D4, O4, F4⟩
  have HD4 := Lib.hid D4
  have HF4 := Lib.hid F4
  have HO4 := Lib.hid O4
  clear D4 F4 O4 cx heq
  go_wp2_with fail
  go_ret
  refine ⟨rfl, v', HD4.out, ?_, (K1.fr.mono (fun _ _ h => h.elim)).trans HF4.out (fun _ h => .inl h)⟩
  exact HO4.out.imp id (fun ⟨k, e, hk⟩ => ⟨k, e, Nat.le_trans K1.fr.size hk⟩)
end Go.Proofs.Ytgladedjgjhlaaa

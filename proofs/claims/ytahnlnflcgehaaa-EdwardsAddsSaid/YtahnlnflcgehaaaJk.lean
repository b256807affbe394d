/-
  The contracts of package custumalref07's functions on points, over what their callees answer.
-/
import Derived.Test.YtahnlnflcgehaaaJh
namespace Go.Proofs.Ytahnlnflcgehaaa
open Go.RowKit Pri
set_option linter.unusedVariables false
set_option linter.unusedSimpArgs false

theorem Try.szRp : (Try.prog.info? 74).map (·.size) = some 48 := by kernel_rfl
theorem Try.alRp : ∀ w, (Instr.alloc 74 true (.tuple #[])).run Try.prog w = .ok (.pointer (some ⟨w.heap.size, 0, none⟩)) (w.alloc (.cells #[.int .i64 0, .int .i64 0, .int .i64 0, .int .i64 0, .int .i64 0, .int .i64 0, .int .i64 0, .int .i64 0, .int .i64 0, .int .i64 0, .int .i64 0, .int .i64 0, .int .i64 0, .int .i64 0, .int .i64 0, .int .i64 0, .int .i64 0, .int .i64 0, .int .i64 0, .int .i64 0, .int .i64 0, .int .i64 0, .int .i64 0, .int .i64 0, .int .i64 0, .int .i64 0, .int .i64 0, .int .i64 0, .int .i64 0, .int .i64 0, .int .i64 0, .int .i64 0, .int .i64 0, .int .i64 0, .int .i64 0, .int .i64 0, .int .i64 0, .int .i64 0, .int .i64 0, .int .i64 0, .int .i64 0, .int .i64 0, .int .i64 0, .int .i64 0, .int .i64 0, .int .i64 0, .int .i64 0, .int .i64 0] 74)) := fun w => by kernel_rfl
set_option maxRecDepth 100000 in
theorem built_rpoint {X Y Z : Array Value} (hX : Sz 16 X) (hY : Sz 16 Y) (hZ : Sz 16 Z) : Try.prog.built 74 [(0, .agg X), (1, .agg Y), (2, .agg Z)] = some (cat3 X Y Z) := by
  obtain ⟨a0, a1, a2, a3, a4, a5, a6, a7, a8, a9, b0, b1, b2, b3, b4, b5, rfl⟩ := arr16 hX.1
  obtain ⟨c0, c1, c2, c3, c4, c5, c6, c7, c8, c9, d0, d1, d2, d3, d4, d5, rfl⟩ := arr16 hY.1
  obtain ⟨e0, e1, e2, e3, e4, e5, e6, e7, e8, e9, f0, f1, f2, f3, f4, f5, rfl⟩ := arr16 hZ.1
  kernel_rfl
theorem nd_dD : nd dD = #[.int .i64 30883, .int .i64 4953, .int .i64 19914, .int .i64 30187, .int .i64 55467, .int .i64 16705, .int .i64 2637, .int .i64 112, .int .i64 59544, .int .i64 30585, .int .i64 16505, .int .i64 36039, .int .i64 65139, .int .i64 11119, .int .i64 27886, .int .i64 20995] := by kernel_rfl
set_option maxRecDepth 100000 in
theorem d7_any (w : World) : Calls Try.prog 96 #[] w fun e w' => e = .returned (.agg (nd dD)) ∧ Fr (fun _ => False) w w' := by
  rw [nd_dD]
  go_enter Try.func96, Try.ntmps96
  go_wp2
  refine bodyPost_ret (results_cell_row rfl _ _ w.heap.size 26 _ (0, 0) _ rfl (heap_alloc_new w _) Try.underlying26 rfl Try.szN5) rfl ?_
  exact ⟨rfl, (Fr.refl _ w).alloc _⟩
def rq (X Y Z : Nat) : Array Value := cat3 (nd X) (nd Y) (nd Z)
theorem built_rpoint2 {Y Z : Array Value} (hY : Sz 16 Y) (hZ : Sz 16 Z) : Try.prog.built 74 [(1, .agg Y), (2, .agg Z)] = some (cat3 #[.int .i64 0, .int .i64 0, .int .i64 0, .int .i64 0, .int .i64 0, .int .i64 0, .int .i64 0, .int .i64 0, .int .i64 0, .int .i64 0, .int .i64 0, .int .i64 0, .int .i64 0, .int .i64 0, .int .i64 0, .int .i64 0] Y Z) := by
  obtain ⟨c0, c1, c2, c3, c4, c5, c6, c7, c8, c9, d0, d1, d2, d3, d4, d5, rfl⟩ := arr16 hY.1
  obtain ⟨e0, e1, e2, e3, e4, e5, e6, e7, e8, e9, f0, f1, f2, f3, f4, f5, rfl⟩ := arr16 hZ.1
  kernel_rfl
theorem nd_one_ : nd 1 = #[.int .i64 1, .int .i64 0, .int .i64 0, .int .i64 0, .int .i64 0, .int .i64 0, .int .i64 0, .int .i64 0, .int .i64 0, .int .i64 0, .int .i64 0, .int .i64 0, .int .i64 0, .int .i64 0, .int .i64 0, .int .i64 0] := by kernel_rfl
theorem nd_bX : nd bX = #[.int .i64 54554, .int .i64 36645, .int .i64 11616, .int .i64 51542, .int .i64 42930, .int .i64 38181, .int .i64 51040, .int .i64 26924, .int .i64 56412, .int .i64 64982, .int .i64 57905, .int .i64 49316, .int .i64 21502, .int .i64 52590, .int .i64 14035, .int .i64 8553] := by kernel_rfl
theorem nd_bY : nd bY = #[.int .i64 26200, .int .i64 26214, .int .i64 26214, .int .i64 26214, .int .i64 26214, .int .i64 26214, .int .i64 26214, .int .i64 26214, .int .i64 26214, .int .i64 26214, .int .i64 26214, .int .i64 26214, .int .i64 26214, .int .i64 26214, .int .i64 26214, .int .i64 26214] := by kernel_rfl
theorem rq_zero_ : rq 0 1 1 = cat3 #[.int .i64 0, .int .i64 0, .int .i64 0, .int .i64 0, .int .i64 0, .int .i64 0, .int .i64 0, .int .i64 0, .int .i64 0, .int .i64 0, .int .i64 0, .int .i64 0, .int .i64 0, .int .i64 0, .int .i64 0, .int .i64 0] #[.int .i64 1, .int .i64 0, .int .i64 0, .int .i64 0, .int .i64 0, .int .i64 0, .int .i64 0, .int .i64 0, .int .i64 0, .int .i64 0, .int .i64 0, .int .i64 0, .int .i64 0, .int .i64 0, .int .i64 0, .int .i64 0] #[.int .i64 1, .int .i64 0, .int .i64 0, .int .i64 0, .int .i64 0, .int .i64 0, .int .i64 0, .int .i64 0, .int .i64 0, .int .i64 0, .int .i64 0, .int .i64 0, .int .i64 0, .int .i64 0, .int .i64 0, .int .i64 0] := by unfold rq; rw [nd_lit0_, nd_one_]
theorem rq_base_ : rq bX bY 1 = cat3 #[.int .i64 54554, .int .i64 36645, .int .i64 11616, .int .i64 51542, .int .i64 42930, .int .i64 38181, .int .i64 51040, .int .i64 26924, .int .i64 56412, .int .i64 64982, .int .i64 57905, .int .i64 49316, .int .i64 21502, .int .i64 52590, .int .i64 14035, .int .i64 8553] #[.int .i64 26200, .int .i64 26214, .int .i64 26214, .int .i64 26214, .int .i64 26214, .int .i64 26214, .int .i64 26214, .int .i64 26214, .int .i64 26214, .int .i64 26214, .int .i64 26214, .int .i64 26214, .int .i64 26214, .int .i64 26214, .int .i64 26214, .int .i64 26214] #[.int .i64 1, .int .i64 0, .int .i64 0, .int .i64 0, .int .i64 0, .int .i64 0, .int .i64 0, .int .i64 0, .int .i64 0, .int .i64 0, .int .i64 0, .int .i64 0, .int .i64 0, .int .i64 0, .int .i64 0, .int .i64 0] := by unfold rq; rw [nd_bX, nd_bY, nd_one_]
set_option maxRecDepth 100000 in
set_option maxHeartbeats 3200000 in
theorem zero7_op (Q : Array Value) (w : World)
    (sQ : Sz 0 Q) :
    Calls Try.prog 104 #[] w fun e w' => e = .returned (.agg (cat3 #[.int .i64 0, .int .i64 0, .int .i64 0, .int .i64 0, .int .i64 0, .int .i64 0, .int .i64 0, .int .i64 0, .int .i64 0, .int .i64 0, .int .i64 0, .int .i64 0, .int .i64 0, .int .i64 0, .int .i64 0, .int .i64 0] #[.int .i64 1, .int .i64 0, .int .i64 0, .int .i64 0, .int .i64 0, .int .i64 0, .int .i64 0, .int .i64 0, .int .i64 0, .int .i64 0, .int .i64 0, .int .i64 0, .int .i64 0, .int .i64 0, .int .i64 0, .int .i64 0] #[.int .i64 1, .int .i64 0, .int .i64 0, .int .i64 0, .int .i64 0, .int .i64 0, .int .i64 0, .int .i64 0, .int .i64 0, .int .i64 0, .int .i64 0, .int .i64 0, .int .i64 0, .int .i64 0, .int .i64 0, .int .i64 0])) ∧ Fr (fun _ => False) w w' := by
  have sz0 : Sz 16 #[.int .i64 1, .int .i64 0, .int .i64 0, .int .i64 0, .int .i64 0, .int .i64 0, .int .i64 0, .int .i64 0, .int .i64 0, .int .i64 0, .int .i64 0, .int .i64 0, .int .i64 0, .int .i64 0, .int .i64 0, .int .i64 0] := ⟨rfl, by simp [Value.oneCell']⟩
  have sz1 : Sz 16 #[.int .i64 54554, .int .i64 36645, .int .i64 11616, .int .i64 51542, .int .i64 42930, .int .i64 38181, .int .i64 51040, .int .i64 26924, .int .i64 56412, .int .i64 64982, .int .i64 57905, .int .i64 49316, .int .i64 21502, .int .i64 52590, .int .i64 14035, .int .i64 8553] := ⟨rfl, by simp [Value.oneCell']⟩
  have sz2 : Sz 16 #[.int .i64 26200, .int .i64 26214, .int .i64 26214, .int .i64 26214, .int .i64 26214, .int .i64 26214, .int .i64 26214, .int .i64 26214, .int .i64 26214, .int .i64 26214, .int .i64 26214, .int .i64 26214, .int .i64 26214, .int .i64 26214, .int .i64 26214, .int .i64 26214] := ⟨rfl, by simp [Value.oneCell']⟩
  have szz : Sz 16 #[.int .i64 0, .int .i64 0, .int .i64 0, .int .i64 0, .int .i64 0, .int .i64 0, .int .i64 0, .int .i64 0, .int .i64 0, .int .i64 0, .int .i64 0, .int .i64 0, .int .i64 0, .int .i64 0, .int .i64 0, .int .i64 0] := ⟨rfl, by simp [Value.oneCell']⟩
  have hb := built_rpoint2 (Y := #[.int .i64 1, .int .i64 0, .int .i64 0, .int .i64 0, .int .i64 0, .int .i64 0, .int .i64 0, .int .i64 0, .int .i64 0, .int .i64 0, .int .i64 0, .int .i64 0, .int .i64 0, .int .i64 0, .int .i64 0, .int .i64 0]) (Z := #[.int .i64 1, .int .i64 0, .int .i64 0, .int .i64 0, .int .i64 0, .int .i64 0, .int .i64 0, .int .i64 0, .int .i64 0, .int .i64 0, .int .i64 0, .int .i64 0, .int .i64 0, .int .i64 0, .int .i64 0, .int .i64 0]) sz0 sz0
  have sP : Sz 48 (cat3 #[.int .i64 0, .int .i64 0, .int .i64 0, .int .i64 0, .int .i64 0, .int .i64 0, .int .i64 0, .int .i64 0, .int .i64 0, .int .i64 0, .int .i64 0, .int .i64 0, .int .i64 0, .int .i64 0, .int .i64 0, .int .i64 0] #[.int .i64 1, .int .i64 0, .int .i64 0, .int .i64 0, .int .i64 0, .int .i64 0, .int .i64 0, .int .i64 0, .int .i64 0, .int .i64 0, .int .i64 0, .int .i64 0, .int .i64 0, .int .i64 0, .int .i64 0, .int .i64 0] #[.int .i64 1, .int .i64 0, .int .i64 0, .int .i64 0, .int .i64 0, .int .i64 0, .int .i64 0, .int .i64 0, .int .i64 0, .int .i64 0, .int .i64 0, .int .i64 0, .int .i64 0, .int .i64 0, .int .i64 0, .int .i64 0]) := sz3 szz sz0 sz0
  have K := ((Kn.start w).new (w.heap.size) 48 #[.int .i64 0, .int .i64 0, .int .i64 0, .int .i64 0, .int .i64 0, .int .i64 0, .int .i64 0, .int .i64 0, .int .i64 0, .int .i64 0, .int .i64 0, .int .i64 0, .int .i64 0, .int .i64 0, .int .i64 0, .int .i64 0, .int .i64 0, .int .i64 0, .int .i64 0, .int .i64 0, .int .i64 0, .int .i64 0, .int .i64 0, .int .i64 0, .int .i64 0, .int .i64 0, .int .i64 0, .int .i64 0, .int .i64 0, .int .i64 0, .int .i64 0, .int .i64 0, .int .i64 0, .int .i64 0, .int .i64 0, .int .i64 0, .int .i64 0, .int .i64 0, .int .i64 0, .int .i64 0, .int .i64 0, .int .i64 0, .int .i64 0, .int .i64 0, .int .i64 0, .int .i64 0, .int .i64 0, .int .i64 0] 74 rfl rfl)
  go_enter Try.func104, Try.ntmps104
  go_wp2_with (first
      | (focus (first | (with_reducible refine' wpList_build2 rfl 74 _ _ _ _ _ _ rfl _ hb rfl rfl _)))
      | (focus ((first | ((with_reducible refine' wpList_store_kn K rfl 74 (.tmp 0) _ rfl 0 _ _ _ _ _ rfl rfl Try.szRp _ _ _); rotate_left 2; (focus exact rfl))); (focus assumption); intro wz Kz; clear K; have K := Kz; clear Kz; simp only [List.set_cons_zero, List.set_cons_succ] at K; try (simp only [Act.put, List.setIfInBounds_toArray, List.set_cons_zero, List.set_cons_succ]))))
  refine bodyPost_ret (results_kn K rfl _ 0 _ _ _ _ rfl _ Try.underlying74 rfl Try.szRp rfl) rfl ?_
  exact ⟨rfl, K.fr⟩
set_option maxRecDepth 100000 in
set_option maxHeartbeats 3200000 in
theorem base7_op (Q : Array Value) (w : World)
    (sQ : Sz 0 Q) :
    Calls Try.prog 95 #[] w fun e w' => e = .returned (.agg (cat3 #[.int .i64 54554, .int .i64 36645, .int .i64 11616, .int .i64 51542, .int .i64 42930, .int .i64 38181, .int .i64 51040, .int .i64 26924, .int .i64 56412, .int .i64 64982, .int .i64 57905, .int .i64 49316, .int .i64 21502, .int .i64 52590, .int .i64 14035, .int .i64 8553] #[.int .i64 26200, .int .i64 26214, .int .i64 26214, .int .i64 26214, .int .i64 26214, .int .i64 26214, .int .i64 26214, .int .i64 26214, .int .i64 26214, .int .i64 26214, .int .i64 26214, .int .i64 26214, .int .i64 26214, .int .i64 26214, .int .i64 26214, .int .i64 26214] #[.int .i64 1, .int .i64 0, .int .i64 0, .int .i64 0, .int .i64 0, .int .i64 0, .int .i64 0, .int .i64 0, .int .i64 0, .int .i64 0, .int .i64 0, .int .i64 0, .int .i64 0, .int .i64 0, .int .i64 0, .int .i64 0])) ∧ Fr (fun _ => False) w w' := by
  have sz0 : Sz 16 #[.int .i64 1, .int .i64 0, .int .i64 0, .int .i64 0, .int .i64 0, .int .i64 0, .int .i64 0, .int .i64 0, .int .i64 0, .int .i64 0, .int .i64 0, .int .i64 0, .int .i64 0, .int .i64 0, .int .i64 0, .int .i64 0] := ⟨rfl, by simp [Value.oneCell']⟩
  have sz1 : Sz 16 #[.int .i64 54554, .int .i64 36645, .int .i64 11616, .int .i64 51542, .int .i64 42930, .int .i64 38181, .int .i64 51040, .int .i64 26924, .int .i64 56412, .int .i64 64982, .int .i64 57905, .int .i64 49316, .int .i64 21502, .int .i64 52590, .int .i64 14035, .int .i64 8553] := ⟨rfl, by simp [Value.oneCell']⟩
  have sz2 : Sz 16 #[.int .i64 26200, .int .i64 26214, .int .i64 26214, .int .i64 26214, .int .i64 26214, .int .i64 26214, .int .i64 26214, .int .i64 26214, .int .i64 26214, .int .i64 26214, .int .i64 26214, .int .i64 26214, .int .i64 26214, .int .i64 26214, .int .i64 26214, .int .i64 26214] := ⟨rfl, by simp [Value.oneCell']⟩
  have szz : Sz 16 #[.int .i64 0, .int .i64 0, .int .i64 0, .int .i64 0, .int .i64 0, .int .i64 0, .int .i64 0, .int .i64 0, .int .i64 0, .int .i64 0, .int .i64 0, .int .i64 0, .int .i64 0, .int .i64 0, .int .i64 0, .int .i64 0] := ⟨rfl, by simp [Value.oneCell']⟩
  have hb := built_rpoint (X := #[.int .i64 54554, .int .i64 36645, .int .i64 11616, .int .i64 51542, .int .i64 42930, .int .i64 38181, .int .i64 51040, .int .i64 26924, .int .i64 56412, .int .i64 64982, .int .i64 57905, .int .i64 49316, .int .i64 21502, .int .i64 52590, .int .i64 14035, .int .i64 8553]) (Y := #[.int .i64 26200, .int .i64 26214, .int .i64 26214, .int .i64 26214, .int .i64 26214, .int .i64 26214, .int .i64 26214, .int .i64 26214, .int .i64 26214, .int .i64 26214, .int .i64 26214, .int .i64 26214, .int .i64 26214, .int .i64 26214, .int .i64 26214, .int .i64 26214]) (Z := #[.int .i64 1, .int .i64 0, .int .i64 0, .int .i64 0, .int .i64 0, .int .i64 0, .int .i64 0, .int .i64 0, .int .i64 0, .int .i64 0, .int .i64 0, .int .i64 0, .int .i64 0, .int .i64 0, .int .i64 0, .int .i64 0]) sz1 sz2 sz0
  have sP : Sz 48 (cat3 #[.int .i64 54554, .int .i64 36645, .int .i64 11616, .int .i64 51542, .int .i64 42930, .int .i64 38181, .int .i64 51040, .int .i64 26924, .int .i64 56412, .int .i64 64982, .int .i64 57905, .int .i64 49316, .int .i64 21502, .int .i64 52590, .int .i64 14035, .int .i64 8553] #[.int .i64 26200, .int .i64 26214, .int .i64 26214, .int .i64 26214, .int .i64 26214, .int .i64 26214, .int .i64 26214, .int .i64 26214, .int .i64 26214, .int .i64 26214, .int .i64 26214, .int .i64 26214, .int .i64 26214, .int .i64 26214, .int .i64 26214, .int .i64 26214] #[.int .i64 1, .int .i64 0, .int .i64 0, .int .i64 0, .int .i64 0, .int .i64 0, .int .i64 0, .int .i64 0, .int .i64 0, .int .i64 0, .int .i64 0, .int .i64 0, .int .i64 0, .int .i64 0, .int .i64 0, .int .i64 0]) := sz3 sz1 sz2 sz0
  have K := ((Kn.start w).new (w.heap.size) 48 #[.int .i64 0, .int .i64 0, .int .i64 0, .int .i64 0, .int .i64 0, .int .i64 0, .int .i64 0, .int .i64 0, .int .i64 0, .int .i64 0, .int .i64 0, .int .i64 0, .int .i64 0, .int .i64 0, .int .i64 0, .int .i64 0, .int .i64 0, .int .i64 0, .int .i64 0, .int .i64 0, .int .i64 0, .int .i64 0, .int .i64 0, .int .i64 0, .int .i64 0, .int .i64 0, .int .i64 0, .int .i64 0, .int .i64 0, .int .i64 0, .int .i64 0, .int .i64 0, .int .i64 0, .int .i64 0, .int .i64 0, .int .i64 0, .int .i64 0, .int .i64 0, .int .i64 0, .int .i64 0, .int .i64 0, .int .i64 0, .int .i64 0, .int .i64 0, .int .i64 0, .int .i64 0, .int .i64 0, .int .i64 0] 74 rfl rfl)
  go_enter Try.func95, Try.ntmps95
  go_wp2_with (first
      | (focus (first | (with_reducible refine' wpList_build3 rfl 74 _ _ _ _ _ _ _ _ _ rfl _ hb rfl rfl rfl _)))
      | (focus ((first | ((with_reducible refine' wpList_store_kn K rfl 74 (.tmp 0) _ rfl 0 _ _ _ _ _ rfl rfl Try.szRp _ _ _); rotate_left 2; (focus exact rfl))); (focus assumption); intro wz Kz; clear K; have K := Kz; clear Kz; simp only [List.set_cons_zero, List.set_cons_succ] at K; try (simp only [Act.put, List.setIfInBounds_toArray, List.set_cons_zero, List.set_cons_succ]))))
  refine bodyPost_ret (results_kn K rfl _ 0 _ _ _ _ rfl _ Try.underlying74 rfl Try.szRp rfl) rfl ?_
  exact ⟨rfl, K.fr⟩
set_option maxRecDepth 100000 in
set_option maxHeartbeats 3200000 in
theorem radd_op (A B XA YA ZA XB YB ZB a b c d D cd e f g u v s af h k x ag y z : Array Value) (w : World)
    (M1 : Ans Try.prog 23 #[.agg ZA, .agg ZB] (.agg a))
    (M2 : Ans Try.prog 23 #[.agg a, .agg a] (.agg b))
    (M3 : Ans Try.prog 23 #[.agg XA, .agg XB] (.agg c))
    (M4 : Ans Try.prog 23 #[.agg YA, .agg YB] (.agg d))
    (DD : Ans Try.prog 96 #[] (.agg D))
    (M5 : Ans Try.prog 23 #[.agg c, .agg d] (.agg cd))
    (M6 : Ans Try.prog 23 #[.agg D, .agg cd] (.agg e))
    (S1 : Ans Try.prog 21 #[.agg b, .agg e] (.agg f))
    (A1 : Ans Try.prog 19 #[.agg b, .agg e] (.agg g))
    (A2 : Ans Try.prog 19 #[.agg XA, .agg YA] (.agg u))
    (A3 : Ans Try.prog 19 #[.agg XB, .agg YB] (.agg v))
    (M7 : Ans Try.prog 23 #[.agg u, .agg v] (.agg s))
    (M8 : Ans Try.prog 23 #[.agg a, .agg f] (.agg af))
    (A4 : Ans Try.prog 19 #[.agg c, .agg d] (.agg h))
    (S2 : Ans Try.prog 21 #[.agg s, .agg h] (.agg k))
    (M9 : Ans Try.prog 23 #[.agg af, .agg k] (.agg x))
    (M10 : Ans Try.prog 23 #[.agg a, .agg g] (.agg ag))
    (M11 : Ans Try.prog 23 #[.agg ag, .agg h] (.agg y))
    (M12 : Ans Try.prog 23 #[.agg f, .agg g] (.agg z))
    (pXA : Part A 0 XA) (pYA : Part A 16 YA) (pZA : Part A 32 ZA) (pXB : Part B 0 XB) (pYB : Part B 16 YB) (pZB : Part B 32 ZB)
    (sA : Sz 48 A) (sB : Sz 48 B) (sXA : Sz 16 XA) (sYA : Sz 16 YA) (sZA : Sz 16 ZA) (sXB : Sz 16 XB) (sYB : Sz 16 YB) (sZB : Sz 16 ZB) (sa : Sz 16 a) (sb : Sz 16 b) (sc : Sz 16 c) (sd : Sz 16 d) (se : Sz 16 e) (sf : Sz 16 f) (sg : Sz 16 g) (ss : Sz 16 s) (sx : Sz 16 x) (sy : Sz 16 y) (sz : Sz 16 z) :
    Calls Try.prog 63 #[.agg A, .agg B] w fun e w' => e = .returned (.agg (cat3 x y z)) ∧ Fr (fun _ => False) w w' := by
  have hb := built_rpoint sx sy sz
  have sR : Sz 48 (cat3 x y z) := sz3 sx sy sz
  have K := ((((Kn.start w).new (w.heap.size) 48 A 74 rfl sA.1).new (w.heap.size + 1) 48 B 74 (by simp) sB.1).new (w.heap.size + 1 + 1) 48 #[.int .i64 0, .int .i64 0, .int .i64 0, .int .i64 0, .int .i64 0, .int .i64 0, .int .i64 0, .int .i64 0, .int .i64 0, .int .i64 0, .int .i64 0, .int .i64 0, .int .i64 0, .int .i64 0, .int .i64 0, .int .i64 0, .int .i64 0, .int .i64 0, .int .i64 0, .int .i64 0, .int .i64 0, .int .i64 0, .int .i64 0, .int .i64 0, .int .i64 0, .int .i64 0, .int .i64 0, .int .i64 0, .int .i64 0, .int .i64 0, .int .i64 0, .int .i64 0, .int .i64 0, .int .i64 0, .int .i64 0, .int .i64 0, .int .i64 0, .int .i64 0, .int .i64 0, .int .i64 0, .int .i64 0, .int .i64 0, .int .i64 0, .int .i64 0, .int .i64 0, .int .i64 0, .int .i64 0, .int .i64 0] 74 (by simp) rfl)
  go_enter Try.func63, Try.ntmps63
  go_wp2_with (first
      | (focus (first | ((with_reducible refine' wpList_load_pt K rfl 26 (.tmp 15) rfl 2 _ _ 32 16 _ _ _ rfl _ Try.underlying26 rfl Try.szN5 _ pZA (Sz.n sZA) _); rotate_left 2; (focus exact rfl)) | ((with_reducible refine' wpList_load_pt K rfl 26 (.tmp 17) rfl 1 _ _ 32 16 _ _ _ rfl _ Try.underlying26 rfl Try.szN5 _ pZB (Sz.n sZB) _); rotate_left 2; (focus exact rfl)) | ((with_reducible refine' wpList_load_kn K rfl 26 (.tmp 5) rfl 0 _ _ _ _ rfl _ Try.underlying26 rfl Try.szN5 _ _); rotate_left 2; (focus exact rfl))))
      | (focus ((first | ((with_reducible refine' wpList_store_kn K rfl 26 (.tmp 5) _ rfl 0 _ _ _ _ _ rfl rfl Try.szN5 _ _ _); rotate_left 2; (focus exact rfl)) | ((with_reducible refine' wpList_store_kn K rfl 26 (.tmp 6) _ rfl 0 _ _ _ _ _ rfl rfl Try.szN5 _ _ _); rotate_left 2; (focus exact rfl))); (focus assumption); intro wz Kz; clear K; have K := Kz; clear Kz; simp only [List.set_cons_zero, List.set_cons_succ] at K; try (simp only [Act.put, List.setIfInBounds_toArray, List.set_cons_zero, List.set_cons_succ])))
      | ((with_reducible refine wpList_new_kn K 26 _ _ _ _ #[.int .i64 0, .int .i64 0, .int .i64 0, .int .i64 0, .int .i64 0, .int .i64 0, .int .i64 0, .int .i64 0, .int .i64 0, .int .i64 0, .int .i64 0, .int .i64 0, .int .i64 0, .int .i64 0, .int .i64 0, .int .i64 0] 16 rfl Try.alN5 rfl ?_); intro gz wz Kz; clear K; have K := Kz; clear Kz; try (simp only [Act.put, List.setIfInBounds_toArray, List.set_cons_zero, List.set_cons_succ]))
      | ((with_reducible refine wpList_new_kn K 26 _ _ _ _ #[.int .i64 0, .int .i64 0, .int .i64 0, .int .i64 0, .int .i64 0, .int .i64 0, .int .i64 0, .int .i64 0, .int .i64 0, .int .i64 0, .int .i64 0, .int .i64 0, .int .i64 0, .int .i64 0, .int .i64 0, .int .i64 0] 16 rfl Try.alN5 rfl ?_); intro gz6 wz Kz; clear K; have K := Kz; clear Kz; try (simp only [Act.put, List.setIfInBounds_toArray, List.set_cons_zero, List.set_cons_succ]))
      | (go_at_call 23; (with_reducible refine Calls.kn K (M1 _) ?_); intro wz Kz; clear K; have K := Kz; clear Kz)
      | (go_at_call 23; (with_reducible refine Calls.kn K (M2 _) ?_); intro wz Kz; clear K; have K := Kz; clear Kz)
      | (go_at_call 23; (with_reducible refine Calls.kn K (M3 _) ?_); intro wz Kz; clear K; have K := Kz; clear Kz)
      | (go_at_call 23; (with_reducible refine Calls.kn K (M4 _) ?_); intro wz Kz; clear K; have K := Kz; clear Kz)
      | (go_at_call 23; (with_reducible refine Calls.kn K (M5 _) ?_); intro wz Kz; clear K; have K := Kz; clear Kz)
      | (go_at_call 23; (with_reducible refine Calls.kn K (M6 _) ?_); intro wz Kz; clear K; have K := Kz; clear Kz)
      | (go_at_call 23; (with_reducible refine Calls.kn K (M7 _) ?_); intro wz Kz; clear K; have K := Kz; clear Kz)
      | (go_at_call 23; (with_reducible refine Calls.kn K (M8 _) ?_); intro wz Kz; clear K; have K := Kz; clear Kz)
      | (go_at_call 23; (with_reducible refine Calls.kn K (M9 _) ?_); intro wz Kz; clear K; have K := Kz; clear Kz)
      | (go_at_call 23; (with_reducible refine Calls.kn K (M10 _) ?_); intro wz Kz; clear K; have K := Kz; clear Kz)
      | (go_at_call 23; (with_reducible refine Calls.kn K (M11 _) ?_); intro wz Kz; clear K; have K := Kz; clear Kz)
      | (go_at_call 23; (with_reducible refine Calls.kn K (M12 _) ?_); intro wz Kz; clear K; have K := Kz; clear Kz))
  refine wp_region_kn_tail K 10 [(7, 16, #[.int .i64 0, .int .i64 0, .int .i64 0, .int .i64 0, .int .i64 0, .int .i64 0, .int .i64 0, .int .i64 0, .int .i64 0, .int .i64 0, .int .i64 0, .int .i64 0, .int .i64 0, .int .i64 0, .int .i64 0, .int .i64 0], 26), (8, 16, #[.int .i64 0, .int .i64 0, .int .i64 0, .int .i64 0, .int .i64 0, .int .i64 0, .int .i64 0, .int .i64 0, .int .i64 0, .int .i64 0, .int .i64 0, .int .i64 0, .int .i64 0, .int .i64 0, .int .i64 0, .int .i64 0], 26)] (by kernel_rfl) (by kernel_rfl) (mk_two ⟨_, rfl, makes_alloc _ _ _ _ _ _ Try.alN5⟩ ⟨_, rfl, makes_alloc _ _ _ _ _ _ Try.alN5⟩) (sz_two rfl rfl) ?_
  apply Exists.intro
  refine ⟨?wk3, ?fin3⟩
  case wk3 =>
    intro γ
  
    simp only [List.take_succ_cons, List.take_zero]
    repeat (any_goals (first | (focus (go_big_quiet_want; (first | ((with_reducible refine' quiet_load_ptg K 26 (.tmp 23) rfl 4 _ _ 0 16 _ _ _ rfl _ Try.underlying26 rfl Try.szN5 _ pXA (Sz.n sXA) _); rotate_left 2; (focus exact rfl)) | ((with_reducible refine' quiet_load_ptg K 26 (.tmp 25) rfl 3 _ _ 0 16 _ _ _ rfl _ Try.underlying26 rfl Try.szN5 _ pXB (Sz.n sXB) _); rotate_left 2; (focus exact rfl)) | ((with_reducible refine' quiet_load_ptg K 26 (.tmp 28) rfl 4 _ _ 16 16 _ _ _ rfl _ Try.underlying26 rfl Try.szN5 _ pYA (Sz.n sYA) _); rotate_left 2; (focus exact rfl)) | ((with_reducible refine' quiet_load_ptg K 26 (.tmp 30) rfl 3 _ _ 16 16 _ _ _ rfl _ Try.underlying26 rfl Try.szN5 _ pYB (Sz.n sYB) _); rotate_left 2; (focus exact rfl))); simp only [Act.put, List.setIfInBounds_toArray, List.set_cons_zero, List.set_cons_succ]; go_big_quiet_on)) | go_big_quiet_step ((first | (go_at_call 23; with_reducible exact Calls.keepg (M1 _)) | (go_at_call 23; with_reducible exact Calls.keepg (M2 _)) | (go_at_call 23; with_reducible exact Calls.keepg (M3 _)) | (go_at_call 23; with_reducible exact Calls.keepg (M4 _)) | (go_at_call 23; with_reducible exact Calls.keepg (M5 _)) | (go_at_call 23; with_reducible exact Calls.keepg (M6 _)) | (go_at_call 23; with_reducible exact Calls.keepg (M7 _)) | (go_at_call 23; with_reducible exact Calls.keepg (M8 _)) | (go_at_call 23; with_reducible exact Calls.keepg (M9 _)) | (go_at_call 23; with_reducible exact Calls.keepg (M10 _)) | (go_at_call 23; with_reducible exact Calls.keepg (M11 _)) | (go_at_call 23; with_reducible exact Calls.keepg (M12 _)))) | quiet_step ((first | (go_at_call 23; with_reducible exact Calls.keepg (M1 _)) | (go_at_call 23; with_reducible exact Calls.keepg (M2 _)) | (go_at_call 23; with_reducible exact Calls.keepg (M3 _)) | (go_at_call 23; with_reducible exact Calls.keepg (M4 _)) | (go_at_call 23; with_reducible exact Calls.keepg (M5 _)) | (go_at_call 23; with_reducible exact Calls.keepg (M6 _)) | (go_at_call 23; with_reducible exact Calls.keepg (M7 _)) | (go_at_call 23; with_reducible exact Calls.keepg (M8 _)) | (go_at_call 23; with_reducible exact Calls.keepg (M9 _)) | (go_at_call 23; with_reducible exact Calls.keepg (M10 _)) | (go_at_call 23; with_reducible exact Calls.keepg (M11 _)) | (go_at_call 23; with_reducible exact Calls.keepg (M12 _))))))
    exact wpQuiet_nil rfl
  case fin3 =>
    intro gs wz Kz
    clear K
    have K := Kz
    clear Kz
    try simp only [mkAll, asObj, List.map_cons, List.map_nil, putAll, List.drop_succ_cons, List.drop_zero, List.length_cons, List.length_nil, Nat.zero_add, Nat.add_zero] at K ⊢
    try simp only [Act.put, List.setIfInBounds_toArray, List.set_cons_zero, List.set_cons_succ]
    generalize gs 0 = gz0 at *
    generalize gs 1 = gz1 at *
    go_wp2_with (first
      | (focus ((first | ((with_reducible refine' wpList_store_kn K rfl 26 (.tmp 7) _ rfl 1 _ _ _ _ _ rfl rfl Try.szN5 _ _ _); rotate_left 2; (focus exact rfl)) | ((with_reducible refine' wpList_store_kn K rfl 26 (.tmp 8) _ rfl 0 _ _ _ _ _ rfl rfl Try.szN5 _ _ _); rotate_left 2; (focus exact rfl))); (focus assumption); intro wz Kz; clear K; have K := Kz; clear Kz; simp only [List.set_cons_zero, List.set_cons_succ] at K; try (simp only [Act.put, List.setIfInBounds_toArray, List.set_cons_zero, List.set_cons_succ]))))
    refine wp_region_kn_tail K 5 [(9, 16, #[.int .i64 0, .int .i64 0, .int .i64 0, .int .i64 0, .int .i64 0, .int .i64 0, .int .i64 0, .int .i64 0, .int .i64 0, .int .i64 0, .int .i64 0, .int .i64 0, .int .i64 0, .int .i64 0, .int .i64 0, .int .i64 0], 26)] (by kernel_rfl) (by kernel_rfl) (mk_one ⟨_, rfl, makes_alloc _ _ _ _ _ _ Try.alN5⟩) (sz_one rfl) ?_
    apply Exists.intro
    refine ⟨?wk4, ?fin4⟩
    case wk4 =>
      intro γ
  
      simp only [List.take_succ_cons, List.take_zero]
      repeat (any_goals (first | (focus (go_big_quiet_want; (first | ((with_reducible refine' quiet_load_kng K 26 (.tmp 7) rfl 1 _ _ _ _ rfl _ Try.underlying26 rfl Try.szN5 _ _); rotate_left 2; (focus exact rfl)) | ((with_reducible refine' quiet_load_kng K 26 (.tmp 8) rfl 0 _ _ _ _ rfl _ Try.underlying26 rfl Try.szN5 _ _); rotate_left 2; (focus exact rfl))); simp only [Act.put, List.setIfInBounds_toArray, List.set_cons_zero, List.set_cons_succ]; go_big_quiet_on)) | go_big_quiet_step ((first | (go_at_call 23; with_reducible exact Calls.keepg (M1 _)) | (go_at_call 23; with_reducible exact Calls.keepg (M2 _)) | (go_at_call 23; with_reducible exact Calls.keepg (M3 _)) | (go_at_call 23; with_reducible exact Calls.keepg (M4 _)) | (go_at_call 96; with_reducible exact Calls.keepg (DD _)) | (go_at_call 23; with_reducible exact Calls.keepg (M5 _)) | (go_at_call 23; with_reducible exact Calls.keepg (M6 _)) | (go_at_call 23; with_reducible exact Calls.keepg (M7 _)) | (go_at_call 23; with_reducible exact Calls.keepg (M8 _)) | (go_at_call 23; with_reducible exact Calls.keepg (M9 _)) | (go_at_call 23; with_reducible exact Calls.keepg (M10 _)) | (go_at_call 23; with_reducible exact Calls.keepg (M11 _)) | (go_at_call 23; with_reducible exact Calls.keepg (M12 _)))) | quiet_step ((first | (go_at_call 23; with_reducible exact Calls.keepg (M1 _)) | (go_at_call 23; with_reducible exact Calls.keepg (M2 _)) | (go_at_call 23; with_reducible exact Calls.keepg (M3 _)) | (go_at_call 23; with_reducible exact Calls.keepg (M4 _)) | (go_at_call 96; with_reducible exact Calls.keepg (DD _)) | (go_at_call 23; with_reducible exact Calls.keepg (M5 _)) | (go_at_call 23; with_reducible exact Calls.keepg (M6 _)) | (go_at_call 23; with_reducible exact Calls.keepg (M7 _)) | (go_at_call 23; with_reducible exact Calls.keepg (M8 _)) | (go_at_call 23; with_reducible exact Calls.keepg (M9 _)) | (go_at_call 23; with_reducible exact Calls.keepg (M10 _)) | (go_at_call 23; with_reducible exact Calls.keepg (M11 _)) | (go_at_call 23; with_reducible exact Calls.keepg (M12 _))))))
      exact wpQuiet_nil rfl
    case fin4 =>
      intro gs wz Kz
      clear K
      have K := Kz
      clear Kz
      try simp only [mkAll, asObj, List.map_cons, List.map_nil, putAll, List.drop_succ_cons, List.drop_zero, List.length_cons, List.length_nil, Nat.zero_add, Nat.add_zero] at K ⊢
      try simp only [Act.put, List.setIfInBounds_toArray, List.set_cons_zero, List.set_cons_succ]
      generalize gs 0 = gz0 at *
      go_wp2_with (first
        | (focus ((first | ((with_reducible refine' wpList_store_kn K rfl 26 (.tmp 9) _ rfl 0 _ _ _ _ _ rfl rfl Try.szN5 _ _ _); rotate_left 2; (focus exact rfl))); (focus assumption); intro wz Kz; clear K; have K := Kz; clear Kz; simp only [List.set_cons_zero, List.set_cons_succ] at K; try (simp only [Act.put, List.setIfInBounds_toArray, List.set_cons_zero, List.set_cons_succ]))))
      refine wp_region_kn_tail K 6 [(10, 16, #[.int .i64 0, .int .i64 0, .int .i64 0, .int .i64 0, .int .i64 0, .int .i64 0, .int .i64 0, .int .i64 0, .int .i64 0, .int .i64 0, .int .i64 0, .int .i64 0, .int .i64 0, .int .i64 0, .int .i64 0, .int .i64 0], 26), (11, 16, #[.int .i64 0, .int .i64 0, .int .i64 0, .int .i64 0, .int .i64 0, .int .i64 0, .int .i64 0, .int .i64 0, .int .i64 0, .int .i64 0, .int .i64 0, .int .i64 0, .int .i64 0, .int .i64 0, .int .i64 0, .int .i64 0], 26)] (by kernel_rfl) (by kernel_rfl) (mk_two ⟨_, rfl, makes_alloc _ _ _ _ _ _ Try.alN5⟩ ⟨_, rfl, makes_alloc _ _ _ _ _ _ Try.alN5⟩) (sz_two rfl rfl) ?_
      apply Exists.intro
      refine ⟨?wk5, ?fin5⟩
      case wk5 =>
        intro γ
  
        simp only [List.take_succ_cons, List.take_zero]
        repeat (any_goals (first | (focus (go_big_quiet_want; (first | ((with_reducible refine' quiet_load_kng K 26 (.tmp 6) rfl 3 _ _ _ _ rfl _ Try.underlying26 rfl Try.szN5 _ _); rotate_left 2; (focus exact rfl)) | ((with_reducible refine' quiet_load_kng K 26 (.tmp 9) rfl 0 _ _ _ _ rfl _ Try.underlying26 rfl Try.szN5 _ _); rotate_left 2; (focus exact rfl))); simp only [Act.put, List.setIfInBounds_toArray, List.set_cons_zero, List.set_cons_succ]; go_big_quiet_on)) | go_big_quiet_step ((first | (go_at_call 21; with_reducible exact Calls.keepg (S1 _)) | (go_at_call 19; with_reducible exact Calls.keepg (A1 _)) | (go_at_call 19; with_reducible exact Calls.keepg (A2 _)) | (go_at_call 19; with_reducible exact Calls.keepg (A3 _)) | (go_at_call 19; with_reducible exact Calls.keepg (A4 _)) | (go_at_call 21; with_reducible exact Calls.keepg (S2 _)))) | quiet_step ((first | (go_at_call 21; with_reducible exact Calls.keepg (S1 _)) | (go_at_call 19; with_reducible exact Calls.keepg (A1 _)) | (go_at_call 19; with_reducible exact Calls.keepg (A2 _)) | (go_at_call 19; with_reducible exact Calls.keepg (A3 _)) | (go_at_call 19; with_reducible exact Calls.keepg (A4 _)) | (go_at_call 21; with_reducible exact Calls.keepg (S2 _))))))
        exact wpQuiet_nil rfl
      case fin5 =>
        intro gs wz Kz
        clear K
        have K := Kz
        clear Kz
        try simp only [mkAll, asObj, List.map_cons, List.map_nil, putAll, List.drop_succ_cons, List.drop_zero, List.length_cons, List.length_nil, Nat.zero_add, Nat.add_zero] at K ⊢
        try simp only [Act.put, List.setIfInBounds_toArray, List.set_cons_zero, List.set_cons_succ]
        generalize gs 0 = gz0 at *
        generalize gs 1 = gz1 at *
        go_wp2_with (first
          | (focus ((first | ((with_reducible refine' wpList_store_kn K rfl 26 (.tmp 10) _ rfl 1 _ _ _ _ _ rfl rfl Try.szN5 _ _ _); rotate_left 2; (focus exact rfl)) | ((with_reducible refine' wpList_store_kn K rfl 26 (.tmp 11) _ rfl 0 _ _ _ _ _ rfl rfl Try.szN5 _ _ _); rotate_left 2; (focus exact rfl))); (focus assumption); intro wz Kz; clear K; have K := Kz; clear Kz; simp only [List.set_cons_zero, List.set_cons_succ] at K; try (simp only [Act.put, List.setIfInBounds_toArray, List.set_cons_zero, List.set_cons_succ]))))
        refine wp_region_kn_tail K 11 [(12, 16, #[.int .i64 0, .int .i64 0, .int .i64 0, .int .i64 0, .int .i64 0, .int .i64 0, .int .i64 0, .int .i64 0, .int .i64 0, .int .i64 0, .int .i64 0, .int .i64 0, .int .i64 0, .int .i64 0, .int .i64 0, .int .i64 0], 26)] (by kernel_rfl) (by kernel_rfl) (mk_one ⟨_, rfl, makes_alloc _ _ _ _ _ _ Try.alN5⟩) (sz_one rfl) ?_
        apply Exists.intro
        refine ⟨?wk6, ?fin6⟩
        case wk6 =>
          intro γ
  
          simp only [List.take_succ_cons, List.take_zero]
          repeat (any_goals (first | (focus (go_big_quiet_want; (first | ((with_reducible refine' quiet_load_ptg K 26 (.tmp 44) rfl 9 _ _ 0 16 _ _ _ rfl _ Try.underlying26 rfl Try.szN5 _ pXA (Sz.n sXA) _); rotate_left 2; (focus exact rfl)) | ((with_reducible refine' quiet_load_ptg K 26 (.tmp 46) rfl 9 _ _ 16 16 _ _ _ rfl _ Try.underlying26 rfl Try.szN5 _ pYA (Sz.n sYA) _); rotate_left 2; (focus exact rfl)) | ((with_reducible refine' quiet_load_ptg K 26 (.tmp 49) rfl 8 _ _ 0 16 _ _ _ rfl _ Try.underlying26 rfl Try.szN5 _ pXB (Sz.n sXB) _); rotate_left 2; (focus exact rfl)) | ((with_reducible refine' quiet_load_ptg K 26 (.tmp 51) rfl 8 _ _ 16 16 _ _ _ rfl _ Try.underlying26 rfl Try.szN5 _ pYB (Sz.n sYB) _); rotate_left 2; (focus exact rfl))); simp only [Act.put, List.setIfInBounds_toArray, List.set_cons_zero, List.set_cons_succ]; go_big_quiet_on)) | go_big_quiet_step ((first | (go_at_call 23; with_reducible exact Calls.keepg (M1 _)) | (go_at_call 23; with_reducible exact Calls.keepg (M2 _)) | (go_at_call 23; with_reducible exact Calls.keepg (M3 _)) | (go_at_call 23; with_reducible exact Calls.keepg (M4 _)) | (go_at_call 23; with_reducible exact Calls.keepg (M5 _)) | (go_at_call 23; with_reducible exact Calls.keepg (M6 _)) | (go_at_call 19; with_reducible exact Calls.keepg (A1 _)) | (go_at_call 19; with_reducible exact Calls.keepg (A2 _)) | (go_at_call 19; with_reducible exact Calls.keepg (A3 _)) | (go_at_call 23; with_reducible exact Calls.keepg (M7 _)) | (go_at_call 23; with_reducible exact Calls.keepg (M8 _)) | (go_at_call 19; with_reducible exact Calls.keepg (A4 _)) | (go_at_call 23; with_reducible exact Calls.keepg (M9 _)) | (go_at_call 23; with_reducible exact Calls.keepg (M10 _)) | (go_at_call 23; with_reducible exact Calls.keepg (M11 _)) | (go_at_call 23; with_reducible exact Calls.keepg (M12 _)))) | quiet_step ((first | (go_at_call 23; with_reducible exact Calls.keepg (M1 _)) | (go_at_call 23; with_reducible exact Calls.keepg (M2 _)) | (go_at_call 23; with_reducible exact Calls.keepg (M3 _)) | (go_at_call 23; with_reducible exact Calls.keepg (M4 _)) | (go_at_call 23; with_reducible exact Calls.keepg (M5 _)) | (go_at_call 23; with_reducible exact Calls.keepg (M6 _)) | (go_at_call 19; with_reducible exact Calls.keepg (A1 _)) | (go_at_call 19; with_reducible exact Calls.keepg (A2 _)) | (go_at_call 19; with_reducible exact Calls.keepg (A3 _)) | (go_at_call 23; with_reducible exact Calls.keepg (M7 _)) | (go_at_call 23; with_reducible exact Calls.keepg (M8 _)) | (go_at_call 19; with_reducible exact Calls.keepg (A4 _)) | (go_at_call 23; with_reducible exact Calls.keepg (M9 _)) | (go_at_call 23; with_reducible exact Calls.keepg (M10 _)) | (go_at_call 23; with_reducible exact Calls.keepg (M11 _)) | (go_at_call 23; with_reducible exact Calls.keepg (M12 _))))))
          exact wpQuiet_nil rfl
        case fin6 =>
          intro gs wz Kz
          clear K
          have K := Kz
          clear Kz
          try simp only [mkAll, asObj, List.map_cons, List.map_nil, putAll, List.drop_succ_cons, List.drop_zero, List.length_cons, List.length_nil, Nat.zero_add, Nat.add_zero] at K ⊢
          try simp only [Act.put, List.setIfInBounds_toArray, List.set_cons_zero, List.set_cons_succ]
          generalize gs 0 = gz0 at *
          go_wp2_with (first
            | (focus ((first | ((with_reducible refine' wpList_store_kn K rfl 26 (.tmp 12) _ rfl 0 _ _ _ _ _ rfl rfl Try.szN5 _ _ _); rotate_left 2; (focus exact rfl))); (focus assumption); intro wz Kz; clear K; have K := Kz; clear Kz; simp only [List.set_cons_zero, List.set_cons_succ] at K; try (simp only [Act.put, List.setIfInBounds_toArray, List.set_cons_zero, List.set_cons_succ]))))
          refine wp_region_kn_tail K 9 [(13, 16, #[.int .i64 0, .int .i64 0, .int .i64 0, .int .i64 0, .int .i64 0, .int .i64 0, .int .i64 0, .int .i64 0, .int .i64 0, .int .i64 0, .int .i64 0, .int .i64 0, .int .i64 0, .int .i64 0, .int .i64 0, .int .i64 0], 26)] (by kernel_rfl) (by kernel_rfl) (mk_one ⟨_, rfl, makes_alloc _ _ _ _ _ _ Try.alN5⟩) (sz_one rfl) ?_
          apply Exists.intro
          refine ⟨?wk7, ?fin7⟩
          case wk7 =>
            intro γ
  
            simp only [List.take_succ_cons, List.take_zero]
            repeat (any_goals (first | (focus (go_big_quiet_want; (first | ((with_reducible refine' quiet_load_kng K 26 (.tmp 5) rfl 7 _ _ _ _ rfl _ Try.underlying26 rfl Try.szN5 _ _); rotate_left 2; (focus exact rfl)) | ((with_reducible refine' quiet_load_kng K 26 (.tmp 10) rfl 2 _ _ _ _ rfl _ Try.underlying26 rfl Try.szN5 _ _); rotate_left 2; (focus exact rfl)) | ((with_reducible refine' quiet_load_kng K 26 (.tmp 12) rfl 0 _ _ _ _ rfl _ Try.underlying26 rfl Try.szN5 _ _); rotate_left 2; (focus exact rfl)) | ((with_reducible refine' quiet_load_kng K 26 (.tmp 7) rfl 5 _ _ _ _ rfl _ Try.underlying26 rfl Try.szN5 _ _); rotate_left 2; (focus exact rfl)) | ((with_reducible refine' quiet_load_kng K 26 (.tmp 8) rfl 4 _ _ _ _ rfl _ Try.underlying26 rfl Try.szN5 _ _); rotate_left 2; (focus exact rfl))); simp only [Act.put, List.setIfInBounds_toArray, List.set_cons_zero, List.set_cons_succ]; go_big_quiet_on)) | go_big_quiet_step ((first | (go_at_call 23; with_reducible exact Calls.keepg (M1 _)) | (go_at_call 23; with_reducible exact Calls.keepg (M2 _)) | (go_at_call 23; with_reducible exact Calls.keepg (M3 _)) | (go_at_call 23; with_reducible exact Calls.keepg (M4 _)) | (go_at_call 23; with_reducible exact Calls.keepg (M5 _)) | (go_at_call 23; with_reducible exact Calls.keepg (M6 _)) | (go_at_call 21; with_reducible exact Calls.keepg (S1 _)) | (go_at_call 19; with_reducible exact Calls.keepg (A1 _)) | (go_at_call 19; with_reducible exact Calls.keepg (A2 _)) | (go_at_call 19; with_reducible exact Calls.keepg (A3 _)) | (go_at_call 23; with_reducible exact Calls.keepg (M7 _)) | (go_at_call 23; with_reducible exact Calls.keepg (M8 _)) | (go_at_call 19; with_reducible exact Calls.keepg (A4 _)) | (go_at_call 21; with_reducible exact Calls.keepg (S2 _)) | (go_at_call 23; with_reducible exact Calls.keepg (M9 _)) | (go_at_call 23; with_reducible exact Calls.keepg (M10 _)) | (go_at_call 23; with_reducible exact Calls.keepg (M11 _)) | (go_at_call 23; with_reducible exact Calls.keepg (M12 _)))) | quiet_step ((first | (go_at_call 23; with_reducible exact Calls.keepg (M1 _)) | (go_at_call 23; with_reducible exact Calls.keepg (M2 _)) | (go_at_call 23; with_reducible exact Calls.keepg (M3 _)) | (go_at_call 23; with_reducible exact Calls.keepg (M4 _)) | (go_at_call 23; with_reducible exact Calls.keepg (M5 _)) | (go_at_call 23; with_reducible exact Calls.keepg (M6 _)) | (go_at_call 21; with_reducible exact Calls.keepg (S1 _)) | (go_at_call 19; with_reducible exact Calls.keepg (A1 _)) | (go_at_call 19; with_reducible exact Calls.keepg (A2 _)) | (go_at_call 19; with_reducible exact Calls.keepg (A3 _)) | (go_at_call 23; with_reducible exact Calls.keepg (M7 _)) | (go_at_call 23; with_reducible exact Calls.keepg (M8 _)) | (go_at_call 19; with_reducible exact Calls.keepg (A4 _)) | (go_at_call 21; with_reducible exact Calls.keepg (S2 _)) | (go_at_call 23; with_reducible exact Calls.keepg (M9 _)) | (go_at_call 23; with_reducible exact Calls.keepg (M10 _)) | (go_at_call 23; with_reducible exact Calls.keepg (M11 _)) | (go_at_call 23; with_reducible exact Calls.keepg (M12 _))))))
            exact wpQuiet_nil rfl
          case fin7 =>
            intro gs wz Kz
            clear K
            have K := Kz
            clear Kz
            try simp only [mkAll, asObj, List.map_cons, List.map_nil, putAll, List.drop_succ_cons, List.drop_zero, List.length_cons, List.length_nil, Nat.zero_add, Nat.add_zero] at K ⊢
            try simp only [Act.put, List.setIfInBounds_toArray, List.set_cons_zero, List.set_cons_succ]
            generalize gs 0 = gz0 at *
            go_wp2_with (first
              | (focus ((first | ((with_reducible refine' wpList_store_kn K rfl 26 (.tmp 13) _ rfl 0 _ _ _ _ _ rfl rfl Try.szN5 _ _ _); rotate_left 2; (focus exact rfl))); (focus assumption); intro wz Kz; clear K; have K := Kz; clear Kz; simp only [List.set_cons_zero, List.set_cons_succ] at K; try (simp only [Act.put, List.setIfInBounds_toArray, List.set_cons_zero, List.set_cons_succ]))))
            refine wp_region_kn_tail K 7 [(14, 16, #[.int .i64 0, .int .i64 0, .int .i64 0, .int .i64 0, .int .i64 0, .int .i64 0, .int .i64 0, .int .i64 0, .int .i64 0, .int .i64 0, .int .i64 0, .int .i64 0, .int .i64 0, .int .i64 0, .int .i64 0, .int .i64 0], 26)] (by kernel_rfl) (by kernel_rfl) (mk_one ⟨_, rfl, makes_alloc _ _ _ _ _ _ Try.alN5⟩) (sz_one rfl) ?_
            apply Exists.intro
            refine ⟨?wk8, ?fin8⟩
            case wk8 =>
              intro γ
  
              simp only [List.take_succ_cons, List.take_zero]
              repeat (any_goals (first | (focus (go_big_quiet_want; (first | ((with_reducible refine' quiet_load_kng K 26 (.tmp 5) rfl 8 _ _ _ _ rfl _ Try.underlying26 rfl Try.szN5 _ _); rotate_left 2; (focus exact rfl)) | ((with_reducible refine' quiet_load_kng K 26 (.tmp 11) rfl 2 _ _ _ _ rfl _ Try.underlying26 rfl Try.szN5 _ _); rotate_left 2; (focus exact rfl)) | ((with_reducible refine' quiet_load_kng K 26 (.tmp 7) rfl 6 _ _ _ _ rfl _ Try.underlying26 rfl Try.szN5 _ _); rotate_left 2; (focus exact rfl)) | ((with_reducible refine' quiet_load_kng K 26 (.tmp 8) rfl 5 _ _ _ _ rfl _ Try.underlying26 rfl Try.szN5 _ _); rotate_left 2; (focus exact rfl))); simp only [Act.put, List.setIfInBounds_toArray, List.set_cons_zero, List.set_cons_succ]; go_big_quiet_on)) | go_big_quiet_step ((first | (go_at_call 23; with_reducible exact Calls.keepg (M1 _)) | (go_at_call 23; with_reducible exact Calls.keepg (M2 _)) | (go_at_call 23; with_reducible exact Calls.keepg (M3 _)) | (go_at_call 23; with_reducible exact Calls.keepg (M4 _)) | (go_at_call 23; with_reducible exact Calls.keepg (M5 _)) | (go_at_call 23; with_reducible exact Calls.keepg (M6 _)) | (go_at_call 19; with_reducible exact Calls.keepg (A1 _)) | (go_at_call 19; with_reducible exact Calls.keepg (A2 _)) | (go_at_call 19; with_reducible exact Calls.keepg (A3 _)) | (go_at_call 23; with_reducible exact Calls.keepg (M7 _)) | (go_at_call 23; with_reducible exact Calls.keepg (M8 _)) | (go_at_call 19; with_reducible exact Calls.keepg (A4 _)) | (go_at_call 23; with_reducible exact Calls.keepg (M9 _)) | (go_at_call 23; with_reducible exact Calls.keepg (M10 _)) | (go_at_call 23; with_reducible exact Calls.keepg (M11 _)) | (go_at_call 23; with_reducible exact Calls.keepg (M12 _)))) | quiet_step ((first | (go_at_call 23; with_reducible exact Calls.keepg (M1 _)) | (go_at_call 23; with_reducible exact Calls.keepg (M2 _)) | (go_at_call 23; with_reducible exact Calls.keepg (M3 _)) | (go_at_call 23; with_reducible exact Calls.keepg (M4 _)) | (go_at_call 23; with_reducible exact Calls.keepg (M5 _)) | (go_at_call 23; with_reducible exact Calls.keepg (M6 _)) | (go_at_call 19; with_reducible exact Calls.keepg (A1 _)) | (go_at_call 19; with_reducible exact Calls.keepg (A2 _)) | (go_at_call 19; with_reducible exact Calls.keepg (A3 _)) | (go_at_call 23; with_reducible exact Calls.keepg (M7 _)) | (go_at_call 23; with_reducible exact Calls.keepg (M8 _)) | (go_at_call 19; with_reducible exact Calls.keepg (A4 _)) | (go_at_call 23; with_reducible exact Calls.keepg (M9 _)) | (go_at_call 23; with_reducible exact Calls.keepg (M10 _)) | (go_at_call 23; with_reducible exact Calls.keepg (M11 _)) | (go_at_call 23; with_reducible exact Calls.keepg (M12 _))))))
              exact wpQuiet_nil rfl
            case fin8 =>
              intro gs wz Kz
              clear K
              have K := Kz
              clear Kz
              try simp only [mkAll, asObj, List.map_cons, List.map_nil, putAll, List.drop_succ_cons, List.drop_zero, List.length_cons, List.length_nil, Nat.zero_add, Nat.add_zero] at K ⊢
              try simp only [Act.put, List.setIfInBounds_toArray, List.set_cons_zero, List.set_cons_succ]
              generalize gs 0 = gz0 at *
              go_wp2_with (first
                | (focus ((first | ((with_reducible refine' wpList_store_kn K rfl 26 (.tmp 14) _ rfl 0 _ _ _ _ _ rfl rfl Try.szN5 _ _ _); rotate_left 2; (focus exact rfl))); (focus assumption); intro wz Kz; clear K; have K := Kz; clear Kz; simp only [List.set_cons_zero, List.set_cons_succ] at K; try (simp only [Act.put, List.setIfInBounds_toArray, List.set_cons_zero, List.set_cons_succ]))))
              refine wp_region_kn_tail K 6 [] (by kernel_rfl) (by kernel_rfl) mk_nil sz_nil ?_
              apply Exists.intro
              refine ⟨?wk9, ?fin9⟩
              case wk9 =>
                intro γ
  
                simp only [List.take_succ_cons, List.take_zero]
                repeat (any_goals (first | (focus (go_big_quiet_want; (first | ((with_reducible refine' quiet_load_kng K 26 (.tmp 13) rfl 1 _ _ _ _ rfl _ Try.underlying26 rfl Try.szN5 _ _); rotate_left 2; (focus exact rfl)) | ((with_reducible refine' quiet_load_kng K 26 (.tmp 14) rfl 0 _ _ _ _ rfl _ Try.underlying26 rfl Try.szN5 _ _); rotate_left 2; (focus exact rfl)) | ((with_reducible refine' quiet_load_kng K 26 (.tmp 10) rfl 4 _ _ _ _ rfl _ Try.underlying26 rfl Try.szN5 _ _); rotate_left 2; (focus exact rfl)) | ((with_reducible refine' quiet_load_kng K 26 (.tmp 11) rfl 3 _ _ _ _ rfl _ Try.underlying26 rfl Try.szN5 _ _); rotate_left 2; (focus exact rfl)) | (with_reducible refine' quiet_build3 74 _ _ _ _ _ _ _ _ _ rfl _ hb rfl rfl rfl _)); simp only [Act.put, List.setIfInBounds_toArray, List.set_cons_zero, List.set_cons_succ]; go_big_quiet_on)) | go_big_quiet_step ((first | (go_at_call 23; with_reducible exact Calls.keepg (M1 _)) | (go_at_call 23; with_reducible exact Calls.keepg (M2 _)) | (go_at_call 23; with_reducible exact Calls.keepg (M3 _)) | (go_at_call 23; with_reducible exact Calls.keepg (M4 _)) | (go_at_call 23; with_reducible exact Calls.keepg (M5 _)) | (go_at_call 23; with_reducible exact Calls.keepg (M6 _)) | (go_at_call 23; with_reducible exact Calls.keepg (M7 _)) | (go_at_call 23; with_reducible exact Calls.keepg (M8 _)) | (go_at_call 23; with_reducible exact Calls.keepg (M9 _)) | (go_at_call 23; with_reducible exact Calls.keepg (M10 _)) | (go_at_call 23; with_reducible exact Calls.keepg (M11 _)) | (go_at_call 23; with_reducible exact Calls.keepg (M12 _)))) | quiet_step ((first | (go_at_call 23; with_reducible exact Calls.keepg (M1 _)) | (go_at_call 23; with_reducible exact Calls.keepg (M2 _)) | (go_at_call 23; with_reducible exact Calls.keepg (M3 _)) | (go_at_call 23; with_reducible exact Calls.keepg (M4 _)) | (go_at_call 23; with_reducible exact Calls.keepg (M5 _)) | (go_at_call 23; with_reducible exact Calls.keepg (M6 _)) | (go_at_call 23; with_reducible exact Calls.keepg (M7 _)) | (go_at_call 23; with_reducible exact Calls.keepg (M8 _)) | (go_at_call 23; with_reducible exact Calls.keepg (M9 _)) | (go_at_call 23; with_reducible exact Calls.keepg (M10 _)) | (go_at_call 23; with_reducible exact Calls.keepg (M11 _)) | (go_at_call 23; with_reducible exact Calls.keepg (M12 _))))))
                exact wpQuiet_nil rfl
              case fin9 =>
                intro gs wz Kz
                clear K
                have K := Kz
                clear Kz
                try simp only [mkAll, asObj, List.map_cons, List.map_nil, putAll, List.drop_succ_cons, List.drop_zero, List.length_cons, List.length_nil, Nat.zero_add, Nat.add_zero] at K ⊢
                try simp only [Act.put, List.setIfInBounds_toArray, List.set_cons_zero, List.set_cons_succ]

                go_wp2_with (first
                  | (focus ((first | ((with_reducible refine' wpList_store_kn K rfl 74 (.tmp 4) _ rfl 10 _ _ _ _ _ rfl rfl Try.szRp _ _ _); rotate_left 2; (focus exact rfl))); (focus assumption); intro wz Kz; clear K; have K := Kz; clear Kz; simp only [List.set_cons_zero, List.set_cons_succ] at K; try (simp only [Act.put, List.setIfInBounds_toArray, List.set_cons_zero, List.set_cons_succ]))))
                refine bodyPost_ret (results_kn K rfl _ 10 _ _ _ _ rfl _ Try.underlying74 rfl Try.szRp rfl) rfl ?_
                exact ⟨rfl, K.fr⟩
set_option maxRecDepth 100000 in
set_option maxHeartbeats 3200000 in
theorem rneg_op (A XA YA ZA N : Array Value) (w : World)
    (NE : Ans Try.prog 25 #[.agg XA] (.agg N))
    (pXA : Part A 0 XA) (pYA : Part A 16 YA) (pZA : Part A 32 ZA)
    (sA : Sz 48 A) (sXA : Sz 16 XA) (sYA : Sz 16 YA) (sZA : Sz 16 ZA) (sN : Sz 16 N) :
    Calls Try.prog 65 #[.agg A] w fun e w' => e = .returned (.agg (cat3 N YA ZA)) ∧ Fr (fun _ => False) w w' := by
  have hb := built_rpoint sN sYA sZA
  have sR : Sz 48 (cat3 N YA ZA) := sz3 sN sYA sZA
  have K := (((Kn.start w).new (w.heap.size) 48 A 74 rfl sA.1).new (w.heap.size + 1) 48 #[.int .i64 0, .int .i64 0, .int .i64 0, .int .i64 0, .int .i64 0, .int .i64 0, .int .i64 0, .int .i64 0, .int .i64 0, .int .i64 0, .int .i64 0, .int .i64 0, .int .i64 0, .int .i64 0, .int .i64 0, .int .i64 0, .int .i64 0, .int .i64 0, .int .i64 0, .int .i64 0, .int .i64 0, .int .i64 0, .int .i64 0, .int .i64 0, .int .i64 0, .int .i64 0, .int .i64 0, .int .i64 0, .int .i64 0, .int .i64 0, .int .i64 0, .int .i64 0, .int .i64 0, .int .i64 0, .int .i64 0, .int .i64 0, .int .i64 0, .int .i64 0, .int .i64 0, .int .i64 0, .int .i64 0, .int .i64 0, .int .i64 0, .int .i64 0, .int .i64 0, .int .i64 0, .int .i64 0, .int .i64 0] 74 (by simp) rfl)
  go_enter Try.func65, Try.ntmps65
  go_wp2_with fail
  refine wp_region_kn_tail K 8 [] (by kernel_rfl) (by kernel_rfl) mk_nil sz_nil ?_
  apply Exists.intro
  refine ⟨?wk1, ?fin1⟩
  case wk1 =>
    intro γ
  
    simp only [List.take_succ_cons, List.take_zero]
    repeat (any_goals (first | (focus (go_big_quiet_want; (first | ((with_reducible refine' quiet_load_ptg K 26 (.tmp 3) rfl 1 _ _ 0 16 _ _ _ rfl _ Try.underlying26 rfl Try.szN5 _ pXA (Sz.n sXA) _); rotate_left 2; (focus exact rfl)) | ((with_reducible refine' quiet_load_ptg K 26 (.tmp 6) rfl 1 _ _ 16 16 _ _ _ rfl _ Try.underlying26 rfl Try.szN5 _ pYA (Sz.n sYA) _); rotate_left 2; (focus exact rfl)) | ((with_reducible refine' quiet_load_ptg K 26 (.tmp 8) rfl 1 _ _ 32 16 _ _ _ rfl _ Try.underlying26 rfl Try.szN5 _ pZA (Sz.n sZA) _); rotate_left 2; (focus exact rfl)) | (with_reducible refine' quiet_build3 74 _ _ _ _ _ _ _ _ _ rfl _ hb rfl rfl rfl _)); simp only [Act.put, List.setIfInBounds_toArray, List.set_cons_zero, List.set_cons_succ]; go_big_quiet_on)) | go_big_quiet_step ((first | (go_at_call 25; with_reducible exact Calls.keepg (NE _)))) | quiet_step ((first | (go_at_call 25; with_reducible exact Calls.keepg (NE _))))))
    exact wpQuiet_nil rfl
  case fin1 =>
    intro gs wz Kz
    clear K
    have K := Kz
    clear Kz
    try simp only [mkAll, asObj, List.map_cons, List.map_nil, putAll, List.drop_succ_cons, List.drop_zero, List.length_cons, List.length_nil, Nat.zero_add, Nat.add_zero] at K ⊢
    try simp only [Act.put, List.setIfInBounds_toArray, List.set_cons_zero, List.set_cons_succ]

    go_wp2_with (first
      | (focus ((first | ((with_reducible refine' wpList_store_kn K rfl 74 (.tmp 2) _ rfl 0 _ _ _ _ _ rfl rfl Try.szRp _ _ _); rotate_left 2; (focus exact rfl))); (focus assumption); intro wz Kz; clear K; have K := Kz; clear Kz; simp only [List.set_cons_zero, List.set_cons_succ] at K; try (simp only [Act.put, List.setIfInBounds_toArray, List.set_cons_zero, List.set_cons_succ]))))
    refine bodyPost_ret (results_kn K rfl _ 0 _ _ _ _ rfl _ Try.underlying74 rfl Try.szRp rfl) rfl ?_
    exact ⟨rfl, K.fr⟩
set_option maxRecDepth 100000 in
set_option maxHeartbeats 3200000 in
theorem rsame_a (bb : Bool) (A B XA YA ZA XB YB ZB a b c d : Array Value) (w : World)
    (M1 : Ans Try.prog 23 #[.agg XA, .agg ZB] (.agg a))
    (M2 : Ans Try.prog 23 #[.agg XB, .agg ZA] (.agg b))
    (M3 : Ans Try.prog 23 #[.agg YA, .agg ZB] (.agg c))
    (M4 : Ans Try.prog 23 #[.agg YB, .agg ZA] (.agg d))
    (pXA : Part A 0 XA) (pYA : Part A 16 YA) (pZA : Part A 32 ZA) (pXB : Part B 0 XB) (pYB : Part B 16 YB) (pZB : Part B 32 ZB)
    (E1 : ∀ W : World, (binOp .eql 26 (.agg a) (.agg b)).run Try.prog W = .ok (.bool true) W) (E2 : ∀ W : World, (binOp .eql 26 (.agg c) (.agg d)).run Try.prog W = .ok (.bool bb) W)
    (sA : Sz 48 A) (sB : Sz 48 B) (sXA : Sz 16 XA) (sYA : Sz 16 YA) (sZA : Sz 16 ZA) (sXB : Sz 16 XB) (sYB : Sz 16 YB) (sZB : Sz 16 ZB) :
    Calls Try.prog 69 #[.agg A, .agg B] w fun e w' => e = .returned (.bool bb) ∧ Fr (fun _ => False) w w' := by
  have EG := Try.guardNum5
  have K := (((Kn.start w).new (w.heap.size) 48 A 74 rfl sA.1).new (w.heap.size + 1) 48 B 74 (by simp) sB.1)
  go_enter Try.func69, Try.ntmps69
  go_wp2_with fail
  refine wp_region_keep (by kernel_rfl) (by kernel_rfl) ?_
  repeat (any_goals (first | (focus (go_big_quiet_want; (first | ((with_reducible refine' quiet_load_pt K 26 (.tmp 5) rfl 1 _ _ 0 16 _ _ _ rfl _ Try.underlying26 rfl Try.szN5 _ pXA (Sz.n sXA) _); rotate_left 2; (focus exact rfl)) | ((with_reducible refine' quiet_load_pt K 26 (.tmp 7) rfl 0 _ _ 32 16 _ _ _ rfl _ Try.underlying26 rfl Try.szN5 _ pZB (Sz.n sZB) _); rotate_left 2; (focus exact rfl)) | ((with_reducible refine' quiet_load_pt K 26 (.tmp 10) rfl 0 _ _ 0 16 _ _ _ rfl _ Try.underlying26 rfl Try.szN5 _ pXB (Sz.n sXB) _); rotate_left 2; (focus exact rfl)) | ((with_reducible refine' quiet_load_pt K 26 (.tmp 12) rfl 1 _ _ 32 16 _ _ _ rfl _ Try.underlying26 rfl Try.szN5 _ pZA (Sz.n sZA) _); rotate_left 2; (focus exact rfl)) | ((with_reducible refine' quiet_load_pt K 26 (.tmp 17) rfl 1 _ _ 16 16 _ _ _ rfl _ Try.underlying26 rfl Try.szN5 _ pYA (Sz.n sYA) _); rotate_left 2; (focus exact rfl)) | ((with_reducible refine' quiet_load_pt K 26 (.tmp 19) rfl 0 _ _ 32 16 _ _ _ rfl _ Try.underlying26 rfl Try.szN5 _ pZB (Sz.n sZB) _); rotate_left 2; (focus exact rfl)) | ((with_reducible refine' quiet_load_pt K 26 (.tmp 22) rfl 0 _ _ 16 16 _ _ _ rfl _ Try.underlying26 rfl Try.szN5 _ pYB (Sz.n sYB) _); rotate_left 2; (focus exact rfl)) | ((with_reducible refine' quiet_load_pt K 26 (.tmp 24) rfl 1 _ _ 32 16 _ _ _ rfl _ Try.underlying26 rfl Try.szN5 _ pZA (Sz.n sZA) _); rotate_left 2; (focus exact rfl))); simp only [Act.put, List.setIfInBounds_toArray, List.set_cons_zero, List.set_cons_succ]; go_big_quiet_on)) | go_big_quiet_step ((first | (go_at_call 23; with_reducible exact Calls.keep (M1 _)) | (go_at_call 23; with_reducible exact Calls.keep (M2 _)) | (go_at_call 23; with_reducible exact Calls.keep (M3 _)) | (go_at_call 23; with_reducible exact Calls.keep (M4 _)))) | quiet_step ((first | (go_at_call 23; with_reducible exact Calls.keep (M1 _)) | (go_at_call 23; with_reducible exact Calls.keep (M2 _)) | (go_at_call 23; with_reducible exact Calls.keep (M3 _)) | (go_at_call 23; with_reducible exact Calls.keep (M4 _))))))
  refine wpQuiet_nil ?_
  intro _ hwz
  obtain ⟨y, rfl⟩ := hwz
  have Kz := K.call y.h
  clear K 
  have K := Kz
  clear Kz
  generalize y.w = wz at K ⊢
  clear y
  go_wp2_with fail
  go_ret
  exact ⟨rfl, K.fr⟩
set_option maxRecDepth 100000 in
set_option maxHeartbeats 3200000 in
theorem rsame_b (bb : Bool) (A B XA YA ZA XB YB ZB a b c d : Array Value) (w : World)
    (M1 : Ans Try.prog 23 #[.agg XA, .agg ZB] (.agg a))
    (M2 : Ans Try.prog 23 #[.agg XB, .agg ZA] (.agg b))
    (M3 : Ans Try.prog 23 #[.agg YA, .agg ZB] (.agg c))
    (M4 : Ans Try.prog 23 #[.agg YB, .agg ZA] (.agg d))
    (pXA : Part A 0 XA) (pYA : Part A 16 YA) (pZA : Part A 32 ZA) (pXB : Part B 0 XB) (pYB : Part B 16 YB) (pZB : Part B 32 ZB)
    (E1 : ∀ W : World, (binOp .eql 26 (.agg a) (.agg b)).run Try.prog W = .ok (.bool false) W) (E2 : ∀ W : World, (binOp .eql 26 (.agg c) (.agg d)).run Try.prog W = .ok (.bool bb) W)
    (sA : Sz 48 A) (sB : Sz 48 B) (sXA : Sz 16 XA) (sYA : Sz 16 YA) (sZA : Sz 16 ZA) (sXB : Sz 16 XB) (sYB : Sz 16 YB) (sZB : Sz 16 ZB) :
    Calls Try.prog 69 #[.agg A, .agg B] w fun e w' => e = .returned (.bool false) ∧ Fr (fun _ => False) w w' := by
  have EG := Try.guardNum5
  have K := (((Kn.start w).new (w.heap.size) 48 A 74 rfl sA.1).new (w.heap.size + 1) 48 B 74 (by simp) sB.1)
  go_enter Try.func69, Try.ntmps69
  go_wp2_with fail
  refine wp_region_keep (by kernel_rfl) (by kernel_rfl) ?_
  repeat (any_goals (first | (focus (go_big_quiet_want; (first | ((with_reducible refine' quiet_load_pt K 26 (.tmp 5) rfl 1 _ _ 0 16 _ _ _ rfl _ Try.underlying26 rfl Try.szN5 _ pXA (Sz.n sXA) _); rotate_left 2; (focus exact rfl)) | ((with_reducible refine' quiet_load_pt K 26 (.tmp 7) rfl 0 _ _ 32 16 _ _ _ rfl _ Try.underlying26 rfl Try.szN5 _ pZB (Sz.n sZB) _); rotate_left 2; (focus exact rfl)) | ((with_reducible refine' quiet_load_pt K 26 (.tmp 10) rfl 0 _ _ 0 16 _ _ _ rfl _ Try.underlying26 rfl Try.szN5 _ pXB (Sz.n sXB) _); rotate_left 2; (focus exact rfl)) | ((with_reducible refine' quiet_load_pt K 26 (.tmp 12) rfl 1 _ _ 32 16 _ _ _ rfl _ Try.underlying26 rfl Try.szN5 _ pZA (Sz.n sZA) _); rotate_left 2; (focus exact rfl)) | ((with_reducible refine' quiet_load_pt K 26 (.tmp 17) rfl 1 _ _ 16 16 _ _ _ rfl _ Try.underlying26 rfl Try.szN5 _ pYA (Sz.n sYA) _); rotate_left 2; (focus exact rfl)) | ((with_reducible refine' quiet_load_pt K 26 (.tmp 19) rfl 0 _ _ 32 16 _ _ _ rfl _ Try.underlying26 rfl Try.szN5 _ pZB (Sz.n sZB) _); rotate_left 2; (focus exact rfl)) | ((with_reducible refine' quiet_load_pt K 26 (.tmp 22) rfl 0 _ _ 16 16 _ _ _ rfl _ Try.underlying26 rfl Try.szN5 _ pYB (Sz.n sYB) _); rotate_left 2; (focus exact rfl)) | ((with_reducible refine' quiet_load_pt K 26 (.tmp 24) rfl 1 _ _ 32 16 _ _ _ rfl _ Try.underlying26 rfl Try.szN5 _ pZA (Sz.n sZA) _); rotate_left 2; (focus exact rfl))); simp only [Act.put, List.setIfInBounds_toArray, List.set_cons_zero, List.set_cons_succ]; go_big_quiet_on)) | go_big_quiet_step ((first | (go_at_call 23; with_reducible exact Calls.keep (M1 _)) | (go_at_call 23; with_reducible exact Calls.keep (M2 _)) | (go_at_call 23; with_reducible exact Calls.keep (M3 _)) | (go_at_call 23; with_reducible exact Calls.keep (M4 _)))) | quiet_step ((first | (go_at_call 23; with_reducible exact Calls.keep (M1 _)) | (go_at_call 23; with_reducible exact Calls.keep (M2 _)) | (go_at_call 23; with_reducible exact Calls.keep (M3 _)) | (go_at_call 23; with_reducible exact Calls.keep (M4 _))))))
  refine wpQuiet_nil ?_
  intro _ hwz
  obtain ⟨y, rfl⟩ := hwz
  have Kz := K.call y.h
  clear K 
  have K := Kz
  clear Kz
  generalize y.w = wz at K ⊢
  clear y
  go_wp2_with fail
  go_ret
  exact ⟨rfl, K.fr⟩
set_option maxRecDepth 100000 in
set_option maxHeartbeats 3200000 in
theorem reight_op (A B C R : Array Value) (w : World)
    (A1 : Ans Try.prog 63 #[.agg A, .agg A] (.agg B))
    (A2 : Ans Try.prog 63 #[.agg B, .agg B] (.agg C))
    (A3 : Ans Try.prog 63 #[.agg C, .agg C] (.agg R))
    (sA : Sz 48 A) (sB : Sz 48 B) (sC : Sz 48 C) (sR : Sz 48 R) :
    Calls Try.prog 67 #[.agg A] w fun e w' => e = .returned (.agg R) ∧ Fr (fun _ => False) w w' := by
  have K := (((Kn.start w).new (w.heap.size) 48 A 74 rfl sA.1).new (w.heap.size + 1) 48 #[.int .i64 0, .int .i64 0, .int .i64 0, .int .i64 0, .int .i64 0, .int .i64 0, .int .i64 0, .int .i64 0, .int .i64 0, .int .i64 0, .int .i64 0, .int .i64 0, .int .i64 0, .int .i64 0, .int .i64 0, .int .i64 0, .int .i64 0, .int .i64 0, .int .i64 0, .int .i64 0, .int .i64 0, .int .i64 0, .int .i64 0, .int .i64 0, .int .i64 0, .int .i64 0, .int .i64 0, .int .i64 0, .int .i64 0, .int .i64 0, .int .i64 0, .int .i64 0, .int .i64 0, .int .i64 0, .int .i64 0, .int .i64 0, .int .i64 0, .int .i64 0, .int .i64 0, .int .i64 0, .int .i64 0, .int .i64 0, .int .i64 0, .int .i64 0, .int .i64 0, .int .i64 0, .int .i64 0, .int .i64 0] 74 (by simp) rfl)
  go_enter Try.func67, Try.ntmps67
  go_wp2_with fail
  go_loopw [3] (fun i wr => ∃ k : Nat, k ≤ 3 ∧ i = .int .i64 k ∧ Kn w [⟨w.heap.size + 1, 48, #[.int .i64 0, .int .i64 0, .int .i64 0, .int .i64 0, .int .i64 0, .int .i64 0, .int .i64 0, .int .i64 0, .int .i64 0, .int .i64 0, .int .i64 0, .int .i64 0, .int .i64 0, .int .i64 0, .int .i64 0, .int .i64 0, .int .i64 0, .int .i64 0, .int .i64 0, .int .i64 0, .int .i64 0, .int .i64 0, .int .i64 0, .int .i64 0, .int .i64 0, .int .i64 0, .int .i64 0, .int .i64 0, .int .i64 0, .int .i64 0, .int .i64 0, .int .i64 0, .int .i64 0, .int .i64 0, .int .i64 0, .int .i64 0, .int .i64 0, .int .i64 0, .int .i64 0, .int .i64 0, .int .i64 0, .int .i64 0, .int .i64 0, .int .i64 0, .int .i64 0, .int .i64 0, .int .i64 0, .int .i64 0], 74⟩, ⟨w.heap.size, 48, (if k = 0 then A else if k = 1 then B else if k = 2 then C else R), 74⟩] wr) (fun i _ => 3 - (intOf i).toNat)
  case atStart => exact ⟨0, by omega, by simp, K⟩
  case round =>
    clear K
    obtain ⟨k, hk, rfl, K⟩ := hrel
    have hcase : k = 0 ∨ k = 1 ∨ k = 2 ∨ k = 3 := by omega
    rcases hcase with rfl | rfl | rfl | rfl
    · as_aux_lemma =>
      replace K : Kn w [⟨w.heap.size + 1, 48, #[.int .i64 0, .int .i64 0, .int .i64 0, .int .i64 0, .int .i64 0, .int .i64 0, .int .i64 0, .int .i64 0, .int .i64 0, .int .i64 0, .int .i64 0, .int .i64 0, .int .i64 0, .int .i64 0, .int .i64 0, .int .i64 0, .int .i64 0, .int .i64 0, .int .i64 0, .int .i64 0, .int .i64 0, .int .i64 0, .int .i64 0, .int .i64 0, .int .i64 0, .int .i64 0, .int .i64 0, .int .i64 0, .int .i64 0, .int .i64 0, .int .i64 0, .int .i64 0, .int .i64 0, .int .i64 0, .int .i64 0, .int .i64 0, .int .i64 0, .int .i64 0, .int .i64 0, .int .i64 0, .int .i64 0, .int .i64 0, .int .i64 0, .int .i64 0, .int .i64 0, .int .i64 0, .int .i64 0, .int .i64 0], 74⟩, ⟨w.heap.size, 48, A, 74⟩] wr := K
      rw [show ((0 : Nat) : Int) = 0 from rfl]
      go_wp2_with (first
          | (focus (first | ((with_reducible refine' wpList_load_kn K rfl 74 (.tmp 1) rfl 1 _ _ _ _ rfl _ Try.underlying74 rfl Try.szRp _ _); rotate_left 2; (focus exact rfl))))
          | (focus ((first | ((with_reducible refine' wpList_store_kn K rfl 74 (.tmp 1) _ rfl 1 _ _ _ _ _ rfl rfl Try.szRp _ _ _); rotate_left 2; (focus exact rfl))); (focus assumption); intro wz Kz; clear K; have K := Kz; clear Kz; simp only [List.set_cons_zero, List.set_cons_succ] at K; try (simp only [Act.put, List.setIfInBounds_toArray, List.set_cons_zero, List.set_cons_succ])))
          | (go_at_call 63; (with_reducible refine Calls.kn K (A1 _) ?_); intro wz Kz; clear K; have K := Kz; clear Kz)
          | (go_at_call 63; (with_reducible refine Calls.kn K (A2 _) ?_); intro wz Kz; clear K; have K := Kz; clear Kz)
          | (go_at_call 63; (with_reducible refine Calls.kn K (A3 _) ?_); intro wz Kz; clear K; have K := Kz; clear Kz))
      go_roundw
      case rel => exact ⟨1, by omega, rfl, K⟩
      case measure => simp [intOf]
    · as_aux_lemma =>
      replace K : Kn w [⟨w.heap.size + 1, 48, #[.int .i64 0, .int .i64 0, .int .i64 0, .int .i64 0, .int .i64 0, .int .i64 0, .int .i64 0, .int .i64 0, .int .i64 0, .int .i64 0, .int .i64 0, .int .i64 0, .int .i64 0, .int .i64 0, .int .i64 0, .int .i64 0, .int .i64 0, .int .i64 0, .int .i64 0, .int .i64 0, .int .i64 0, .int .i64 0, .int .i64 0, .int .i64 0, .int .i64 0, .int .i64 0, .int .i64 0, .int .i64 0, .int .i64 0, .int .i64 0, .int .i64 0, .int .i64 0, .int .i64 0, .int .i64 0, .int .i64 0, .int .i64 0, .int .i64 0, .int .i64 0, .int .i64 0, .int .i64 0, .int .i64 0, .int .i64 0, .int .i64 0, .int .i64 0, .int .i64 0, .int .i64 0, .int .i64 0, .int .i64 0], 74⟩, ⟨w.heap.size, 48, B, 74⟩] wr := K
      rw [show ((1 : Nat) : Int) = 1 from rfl]
      go_wp2_with (first
          | (focus (first | ((with_reducible refine' wpList_load_kn K rfl 74 (.tmp 1) rfl 1 _ _ _ _ rfl _ Try.underlying74 rfl Try.szRp _ _); rotate_left 2; (focus exact rfl))))
          | (focus ((first | ((with_reducible refine' wpList_store_kn K rfl 74 (.tmp 1) _ rfl 1 _ _ _ _ _ rfl rfl Try.szRp _ _ _); rotate_left 2; (focus exact rfl))); (focus assumption); intro wz Kz; clear K; have K := Kz; clear Kz; simp only [List.set_cons_zero, List.set_cons_succ] at K; try (simp only [Act.put, List.setIfInBounds_toArray, List.set_cons_zero, List.set_cons_succ])))
          | (go_at_call 63; (with_reducible refine Calls.kn K (A1 _) ?_); intro wz Kz; clear K; have K := Kz; clear Kz)
          | (go_at_call 63; (with_reducible refine Calls.kn K (A2 _) ?_); intro wz Kz; clear K; have K := Kz; clear Kz)
          | (go_at_call 63; (with_reducible refine Calls.kn K (A3 _) ?_); intro wz Kz; clear K; have K := Kz; clear Kz))
      go_roundw
      case rel => exact ⟨2, by omega, rfl, K⟩
      case measure => simp [intOf]
    · as_aux_lemma =>
      replace K : Kn w [⟨w.heap.size + 1, 48, #[.int .i64 0, .int .i64 0, .int .i64 0, .int .i64 0, .int .i64 0, .int .i64 0, .int .i64 0, .int .i64 0, .int .i64 0, .int .i64 0, .int .i64 0, .int .i64 0, .int .i64 0, .int .i64 0, .int .i64 0, .int .i64 0, .int .i64 0, .int .i64 0, .int .i64 0, .int .i64 0, .int .i64 0, .int .i64 0, .int .i64 0, .int .i64 0, .int .i64 0, .int .i64 0, .int .i64 0, .int .i64 0, .int .i64 0, .int .i64 0, .int .i64 0, .int .i64 0, .int .i64 0, .int .i64 0, .int .i64 0, .int .i64 0, .int .i64 0, .int .i64 0, .int .i64 0, .int .i64 0, .int .i64 0, .int .i64 0, .int .i64 0, .int .i64 0, .int .i64 0, .int .i64 0, .int .i64 0, .int .i64 0], 74⟩, ⟨w.heap.size, 48, C, 74⟩] wr := K
      rw [show ((2 : Nat) : Int) = 2 from rfl]
      go_wp2_with (first
          | (focus (first | ((with_reducible refine' wpList_load_kn K rfl 74 (.tmp 1) rfl 1 _ _ _ _ rfl _ Try.underlying74 rfl Try.szRp _ _); rotate_left 2; (focus exact rfl))))
          | (focus ((first | ((with_reducible refine' wpList_store_kn K rfl 74 (.tmp 1) _ rfl 1 _ _ _ _ _ rfl rfl Try.szRp _ _ _); rotate_left 2; (focus exact rfl))); (focus assumption); intro wz Kz; clear K; have K := Kz; clear Kz; simp only [List.set_cons_zero, List.set_cons_succ] at K; try (simp only [Act.put, List.setIfInBounds_toArray, List.set_cons_zero, List.set_cons_succ])))
          | (go_at_call 63; (with_reducible refine Calls.kn K (A1 _) ?_); intro wz Kz; clear K; have K := Kz; clear Kz)
          | (go_at_call 63; (with_reducible refine Calls.kn K (A2 _) ?_); intro wz Kz; clear K; have K := Kz; clear Kz)
          | (go_at_call 63; (with_reducible refine Calls.kn K (A3 _) ?_); intro wz Kz; clear K; have K := Kz; clear Kz))
      go_roundw
      case rel => exact ⟨3, by omega, rfl, K⟩
      case measure => simp [intOf]
    · as_aux_lemma =>
      replace K : Kn w [⟨w.heap.size + 1, 48, #[.int .i64 0, .int .i64 0, .int .i64 0, .int .i64 0, .int .i64 0, .int .i64 0, .int .i64 0, .int .i64 0, .int .i64 0, .int .i64 0, .int .i64 0, .int .i64 0, .int .i64 0, .int .i64 0, .int .i64 0, .int .i64 0, .int .i64 0, .int .i64 0, .int .i64 0, .int .i64 0, .int .i64 0, .int .i64 0, .int .i64 0, .int .i64 0, .int .i64 0, .int .i64 0, .int .i64 0, .int .i64 0, .int .i64 0, .int .i64 0, .int .i64 0, .int .i64 0, .int .i64 0, .int .i64 0, .int .i64 0, .int .i64 0, .int .i64 0, .int .i64 0, .int .i64 0, .int .i64 0, .int .i64 0, .int .i64 0, .int .i64 0, .int .i64 0, .int .i64 0, .int .i64 0, .int .i64 0, .int .i64 0], 74⟩, ⟨w.heap.size, 48, R, 74⟩] wr := K
      rw [show ((3 : Nat) : Int) = 3 from rfl]
      go_wp2_with (first
          | (focus (first | ((with_reducible refine' wpList_load_kn K rfl 74 (.tmp 1) rfl 1 _ _ _ _ rfl _ Try.underlying74 rfl Try.szRp _ _); rotate_left 2; (focus exact rfl))))
          | (focus ((first | ((with_reducible refine' wpList_store_kn K rfl 74 (.tmp 2) _ rfl 0 _ _ _ _ _ rfl rfl Try.szRp _ _ _); rotate_left 2; (focus exact rfl))); (focus assumption); intro wz Kz; clear K; have K := Kz; clear Kz; simp only [List.set_cons_zero, List.set_cons_succ] at K; try (simp only [Act.put, List.setIfInBounds_toArray, List.set_cons_zero, List.set_cons_succ]))))
      refine bodyPost_ret (results_kn K rfl _ 0 _ _ _ _ rfl _ Try.underlying74 rfl Try.szRp rfl) rfl ?_
      exact ⟨rfl, K.fr⟩
end Go.Proofs.Ytahnlnflcgehaaa

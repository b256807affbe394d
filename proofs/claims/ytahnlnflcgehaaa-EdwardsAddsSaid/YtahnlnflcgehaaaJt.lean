/-
  The law same of layer 7: a point and the document's point have the same bytes.
-/
import Derived.Test.YtahnlnflcgehaaaJs
namespace Go.Proofs.Ytahnlnflcgehaaa
open Go.RowKit Pri
set_option linter.unusedVariables false
set_option linter.unusedSimpArgs false

set_option maxRecDepth 100000 in
set_option maxHeartbeats 3200000 in
theorem same_op (SC : ByteArray) (A B CB : Array Value) (w : World)
    (EN : Ans Try.prog 72 #[.agg A] (.agg CB))
    (RE : Ans Try.prog 97 #[.agg B] (.string SC))
    (V1 : ∀ (W : World) (g : Nat), W.heap[g]? = some (.cells CB 36 (0, 0)) → (convert 40 9 (.slice (some ⟨g, 0, none⟩) 32 32)).run Try.prog W = .ok (.string SC) W)
    (sA : Sz 8 A) (sB : Sz 48 B) (sCB : Sz 32 CB) :
    Calls Try.prog 59 #[.agg A, .agg B] w fun e w' => e = .returned (.bool true) ∧ Fr (fun _ => False) w w' := by
  have HV1 := Lib.hid V1
  clear V1
  have E1 : (SC.toList == SC.toList) = true := by rw [beq_iff_eq]
  have K := (((Kn.start w).new (w.heap.size) 8 A 72 rfl sA.1).new (w.heap.size + 1) 48 B 74 (by simp) sB.1)
  go_enter Try.func59, Try.ntmps59
  go_wp2_with (first
      | (focus (first | ((with_reducible refine' wpList_load_kn K rfl 72 (.tmp 2) rfl 1 _ _ _ _ rfl _ Try.underlying72 rfl Try.szPt _ _); rotate_left 2; (focus exact rfl))))
      | (focus ((first | ((with_reducible refine' wpList_store_kn K rfl 36 (.tmp 5) _ rfl 0 _ _ _ _ _ rfl rfl Try.szBa _ _ _); rotate_left 2; (focus exact rfl))); (focus assumption); intro wz Kz; clear K; have K := Kz; clear Kz; simp only [List.set_cons_zero, List.set_cons_succ] at K; try (simp only [Act.put, List.setIfInBounds_toArray, List.set_cons_zero, List.set_cons_succ])))
      | ((with_reducible refine wpList_new_kn K 36 _ _ _ _ #[.int .u8 0, .int .u8 0, .int .u8 0, .int .u8 0, .int .u8 0, .int .u8 0, .int .u8 0, .int .u8 0, .int .u8 0, .int .u8 0, .int .u8 0, .int .u8 0, .int .u8 0, .int .u8 0, .int .u8 0, .int .u8 0, .int .u8 0, .int .u8 0, .int .u8 0, .int .u8 0, .int .u8 0, .int .u8 0, .int .u8 0, .int .u8 0, .int .u8 0, .int .u8 0, .int .u8 0, .int .u8 0, .int .u8 0, .int .u8 0, .int .u8 0, .int .u8 0] 32 rfl Try.alBa rfl ?_); intro gz wz Kz; clear K; have K := Kz; clear Kz; try (simp only [Act.put, List.setIfInBounds_toArray, List.set_cons_zero, List.set_cons_succ]))
      | (go_at_call 72; (with_reducible refine Calls.kn K (EN _) ?_); intro wz Kz; clear K; have K := Kz; clear Kz))
  have cv1 : ∀ y : Wd wz, (convert 40 9 (.slice (some ⟨gz, 0, none⟩) 32 32)).run Try.prog y.w = .ok (.string SC) y.w := fun y => HV1.out y.w _ (y.blk (K.heap 0 rfl))
  refine wp_region_keep (by kernel_rfl) (by kernel_rfl) ?_
  repeat (any_goals (first | (focus (go_big_quiet_want; (first | ((with_reducible refine' quiet_load_kn K 74 (.tmp 3) rfl 1 _ _ _ _ rfl _ Try.underlying74 rfl Try.szRp _ _); rotate_left 2; (focus exact rfl))); simp only [Act.put, List.setIfInBounds_toArray, List.set_cons_zero, List.set_cons_succ]; go_big_quiet_on)) | go_big_quiet_step ((first | (go_at_call 97; with_reducible exact Calls.keep (RE _)))) | quiet_step ((first | (go_at_call 97; with_reducible exact Calls.keep (RE _))))))
  refine wpQuiet_nil ?_
  intro _ hwz
  obtain ⟨y, rfl⟩ := hwz
  have Kz := K.call y.h
  clear K cv1
  have K := Kz
  clear Kz
  generalize y.w = wz at K ⊢
  clear y
  go_wp2_with fail
  go_ret
  exact ⟨rfl, K.fr⟩
theorem same7_any {P : Fp × Fp} {q : R3} (h : RW P q) : Ans Try.prog 59 #[.agg (pv P), .agg (rqq q)] (.bool true) := fun W =>
  same_op ⟨(bl 32 (encn P)).toArray⟩ (pv P) (rqq q) (bv (bl 32 (encn P))).toArray W (encode_pv P) (rencode_rw h) (fun W g => str_of_bl _ W g) (sz_pv _) (sz_rqq _) (sz_bl _)
end Go.Proofs.Ytahnlnflcgehaaa

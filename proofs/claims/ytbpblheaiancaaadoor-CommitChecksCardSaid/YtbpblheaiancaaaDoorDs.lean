/-
  The law's own look at a value that is bound.
-/
import Derived.Test.YtbpblheaiancaaaDoorDr
namespace Go.Proofs.YtbpblheaiancaaaDoor
open Go.RowKit
set_option linter.unusedVariables false
set_option linter.unusedSimpArgs false

theorem wpList_load_kn_gd {P : Program} {ops : Array Oper} {rest : List Oper} {o : Oper} {a : Act} {w0 w : World} {L : List Bk} {Q : Exit → Act → World → Prop} (K : Kn w0 L w) (hw : Region.wanted o (yielded ops a.tmps) = true) (ty : TypeId) (x : Operand) (ho : o.op = .load ty x) (i g n : Nat) (cs : Array Value) (T : TypeId) (hx : a.eval x = .pointer (some ⟨g, 0, none⟩))
    (d : TypeDesc) (hu : P.underlying ty = some d) (hd : (match d with | .struct _ | .array _ _ => true | _ => false) = true) (hty : (P.info? ty).map (·.size) = some n) (hi : L[i]? = some ⟨g, n, cs, T⟩)
    (h : wpList P ops Q rest (a.put o.dst (.agg cs)) w) : wpList P ops Q (o :: rest) a w :=
  wpList_step fun Kk hK => by simp only [hw, if_true]; exact wp_load_row ty x ho g hx T cs (0, 0) d (K.heap i hi) hu hd (by rw [hty, K.size i hi]) (hK _ _ h)
theorem BI.mk : (List.range 32).map (fun j => BI.k.getD j 0) = BI.k := by kernel_rfl
theorem BI.mi : (List.range 32).map (fun j => BI.i.getD j 0) = BI.i := by kernel_rfl
theorem BI.mo : (List.range 32).map (fun j => BI.o.getD j 0) = BI.o := by kernel_rfl
theorem BI.rk : (#[.int .u8 1, .int .u8 0, .int .u8 0, .int .u8 0, .int .u8 0, .int .u8 0, .int .u8 0, .int .u8 0, .int .u8 0, .int .u8 0, .int .u8 0, .int .u8 0, .int .u8 0, .int .u8 0, .int .u8 0, .int .u8 0, .int .u8 0, .int .u8 0, .int .u8 0, .int .u8 0, .int .u8 0, .int .u8 0, .int .u8 0, .int .u8 0, .int .u8 0, .int .u8 0, .int .u8 0, .int .u8 0, .int .u8 0, .int .u8 0, .int .u8 0, .int .u8 0] : Array Value) = ub 32 (fun j => BI.k.getD j 0) := by kernel_rfl
theorem BI.ri : (#[.int .u8 2, .int .u8 0, .int .u8 0, .int .u8 0, .int .u8 0, .int .u8 0, .int .u8 0, .int .u8 0, .int .u8 0, .int .u8 0, .int .u8 0, .int .u8 0, .int .u8 0, .int .u8 0, .int .u8 0, .int .u8 0, .int .u8 0, .int .u8 0, .int .u8 0, .int .u8 0, .int .u8 0, .int .u8 0, .int .u8 0, .int .u8 0, .int .u8 0, .int .u8 0, .int .u8 0, .int .u8 0, .int .u8 0, .int .u8 0, .int .u8 0, .int .u8 0] : Array Value) = ub 32 (fun j => BI.i.getD j 0) := by kernel_rfl
theorem BI.hoo : sumc (HM.out ((List.range 32).map fun j => BI.k.getD j 0) (CM.mo ((List.range 32).map fun j => BI.i.getD j 0) 3)) = ub 32 (fun j => BI.o.getD j 0) := by rw [BI.mk, BI.mi, sumc_ub, BI.open_eq]
set_option maxRecDepth 100000 in
set_option maxHeartbeats 3200000 in
theorem binds_any (w : World) (hE : Env w) : Calls Tryd.prog 13 #[] w fun e w' => e = .returned (.bool true) ∧ Fr (fun _ => False) w w' := by
  have hmk := fun (v : List UInt8) (W : World) (a : Option Addr) (hv : Came W a 1 1 v) (hE : Env W) => make_any (fun j => BI.k.getD j 0) (fun j => BI.i.getD j 0) 3 3 (by rfl) a 1 1 v W hv (by omega) hE (fun j => BI.o.getD j 0) BI.hoo
  have hbd := fun (v : List UInt8) (W : World) (a : Option Addr) (hv : Came W a 1 1 v) (hE : Env W) => bind_any (fun j => BI.o.getD j 0) (fun j => BI.i.getD j 0) 3 3 (by rfl) a 1 1 v W hv (by omega) hE
  rw [BI.mi, BI.mo] at hmk hbd
  have ng : ∀ W : World, (binOp .neq 22 (.agg (sumc (HM.out BI.o (CM.mb BI.i 3 [118])))) (.agg (sumc (HM.out BI.o (CM.mb BI.i 3 [118]))))).run Tryd.prog W = .ok (.bool false) W := fun W => by
    rw [neq_sumc, beq_self_eq_true]; rfl
  have nb : ∀ W : World, (binOp .neq 22 (.agg (sumc (HM.out BI.o (CM.mb BI.i 3 [119])))) (.agg (sumc (HM.out BI.o (CM.mb BI.i 3 [118]))))).run Tryd.prog W = .ok (.bool true) W := fun W => by
    rw [neq_sumc, BI.ne]; rfl
  have hv := hmk [118]
  have hbv := hbd [118]
  have hbw := hbd [119]
  clear hmk hbd
  have s1 : Sz 32 (sumc (HM.out BI.o (CM.mb BI.i 3 [118]))) := ⟨sumv_size _, sumv_one _⟩
  have s2 : Sz 32 (sumc (HM.out BI.o (CM.mb BI.i 3 [119]))) := ⟨sumv_size _, sumv_one _⟩
  generalize sumc (HM.out BI.o (CM.mb BI.i 3 [118])) = BV at *
  generalize sumc (HM.out BI.o (CM.mb BI.i 3 [119])) = BW at *
  have s3 : Sz 32 (ub 32 (fun j => BI.o.getD j 0)) := ⟨ub_size _ _, ub_one _ _⟩
  have s4 : Sz 32 (ub 32 (fun j => BI.i.getD j 0)) := ⟨ub_size _ _, ub_one _ _⟩
  have e1 := BI.rk
  have e2 := BI.ri
  generalize (ub 32 (fun j => BI.o.getD j 0)) = OO at *
  generalize (ub 32 (fun j => BI.i.getD j 0)) = II at *
  generalize (ub 32 (fun j => BI.k.getD j 0)) = KK at *
  have hck : ∀ (W : World) (b : Nat), W.heap[b]? = some (.cells #[.int .u8 118] 5 (1, 2)) → Env W → Calls Tryd.prog 15 #[.agg BV, .agg OO, .agg II, .int .i64 3, .slice (some ⟨b, 0, none⟩) 1 1] W fun e w' => e = .returned (.int .i64 0) ∧ Fr (fun _ => False) W w' := fun W b hb hE =>
    check_good 3 _ 1 1 BV OO II BV W (fun W' hF => hbv W' _ (came_blk ((hF.block _ (lt_of_block hb) (fun h => h)).trans hb) rfl rfl (by omega)) (hE.fr hF (fun h => h))) ng s1 s3 s4 s1
  have hcb : ∀ (W : World) (b : Nat), W.heap[b]? = some (.cells #[.int .u8 119] 5 (1, 2)) → Env W → Calls Tryd.prog 15 #[.agg BV, .agg OO, .agg II, .int .i64 3, .slice (some ⟨b, 0, none⟩) 1 1] W fun e w' => e = .returned (.int .i64 17) ∧ Fr (fun _ => False) W w' := fun W b hb hE =>
    check_bad 3 _ 1 1 BV OO II BW W (fun W' hF => hbw W' _ (came_blk ((hF.block _ (lt_of_block hb) (fun h => h)).trans hb) rfl rfl (by omega)) (hE.fr hF (fun h => h))) nb s1 s3 s4 s2
  have HV := Lib.hid hv
  have HG := Lib.hid hck
  have HB := Lib.hid hcb
  have HE1 := Lib.hid e1
  have HE2 := Lib.hid e2
  clear hv hck hcb hbv hbw ng nb e1 e2
  have kc1 := fun (V : World) (C : Array Value) (n c : Nat) => Lib.run_convert_bytes_const (P := Tryd.prog) V 23 5 C n c Tryd.underlying23 Tryd.underlying5
  go_enter Tryd.func13, Tryd.ntmps13
  go_wp2_with fail
  rw [HE1.out, HE2.out]
  have F0 := (Fr.refl (fun _ => False) w).alloc (.cells #[.int .u8 118] 5 (1, 2))
  refine (HV.out _ _ (came_blk (heap_alloc_new w _) rfl rfl (by omega)) (hE.fr F0 (fun h => h))).mono ?_
  rintro e w1 ⟨rfl, F1⟩
  have K := ((Kn.start w).call F0).call F1
  clear F0 F1
  go_wp2_with (first | ((with_reducible refine wpList_new_kn K 22 1 _ _ _ #[.int .u8 0, .int .u8 0, .int .u8 0, .int .u8 0, .int .u8 0, .int .u8 0, .int .u8 0, .int .u8 0, .int .u8 0, .int .u8 0, .int .u8 0, .int .u8 0, .int .u8 0, .int .u8 0, .int .u8 0, .int .u8 0, .int .u8 0, .int .u8 0, .int .u8 0, .int .u8 0, .int .u8 0, .int .u8 0, .int .u8 0, .int .u8 0, .int .u8 0, .int .u8 0, .int .u8 0, .int .u8 0, .int .u8 0, .int .u8 0, .int .u8 0, .int .u8 0] 32 rfl Tryd.alBa rfl ?_); intro g1 wz Kz; clear K; have K := Kz; clear Kz; try (simp only [Act.put, List.setIfInBounds_toArray, List.set_cons_zero, List.set_cons_succ])) | ((with_reducible refine wpList_new_kn K 22 2 _ _ _ #[.int .u8 0, .int .u8 0, .int .u8 0, .int .u8 0, .int .u8 0, .int .u8 0, .int .u8 0, .int .u8 0, .int .u8 0, .int .u8 0, .int .u8 0, .int .u8 0, .int .u8 0, .int .u8 0, .int .u8 0, .int .u8 0, .int .u8 0, .int .u8 0, .int .u8 0, .int .u8 0, .int .u8 0, .int .u8 0, .int .u8 0, .int .u8 0, .int .u8 0, .int .u8 0, .int .u8 0, .int .u8 0, .int .u8 0, .int .u8 0, .int .u8 0, .int .u8 0] 32 rfl Tryd.alBa rfl ?_); intro g2 wz Kz; clear K; have K := Kz; clear Kz; try (simp only [Act.put, List.setIfInBounds_toArray, List.set_cons_zero, List.set_cons_succ])) | (focus ((first | ((with_reducible refine' wpList_store_kn K rfl 22 (.tmp 1) _ rfl 1 _ _ _ _ _ rfl rfl Tryd.szBa _ _ _); rotate_left 2; (focus exact rfl)) | ((with_reducible refine' wpList_store_kn K rfl 22 (.tmp 2) _ rfl 0 _ _ _ _ _ rfl rfl Tryd.szBa _ _ _); rotate_left 2; (focus exact rfl))); (focus (with_reducible assumption)); intro wz Kz; clear K; have K := Kz; clear Kz; simp only [List.set_cons_zero, List.set_cons_succ] at K; try (simp only [Act.put, List.setIfInBounds_toArray, List.set_cons_zero, List.set_cons_succ]))) | ((with_reducible refine' wpList_load_kn K rfl 22 (.tmp 1) rfl 1 _ _ _ _ rfl _ Tryd.underlying22 rfl Tryd.szBa _ _); rotate_left 2; (focus exact rfl)) | ((with_reducible refine' wpList_load_kn K rfl 22 (.tmp 2) rfl 0 _ _ _ _ rfl _ Tryd.underlying22 rfl Tryd.szBa _ _); rotate_left 2; (focus exact rfl)))
  rw [HE2.out]
  have F2 := (Fr.refl (fun _ => False) wz).alloc (.cells #[.int .u8 118] 5 (1, 2))
  refine (HG.out _ _ (heap_alloc_new wz _) (hE.fr (K.call F2).fr (fun h => h))).mono ?_
  rintro e w3 ⟨rfl, F3⟩
  have K3 := (K.call F2).call F3
  clear K F2 F3
  have K := K3
  clear K3
  go_wp2_with (first | (focus ((with_reducible refine' wpList_load_kn_gd K _ 22 (.tmp 1) rfl 1 _ _ _ _ rfl _ Tryd.underlying22 rfl Tryd.szBa _ _); rotate_left 3; (focus exact rfl); rotate_left 1; (focus exact rfl))) | (focus ((with_reducible refine' wpList_load_kn_gd K _ 22 (.tmp 2) rfl 0 _ _ _ _ rfl _ Tryd.underlying22 rfl Tryd.szBa _ _); rotate_left 3; (focus exact rfl); rotate_left 1; (focus exact rfl))))
  rw [HE2.out]
  have F4 := (Fr.refl (fun _ => False) w3).alloc (.cells #[.int .u8 119] 5 (1, 2))
  refine (HB.out _ _ (heap_alloc_new w3 _) (hE.fr (K.call F4).fr (fun h => h))).mono ?_
  rintro e w5 ⟨rfl, F5⟩
  have K5 := (K.call F4).call F5
  go_wp2_with fail
  go_ret
  exact ⟨rfl, K5.fr⟩
end Go.Proofs.YtbpblheaiancaaaDoor

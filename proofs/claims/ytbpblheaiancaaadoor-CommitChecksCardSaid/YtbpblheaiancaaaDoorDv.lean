/-
  The contract of Texts of package custumalref17: the rest.
-/
import Derived.Test.YtbpblheaiancaaaDoorDu
namespace Go.Proofs.YtbpblheaiancaaaDoor
open Go.RowKit
set_option linter.unusedVariables false
set_option linter.unusedSimpArgs false

set_option maxRecDepth 100000 in
set_option maxHeartbeats 1600000 in
theorem rtexts_any (k ix v : List UInt8) (z : Int) (u : Nat) (hu : IntKind.u64.wrap z = (u : Int)) (hk : k.length ≤ 64) (hs : ix.length ≤ 1000) (hv : v.length ≤ 1000) (w : World) (hR : REnv w) :
    Calls Tryd.prog 17 #[.string ⟨k.toArray⟩, .string ⟨ix.toArray⟩, .int .i64 z, .string ⟨v.toArray⟩] w fun e w' => ∃ b, e = .returned (.slice (some ⟨b, 0, none⟩) 2 2) ∧ w'.heap[b]? = some (.cells #[.string ⟨(HM.inn k (CM.mb ix u v)).toArray⟩, .string ⟨(HM.out k (CM.mb ix u v)).toArray⟩] 9 (0, 0)) ∧ Fr (fun _ => False) w w' := by
  have hbb : ∀ j, HM.blk k j = k.getD j 0 := fun j => by
    show (HM.fill k).getD j 0 = _
    unfold HM.fill
    rw [if_neg (by omega)]
  have hb8 : (S2.be8 u).length = 8 := rfl
  have HBB := Lib.hid hbb
  obtain ⟨T1, hT1⟩ : ∃ T1, T1 = HM.inn k (CM.mb ix u v) := ⟨_, rfl⟩
  obtain ⟨T2, hT2⟩ : ∃ T2, T2 = HM.out k (CM.mb ix u v) := ⟨_, rfl⟩
  have hT2b : T2 = HM.xor (HM.blk k) 0x5c ++ S2.sum T1 := by rw [hT2, hT1]; rfl
  rw [← hT1, ← hT2]
  have HT1 := Lib.hid hT1
  have HT2 := Lib.hid hT2b
  clear hbb hT1 hT2 hT2b
  go_enter Tryd.func17, Tryd.ntmps17
  go_wp2_with fail
  refine rtx_loop k ix v z hk (HM.blk k) HBB.out w _ rfl rfl rfl rfl rfl rfl rfl rfl ?_
  intro t2 w2 hn2 p1 p2 p3 p5 p6 F2
  obtain ⟨f, hff, rfl⟩ := frame_open hn2
  have e1 := hff 1 _ p1
  have e2 := hff 2 _ p2
  have e3 := hff 3 _ p3
  have e5 := hff 9 _ p5
  have e6 := hff 10 _ p6
  clear hff hn2 p1 p2 p3 p5 p6
  rw [lit50, e1, e2, e3, e5, e6]
  clear e1 e2 e3 e5 e6
  have l1 : (HM.xor (HM.blk k) 0x36).length = 64 := HM.xor_length _ _
  have l2 : (HM.xor (HM.blk k) 0x5c).length = 64 := HM.xor_length _ _
  have ht1 : T1 = HM.xor (HM.blk k) 0x36 ++ ix ++ S2.be8 u ++ v := by rw [HT1.out]; simp [HM.inn, CM.mb]
  have ht2 := HT2.out
  generalize HM.xor (HM.blk k) 0x36 = X1 at *
  generalize HM.xor (HM.blk k) 0x5c = X2 at *
  obtain ⟨n8, hn8⟩ : ∃ n8, n8 = S2.be8 u := ⟨_, rfl⟩
  rw [← hn8] at ht1 hb8
  obtain ⟨A1, hA1⟩ : ∃ A1, A1 = X1 ++ ix := ⟨_, rfl⟩
  have hA1l : A1.length = 64 + ix.length := by rw [hA1, List.length_append, l1]
  rw [← hA1] at ht1
  obtain ⟨A2, hA2⟩ : ∃ A2, A2 = A1 ++ n8 := ⟨_, rfl⟩
  have hA2l : A2.length = 64 + ix.length + 8 := by rw [hA2, List.length_append, hA1l, hb8]
  rw [← hA2] at ht1
  have hT1l : T1.length = 72 + ix.length + v.length := by rw [ht1, List.length_append, hA2l]; omega
  obtain ⟨Y, hY⟩ : ∃ Y, Y = S2.sum T1 := ⟨_, rfl⟩
  have hYl : Y.length = 32 := by rw [hY]; rfl
  rw [← hY] at ht2
  have c1 : ∀ W : World, (Op.stringOp .add ⟨X1.toArray⟩ ⟨ix.toArray⟩).run Tryd.prog W = .ok (.string ⟨A1.toArray⟩) W := fun W => by rw [hA1]; exact run_string_add_lists W X1 ix (by omega) (by omega)
  have c2 : ∀ W : World, (Op.stringOp .add ⟨A1.toArray⟩ ⟨n8.toArray⟩).run Tryd.prog W = .ok (.string ⟨A2.toArray⟩) W := fun W => by rw [hA2]; exact run_string_add_lists W A1 n8 (by omega) (by omega)
  have c3 : ∀ W : World, (Op.stringOp .add ⟨A2.toArray⟩ ⟨v.toArray⟩).run Tryd.prog W = .ok (.string ⟨T1.toArray⟩) W := fun W => by rw [ht1]; exact run_string_add_lists W A2 v (by omega) (by omega)
  have c4 : ∀ W : World, (Op.stringOp .add ⟨X2.toArray⟩ ⟨Y.toArray⟩).run Tryd.prog W = .ok (.string ⟨T2.toArray⟩) W := fun W => by rw [ht2]; exact run_string_add_lists W X2 Y (by omega) (by omega)
  have hsu : (⟨T1.toArray⟩ : ByteArray).size ≤ 1000000000000 := by show T1.toArray.size ≤ _; simp; omega
  have h8 := fun (W : World) => eight_any z u hu W
  rw [← hn8] at h8
  have hsm := fun (W : World) (hR : REnv W) => rsum_any ⟨T1.toArray⟩ hsu W hR
  rw [show sb ⟨T1.toArray⟩ = T1 by simp [sb], ← hY] at hsm
  have H8 := Lib.hid h8
  have HS := Lib.hid hsm
  clear ht1 ht2 hA1 hA2 hY hn8 hsm h8 hsu HT1 HT2 l1 l2 hA1l hA2l hT1l hYl hb8
  go_wp2_with fail
  refine (H8.out w2).mono ?_
  rintro e w3 ⟨rfl, F3⟩
  have G3 : Fr (fun _ => False) w w3 := F2.trans F3 (fun _ h => h.elim)
  go_wp2_with fail
  refine (HS.out w3 (hR.fr G3 (fun h => h) (fun h => h))).mono ?_
  rintro e w4 ⟨rfl, F4⟩
  go_wp2_with fail
  go_ret
  exact ⟨_, rfl, heap_alloc_new _ _, (G3.trans F4 (fun _ h => h.elim)).alloc _⟩
end Go.Proofs.YtbpblheaiancaaaDoor

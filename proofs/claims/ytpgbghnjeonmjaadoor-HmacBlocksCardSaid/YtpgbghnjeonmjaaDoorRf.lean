/-
  The contract of Of of package custumalref03: the rest; the walk of the law HmacOf.
-/
import Derived.Test.YtpgbghnjeonmjaaDoorRo2
import Derived.Test.YtpgbghnjeonmjaaDoorMarks
namespace Go.Proofs.YtpgbghnjeonmjaaDoor
open Go.RowKit
set_option linter.unusedVariables false

set_option maxRecDepth 100000 in
set_option maxHeartbeats 1600000 in
theorem rof_any (k m : List UInt8) (hk : k.length ≤ 100000) (hm : m.length ≤ 100000) (w : World) (hR : REnv w) :
    Calls Tryd.prog 40 #[.string ⟨k.toArray⟩, .string ⟨m.toArray⟩] w fun e w' => e = .returned (.string ⟨(HM.of k m).toArray⟩) ∧ Fr (fun _ => False) w w' := by
  have hfl := HM.fill_le k
  have hb : ∀ j, HM.blk k j = (HM.fill k).getD j 0 := fun _ => rfl
  have hk3 : k.length ≤ 9223372036854775807 := by omega
  have hcase : (64 < k.length ∧ HM.fill k = S2.sum k) ∨ (¬ 64 < k.length ∧ HM.fill k = k) := by
    unfold HM.fill
    by_cases h : 64 < k.length
    · exact Or.inl ⟨h, if_pos h⟩
    · exact Or.inr ⟨h, if_neg h⟩
  have hof : HM.of k m = S2.sum (HM.xor (HM.blk k) 0x5c ++ S2.sum (HM.xor (HM.blk k) 0x36 ++ m)) := rfl
  have HO := Lib.hid hof
  have HB := Lib.hid hb
  have hks : (⟨k.toArray⟩ : ByteArray).size ≤ 1000000000000 := by show k.toArray.size ≤ _; simp; omega
  have SK := Lib.hid (show sb ⟨k.toArray⟩ = k by simp [sb])
  clear hof hb
  go_enter Tryd.func40, Tryd.ntmps40
  rcases hcase with ⟨hc, he⟩ | ⟨hc, he⟩
  · have HE := Lib.hid he
    clear he
    go_wp2_with fail
    refine (rsum_any ⟨k.toArray⟩ hks w hR).mono ?_
    rw [SK.out, ← HE.out]
    rintro e w1 ⟨rfl, F1⟩
    clear HE
    go_wp2_with fail
    refine rof_loop (HM.fill k) m hfl (HM.blk k) HB.out w1 _ rfl rfl rfl rfl rfl rfl ?_
    intro t2 w2 hn2 p1 p5 p6 F2
    obtain ⟨f, hff, rfl⟩ := frame_open hn2
    have e1 := hff 1 _ p1
    have e5 := hff 5 _ p5
    have e6 := hff 6 _ p6
    clear hff hn2 p1 p5 p6
    rw [lit44, e1, e5, e6]
    clear e1 e5 e6
    have G2 : Fr (fun _ => False) w w2 := F1.trans F2 (fun _ h => h.elim)
    have l1 : (HM.xor (HM.blk k) 0x36).length = 64 := HM.xor_length _ _
    have l2 : (HM.xor (HM.blk k) 0x5c).length = 64 := HM.xor_length _ _
    generalize HM.xor (HM.blk k) 0x36 = X1 at *
    generalize HM.xor (HM.blk k) 0x5c = X2 at *
    obtain ⟨u, hu⟩ : ∃ u, u = X1 ++ m := ⟨_, rfl⟩
    have hul : u.length = 64 + m.length := by rw [hu, List.length_append, l1]
    obtain ⟨v, hv⟩ : ∃ v, v = S2.sum u := ⟨_, rfl⟩
    have hvl : v.length = 32 := by rw [hv]; rfl
    obtain ⟨z, hz⟩ : ∃ z, z = X2 ++ v := ⟨_, rfl⟩
    have hzl : z.length = 96 := by rw [hz, List.length_append, l2, hvl]
    have c1 : ∀ W : World, (Op.stringOp .add ⟨X1.toArray⟩ ⟨m.toArray⟩).run Tryd.prog W = .ok (.string ⟨u.toArray⟩) W := fun W => by rw [hu]; exact run_string_add_lists W X1 m (by omega) (by omega)
    have c2 : ∀ W : World, (Op.stringOp .add ⟨X2.toArray⟩ ⟨v.toArray⟩).run Tryd.prog W = .ok (.string ⟨z.toArray⟩) W := fun W => by rw [hz]; exact run_string_add_lists W X2 v (by omega) (by omega)
    have hsu : (⟨u.toArray⟩ : ByteArray).size ≤ 1000000000000 := by show u.toArray.size ≤ _; simp; omega
    have hsz : (⟨z.toArray⟩ : ByteArray).size ≤ 1000000000000 := by show z.toArray.size ≤ _; simp; omega
    have Hof : Hid (HM.of k m = S2.sum z) := by rw [hz, hv, hu]; exact HO.out
    have S1 := Lib.hid (show sb ⟨u.toArray⟩ = u by simp [sb])
    have S3 := Lib.hid (show sb ⟨z.toArray⟩ = z by simp [sb])
    have Hv := Lib.hid hv
    clear hu hv hz l1 l2 hul hvl hzl
    go_wp2_with fail
    refine (rsum_any ⟨u.toArray⟩ hsu w2 (hR.fr G2 (fun h => h) (fun h => h))).mono ?_
    rw [S1.out, ← Hv.out]
    rintro e w3 ⟨rfl, F3⟩
    have G3 : Fr (fun _ => False) w w3 := G2.trans F3 (fun _ h => h.elim)
    go_wp2_with fail
    refine (rsum_any ⟨z.toArray⟩ hsz w3 (hR.fr G3 (fun h => h) (fun h => h))).mono ?_
    rw [S3.out, ← Hof.out]
    rintro e w4 ⟨rfl, F4⟩
    go_wp2_with fail
    go_ret
    exact ⟨rfl, G3.trans F4 (fun _ h => h.elim)⟩
  · have hkl : k.length ≤ 64 := by omega
    have hbb : ∀ j, HM.blk k j = k.getD j 0 := fun j => by rw [HB.out j, he]
    have HBB := Lib.hid hbb
    have F1 := Fr.refl (fun _ => False) w
    clear he hbb
    go_wp2_with fail
    refine rof_loop k m hkl (HM.blk k) HBB.out w _ rfl rfl rfl rfl rfl rfl ?_
    intro t2 w2 hn2 p1 p5 p6 F2
    obtain ⟨f, hff, rfl⟩ := frame_open hn2
    have e1 := hff 1 _ p1
    have e5 := hff 5 _ p5
    have e6 := hff 6 _ p6
    clear hff hn2 p1 p5 p6
    rw [lit44, e1, e5, e6]
    clear e1 e5 e6
    have G2 : Fr (fun _ => False) w w2 := F1.trans F2 (fun _ h => h.elim)
    have l1 : (HM.xor (HM.blk k) 0x36).length = 64 := HM.xor_length _ _
    have l2 : (HM.xor (HM.blk k) 0x5c).length = 64 := HM.xor_length _ _
    generalize HM.xor (HM.blk k) 0x36 = X1 at *
    generalize HM.xor (HM.blk k) 0x5c = X2 at *
    obtain ⟨u, hu⟩ : ∃ u, u = X1 ++ m := ⟨_, rfl⟩
    have hul : u.length = 64 + m.length := by rw [hu, List.length_append, l1]
    obtain ⟨v, hv⟩ : ∃ v, v = S2.sum u := ⟨_, rfl⟩
    have hvl : v.length = 32 := by rw [hv]; rfl
    obtain ⟨z, hz⟩ : ∃ z, z = X2 ++ v := ⟨_, rfl⟩
    have hzl : z.length = 96 := by rw [hz, List.length_append, l2, hvl]
    have c1 : ∀ W : World, (Op.stringOp .add ⟨X1.toArray⟩ ⟨m.toArray⟩).run Tryd.prog W = .ok (.string ⟨u.toArray⟩) W := fun W => by rw [hu]; exact run_string_add_lists W X1 m (by omega) (by omega)
    have c2 : ∀ W : World, (Op.stringOp .add ⟨X2.toArray⟩ ⟨v.toArray⟩).run Tryd.prog W = .ok (.string ⟨z.toArray⟩) W := fun W => by rw [hz]; exact run_string_add_lists W X2 v (by omega) (by omega)
    have hsu : (⟨u.toArray⟩ : ByteArray).size ≤ 1000000000000 := by show u.toArray.size ≤ _; simp; omega
    have hsz : (⟨z.toArray⟩ : ByteArray).size ≤ 1000000000000 := by show z.toArray.size ≤ _; simp; omega
    have Hof : Hid (HM.of k m = S2.sum z) := by rw [hz, hv, hu]; exact HO.out
    have S1 := Lib.hid (show sb ⟨u.toArray⟩ = u by simp [sb])
    have S3 := Lib.hid (show sb ⟨z.toArray⟩ = z by simp [sb])
    have Hv := Lib.hid hv
    clear hu hv hz l1 l2 hul hvl hzl
    go_wp2_with fail
    refine (rsum_any ⟨u.toArray⟩ hsu w2 (hR.fr G2 (fun h => h) (fun h => h))).mono ?_
    rw [S1.out, ← Hv.out]
    rintro e w3 ⟨rfl, F3⟩
    have G3 : Fr (fun _ => False) w w3 := G2.trans F3 (fun _ h => h.elim)
    go_wp2_with fail
    refine (rsum_any ⟨z.toArray⟩ hsz w3 (hR.fr G3 (fun h => h) (fun h => h))).mono ?_
    rw [S3.out, ← Hof.out]
    rintro e w4 ⟨rfl, F4⟩
    go_wp2_with fail
    go_ret
    exact ⟨rfl, G3.trans F4 (fun _ h => h.elim)⟩
end Go.Proofs.YtpgbghnjeonmjaaDoor


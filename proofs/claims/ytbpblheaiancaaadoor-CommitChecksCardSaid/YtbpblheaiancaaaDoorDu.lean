/-
  The contract of Texts of package custumalref17.
-/
import Derived.Test.YtbpblheaiancaaaDoorDt
namespace Go.Proofs.YtbpblheaiancaaaDoor
open Go.RowKit
set_option linter.unusedVariables false
set_option linter.unusedSimpArgs false

set_option maxRecDepth 100000 in
theorem lit50 (f : Nat → Value) : ((List.range 50).map f).toArray = #[f 0, f 1, f 2, f 3, f 4, f 5, f 6, f 7, f 8, f 9, f 10, f 11, f 12, f 13, f 14, f 15, f 16, f 17, f 18, f 19, f 20, f 21, f 22, f 23, f 24, f 25, f 26, f 27, f 28, f 29, f 30, f 31, f 32, f 33, f 34, f 35, f 36, f 37, f 38, f 39, f 40, f 41, f 42, f 43, f 44, f 45, f 46, f 47, f 48, f 49] := by kernel_rfl
set_option maxRecDepth 100000 in
set_option maxHeartbeats 1600000 in
theorem rtx_loop {Q : Exit → Act → World → Prop} (kk m v0 : List UInt8) (z0 : Int) (hk : kk.length ≤ 64) (h : Nat → UInt8) (hh : ∀ j, h j = kk.getD j 0) (w : World) (t : Array Value) (hn : t.size = 50) (p0 : t[0]? = some (.string ⟨kk.toArray⟩)) (p1 : t[1]? = some (.string ⟨m.toArray⟩)) (p2 : t[2]? = some (.int .i64 z0)) (p3 : t[3]? = some (.string ⟨v0.toArray⟩)) (p5 : t[9]? = some (.string ⟨#[]⟩)) (p6 : t[10]? = some (.string ⟨#[]⟩)) (p7 : t[11]? = some (.int .i64 0))
    (hexit : ∀ t' w', t'.size = 50 → t'[1]? = some (.string ⟨m.toArray⟩) → t'[2]? = some (.int .i64 z0) → t'[3]? = some (.string ⟨v0.toArray⟩) → t'[9]? = some (.string ⟨(HM.xor h 0x36).toArray⟩) → t'[10]? = some (.string ⟨(HM.xor h 0x5c).toArray⟩) → Fr (fun _ => False) w w' → Q (.exit 0) ⟨t', []⟩ w') :
    Code.wp Tryd.prog (.loop (loopAt Tryd.f17 0)) Q ⟨t, []⟩ w := by
  refine wp_loop_up 64 (fun i t w' => t.size = 50 ∧ t[0]? = some (.string ⟨kk.toArray⟩) ∧ t[1]? = some (.string ⟨m.toArray⟩) ∧ t[2]? = some (.int .i64 z0) ∧ t[3]? = some (.string ⟨v0.toArray⟩) ∧ t[9]? = some (.string ⟨((HM.xor h 0x36).take i).toArray⟩) ∧ t[10]? = some (.string ⟨((HM.xor h 0x5c).take i).toArray⟩) ∧ t[11]? = some (.int .i64 (i : Int)) ∧ Fr (fun _ => False) w w') t w ⟨hn, p0, p1, p2, p3, p5, p6, p7, Fr.refl _ _⟩ ?_
  clear hn p0 p1 p2 p3 p5 p6 p7 t
  rintro i t wr hi ⟨hn, p0, p1, p2, p3, p5, p6, p7, hF⟩ K hK
  obtain ⟨f, hff, rfl⟩ := frame_open hn
  have e0 := hff 0 _ p0
  have e1 := hff 1 _ p1
  have e2 := hff 2 _ p2
  have e3 := hff 3 _ p3
  have e5 := hff 9 _ p5
  have e6 := hff 10 _ p6
  have e7 := hff 11 _ p7
  clear hff hn p0 p1 p2 p3 p5 p6 p7
  rw [lit50, e0, e1, e2, e3, e5, e6, e7]
  clear e0 e1 e2 e3 e5 e6 e7
  conv => arg 2; whnf
  have q0 : (0 : Int) ≤ (i : Int) := by omega
  by_cases hlt : i < 64
  · have q1 : (i : Int) < 64 := by omega
    have t1 := xor_take h 0x36 i hlt
    have t2 := xor_take h 0x5c i hlt
    have l1 : ((HM.xor h 0x36).take i).length = i := by rw [List.length_take, HM.xor_length]; omega
    have l2 : ((HM.xor h 0x5c).take i).length = i := by rw [List.length_take, HM.xor_length]; omega
    have x1 : bits .xor .u8 ((h i).toNat : Int) 54 = ((h i ^^^ 0x36).toNat : Int) := xor_byte (h i) 0x36
    have x2 : bits .xor .u8 ((h i).toNat : Int) 92 = ((h i ^^^ 0x5c).toNat : Int) := xor_byte (h i) 0x5c

    generalize hy1 : h i ^^^ 0x36 = y1 at *
    generalize hy2 : h i ^^^ 0x5c = y2 at *
    generalize hz1 : (HM.xor h 0x36).take i = z1 at *
    generalize hz2 : (HM.xor h 0x5c).take i = z2 at *
    have c1 : ∀ W : World, (Op.stringOp .add ⟨z1.toArray⟩ ⟨#[y1]⟩).run Tryd.prog W = .ok (.string ⟨(z1 ++ [y1]).toArray⟩) W := fun W => run_string_add_lists W z1 [y1] (by omega) (by simp)
    have c2 : ∀ W : World, (Op.stringOp .add ⟨z2.toArray⟩ ⟨#[y2]⟩).run Tryd.prog W = .ok (.string ⟨(z2 ++ [y2]).toArray⟩) W := fun W => run_string_add_lists W z2 [y2] (by omega) (by simp)
    have HK := Lib.hid hK
    have T1 := Lib.hid t1
    have T2 := Lib.hid t2
    clear hK t1 t2 hexit
    by_cases hik : i < kk.length
    · as_aux_lemma =>
      have hg : (⟨kk.toArray⟩ : ByteArray)[i]'(by show i < kk.toArray.size; simpa using hik) = h i := by rw [hh]; exact byte_at kk i hik _
      have v1 : bits .xor .u8 (((h i).toNat : Nat) : Int) 54 = (y1.toNat : Int) := x1
      have v2 : bits .xor .u8 (((h i).toNat : Nat) : Int) 92 = (y2.toNat : Int) := x2
      have k1 := conv1 y1 _ v1
      have k2 := conv2 y1 _ v1
      have k3 := conv3 y1 _ v1
      have k4 := conv1 y2 _ v2
      have k5 := conv2 y2 _ v2
      have k6 := conv3 y2 _ v2
      clear v1 v2 x1 x2 hy1 hy2
      have HG := Lib.hid hg
      clear hg hh
      go_wp2_with fail
      rw [HG.out]
      go_region
      all_goals
        go_wp2_with fail
        first
        | exact HK.out _ _ hlt ⟨rfl, rfl, rfl, rfl, rfl, by rw [T1.out]; rfl, by rw [T2.out]; rfl, rfl, (hF.alloc _).alloc _⟩
        | exact HK.out _ _ hlt ⟨rfl, rfl, rfl, rfl, rfl, by rw [T1.out]; rfl, by rw [T2.out]; rfl, rfl, ((hF.alloc _).alloc _).drew⟩
    · as_aux_lemma =>
      have h0 : h i = 0 := by rw [hh, List.getD_eq_getElem?_getD, List.getElem?_eq_none (by omega)]; rfl
      have v1 : bits .xor .u8 0 54 = (y1.toNat : Int) := by rw [← x1, h0]; rfl
      have v2 : bits .xor .u8 0 92 = (y2.toNat : Int) := by rw [← x2, h0]; rfl
      have k1 := conv1 y1 _ v1
      have k2 := conv2 y1 _ v1
      have k3 := conv3 y1 _ v1
      have k4 := conv1 y2 _ v2
      have k5 := conv2 y2 _ v2
      have k6 := conv3 y2 _ v2
      clear h0 v1 v2 x1 x2 hy1 hy2
      go_wp2_with fail
      go_region
      all_goals
        go_wp2_with fail
        first
        | exact HK.out _ _ hlt ⟨rfl, rfl, rfl, rfl, rfl, by rw [T1.out]; rfl, by rw [T2.out]; rfl, rfl, (hF.alloc _).alloc _⟩
        | exact HK.out _ _ hlt ⟨rfl, rfl, rfl, rfl, rfl, by rw [T1.out]; rfl, by rw [T2.out]; rfl, rfl, ((hF.alloc _).alloc _).drew⟩
  · obtain rfl : i = 64 := by omega
    have e1 : (HM.xor h 0x36).take 64 = HM.xor h 0x36 := List.take_of_length_le (by rw [HM.xor_length]; omega)
    have e2 : (HM.xor h 0x5c).take 64 = HM.xor h 0x5c := List.take_of_length_le (by rw [HM.xor_length]; omega)
    rw [e1, e2]
    clear e1 e2
    have HE := Lib.hid hexit
    clear hexit
    go_wp2_with fail
    exact HE.out _ _ rfl rfl rfl rfl rfl rfl hF
end Go.Proofs.YtbpblheaiancaaaDoor

/-
  The contract of Of of package custumalref03.
-/
import Derived.Test.YtpgbghnjeonmjaaDoorGo
import Derived.Test.YtpgbghnjeonmjaaDoorHo
namespace Go.Proofs.YtpgbghnjeonmjaaDoor
open Go.RowKit
set_option linter.unusedVariables false

set_option maxRecDepth 100000 in
/-- The string of one byte, built in a block of its own. -/
theorem str_one (W : World) (y : UInt8) (b : Nat) (c : Nat) {t : TypeId} {fr : Nat × Nat} (h : W.heap[b]? = some (.cells #[.int .u8 (y.toNat : Int)] t fr)) : (convert 22 9 (.slice (some ⟨b, 0, none⟩) 1 c)).run Tryd.prog W = .ok (.string ⟨#[y]⟩) W := by
  have hL : Lies W (some ⟨b, 0, none⟩) [y] := Or.inr ⟨b, 0, rfl, fun j hj => by
    match j, hj with
    | 0, _ => rw [cell_of_block h]; rfl⟩
  exact run_str hL c 9 Tryd.underlying9
set_option maxRecDepth 100000 in
theorem xor_byte (x y : UInt8) : bits .xor .u8 (x.toNat : Int) (y.toNat : Int) = ((x ^^^ y).toNat : Int) := by
  have h1 := x.toNat_lt
  have h2 := y.toNat_lt
  have x3 : x.toNat ^^^ y.toNat < 2 ^ 8 := Nat.xor_lt_two_pow (by omega) (by omega)
  have e1 : (BitVec.ofInt 8 (x.toNat : Int)).toNat = x.toNat := by
    rw [BitVec.ofInt_natCast, BitVec.toNat_ofNat]; exact Nat.mod_eq_of_lt (by omega)
  have e2 : (BitVec.ofInt 8 (y.toNat : Int)).toNat = y.toNat := by
    rw [BitVec.ofInt_natCast, BitVec.toNat_ofNat]; exact Nat.mod_eq_of_lt (by omega)
  show IntKind.u8.wrap ((BitVec.ofInt 8 (x.toNat : Int) ^^^ BitVec.ofInt 8 (y.toNat : Int)).toNat : Int) = _
  rw [BitVec.toNat_xor, e1, e2, UInt8.toNat_xor, IntKind.wrap_u8]
  omega
set_option maxRecDepth 100000 in
theorem xor_take (f : Nat → UInt8) (b : UInt8) (j : Nat) (hj : j < 64) : (HM.xor f b).take (j + 1) = (HM.xor f b).take j ++ [f j ^^^ b] := by
  rw [List.take_succ_eq_append_getElem (by rw [HM.xor_length]; omega)]
  simp [HM.xor]
set_option maxRecDepth 100000 in
theorem lit44 (f : Nat → Value) : ((List.range 44).map f).toArray = #[f 0, f 1, f 2, f 3, f 4, f 5, f 6, f 7, f 8, f 9, f 10, f 11, f 12, f 13, f 14, f 15, f 16, f 17, f 18, f 19, f 20, f 21, f 22, f 23, f 24, f 25, f 26, f 27, f 28, f 29, f 30, f 31, f 32, f 33, f 34, f 35, f 36, f 37, f 38, f 39, f 40, f 41, f 42, f 43] := by kernel_rfl
theorem byte_at (kk : List UInt8) (i : Nat) (h : i < kk.length) (h2 : i < (⟨kk.toArray⟩ : ByteArray).size) : (⟨kk.toArray⟩ : ByteArray)[i] = kk.getD i 0 := by
  rw [List.getD_eq_getElem?_getD, List.getElem?_eq_getElem h]
  show kk.toArray[i] = _
  simp
set_option maxRecDepth 100000 in
theorem conv1 (y : UInt8) (v : Int) (hv : v = (y.toNat : Int)) (W : World) : (convert 22 9 (.slice (some ⟨W.heap.size, 0, none⟩) 1 1)).run Tryd.prog (W.alloc (.cells #[.int .u8 v] 5)).drew = .ok (.string ⟨#[y]⟩) (W.alloc (.cells #[.int .u8 v] 5)).drew :=
  str_one _ y _ 1 (by rw [hv]; exact heap_alloc_new W _)
theorem conv2 (y : UInt8) (v : Int) (hv : v = (y.toNat : Int)) (W : World) (A : Obj) : (convert 22 9 (.slice (some ⟨W.heap.size + 1, 0, none⟩) 1 1)).run Tryd.prog ((W.alloc A).alloc (.cells #[.int .u8 v] 5)).drew = .ok (.string ⟨#[y]⟩) ((W.alloc A).alloc (.cells #[.int .u8 v] 5)).drew :=
  str_one _ y _ 1 (by rw [hv]; exact heap_alloc2_new W _ _)
set_option maxRecDepth 100000 in
theorem conv3 (y : UInt8) (v : Int) (hv : v = (y.toNat : Int)) (W : World) (A : Obj) : (convert 22 9 (.slice (some ⟨W.heap.size, 0, none⟩) 1 1)).run Tryd.prog ((W.alloc (.cells #[.int .u8 v] 5)).alloc A).drew = .ok (.string ⟨#[y]⟩) ((W.alloc (.cells #[.int .u8 v] 5)).alloc A).drew :=
  str_one _ y _ 1 (by rw [hv]; exact heap_alloc2_old W _ _)
set_option maxRecDepth 100000 in
set_option maxHeartbeats 1600000 in
theorem rof_loop {Q : Exit → Act → World → Prop} (kk m : List UInt8) (hk : kk.length ≤ 64) (h : Nat → UInt8) (hh : ∀ j, h j = kk.getD j 0) (w : World) (t : Array Value) (hn : t.size = 44) (p0 : t[0]? = some (.string ⟨kk.toArray⟩)) (p1 : t[1]? = some (.string ⟨m.toArray⟩)) (p5 : t[5]? = some (.string ⟨#[]⟩)) (p6 : t[6]? = some (.string ⟨#[]⟩)) (p7 : t[7]? = some (.int .i64 0))
    (hexit : ∀ t' w', t'.size = 44 → t'[1]? = some (.string ⟨m.toArray⟩) → t'[5]? = some (.string ⟨(HM.xor h 0x36).toArray⟩) → t'[6]? = some (.string ⟨(HM.xor h 0x5c).toArray⟩) → Fr (fun _ => False) w w' → Q (.exit 0) ⟨t', []⟩ w') :
    Code.wp Tryd.prog (.loop (loopAt Tryd.f40 0)) Q ⟨t, []⟩ w := by
  refine wp_loop_up 64 (fun i t w' => t.size = 44 ∧ t[0]? = some (.string ⟨kk.toArray⟩) ∧ t[1]? = some (.string ⟨m.toArray⟩) ∧ t[5]? = some (.string ⟨((HM.xor h 0x36).take i).toArray⟩) ∧ t[6]? = some (.string ⟨((HM.xor h 0x5c).take i).toArray⟩) ∧ t[7]? = some (.int .i64 (i : Int)) ∧ Fr (fun _ => False) w w') t w ⟨hn, p0, p1, p5, p6, p7, Fr.refl _ _⟩ ?_
  clear hn p0 p1 p5 p6 p7 t
  rintro i t wr hi ⟨hn, p0, p1, p5, p6, p7, hF⟩ K hK
  obtain ⟨f, hff, rfl⟩ := frame_open hn
  have e0 := hff 0 _ p0
  have e1 := hff 1 _ p1
  have e5 := hff 5 _ p5
  have e6 := hff 6 _ p6
  have e7 := hff 7 _ p7
  clear hff hn p0 p1 p5 p6 p7
  rw [lit44, e0, e1, e5, e6, e7]
  clear e0 e1 e5 e6 e7
  conv => arg 2; whnf
  have q0 : (0 : Int) ≤ (i : Int) := by omega
  by_cases hlt : i < 64
  · have q1 : (i : Int) < 64 := by omega
    have t1 := xor_take h 0x36 i hlt
    have t2 := xor_take h 0x5c i hlt
    have l1 : ((HM.xor h 0x36).take i).length = i := by rw [List.length_take, HM.xor_length]; omega
    have l2 : ((HM.xor h 0x5c).take i).length = i := by rw [List.length_take, HM.xor_length]; omega
    have x1 : bits .xor .u8 ((h i).toNat : Int) 54 = ((h i ^^^ 0x36).toNat : Int) := xor_byte (h i) 0x36
    have x2 : bits .xor .u8 ((h i).toNat : Int) 92 = ((h i ^^^ 0x5c).toNat : Int) := xor_byte (h i) 0x5c

    generalize hy1 : h i ^^^ 0x36 = y1 at *
    generalize hy2 : h i ^^^ 0x5c = y2 at *
    generalize hz1 : (HM.xor h 0x36).take i = z1 at *
    generalize hz2 : (HM.xor h 0x5c).take i = z2 at *
    have c1 : ∀ W : World, (Op.stringOp .add ⟨z1.toArray⟩ ⟨#[y1]⟩).run Tryd.prog W = .ok (.string ⟨(z1 ++ [y1]).toArray⟩) W := fun W => run_string_add_lists W z1 [y1] (by omega) (by simp)
    have c2 : ∀ W : World, (Op.stringOp .add ⟨z2.toArray⟩ ⟨#[y2]⟩).run Tryd.prog W = .ok (.string ⟨(z2 ++ [y2]).toArray⟩) W := fun W => run_string_add_lists W z2 [y2] (by omega) (by simp)
    have HK := Lib.hid hK
    have T1 := Lib.hid t1
    have T2 := Lib.hid t2
    clear hK t1 t2 hexit
    by_cases hik : i < kk.length
    · as_aux_lemma =>
      have hg : (⟨kk.toArray⟩ : ByteArray)[i]'(by show i < kk.toArray.size; simpa using hik) = h i := by rw [hh]; exact byte_at kk i hik _
      have v1 : bits .xor .u8 (((h i).toNat : Nat) : Int) 54 = (y1.toNat : Int) := x1
      have v2 : bits .xor .u8 (((h i).toNat : Nat) : Int) 92 = (y2.toNat : Int) := x2
      have k1 := conv1 y1 _ v1
      have k2 := conv2 y1 _ v1
      have k3 := conv3 y1 _ v1
      have k4 := conv1 y2 _ v2
      have k5 := conv2 y2 _ v2
      have k6 := conv3 y2 _ v2
      clear v1 v2 x1 x2 hy1 hy2
      have HG := Lib.hid hg
      clear hg hh
      go_wp2_with fail
      rw [HG.out]
      go_region
      all_goals
        go_wp2_with fail
        first
        | exact HK.out _ _ hlt ⟨rfl, rfl, rfl, by rw [T1.out]; rfl, by rw [T2.out]; rfl, rfl, (hF.alloc _).alloc _⟩
        | exact HK.out _ _ hlt ⟨rfl, rfl, rfl, by rw [T1.out]; rfl, by rw [T2.out]; rfl, rfl, ((hF.alloc _).alloc _).drew⟩
    · as_aux_lemma =>
      have h0 : h i = 0 := by rw [hh, List.getD_eq_getElem?_getD, List.getElem?_eq_none (by omega)]; rfl
      have v1 : bits .xor .u8 0 54 = (y1.toNat : Int) := by rw [← x1, h0]; rfl
      have v2 : bits .xor .u8 0 92 = (y2.toNat : Int) := by rw [← x2, h0]; rfl
      have k1 := conv1 y1 _ v1
      have k2 := conv2 y1 _ v1
      have k3 := conv3 y1 _ v1
      have k4 := conv1 y2 _ v2
      have k5 := conv2 y2 _ v2
      have k6 := conv3 y2 _ v2
      clear h0 v1 v2 x1 x2 hy1 hy2
      go_wp2_with fail
      go_region
      all_goals
        go_wp2_with fail
        first
        | exact HK.out _ _ hlt ⟨rfl, rfl, rfl, by rw [T1.out]; rfl, by rw [T2.out]; rfl, rfl, (hF.alloc _).alloc _⟩
        | exact HK.out _ _ hlt ⟨rfl, rfl, rfl, by rw [T1.out]; rfl, by rw [T2.out]; rfl, rfl, ((hF.alloc _).alloc _).drew⟩
  · obtain rfl : i = 64 := by omega
    have e1 : (HM.xor h 0x36).take 64 = HM.xor h 0x36 := List.take_of_length_le (by rw [HM.xor_length]; omega)
    have e2 : (HM.xor h 0x5c).take 64 = HM.xor h 0x5c := List.take_of_length_le (by rw [HM.xor_length]; omega)
    rw [e1, e2]
    clear e1 e2
    have HE := Lib.hid hexit
    clear hexit
    go_wp2_with fail
    exact HE.out _ _ rfl rfl rfl rfl hF
end Go.Proofs.YtpgbghnjeonmjaaDoor


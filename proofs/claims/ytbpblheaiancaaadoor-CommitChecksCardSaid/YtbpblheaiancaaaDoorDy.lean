/-
  Rows of 32 bytes: compared, loaded in part under a guard, copied out of a string; and when two openings of one sum must clash.
-/
import Derived.Test.YtbpblheaiancaaaDoorDx
import Derived.Lib.BufferWrite
namespace Go.Proofs.YtbpblheaiancaaaDoor
open Go.RowKit
set_option linter.unusedVariables false
set_option linter.unusedSimpArgs false

theorem eql_bytes (x y : List UInt8) (hx : x.length = 32) (hy : y.length = 32) (w : World) : (binOp .eql 22 (.agg (bv x).toArray) (.agg (bv y).toArray)).run Tryd.prog w = .ok (.bool (x == y)) w := by
  have hb : ∀ z : List UInt8, bv z = z.map Extern.Stop.cell := fun z => rfl
  rw [hb, hb]
  refine run_eql_bytes w 22 5 32 Tryd.underlying22 Tryd.underlying5 ?_ x y hx hy
  intro w2
  obtain ⟨i0, hi, hz⟩ := Option.map_eq_some_iff.1 Tryd.sizeB
  simp [sizeOf, typeInfo, hi, hz]
theorem eql_ub (f g : Nat → UInt8) (x y : List UInt8) (hx : x = (List.range 32).map f) (hy : y = (List.range 32).map g) (w : World) : (binOp .eql 22 (.agg (ub 32 f)) (.agg (ub 32 g))).run Tryd.prog w = .ok (.bool (x == y)) w := by
  rw [ub_bv 32 f, ub_bv 32 g, ← hx, ← hy]
  exact eql_bytes x y (by rw [hx]; simp) (by rw [hy]; simp) w
theorem sumc_bv (l : List UInt8) : (bv (S2.sum l)).toArray = sumc l := by
  rw [sumc_ub, ub_bv, map_getD32 _ (sum_length l)]
theorem wpList_load_pt_gd {P : Program} {ops : Array Oper} {rest : List Oper} {o : Oper} {a : Act} {w0 w : World} {L : List Bk} {Q : Exit → Act → World → Prop} (K : Kn w0 L w) (hw : Region.wanted o (yielded ops a.tmps) = true) (ty : TypeId) (x : Operand) (ho : o.op = .load ty x) (i g n q m : Nat) (cs R : Array Value) (T : TypeId) (hx : a.eval x = .pointer (some ⟨g, q, none⟩))
    (d : TypeDesc) (hu : P.underlying ty = some d) (hd : d.isRow = true) (hty : (P.info? ty).map (·.size) = some m) (hi : L[i]? = some ⟨g, n, cs, T⟩) (hp : Part cs q R) (hm : R.size = m)
    (h : wpList P ops Q rest (a.put o.dst (.agg R)) w) : wpList P ops Q (o :: rest) a w :=
  wpList_step fun Kk hK => by
    simp only [hw, if_true]
    refine wp_load_mid ty x ho g q hx R.toList d (fun j u hj => ?_) hu hd (by rw [hty, Array.length_toList, hm]) (hK _ _ ?_)
    · rw [cell_of_block (K.heap i hi)]
      exact hp j u (by simpa using hj)
    · rw [Array.toArray_toList]
      exact h
/-- 32 bytes of a string are copied into a row. -/
theorem wpList_copy_str {ops : Array Oper} {rest : List Oper} {o : Oper} {a : Act} {w0 w : World} {L : List Bk} {Q : Exit → Act → World → Prop} (K : Kn w0 L w) (hgd : o.guard = none) (d s : Operand)
    (ho : o.op = .call { callee := .builtin .copy, args := #[d, s], argTypes := #[23, 9] }) (i g : Nat) (cur : Array Value) (T : TypeId) (X : List UInt8) (hX : X.length = 32) (hd : a.eval d = .slice (some ⟨g, 0, none⟩) 32 32) (hs : a.eval s = .string ⟨X.toArray⟩)
    (hi : L[i]? = some ⟨g, 32, cur, T⟩)
    (h : ∀ w', Kn w0 (L.set i ⟨g, 32, (bv X).toArray, T⟩) w' → wpList Tryd.prog ops Q rest (a.put o.dst (goInt (⟨X.toArray⟩ : ByteArray).size)) w') : wpList Tryd.prog ops Q (o :: rest) a w := by
  have hg := K.heap i hi
  have hn := K.size i hi
  have hsz : (⟨X.toArray⟩ : ByteArray).size = 32 := by show X.toArray.size = 32; simpa using hX
  refine wpList_plain hgd fun Kk hK => ?_
  have hrun := Lib.run_copy_row_string (P := Tryd.prog) w 23 9 o.type 5 g 0 32 32 ⟨X.toArray⟩ cur T Tryd.underlying23 Tryd.sizeB hg (by omega) (by omega)
  unfold Oper.wp
  simp [execOp, ho, resolve, invoke, builtin, hd, hs, hrun, Result.andThen]
  refine hK _ _ (h _ ?_)
  have e2 : (Lib.byteCells X ++ List.drop (⟨X.toArray⟩ : ByteArray).size cur.toList).toArray = (bv X).toArray := by
    rw [hsz, List.drop_eq_nil_of_le (by simp; omega), List.append_nil]
    rfl
  rw [e2]
  exact K.set i ⟨g, 32, cur, T⟩ hi (bv X).toArray (by simp [bv, hX]) (Fr.sr (S := fun k => k = g) (Fr.refl _ _) rfl _) (setRow_heap _ _ _ _ _ _ hg)
theorem xor_inj (f g : Nat → UInt8) (b : UInt8) (h : HM.xor f b = HM.xor g b) (j : Nat) (hj : j < 64) : f j = g j := by
  have h2 := congrArg (fun l => l[j]?) h
  simp only [HM.xor, List.getElem?_map, List.getElem?_range hj, Option.map_some, Option.some.injEq] at h2
  have h3 := congrArg (· ^^^ b) h2
  simpa [UInt8.xor_assoc] using h3
theorem be8_inj (u v : Nat) (hu : u < 18446744073709551616) (hv : v < 18446744073709551616) (h : S2.be8 u = S2.be8 v) : u = v := by
  have e : ∀ n, S2.be8 n = nbs n := fun n => by
    unfold S2.be8 nbs
    refine List.map_congr_left fun j _ => ?_
    apply UInt8.toNat_inj.1
    simp
  rw [e, e] at h
  rw [← nbs_beN u hu, ← nbs_beN v hv, h]
/-- Two openings of one sum that are not alike have two unlike texts of one sum. -/
theorem must_clash (k0 k1 i0 i1 v0 v1 : List UInt8) (u0 u1 : Nat) (hk0 : k0.length = 32) (hk1 : k1.length = 32) (hi0 : i0.length = 32) (hi1 : i1.length = 32) (hu0 : u0 < 18446744073709551616) (hu1 : u1 < 18446744073709551616)
    (hs : S2.sum (HM.out k0 (CM.mb i0 u0 v0)) = S2.sum (HM.out k1 (CM.mb i1 u1 v1))) (hne : ¬ (k0 = k1 ∧ i0 = i1 ∧ u0 = u1 ∧ v0 = v1)) :
    hit (HM.out k0 (CM.mb i0 u0 v0)) (HM.out k1 (CM.mb i1 u1 v1)) ∨ hit (HM.inn k0 (CM.mb i0 u0 v0)) (HM.inn k1 (CM.mb i1 u1 v1)) := by
  by_cases h1 : HM.out k0 (CM.mb i0 u0 v0) = HM.out k1 (CM.mb i1 u1 v1)
  · right
    obtain ⟨e1, e2⟩ := List.append_inj (show HM.xor (HM.blk k0) 0x5c ++ S2.sum (HM.inn k0 (CM.mb i0 u0 v0)) = HM.xor (HM.blk k1) 0x5c ++ S2.sum (HM.inn k1 (CM.mb i1 u1 v1)) from h1) (by rw [HM.xor_length, HM.xor_length])
    refine ⟨fun h2 => ?_, e2⟩
    have hb : ∀ k : List UInt8, k.length = 32 → ∀ j, HM.blk k j = k.getD j 0 := fun k hk j => by
      show (HM.fill k).getD j 0 = _
      unfold HM.fill
      rw [if_neg (by omega)]
    have hk : k0 = k1 := by
      rw [← map_getD32 k0 hk0, ← map_getD32 k1 hk1]
      refine List.map_congr_left fun j hj => ?_
      have hj2 : j < 32 := by simpa using hj
      rw [← hb k0 hk0, ← hb k1 hk1]
      exact xor_inj _ _ _ e1 j (by omega)
    obtain ⟨_, e3⟩ := List.append_inj (show HM.xor (HM.blk k0) 0x36 ++ CM.mb i0 u0 v0 = HM.xor (HM.blk k1) 0x36 ++ CM.mb i1 u1 v1 from h2) (by rw [HM.xor_length, HM.xor_length])
    obtain ⟨e4, e5⟩ := List.append_inj (show i0 ++ S2.be8 u0 ++ v0 = i1 ++ S2.be8 u1 ++ v1 from e3) (by rw [List.length_append, List.length_append, hi0, hi1]; rfl)
    obtain ⟨e6, e7⟩ := List.append_inj e4 (by rw [hi0, hi1])
    exact hne ⟨hk, e6, be8_inj _ _ hu0 hu1 e7, e5⟩
  · exact .inl ⟨h1, hs⟩
end Go.Proofs.YtbpblheaiancaaaDoor

/-
  The contracts of the methods of a nil Hash of package sha2; a part of owned parts is written.
  The loops of the law Sha2Goes.
  The contract of Same of package hmac; an append as a step of a region.
  The contract of Of of package custumalref03.
  The laws' own look at a known mark.
  The contract of Of of package custumalref03: the rest; the walk of the law HmacOf.
  The contracts of number of package hmac, and of Eight of package custumalref03.
  The contract of Key of package hmac.
  The numbers of packages commit and chain; the document's openings and bound values.
-/
import Derived.Test.YtikdgjgcopjocaaDoorPa
import Derived.Test.YtikdgjgcopjocaaDoorHo
import Derived.Laws.OwnMore
import Derived.Deep.RegionWith
namespace Go.Proofs.YtikdgjgcopjocaaDoor
open Go.RowKit
set_option linter.unusedVariables false

set_option maxRecDepth 100000 in
theorem neq_sumc (x y : List UInt8) (w : World) : (binOp .neq 23 (.agg (sumc x)) (.agg (sumc y))).run Tryd.prog w = .ok (.bool (!(S2.sum x == S2.sum y))) w := by
  have h := eql_sumc x y w
  rw [run_eql_struct] at h
  rw [run_neq_struct]
  revert h
  cases (Op.equalIn 10000 23 (.agg (sumc x)) (.agg (sumc y))).run Tryd.prog w with
  | ok b w2 =>
    intro h
    simp only [Result.andThen_ok] at h ⊢
    injection h with h1 h2
    injection h1 with h1
    rw [h1, h2]
  | halt a b => intro h; simp [Result.andThen] at h
set_option maxRecDepth 100000 in
set_option maxHeartbeats 400000 in
theorem write_nil (v : Value) (w : World) : Calls Tryd.prog 27 #[.pointer none, v] w fun e w' => e = .returned (.tuple #[]) ∧ w' = w := by
  go_enter Tryd.func27, Tryd.ntmps27
  go_wp2
  exact bodyPost_ret (results_none rfl _ _ _) rfl ⟨rfl, rfl⟩
end Go.Proofs.YtikdgjgcopjocaaDoor
namespace Go.Proofs.YtikdgjgcopjocaaDoor
open Go.RowKit
set_option linter.unusedVariables false

set_option maxRecDepth 100000 in
theorem lit87 (f : Nat → Value) : ((List.range 87).map f).toArray = #[f 0, f 1, f 2, f 3, f 4, f 5, f 6, f 7, f 8, f 9, f 10, f 11, f 12, f 13, f 14, f 15, f 16, f 17, f 18, f 19, f 20, f 21, f 22, f 23, f 24, f 25, f 26, f 27, f 28, f 29, f 30, f 31, f 32, f 33, f 34, f 35, f 36, f 37, f 38, f 39, f 40, f 41, f 42, f 43, f 44, f 45, f 46, f 47, f 48, f 49, f 50, f 51, f 52, f 53, f 54, f 55, f 56, f 57, f 58, f 59, f 60, f 61, f 62, f 63, f 64, f 65, f 66, f 67, f 68, f 69, f 70, f 71, f 72, f 73, f 74, f 75, f 76, f 77, f 78, f 79, f 80, f 81, f 82, f 83, f 84, f 85, f 86] := by kernel_rfl

set_option maxRecDepth 100000 in
theorem Own.set {w : World} {B c g : Nat} {l : List UInt8} (h : Own w B (.slice (some ⟨g, 0, none⟩) l.length c) l) (i : Nat) (hi : i < l.length) (b : UInt8) :
    Own (w.setCell ⟨g, i, none⟩ (.int .u8 (b.toNat : Int))) B (.slice (some ⟨g, 0, none⟩) l.length c) (l.set i b) ∧ w.cell? ⟨g, i, none⟩ = some (.int .u8 (l[i].toNat : Int)) ∧ w.frozen? ⟨g, i, none⟩ = false := by
  have hL := h.lies.2.2.2
  rcases h with ⟨e, rfl⟩ | ⟨g2, cap, cur, fz, e, h1, h2, h3, h4, h5, h6, h7⟩
  · simp at hi
  · obtain ⟨rfl, rfl⟩ : g = g2 ∧ c = cap := by injection e with e1 e2 e3; injection e1 with e1; injection e1 with e1 e4; exact ⟨e1, e3⟩
    refine ⟨Or.inr ⟨g, c, _, fz, by rw [List.length_set], h1, block_setCellF h2 i _, ?_, by rw [List.length_set]; exact h4, h5, by simpa using h6, ?_⟩, ?_, ?_⟩
    · rcases h3 with h3 | h3
      · exact Or.inl h3
      · exact Or.inr (by simpa using h3)
    · rw [List.length_set]
      have : (cur.setIfInBounds i (.int .u8 (b.toNat : Int))).toList = cur.toList.set i (.int .u8 (b.toNat : Int)) := by simp
      rw [this, List.take_set, h7]
      simp [bv, List.map_set]
    · rcases hL with e | ⟨g3, off, e, hc⟩
      · rw [e] at hi; simp at hi
      · injection e with e; injection e with e1 e2
        subst e1; subst e2
        have := hc i hi
        rwa [Nat.zero_add] at this
    · rcases h3 with e | e
      · subst e; simp [World.frozen?, h2]
      · simp [World.frozen?, h2]; omega
set_option maxRecDepth 100000 in
/-- A byte of a part is written. -/
theorem FewR.set {w : World} {B k n g : Nat} {v : Value} {A : Nat → Option Addr} {C : Nat → Nat} {L : List (List UInt8)} (h : FewR w B v A C L n) (hL : L.length = n) (hk : k < n) (hA : A k = some ⟨g, 0, none⟩) (i : Nat) (hi : i < (L.getD k []).length) (b : UInt8) :
    FewR (w.setCell ⟨g, i, none⟩ (.int .u8 (b.toNat : Int))) B v A C (L.set k ((L.getD k []).set i b)) n := by
  have hlen : ∀ j, ((L.set k ((L.getD k []).set i b)).getD j []).length = (L.getD j []).length := by
    intro j
    simp only [List.getD_eq_getElem?_getD, List.getElem?_set]
    by_cases e : k = j
    · subst e; simp [hL, hk]
    · simp [e]
  have hoth : ∀ j, j ≠ k → (L.set k ((L.getD k []).set i b)).getD j [] = L.getD j [] := by
    intro j hj
    simp only [List.getD_eq_getElem?_getD, List.getElem?_set]
    rw [if_neg (fun e => hj e.symm)]
  have hself : (L.set k ((L.getD k []).set i b)).getD k [] = (L.getD k []).set i b := by
    rw [List.getD_eq_getElem?_getD, List.getElem?_set]; simp [hL, hk]
  have hsl : sls A C (L.set k ((L.getD k []).set i b)) n = sls A C L n := by
    unfold sls
    apply List.map_congr_left
    intro j _
    rw [hlen j]
  have hob : ob (A k) = some g := by rw [hA]; rfl
  have hF : Fr (fun x => x = g) w (w.setCell ⟨g, i, none⟩ (.int .u8 (b.toNat : Int))) := (Fr.refl (fun x => x = g) w).setCell (Or.inl rfl) _
  refine ⟨?_, ?_, h.off, h.apart⟩
  · rw [hsl]
    exact hF.own h.row (fun x hx e => h.off k hk g hob (by rw [← e]; exact hx))
  · intro j hj
    rw [hlen j]
    by_cases e : j = k
    · subst e
      rw [hself]
      have hp := h.part j hk
      rw [hA] at hp ⊢
      exact (hp.set i hi b).1
    · rw [hoth j e]
      refine (h.part j hj).fr hF (fun x hx e2 => ?_)
      rw [ob_own] at hx
      subst e2
      rcases Nat.lt_or_ge j k with h2 | h2
      · exact h.apart j k h2 hk x hx hob
      · exact h.apart k j (by omega) hj x hob hx
set_option maxRecDepth 100000 in
/-- The cell of the row of slices. -/
theorem FewR.slot {w : World} {B k n : Nat} {a : Option Addr} {c : Nat} {A : Nat → Option Addr} {C : Nat → Nat} {L : List (List UInt8)} (h : FewR w B (.slice a n c) A C L n) (hk : k < n) : ∃ g, a = some ⟨g, 0, none⟩ ∧ w.cell? ⟨g, k, none⟩ = some (.slice (A k) (L.getD k []).length (C k)) := by
  rcases h.row.2 with ⟨_, h0⟩ | ⟨g, cap, cur, e, _, hg, hc, hm, _, ht⟩
  · omega
  · injection e with e1 e2 e3
    subst e1
    refine ⟨g, rfl, ?_⟩
    rw [cell_of_block hg, ← Array.getElem?_toList]
    have : (cur.toList.take (n * 1))[k]? = (sls A C L n)[k]? := by rw [ht]
    rw [List.getElem?_take, if_pos (by omega)] at this
    rw [this]
    unfold sls
    rw [List.getElem?_map, List.getElem?_range hk]; rfl
set_option maxRecDepth 100000 in
theorem xor33 (x : UInt8) : bits .xor .u8 (x.toNat : Int) 51 = ((x ^^^ 51).toNat : Int) := by
  have h1 := x.toNat_lt
  have x3 : x.toNat ^^^ 51 < 2 ^ 8 := Nat.xor_lt_two_pow (by omega) (by omega)
  have e1 : (BitVec.ofInt 8 (x.toNat : Int)).toNat = x.toNat := by
    rw [BitVec.ofInt_natCast, BitVec.toNat_ofNat]; exact Nat.mod_eq_of_lt (by omega)
  show IntKind.u8.wrap ((BitVec.ofInt 8 (x.toNat : Int) ^^^ BitVec.ofInt 8 51).toNat : Int) = _
  rw [BitVec.toNat_xor, e1, show (BitVec.ofInt 8 51).toNat = 51 from rfl, UInt8.toNat_xor, IntKind.wrap_u8, show (51 : UInt8).toNat = 51 from rfl]
  omega

/-- The frame's pins through the inner loop. -/
structure GPin (t : Array Value) (bh : Nat) (a : Option Addr) (n c k : Nat) (s : List UInt8) : Prop where
  sz : t.size = 87
  p4 : t[4]? = some (.pointer (some ⟨bh, 0, none⟩))
  p5 : t[5]? = some (.string ⟨s.toArray⟩)
  p6 : t[6]? = some (.slice a n c)
  p7 : t[7]? = some (.int .i64 (k : Int))
set_option maxRecDepth 100000 in
theorem GPin.open {t : Array Value} {bh : Nat} {a : Option Addr} {n c k : Nat} {s : List UInt8} (h : GPin t bh a n c k s) : ∃ f : Nat → Value, (∀ i v, t[i]? = some v → f i = v) ∧ t = #[f 0, f 1, f 2, f 3, .pointer (some ⟨bh, 0, none⟩), .string ⟨s.toArray⟩, .slice a n c, .int .i64 (k : Int), f 8, f 9, f 10, f 11, f 12, f 13, f 14, f 15, f 16, f 17, f 18, f 19, f 20, f 21, f 22, f 23, f 24, f 25, f 26, f 27, f 28, f 29, f 30, f 31, f 32, f 33, f 34, f 35, f 36, f 37, f 38, f 39, f 40, f 41, f 42, f 43, f 44, f 45, f 46, f 47, f 48, f 49, f 50, f 51, f 52, f 53, f 54, f 55, f 56, f 57, f 58, f 59, f 60, f 61, f 62, f 63, f 64, f 65, f 66, f 67, f 68, f 69, f 70, f 71, f 72, f 73, f 74, f 75, f 76, f 77, f 78, f 79, f 80, f 81, f 82, f 83, f 84, f 85, f 86] := by
  obtain ⟨f, hf, ht⟩ := frame_open h.sz
  rw [lit87] at ht
  refine ⟨f, hf, ?_⟩
  rw [ht, hf 4 _ h.p4, hf 5 _ h.p5, hf 6 _ h.p6, hf 7 _ h.p7]

set_option maxRecDepth 100000 in
theorem FewR.fr {w w2 : World} {B n : Nat} {v : Value} {A : Nat → Option Addr} {C : Nat → Nat} {L : List (List UInt8)} {S : Nat → Prop} (h : FewR w B v A C L n) (hF : Fr S w w2) (hS : ∀ x, B ≤ x → ¬ S x) : FewR w2 B v A C L n :=
  ⟨hF.own h.row (fun x hx => hS x (ownsRow_lt h.row x hx).1), fun j hj => (h.part j hj).fr hF (fun x hx => hS x ((h.part j hj).lt x hx).1), h.off, h.apart⟩
set_option maxRecDepth 100000 in
theorem take_flat (X : List (List UInt8)) (k : Nat) : (X.take k).flatten.length ≤ X.flatten.length := by
  conv => rhs; rw [← List.take_append_drop k X]
  rw [List.flatten_append, List.length_append]; omega
set_option maxRecDepth 100000 in
theorem flat_succ (X : List (List UInt8)) (k : Nat) (hk : k < X.length) : (X.take (k + 1)).flatten = (X.take k).flatten ++ X.getD k [] := by
  rw [List.take_succ_eq_append_getElem hk, List.flatten_append, List.getD_eq_getElem?_getD, List.getElem?_eq_getElem hk]; simp

end Go.Proofs.YtikdgjgcopjocaaDoor
namespace Go.Proofs.YtikdgjgcopjocaaDoor
open Go.RowKit
set_option linter.unusedVariables false

set_option maxRecDepth 100000 in
theorem wp_app {P : Program} {o : Oper} {a : Act} {w : World} {K : Act → World → Prop} {Q : Exit → Act → World → Prop} (s x : Operand) (t tx : TypeId)
    (ho : o.op = .call { callee := .builtin .append, args := #[s, x], argTypes := #[t, tx] })
    (base : Nat) (e : TypeId) (i : TypeInfo) (z : Value) (size bytes : Nat) (ht : P.underlying t = some (.slice e)) (hi : P.info? e = some i) (hz : i.zero = some z)
    (hsize : i.size = size) (hby : i.bytes = bytes) (hzs : z.cells.size = size) (hsz : 0 < size)
    (v : Value) (n : Nat) (xs : List Value) (hs : a.eval s = v) (hown : w.ownsRow base e size v n xs)
    (xv : Value) (hx : a.eval x = xv) (m : Nat) (news : List Value) (hsrc : Src P size tx xv m news w)
    (h63 : n + m ≤ maxLen) (hbytes : (n + m) * bytes ≤ 140737488355328) (hbase : base ≤ w.heap.size)
    (h : ∀ v2 w2, w2.ownsRow base e size v2 (n + m) (xs ++ news) → w.grownBy w2 v.ownBlock → (v2.ownBlock = v.ownBlock ∨ v2.ownBlock = some w.heap.size) → K (a.put o.dst v2) w2) : o.wp P a w K Q := by
  obtain ⟨v2, w2, hr, h2, h3, h4⟩ := run_app (P := P) w base t tx o.type e i z size bytes ht hi hz hsize hby hzs hsz v n xs hown xv m news hsrc h63 hbytes hbase
  unfold Oper.wp execOp
  simp only [ho, resolve, invoke, builtin, Sem.run_bind, Sem.run_pure, Result.andThen_ok, List.map_toArray, List.map_cons, List.map_nil, hs, hx, hr]
  exact h v2 w2 h2 h3 h4

set_option maxRecDepth 100000 in
theorem bits_u8 (x y : UInt8) : bits .xor .u8 (x.toNat : Int) (y.toNat : Int) = (((x ^^^ y).toNat : Nat) : Int) ∧ bits .or .u8 (x.toNat : Int) (y.toNat : Int) = (((x ||| y).toNat : Nat) : Int) := by
  refine ⟨xor_u8 x y, ?_⟩
  have h1 := x.toNat_lt
  have h2 := y.toNat_lt
  have x3 : x.toNat ||| y.toNat < 2 ^ 8 := Nat.or_lt_two_pow (by omega) (by omega)
  have e1 : (BitVec.ofInt 8 (x.toNat : Int)).toNat = x.toNat := by
    rw [BitVec.ofInt_natCast, BitVec.toNat_ofNat]; exact Nat.mod_eq_of_lt (by omega)
  have e2 : (BitVec.ofInt 8 (y.toNat : Int)).toNat = y.toNat := by
    rw [BitVec.ofInt_natCast, BitVec.toNat_ofNat]; exact Nat.mod_eq_of_lt (by omega)
  show IntKind.u8.wrap ((BitVec.ofInt 8 (x.toNat : Int) ||| BitVec.ofInt 8 (y.toNat : Int)).toNat : Int) = _
  rw [BitVec.toNat_or, e1, e2, UInt8.toNat_or, IntKind.wrap_u8]; omega
set_option maxRecDepth 100000 in
theorem or_zero (u x y : UInt8) : u ||| (x ^^^ y) = 0 ↔ u = 0 ∧ x = y := by
  constructor
  · intro h
    constructor
    · have := congrArg UInt8.toBitVec h
      apply UInt8.eq_of_toBitVec_eq
      simp at this ⊢
      bv_omega
    · have := congrArg UInt8.toBitVec h
      apply UInt8.eq_of_toBitVec_eq
      simp at this ⊢
      bv_omega
  · rintro ⟨rfl, rfl⟩
    simp
set_option maxRecDepth 100000 in
theorem took (x y : List UInt8) (k : Nat) (hx : k < x.length) (hy : k < y.length) : (x.take (k + 1) = y.take (k + 1)) ↔ x.take k = y.take k ∧ x[k] = y[k] := by
  rw [List.take_succ_eq_append_getElem hx, List.take_succ_eq_append_getElem hy]
  constructor
  · intro h
    have := List.append_inj h (by simp; omega)
    exact ⟨this.1, by simpa using this.2⟩
  · rintro ⟨h1, h2⟩
    rw [h1, h2]

end Go.Proofs.YtikdgjgcopjocaaDoor
namespace Go.Proofs.YtikdgjgcopjocaaDoor
open Go.RowKit
set_option linter.unusedVariables false

set_option maxRecDepth 100000 in
/-- The string of one byte, built in a block of its own. -/
theorem str_one (W : World) (y : UInt8) (b : Nat) (c : Nat) {t : TypeId} {fr : Nat × Nat} (h : W.heap[b]? = some (.cells #[.int .u8 (y.toNat : Int)] t fr)) : (convert 22 9 (.slice (some ⟨b, 0, none⟩) 1 c)).run Tryd.prog W = .ok (.string ⟨#[y]⟩) W := by
  have hL : Lies W (some ⟨b, 0, none⟩) [y] := Or.inr ⟨b, 0, rfl, fun j hj => by
    match j, hj with
    | 0, _ => rw [cell_of_block h]; rfl⟩
  exact run_str hL c 9 Tryd.underlying9
set_option maxRecDepth 100000 in
theorem xor_byte (x y : UInt8) : bits .xor .u8 (x.toNat : Int) (y.toNat : Int) = ((x ^^^ y).toNat : Int) := by
  have h1 := x.toNat_lt
  have h2 := y.toNat_lt
  have x3 : x.toNat ^^^ y.toNat < 2 ^ 8 := Nat.xor_lt_two_pow (by omega) (by omega)
  have e1 : (BitVec.ofInt 8 (x.toNat : Int)).toNat = x.toNat := by
    rw [BitVec.ofInt_natCast, BitVec.toNat_ofNat]; exact Nat.mod_eq_of_lt (by omega)
  have e2 : (BitVec.ofInt 8 (y.toNat : Int)).toNat = y.toNat := by
    rw [BitVec.ofInt_natCast, BitVec.toNat_ofNat]; exact Nat.mod_eq_of_lt (by omega)
  show IntKind.u8.wrap ((BitVec.ofInt 8 (x.toNat : Int) ^^^ BitVec.ofInt 8 (y.toNat : Int)).toNat : Int) = _
  rw [BitVec.toNat_xor, e1, e2, UInt8.toNat_xor, IntKind.wrap_u8]
  omega
set_option maxRecDepth 100000 in
theorem xor_take (f : Nat → UInt8) (b : UInt8) (j : Nat) (hj : j < 64) : (HM.xor f b).take (j + 1) = (HM.xor f b).take j ++ [f j ^^^ b] := by
  rw [List.take_succ_eq_append_getElem (by rw [HM.xor_length]; omega)]
  simp [HM.xor]
set_option maxRecDepth 100000 in
theorem lit44 (f : Nat → Value) : ((List.range 44).map f).toArray = #[f 0, f 1, f 2, f 3, f 4, f 5, f 6, f 7, f 8, f 9, f 10, f 11, f 12, f 13, f 14, f 15, f 16, f 17, f 18, f 19, f 20, f 21, f 22, f 23, f 24, f 25, f 26, f 27, f 28, f 29, f 30, f 31, f 32, f 33, f 34, f 35, f 36, f 37, f 38, f 39, f 40, f 41, f 42, f 43] := by kernel_rfl
set_option maxRecDepth 100000 in
theorem byte_at (kk : List UInt8) (i : Nat) (h : i < kk.length) (h2 : i < (⟨kk.toArray⟩ : ByteArray).size) : (⟨kk.toArray⟩ : ByteArray)[i] = kk.getD i 0 := by
  rw [List.getD_eq_getElem?_getD, List.getElem?_eq_getElem h]
  show kk.toArray[i] = _
  simp
set_option maxRecDepth 100000 in
theorem conv1 (y : UInt8) (v : Int) (hv : v = (y.toNat : Int)) (W : World) : (convert 22 9 (.slice (some ⟨W.heap.size, 0, none⟩) 1 1)).run Tryd.prog (W.alloc (.cells #[.int .u8 v] 5)).drew = .ok (.string ⟨#[y]⟩) (W.alloc (.cells #[.int .u8 v] 5)).drew :=
  str_one _ y _ 1 (by rw [hv]; exact heap_alloc_new W _)
set_option maxRecDepth 100000 in
theorem conv2 (y : UInt8) (v : Int) (hv : v = (y.toNat : Int)) (W : World) (A : Obj) : (convert 22 9 (.slice (some ⟨W.heap.size + 1, 0, none⟩) 1 1)).run Tryd.prog ((W.alloc A).alloc (.cells #[.int .u8 v] 5)).drew = .ok (.string ⟨#[y]⟩) ((W.alloc A).alloc (.cells #[.int .u8 v] 5)).drew :=
  str_one _ y _ 1 (by rw [hv]; exact heap_alloc2_new W _ _)
set_option maxRecDepth 100000 in
theorem conv3 (y : UInt8) (v : Int) (hv : v = (y.toNat : Int)) (W : World) (A : Obj) : (convert 22 9 (.slice (some ⟨W.heap.size, 0, none⟩) 1 1)).run Tryd.prog ((W.alloc (.cells #[.int .u8 v] 5)).alloc A).drew = .ok (.string ⟨#[y]⟩) ((W.alloc (.cells #[.int .u8 v] 5)).alloc A).drew :=
  str_one _ y _ 1 (by rw [hv]; exact heap_alloc2_old W _ _)
end Go.Proofs.YtikdgjgcopjocaaDoor
namespace Go.Proofs.YtikdgjgcopjocaaDoor
open Go.RowKit
set_option linter.unusedVariables false

/-- The bytes of the known example. -/
def jefe : List UInt8 := [74, 101, 102, 101]
def what : List UInt8 := [119, 104, 97, 116, 32, 100, 111, 32, 121, 97, 32, 119, 97, 110, 116, 32]
def noth : List UInt8 := [102, 111, 114, 32, 110, 111, 116, 104, 105, 110, 103, 63]
set_option maxRecDepth 100000 in
theorem mark_jefe : ((S2.sum (HM.out jefe (what ++ noth))).getD 0 0, (S2.sum (HM.out jefe (what ++ noth))).getD 1 0, (S2.sum (HM.out jefe (what ++ noth))).getD 31 0) = (0x5B, 0xDC, 0x43) := by kernel_rfl

set_option maxRecDepth 100000 in
theorem const_came {w : World} {b n : Nat} {l : List UInt8} {t : TypeId} {fr : Nat × Nat} (h : w.heap[b]? = some (.cells (bv l).toArray t fr)) (hn : l.length = n) (hm : n ≤ maxLen) : Came w (some ⟨b, 0, none⟩) n n l := by
  subst hn
  refine ⟨rfl, Nat.le_refl _, hm, Or.inr ⟨b, 0, rfl, fun j hj => ?_⟩, fun h => by cases h⟩
  rw [Nat.zero_add, cell_of_block h, List.getElem?_toArray, bv_get' _ _ hj]

set_option maxRecDepth 100000 in
theorem eJ : (#[.int .u8 74, .int .u8 101, .int .u8 102, .int .u8 101] : Array Value) = (bv jefe).toArray := by kernel_rfl
set_option maxRecDepth 100000 in
theorem eW : (#[.int .u8 119, .int .u8 104, .int .u8 97, .int .u8 116, .int .u8 32, .int .u8 100, .int .u8 111, .int .u8 32, .int .u8 121, .int .u8 97, .int .u8 32, .int .u8 119, .int .u8 97, .int .u8 110, .int .u8 116, .int .u8 32] : Array Value) = (bv what).toArray := by kernel_rfl
set_option maxRecDepth 100000 in
theorem eN : (#[.int .u8 102, .int .u8 111, .int .u8 114, .int .u8 32, .int .u8 110, .int .u8 111, .int .u8 116, .int .u8 104, .int .u8 105, .int .u8 110, .int .u8 103, .int .u8 63] : Array Value) = (bv noth).toArray := by kernel_rfl
end Go.Proofs.YtikdgjgcopjocaaDoor
namespace Go.Proofs.YtikdgjgcopjocaaDoor
open Go.RowKit
set_option linter.unusedVariables false

end Go.Proofs.YtikdgjgcopjocaaDoor
namespace Go.Proofs.YtikdgjgcopjocaaDoor
open Go.RowKit
set_option linter.unusedVariables false

/-- Byte j of a number in eight bytes. -/
def b8 (u j : Nat) : UInt8 := UInt8.ofNat (u / 2 ^ (56 - 8 * j))
set_option maxRecDepth 100000 in
theorem b8_list (u : Nat) : (List.range 8).map (b8 u) = S2.be8 u := rfl
set_option maxRecDepth 100000 in
theorem b8_val (u j : Nat) : (u : Int) / 2 ^ (56 - 8 * j) % 256 = ((b8 u j).toNat : Int) := by
  unfold b8
  rw [UInt8.toNat_ofNat']
  simp
set_option maxRecDepth 100000 in
theorem wrap_u64_nat (z : Int) : ∃ u : Nat, IntKind.u64.wrap z = (u : Int) := ⟨(IntKind.u64.wrap z).toNat, by rw [IntKind.wrap_u64]; omega⟩
set_option maxRecDepth 100000 in
set_option maxHeartbeats 800000 in
theorem eight_any (z : Int) (u : Nat) (hu : IntKind.u64.wrap z = (u : Int)) (w : World) :
    Calls Tryd.prog 23 #[.int .i64 z] w fun e w' => e = .returned (.string ⟨(S2.be8 u).toArray⟩) ∧ Fr (fun _ => False) w w' := by
  go_enter Tryd.func23, Tryd.ntmps23
  go_wp2_with fail
  go_loopw [3, 4] (fun v i wx => ∃ j : Nat, j ≤ 8 ∧ i = .int .i64 (56 - 8 * (j : Int)) ∧ v = .string ⟨((S2.be8 u).take j).toArray⟩ ∧ Fr (fun _ => False) w wx) (fun _ i _ => (intOf i + 8).toNat)
  case atStart => exact ⟨0, by omega, by simp, rfl, Fr.refl _ _⟩
  case round =>
    obtain ⟨j, hj, rfl, rfl, hF⟩ := hrel
    by_cases hlt : j < 8
    · have q1 : (0 : Int) ≤ 56 - 8 * (j : Int) := by omega
      have hbt := be8_take u j hlt
      have hv := b8_val u j
      have hl : ((S2.be8 u).take j).length = j := by rw [List.length_take]; simp [S2.be8]; omega
      rw [show UInt8.ofNat (u / 2 ^ (56 - 8 * j)) = b8 u j from rfl] at hbt
      generalize b8 u j = y at hbt hv
      generalize (S2.be8 u).take j = x0 at *
      have c1 : ∀ W : World, (Op.stringOp .add ⟨x0.toArray⟩ ⟨#[y]⟩).run Tryd.prog W = .ok (.string ⟨(x0 ++ [y]).toArray⟩) W := fun W => run_string_add_lists W x0 [y] (by omega) (by simp)
      have k1 : ∀ W : World, (convert 22 9 (.slice (some ⟨W.heap.size, 0, none⟩) 1 1)).run Tryd.prog (W.alloc (.cells #[.int .u8 (y.toNat : Int)] 5)) = .ok (.string ⟨#[y]⟩) (W.alloc (.cells #[.int .u8 (y.toNat : Int)] 5)) := fun W => str_one _ y _ 1 (heap_alloc_new W _)
      have HB := Lib.hid hbt
      clear hbt
      go_wp2_with fail
      exact ⟨⟨j + 1, by omega, by congr 1; omega, by rw [HB.out], hF.alloc _⟩, by simp [intOf]; omega⟩
    · obtain rfl : j = 8 := by omega
      have e8 : (S2.be8 u).take 8 = S2.be8 u := rfl
      rw [e8]
      go_wp2_with fail
      go_ret
      exact ⟨rfl, hF⟩
end Go.Proofs.YtikdgjgcopjocaaDoor
namespace Go.Proofs.YtikdgjgcopjocaaDoor
open Go.RowKit
set_option linter.unusedVariables false

@[simp] theorem bw_size (w : World) (s : ByteArray) : (Lib.bytesWorld w 5 s).heap.size = w.heap.size + 1 := Lib.bytesWorld_size _ _ _
set_option maxRecDepth 100000 in
theorem parts3 {w : World} {b : Nat} {a a2 a3 : Option Addr} {n n2 n3 c c2 c3 : Nat} {x y z : List UInt8} {t : TypeId} {fr : Nat × Nat} (h : w.heap[b]? = some (.cells #[.slice a n c, .slice a2 n2 c2, .slice a3 n3 c3] t fr)) (hx : Came w a n c x) (hy : Came w a2 n2 c2 y) (hz : Came w a3 n3 c3 z) : Parts w (some ⟨b, 0, none⟩) [x, y, z] := by
  refine Or.inr ⟨b, 0, rfl, fun j hj => ?_⟩
  match j, hj with
  | 0, _ => exact ⟨a, c, by rw [cell_of_block h]; simp [hx.len], hx.lies, by have := hx.le; have := hx.len; simp; omega, hx.mx⟩
  | 1, _ => exact ⟨a2, c2, by rw [cell_of_block h]; simp [hy.len], hy.lies, by have := hy.le; have := hy.len; simp; omega, hy.mx⟩
  | 2, _ => exact ⟨a3, c3, by rw [cell_of_block h]; simp [hz.len], hz.lies, by have := hz.le; have := hz.len; simp; omega, hz.mx⟩
set_option maxRecDepth 100000 in
theorem came_conv (s : List UInt8) (hs : s.length ≤ 1000) (w : World) (b : Nat) (hb : b = w.heap.size) {W : World} (hF : Fr (fun _ => False) (Lib.bytesWorld w 5 ⟨s.toArray⟩) W) : Came W (some ⟨b, 0, none⟩) s.length (grownCap w s.length 0 5) s := by
  subst hb
  have hsz : (⟨s.toArray⟩ : ByteArray).size = s.length := by show s.toArray.size = _; simp
  have h := own_str w ⟨s.toArray⟩ w.heap.size (Nat.le_refl _) (by rw [hsz]; omega)
  rw [hsz] at h
  have e : sb ⟨s.toArray⟩ = s := by simp [sb]
  rw [e] at h
  obtain ⟨_, h1, h2, h3⟩ := h.lies
  exact (show Came (Lib.bytesWorld w 5 ⟨s.toArray⟩) _ _ _ s from ⟨rfl, h1, h2, h3, fun e => by cases e⟩).grow hF (fun _ _ h => h)
set_option maxRecDepth 100000 in
theorem came_blk {W : World} {b n : Nat} {l : List UInt8} {cs : Array Value} {t : TypeId} {fr : Nat × Nat} (h : W.heap[b]? = some (.cells cs t fr)) (hcs : cs = (bv l).toArray) (hn : l.length = n) (hm : n ≤ 1000) : Came W (some ⟨b, 0, none⟩) n n l := by
  refine ⟨hn, Nat.le_refl _, by unfold maxLen; omega, Or.inr ⟨b, 0, rfl, fun j hj => ?_⟩, fun e => by cases e⟩
  rw [Nat.zero_add, cell_of_block h, hcs]
  simpa using bv_get' l j hj
set_option maxRecDepth 100000 in
theorem heap_alloc_at (V : World) (cs : Array Value) (t : TypeId) (b : Nat) (hb : b = V.heap.size) : (V.alloc (.cells cs t)).heap[b]? = some (.cells cs t (0, 0)) := by
  subst hb; exact heap_alloc_new V _
set_option maxRecDepth 100000 in
theorem ub_bv (n : Nat) (f : Nat → UInt8) : ub n f = (bv ((List.range n).map f)).toArray := by
  rw [← ub_toList]
end Go.Proofs.YtikdgjgcopjocaaDoor
namespace Go.Proofs.YtikdgjgcopjocaaDoor
open Go.RowKit
set_option linter.unusedVariables false

set_option maxRecDepth 100000 in
set_option maxHeartbeats 800000 in
theorem lnumber_any (z : Int) (u : Nat) (hu : IntKind.u64.wrap z = (u : Int)) (w : World) :
    Calls Tryd.prog 24 #[.int .i64 z] w fun e w' => e = .returned (.slice (some ⟨w.heap.size, 0, none⟩) 8 8) ∧ w'.heap[w.heap.size]? = some (.cells (ub 8 (b8 u)) 5 (0, 0)) ∧ Fr (fun _ => False) w w' := by
  have hmk : ∀ w : World, (Instr.makeSlice 22 (.int .i64 8) (.int .i64 8)).run Tryd.prog w = .ok (.slice (some ⟨w.heap.size, 0, none⟩) 8 8) (w.alloc (.cells (ub 8 (fun _ => 0)) 5)) := fun _ => by kernel_rfl
  go_enter Tryd.func24, Tryd.ntmps24
  go_wp2_with fail
  clear hmk
  go_loopw [8] (fun i wr => ∃ k : Nat, k ≤ 8 ∧ i = .int .i64 k ∧ wr.heap[w.heap.size]? = some (.cells (ub 8 (fun j => if j < k then b8 u j else 0)) 5 (0, 0)) ∧ Fr (fun _ => False) w wr) (fun i _ => 8 - (intOf i).toNat)
  case atStart => exact ⟨0, by omega, by simp, heap_alloc_new w _, (Fr.refl _ w).alloc _⟩
  case round =>
    obtain ⟨k, hk, rfl, hB, hF⟩ := hrel
    by_cases hlt : k < 8
    · have q0 : (0 : Int) ≤ (k : Int) := by omega
      have q1 : (k : Int) < 8 := by omega
      have q2 : (0 : Int) ≤ 56 - 8 * (k : Int) := by omega
      have hv := b8_val u k
      have hc := cell_of_block hB k
      rw [ub_get 8 _ k hlt] at hc
      have hfz := free_of_block hB k
      have hst : (wr.setCell ⟨w.heap.size, k, none⟩ (.int .u8 ((b8 u k).toNat : Int))).heap[w.heap.size]? = some (.cells (ub 8 (fun j => if j < k + 1 then b8 u j else 0)) 5 (0, 0)) := by
        rw [block_setCell hB k, ub_set 8 _ k _ hlt]
        congr 3
        funext j
        by_cases e : j = k
        · subst e; simp
        · rw [if_neg e]
          by_cases e2 : j < k
          · rw [if_pos e2, if_pos (by omega)]
          · rw [if_neg e2, if_neg (by omega)]
      have hF2 : Fr (fun _ => False) w (wr.setCell ⟨w.heap.size, k, none⟩ (.int .u8 ((b8 u k).toNat : Int))) := hF.setCell (Or.inr (Nat.le_refl _)) _
      generalize b8 u k = y at hv hst hF2
      have HS := Lib.hid hst
      clear hst hB
      go_wp2_with fail
      exact ⟨⟨k + 1, by omega, rfl, HS.out, hF2⟩, by simp [intOf]; omega⟩
    · obtain rfl : k = 8 := by omega
      have e : ub 8 (fun j => if j < 8 then b8 u j else 0) = ub 8 (b8 u) := ub_congr (fun j hj => by rw [if_pos hj])
      rw [e] at hB
      have HB := Lib.hid hB
      clear e hB
      go_wp2_with fail
      go_ret
      exact ⟨rfl, HB.out, hF⟩
/-- What an opening is the mark of; what a bound value is the mark of. -/
def CM.opn : List UInt8 := [111, 112, 101, 110]
def CM.mo (ix : List UInt8) (u : Nat) : List UInt8 := CM.opn ++ ix ++ S2.be8 u
def CM.mb (ix : List UInt8) (u : Nat) (v : List UInt8) : List UInt8 := ix ++ S2.be8 u ++ v
set_option maxRecDepth 100000 in
set_option maxHeartbeats 800000 in
theorem rfirst_any (id : List UInt8) (hk : id.length ≤ 100000) (w : World) (hR : REnv w) :
    Calls Tryd.prog 10 #[.string ⟨id.toArray⟩] w fun e w' => e = .returned (.string ⟨(S2.sum (4 :: id)).toArray⟩) ∧ Fr (fun _ => False) w w' := by
  have c1 : ∀ W : World, (Op.stringOp .add ⟨#[4]⟩ ⟨id.toArray⟩).run Tryd.prog W = .ok (.string ⟨(4 :: id).toArray⟩) W := fun W => run_string_add_lists W [4] id (by simp) (by omega)
  have hks : (⟨(4 :: id).toArray⟩ : ByteArray).size ≤ 1000000000000 := by show (4 :: id).toArray.size ≤ _; simp; omega
  have SK : sb ⟨(4 :: id).toArray⟩ = 4 :: id := by simp [sb]
  generalize (4 :: id : List UInt8) = x at *
  go_enter Tryd.func10, Tryd.ntmps10
  go_wp2_with fail
  refine (rsum_any ⟨x.toArray⟩ hks w hR).mono ?_
  rw [SK]
  rintro e w1 ⟨rfl, F1⟩
  go_wp2_with fail
  go_ret
  exact ⟨rfl, F1⟩
set_option maxRecDepth 100000 in
theorem one_any (z : Int) (y : UInt8) (hy : IntKind.u8.wrap z = (y.toNat : Int)) (w : World) :
    Calls Tryd.prog 29 #[.int .i64 z] w fun e w' => e = .returned (.string ⟨#[y]⟩) ∧ Fr (fun _ => False) w w' := by
  have k1 : ∀ W : World, (convert 22 9 (.slice (some ⟨W.heap.size, 0, none⟩) 1 1)).run Tryd.prog (W.alloc (.cells #[.int .u8 (y.toNat : Int)] 5)) = .ok (.string ⟨#[y]⟩) (W.alloc (.cells #[.int .u8 (y.toNat : Int)] 5)) := fun W => str_one _ y _ 1 (heap_alloc_new W _)
  go_enter Tryd.func29, Tryd.ntmps29
  go_wp2_with fail
  go_ret
  exact ⟨rfl, (Fr.refl _ w).alloc _⟩
end Go.Proofs.YtikdgjgcopjocaaDoor

/-
  The contracts of slices.Grow (of nil) and slices.Concat over bytes.
  The contract of bind of package commit.
  Bytes of a constant, marked in whatever world; the contract of Make and Check of package commit.
  The texts of a chain: the document's and the program's.
  Text and Next of package chain.
  The law's own look at a chain's texts.
-/
import Derived.Test.YtikdgjgcopjocaaDoorOz
import Derived.Test.YtikdgjgcopjocaaDoorHm
import Derived.Lib.Hide
import Derived.Test.YtikdgjgcopjocaaDoorQHa
import Derived.Deep.RegionWith
namespace Go.Proofs.YtikdgjgcopjocaaDoor
open Go.RowKit
set_option linter.unusedVariables false

set_option maxRecDepth 100000 in
theorem Own.zero {w : World} {B n c : Nat} {a : Option Addr} {l : List UInt8} (h : Own w B (.slice a n c) l) : Own w B (.slice a 0 c) [] := by
  rcases h with ⟨e, rfl⟩ | ⟨g, cap, cur, fz, e, h1, h2, h3, h4, h5, h6, h7⟩
  · cases e; exact Or.inl ⟨rfl, rfl⟩
  · cases e; exact Or.inr ⟨g, _, cur, fz, rfl, h1, h2, h3, Nat.zero_le _, h5, h6, rfl⟩
set_option maxRecDepth 100000 in
theorem Fr.grown0 {w w2 : World} {v : Value} (h : w.grownBy w2 v.ownBlock) (hv : ∀ k, v.ownBlock = some k → w.heap.size ≤ k) : Fr (fun _ => False) w w2 :=
  (Fr.refl (fun _ => False) w).trans (Fr.ofGrown h) (fun i hi => Or.inr (hv i hi))
set_option maxRecDepth 100000 in
theorem grow_any (n : Nat) (h0 : 0 < n) (hn : n ≤ 1000000) (w : World) :
    Calls Tryd.prog 30 #[.slice none 0 0, .int .i64 n] w fun e w' => ∃ a c, e = .returned (.slice a 0 c) ∧ Own w' w.heap.size (.slice a 0 c) [] ∧ Fr (fun _ => False) w w' := by
  have q0 : (0 : Int) ≤ (n : Int) := by omega
  have q1 : ¬ ((n : Int) < 0) := by omega
  have q2 : (n : Int) ≤ 1000000 := by omega
  have q3 : (0 : Int) < (n : Int) := by omega
  go_enter Tryd.func30, Tryd.ntmps30
  obtain ⟨v2, w2, hr, own, gr, hb⟩ := run_own_zeros w w.heap.size 22 3 .i64 .i64 Tryd.underlying3 (.slice none 0 0) [] n (Or.inl ⟨rfl, rfl⟩) (by simpa using hn) (Nat.le_refl _)
  rw [List.nil_append] at own
  obtain ⟨a, c, rfl⟩ := own.slice
  rw [nl] at own hr hb
  have hc1 := own.lies.2.1
  have hF := Fr.grown0 gr (fun k hk => by cases hk)
  have own2 := own.zero
  clear own hb
  go_wp2_with (at_builtin; refine Lib.wpList_append_run _ rfl _ _ _ _ rfl _ _ rfl rfl _ _ hr ?_)
  go_ret
  exact ⟨_, _, rfl, own2, hF⟩
set_option maxRecDepth 100000 in
theorem cat_take (L : List (List UInt8)) (q : Nat) (h : q < L.length) : (L.take (q + 1)).flatten = (L.take q).flatten ++ L[q] := by
  rw [List.take_succ_eq_append_getElem h, List.flatten_append]; simp
set_option maxRecDepth 100000 in
theorem cat_take_le (L : List (List UInt8)) (q : Nat) : (L.take q).flatten.length ≤ L.flatten.length := by
  have e3 : L.flatten = (L.take q).flatten ++ (L.drop q).flatten := by rw [← List.flatten_append, List.take_append_drop]
  rw [e3, List.length_append]; omega
set_option maxRecDepth 100000 in
set_option maxHeartbeats 1600000 in
theorem concat_any (a2 : Option Addr) (L : List (List UInt8)) (m c2 : Nat) (w : World) (hp : Parts w a2 L) (hm : L.length = m) (hm2 : m ≤ 1000) (h0 : 0 < L.flatten.length) (hl : L.flatten.length ≤ 1000000) :
    Calls Tryd.prog 25 #[.slice a2 m c2] w fun e w' => ∃ a c, e = .returned (.slice a L.flatten.length c) ∧ Own w' w.heap.size (.slice a L.flatten.length c) L.flatten ∧ Fr (fun _ => False) w w' := by
  have hm3 : m ≤ 9223372036854775807 := by omega
  obtain ⟨N, hN⟩ : ∃ N, N = L.flatten.length := ⟨_, rfl⟩
  rw [← hN] at h0 hl ⊢
  have HN := Lib.hid hN
  clear hN
  go_enter Tryd.func25, Tryd.ntmps25
  go_wp2_with fail
  go_loopw [3, 11] (fun s i wr => ∃ q : Nat, q ≤ m ∧ i = .int .i64 q ∧ s = .int .i64 ((L.take q).flatten.length : Nat) ∧ wr = w) (fun _ i _ => m - (intOf i).toNat)
  case atStart => exact ⟨0, by omega, by simp, by simp, rfl⟩
  case round =>
    obtain ⟨q, hq, rfl, rfl, hwr⟩ := hrel
    rw [hwr]
    clear hwr wr
    by_cases hlt : q < m
    · have hkL : q < L.length := by omega
      have e2 := cat_take L q hkL
      have e3 := cat_take_le L (q + 1)
      rw [← HN.out] at e3
      have e4 : (L.take q).flatten.length + L[q].length ≤ 1000000 := by rw [e2, List.length_append] at e3; omega
      have e5 : (L.take (q + 1)).flatten.length = (L.take q).flatten.length + L[q].length := by rw [e2, List.length_append]
      obtain ⟨g, o, ha, hc⟩ := hp.resolve_left (fun e => by rw [e] at hm; simp at hm; omega)
      obtain ⟨aj, cj, h1, h2, h3, h4⟩ := hc q hkL
      subst ha
      generalize hz : (L.take q).flatten.length = z at *
      generalize hy : L[q].length = y at *
      have ez := Lib.hid e5
      have t1 : decide ((q : Int) < (m : Int)) = true := by simp; omega
      have t2 : decide (((z : Int) + (y : Int)) < 0) = false := by simp; omega
      clear e5 e2 e3 hc hy hz hp h2 h3 h4 hkL
      go_wp2_with fail
      refine ⟨⟨q + 1, by omega, by go_num, ?_, trivial⟩, by simp [intOf]; omega⟩
      rw [ez.out]
      go_num
    · obtain rfl : q = m := by omega
      have hLm : L.take q = L := List.take_of_length_le (by omega)
      rw [hLm, ← HN.out]
      go_wp2_with fail
      with_reducible refine (grow_any N h0 hl _).mono ?_
      rintro e w1 ⟨a1, c1, rfl, own1, F1⟩
      go_wp2_with fail
      go_loopw [6, 27] (fun v i wr => ∃ (r : Nat) (a : Option Addr) (c : Nat), r ≤ q ∧ i = .int .i64 r ∧ v = .slice a (L.take r).flatten.length c ∧ Own wr w.heap.size v (L.take r).flatten ∧ Fr (fun _ => False) w wr) (fun _ i _ => q - (intOf i).toNat)
      case atStart => exact ⟨0, a1, c1, by omega, by simp, by simp, by simpa using own1, F1⟩
      case round =>
        obtain ⟨r, a, c, hr, rfl, rfl, hO, hF⟩ := hrel
        by_cases hlt : r < q
        · have hkL : r < L.length := by omega
          have e2 := cat_take L r hkL
          have e3 := cat_take_le L (r + 1)
          rw [← HN.out] at e3
          obtain ⟨g, o, ha, hc⟩ := hp.resolve_left (fun e => by rw [e] at hm; simp at hm; omega)
          obtain ⟨aj, cj, h1, h2, h3, h4⟩ := hc r hkL
          subst ha
          obtain ⟨p, hpp⟩ : ∃ p, p = L[r] := ⟨_, rfl⟩
          rw [← hpp] at e2 h1 h2 h3
          have e4 : (L.take r).flatten.length + p.length ≤ 1000000 := by rw [e2, List.length_append] at e3; omega
          have h1' := hF.cellSome (p := ⟨g, o + r, none⟩) (fun h => h) h1
          have hsrc : Src Tryd.prog 1 22 (.slice aj p.length cj) p.length (bv p) wr := (h2.grow hF).src cj
          have hb1 : (L.take r).flatten.length + p.length ≤ 140737488355328 := by omega
          have hz := hF.size
          generalize (L.take r).flatten = x at *
          have E2 := Lib.hid e2
          have HP := Lib.hid hp
          clear e2 e3 hc hpp hkL hp h1 own1 F1
          go_wp2_with (at_builtin; refine wpList_own _ rfl (.tmp 31) (.tmp 32) 22 rfl w.heap.size (.slice a x.length c) x p rfl hO _ rfl hsrc hb1 hz ?k)
          case k =>
          intro v2 w2 own2 hg2 hb2
          obtain ⟨a3, c3, rfl⟩ := own2.slice
          have F2 : Fr (fun _ => False) w w2 := hF.trans (Fr.ofGrown hg2) (fun i hi => Or.inr (hO.lt i hi).1)
          rw [← E2.out] at own2 ⊢
          go_wp2_with fail
          exact ⟨⟨r + 1, a3, c3, by omega, by go_num, rfl, own2, F2⟩, by simp [intOf]; omega⟩
        · obtain rfl : r = q := by omega
          rw [hLm, ← HN.out] at hO ⊢
          go_wp2_with fail
          go_ret
          exact ⟨_, _, rfl, hO, hF⟩
end Go.Proofs.YtikdgjgcopjocaaDoor
namespace Go.Proofs.YtikdgjgcopjocaaDoor
open Go.RowKit
set_option linter.unusedVariables false

end Go.Proofs.YtikdgjgcopjocaaDoor
namespace Go.Proofs.YtikdgjgcopjocaaDoor
open Go.RowKit
set_option linter.unusedVariables false

set_option maxRecDepth 100000 in
theorem run_conv_mark {W : World} {b : Nat} {C : Array Value} (h : W.heap[b]? = some (.cells C 5 (0, 0))) (n c : Nat) : ∃ W', (convert 22 22 (.slice (some ⟨b, 0, none⟩) n c)).run Tryd.prog W = .ok (.slice (some ⟨b, 0, none⟩) n c) W' ∧ W'.heap[b]? = some (.cells C 5 (C.size, C.size + 1)) ∧ Fr (fun k => k = b) W W' := by
  have hsh : W.shape? b = some (5, C.size) := by unfold World.shape?; rw [h]
  have e : W.freeze ⟨b, C.size, none⟩ 1 = { W with heap := W.heap.modify b fun
      | .cells c elem (lo, hi) => .cells c elem (if lo == hi then (C.size, C.size + 1) else (min lo C.size, max hi (C.size + 1)))
      | o => o } := by
    unfold World.freeze
    rw [if_neg (by decide)]
    rfl
  refine ⟨W.freeze ⟨b, C.size, none⟩ 1, ?_, ?_, ?_⟩
  · simp [convert, run_underlying Tryd.underlying22, run_underlying Tryd.underlying5, markStringish, hsh]
  · rw [e]
    show (W.heap.modify b _)[b]? = _
    have hlt := lt_of_block h
    have h' : W.heap[b] = .cells C 5 (0, 0) := by simpa [Array.getElem?_eq_getElem hlt] using h
    rw [Array.getElem?_eq_getElem (by simpa using hlt), Array.getElem_modify_self, h']
    rfl
  · rw [e]
    refine ⟨rfl, rfl, rfl, by simp, fun k hk hs => ?_⟩
    show (W.heap.modify b _)[k]? = _
    rw [Array.getElem?_modify, if_neg (fun e => hs e.symm)]
set_option maxRecDepth 100000 in
theorem wpList_conv_mark {ops : Array Oper} {rest : List Oper} {o : Oper} {a : Act} {w : World} {Q : Exit → Act → World → Prop} (hgd : o.guard = none) (x : Operand) (ho : o.op = .convert 22 22 x) (b n c : Nat) (C : Array Value) (hx : a.eval x = .slice (some ⟨b, 0, none⟩) n c) (hb : w.heap[b]? = some (.cells C 5 (0, 0)))
    (h : ∀ w', w'.heap[b]? = some (.cells C 5 (C.size, C.size + 1)) → Fr (fun k => k = b) w w' → wpList Tryd.prog ops Q rest (a.put o.dst (.slice (some ⟨b, 0, none⟩) n c)) w') : wpList Tryd.prog ops Q (o :: rest) a w := by
  refine wpList_plain hgd fun _ hK => ?_
  obtain ⟨w2, hr, h2, h3⟩ := run_conv_mark hb n c
  unfold Oper.wp execOp
  simp only [ho, Sem.run_bind, Sem.run_pure, Result.andThen_ok, hx, hr]
  exact hK _ _ (h w2 h2 h3)

set_option maxRecDepth 100000 in
theorem heap_alloc_o (V : World) (o : Obj) (b : Nat) (hb : b = V.heap.size) : (V.alloc o).heap[b]? = some o := by
  subst hb; exact heap_alloc_new V o
set_option maxRecDepth 100000 in
theorem run_store32o {w : World} {b : Nat} {cs : Array Value} {f : Nat → UInt8} {t : TypeId} (h : w.heap[b]? = some (.cells cs t (0, 0))) (hs : cs.size = 32) : (storeCells ⟨b, 0, none⟩ (ub 32 f).toList).run Tryd.prog w = .ok () (w.setRow b (ub 32 f)) := by
  have h1 := ub_size 32 f
  have hone : (ub 32 f).all (·.oneCell') = true := ub_one _ _
  have := run_storeCells_at Tryd.prog b 0 t (ub 32 f).toList 0 cs w h (by simp [hs]; exact Nat.le_of_eq h1) (fun v hv => (Array.all_eq_true_iff_forall_mem.1 hone) v (by simpa using hv))
  simp only [Nat.add_zero, List.take_zero, List.nil_append, Nat.zero_add] at this
  rw [this]
  have e : cs.toList.drop (ub 32 f).toList.length = [] := List.drop_eq_nil_of_le (by rw [Array.length_toList, Array.length_toList, hs]; exact Nat.le_of_eq h1.symm)
  rw [e]
  simp
set_option maxRecDepth 100000 in
theorem run_load32 {w : World} {b : Nat} {f : Nat → UInt8} {t : TypeId} {fr : Nat × Nat} (h : w.heap[b]? = some (.cells (ub 32 f) t fr)) : (loadCells ⟨b, 0, none⟩ 32).run Tryd.prog w = .ok (ub 32 f) w := by
  have := run_loadCells_list (P := Tryd.prog) w ⟨b, 0, none⟩ (ub 32 f).toList (fun j v hv => by
    rw [addr_add, Nat.zero_add, cell_of_block h, ← Array.getElem?_toList]
    exact hv)
  simpa [ub_size] using this
end Go.Proofs.YtikdgjgcopjocaaDoor
namespace Go.Proofs.YtikdgjgcopjocaaDoor
open Go.RowKit
set_option linter.unusedVariables false

/-- A text's bytes, its count ahead; the text of a link. -/
def CH.txt (l : List UInt8) : List UInt8 := [b8 l.length 6, b8 l.length 7] ++ l
def CH.text (id : List UInt8) (u : Nat) (r a : List UInt8) : List UInt8 := [3] ++ CH.txt id ++ S2.be8 u ++ r ++ a
set_option maxRecDepth 100000 in
theorem CH.text_length (id : List UInt8) (u : Nat) (r a : List UInt8) : (CH.text id u r a).length = id.length + 11 + r.length + a.length := by
  simp [CH.text, CH.txt, S2.be8]; omega
set_option maxRecDepth 100000 in
set_option maxHeartbeats 800000 in
theorem rtext4_any (s : List UInt8) (hs : s.length ≤ 60000) (w : World) :
    Calls Tryd.prog 22 #[.string ⟨s.toArray⟩] w fun e w' => e = .returned (.string ⟨(CH.txt s).toArray⟩) ∧ Fr (fun _ => False) w w' := by
  have hsz : (⟨s.toArray⟩ : ByteArray).size = s.length := by show s.toArray.size = _; simp
  obtain ⟨n, hn⟩ : ∃ n, n = s.length := ⟨_, rfl⟩
  have v6 : IntKind.u8.wrap ((n : Int) / 256) = ((b8 n 6).toNat : Int) := by rw [IntKind.wrap_u8]; exact b8_val n 6
  have v7 : IntKind.u8.wrap (n : Int) = ((b8 n 7).toNat : Int) := by
    rw [IntKind.wrap_u8]
    have := b8_val n 7
    simpa using this
  have c1 : ∀ W : World, (Op.stringOp .add ⟨#[b8 n 6]⟩ ⟨#[b8 n 7]⟩).run Tryd.prog W = .ok (.string ⟨([b8 n 6, b8 n 7] : List UInt8).toArray⟩) W := fun W => run_string_add_lists W [b8 n 6] [b8 n 7] (by simp) (by simp)
  have c2 : ∀ W : World, (Op.stringOp .add ⟨([b8 n 6, b8 n 7] : List UInt8).toArray⟩ ⟨s.toArray⟩).run Tryd.prog W = .ok (.string ⟨(CH.txt s).toArray⟩) W := fun W => by
    have := run_string_add_lists (P := Tryd.prog) W [b8 n 6, b8 n 7] s (by simp) (by omega)
    rw [hn] at this ⊢
    exact this
  rw [← hn] at hsz
  have hn2 : n ≤ 60000 := by omega
  generalize CH.txt s = t at *
  clear hn hs
  go_enter Tryd.func22, Tryd.ntmps22
  go_wp2_with fail
  refine (one_any _ (b8 n 6) ?h6 _).mono ?_
  case h6 => exact v6
  rintro e w1 ⟨rfl, F1⟩
  go_wp2_with fail
  refine (one_any _ (b8 n 7) ?h7 _).mono ?_
  case h7 => exact v7
  rintro e w2 ⟨rfl, F2⟩
  go_wp2_with fail
  go_ret
  exact ⟨rfl, F1.trans F2 (fun _ h => h.elim)⟩
set_option maxRecDepth 100000 in
set_option maxHeartbeats 1600000 in
theorem rctext_any (id r a : List UInt8) (z : Int) (u : Nat) (hu : IntKind.u64.wrap z = (u : Int)) (hs : id.length ≤ 60000) (hr : r.length ≤ 1000) (ha : a.length ≤ 1000) (w : World) :
    Calls Tryd.prog 8 #[.string ⟨id.toArray⟩, .int .i64 z, .string ⟨r.toArray⟩, .string ⟨a.toArray⟩] w fun e w' => e = .returned (.string ⟨(CH.text id u r a).toArray⟩) ∧ Fr (fun _ => False) w w' := by
  have htl : (CH.txt id).length = id.length + 2 := by simp [CH.txt]
  have hrt := fun W : World => rtext4_any id hs W
  have hb8 : (S2.be8 u).length = 8 := rfl
  obtain ⟨x0, hx0⟩ : ∃ x0, x0 = CH.txt id := ⟨_, rfl⟩
  rw [← hx0] at hrt htl
  obtain ⟨x1, hx1⟩ : ∃ x1, x1 = [3] ++ x0 := ⟨_, rfl⟩
  have l1 : x1.length = id.length + 3 := by rw [hx1, List.length_append, htl]; simp; omega
  have c1 : ∀ W : World, (Op.stringOp .add ⟨#[3]⟩ ⟨x0.toArray⟩).run Tryd.prog W = .ok (.string ⟨x1.toArray⟩) W := fun W => by rw [hx1]; exact run_string_add_lists W [3] x0 (by simp) (by omega)
  obtain ⟨x2, hx2⟩ : ∃ x2, x2 = x1 ++ S2.be8 u := ⟨_, rfl⟩
  have l2 : x2.length = id.length + 11 := by rw [hx2, List.length_append, l1, hb8]
  have c2 : ∀ W : World, (Op.stringOp .add ⟨x1.toArray⟩ ⟨(S2.be8 u).toArray⟩).run Tryd.prog W = .ok (.string ⟨x2.toArray⟩) W := fun W => by rw [hx2]; exact run_string_add_lists W x1 (S2.be8 u) (by omega) (by omega)
  obtain ⟨x3, hx3⟩ : ∃ x3, x3 = x2 ++ r := ⟨_, rfl⟩
  have l3 : x3.length = id.length + 11 + r.length := by rw [hx3, List.length_append, l2]
  have c3 : ∀ W : World, (Op.stringOp .add ⟨x2.toArray⟩ ⟨r.toArray⟩).run Tryd.prog W = .ok (.string ⟨x3.toArray⟩) W := fun W => by rw [hx3]; exact run_string_add_lists W x2 r (by omega) (by omega)
  obtain ⟨x4, hx4⟩ : ∃ x4, x4 = x3 ++ a := ⟨_, rfl⟩
  have c4 : ∀ W : World, (Op.stringOp .add ⟨x3.toArray⟩ ⟨a.toArray⟩).run Tryd.prog W = .ok (.string ⟨x4.toArray⟩) W := fun W => by rw [hx4]; exact run_string_add_lists W x3 a (by omega) (by omega)
  have he : CH.text id u r a = x4 := by rw [hx4, hx3, hx2, hx1, hx0]; rfl
  rw [he]
  clear hx0 hx1 hx2 hx3 hx4 l1 l2 l3 he hb8 htl
  go_enter Tryd.func8, Tryd.ntmps8
  go_wp2_with fail
  refine (hrt _).mono ?_
  rintro e w1 ⟨rfl, F1⟩
  go_wp2_with fail
  refine (eight_any z u hu _).mono ?_
  rintro e w2 ⟨rfl, F2⟩
  go_wp2_with fail
  go_ret
  exact ⟨rfl, F1.trans F2 (fun _ h => h.elim)⟩

set_option maxRecDepth 100000 in
theorem cfirst_any (a : Option Addr) (n c : Nat) (id : List UInt8) (w : World) (h : Came w a n c id) (hn : n ≤ 100000) (hE : Env w) :
    Calls Tryd.prog 6 #[.slice a n c] w fun e w' => e = .returned (.agg (sumc (4 :: id))) ∧ Fr (fun _ => False) w w' := by
  have hl := h.len
  go_enter Tryd.func6, Tryd.ntmps6
  go_wp2_with fail
  rw [zero32]
  have B0 := heap_three w (.cells (ub 32 (fun _ => 0)) 23) (.cells #[.int .u8 4] 5) (.cells #[.slice (some ⟨w.heap.size + 1, 0, none⟩) 1 1, .slice a n c] 22)
  have B1 := heap_three1 w (.cells (ub 32 (fun _ => 0)) 23) (.cells #[.int .u8 4] 5) (.cells #[.slice (some ⟨w.heap.size + 1, 0, none⟩) 1 1, .slice a n c] 22)
  have B2 := heap_three2 w (.cells (ub 32 (fun _ => 0)) 23) (.cells #[.int .u8 4] 5) (.cells #[.slice (some ⟨w.heap.size + 1, 0, none⟩) 1 1, .slice a n c] 22)
  have F0 := (((Fr.refl (fun _ => False) w).alloc (.cells (ub 32 (fun _ => 0)) 23)).alloc (.cells #[.int .u8 4] 5)).alloc (.cells #[.slice (some ⟨w.heap.size + 1, 0, none⟩) 1 1, .slice a n c] 22)
  generalize (((w.alloc (.cells (ub 32 (fun _ => 0)) 23)).alloc (.cells #[.int .u8 4] 5)).alloc (.cells #[.slice (some ⟨w.heap.size + 1, 0, none⟩) 1 1, .slice a n c] 22)) = w3 at *
  refine (psum_any _ [[4], id] 2 2 rfl _ (parts2 B2 (came_blk (l := [4]) B1 rfl rfl (by omega)) (h.grow F0 (fun _ _ h => h))) (by unfold maxLen; omega) (by simp; omega) (hE.fr F0 (fun h => h))).mono ?_
  rw [show ([[4], id] : List (List UInt8)).flatten = 4 :: id by simp]
  rintro e w4 ⟨rfl, F4⟩
  have B4 := (F4.block _ (lt_of_block B0) (fun h => h)).trans B0
  have hst := run_store32 (l := 4 :: id) B4 (ub_size _ _)
  have HB4 := Lib.hid B4
  clear B0 B1 B2 B4
  go_wp2_with fail
  refine bodyPost_ret (results_cell_row rfl _ _ w.heap.size 23 (sumc (4 :: id)) (0, 0) _ rfl (setRow_heap _ _ _ _ _ _ HB4.out) Tryd.underlying23 rfl Tryd.sizeC) rfl ?_
  exact ⟨rfl, (F0.trans F4 (fun _ h => h.elim)).trans (Fr.setRow (S := fun k => k = w.heap.size) (Fr.refl _ _) rfl _) (fun i hi => Or.inr (by omega))⟩
end Go.Proofs.YtikdgjgcopjocaaDoor
namespace Go.Proofs.YtikdgjgcopjocaaDoor
open Go.RowKit
set_option linter.unusedVariables false

set_option maxRecDepth 100000 in
theorem parts6 {w : World} {b : Nat} {a1 a2 a3 a4 a5 a6 : Option Addr} {n1 n2 n3 n4 n5 n6 c1 c2 c3 c4 c5 c6 : Nat} {x1 x2 x3 x4 x5 x6 : List UInt8} {t : TypeId} {fr : Nat × Nat}
    (h : w.heap[b]? = some (.cells #[.slice a1 n1 c1, .slice a2 n2 c2, .slice a3 n3 c3, .slice a4 n4 c4, .slice a5 n5 c5, .slice a6 n6 c6] t fr)) (h1 : Came w a1 n1 c1 x1) (h2 : Came w a2 n2 c2 x2) (h3 : Came w a3 n3 c3 x3) (h4 : Came w a4 n4 c4 x4) (h5 : Came w a5 n5 c5 x5) (h6 : Came w a6 n6 c6 x6) : Parts w (some ⟨b, 0, none⟩) [x1, x2, x3, x4, x5, x6] := by
  refine Or.inr ⟨b, 0, rfl, fun j hj => ?_⟩
  match j, hj with
  | 0, _ => exact ⟨a1, c1, by rw [cell_of_block h]; simp [h1.len], h1.lies, by have := h1.le; have := h1.len; simp; omega, h1.mx⟩
  | 1, _ => exact ⟨a2, c2, by rw [cell_of_block h]; simp [h2.len], h2.lies, by have := h2.le; have := h2.len; simp; omega, h2.mx⟩
  | 2, _ => exact ⟨a3, c3, by rw [cell_of_block h]; simp [h3.len], h3.lies, by have := h3.le; have := h3.len; simp; omega, h3.mx⟩
  | 3, _ => exact ⟨a4, c4, by rw [cell_of_block h]; simp [h4.len], h4.lies, by have := h4.le; have := h4.len; simp; omega, h4.mx⟩
  | 4, _ => exact ⟨a5, c5, by rw [cell_of_block h]; simp [h5.len], h5.lies, by have := h5.le; have := h5.len; simp; omega, h5.mx⟩
  | 5, _ => exact ⟨a6, c6, by rw [cell_of_block h]; simp [h6.len], h6.lies, by have := h6.le; have := h6.len; simp; omega, h6.mx⟩
set_option maxRecDepth 100000 in
theorem tail_came {w : World} {b n : Nat} {t : TypeId} {fr : Nat × Nat} (h : w.heap[b]? = some (.cells (ub 8 (b8 n)) t fr)) : Came w (some ⟨b, 6, none⟩) 2 2 [b8 n 6, b8 n 7] := by
  refine ⟨rfl, Nat.le_refl _, by unfold maxLen; omega, Or.inr ⟨b, 6, rfl, fun j hj => ?_⟩, fun e => by cases e⟩
  match j, hj with
  | 0, _ => rw [cell_of_block h, ub_get 8 _ 6 (by omega)]; rfl
  | 1, _ => rw [cell_of_block h, ub_get 8 _ 7 (by omega)]; rfl
set_option maxRecDepth 100000 in
set_option maxHeartbeats 16000000 in
theorem ctext_any (a : Option Addr) (n c : Nat) (id : List UInt8) (z : Int) (u : Nat) (hu : IntKind.u64.wrap z = (u : Int)) (fo fi : Nat → UInt8) (w : World) (hv : Came w a n c id) (hn : n ≤ 60000) :
    Calls Tryd.prog 11 #[.slice a n c, .int .i64 z, .agg (ub 32 fo), .agg (ub 32 fi)] w fun e w' => ∃ a' c', e = .returned (.slice a' (CH.text id u ((List.range 32).map fo) ((List.range 32).map fi)).length c') ∧ Came w' a' (CH.text id u ((List.range 32).map fo) ((List.range 32).map fi)).length c' (CH.text id u ((List.range 32).map fo) ((List.range 32).map fi)) ∧ Fr (fun _ => False) w w' := by
  obtain ⟨kl, hkl⟩ : ∃ kl, kl = (List.range 32).map fo := ⟨_, rfl⟩
  obtain ⟨il, hil⟩ : ∃ il, il = (List.range 32).map fi := ⟨_, rfl⟩
  rw [← hkl, ← hil]
  have hvl := hv.len
  obtain ⟨M, hM⟩ : ∃ M, M = CH.text id u kl il := ⟨_, rfl⟩
  have hml : M.length = id.length + 75 := by rw [hM, CH.text_length, hkl, hil]; simp
  rw [← hM]
  have hfl : [[3], [b8 n 6, b8 n 7], id, S2.be8 u, kl, il].flatten = M := by rw [hM]; simp [CH.text, CH.txt, hvl]
  have HFL := Lib.hid hfl
  have HKL := Lib.hid hkl
  have HIL := Lib.hid hil
  have HML := Lib.hid hml
  have HNU := Lib.hid (fun W : World => lnumber_any z u hu W)
  have hnn : IntKind.u64.wrap (n : Int) = (n : Int) := by rw [IntKind.wrap_u64]; omega
  clear hfl hkl hil hM hml hu
  go_enter Tryd.func11, Tryd.ntmps11
  go_wp2_with fail
  have E0 := ((Fr.refl (fun _ => False) w).alloc (.cells (ub 32 fo) 23)).alloc (.cells (ub 32 fi) 23)
  have K0 := heap_alloc2_old w (.cells (ub 32 fo) 23) (.cells (ub 32 fi) 23)
  have I0 := heap_alloc2_new w (.cells (ub 32 fo) 23) (.cells (ub 32 fi) 23)
  generalize ((w.alloc (.cells (ub 32 fo) 23)).alloc (.cells (ub 32 fi) 23)) = w1 at E0 K0 I0 ⊢
  refine (lnumber_any (n : Int) n hnn w1).mono ?_
  rintro e w2 ⟨rfl, N0, F2⟩
  have z2 := lt_of_block N0
  replace K0 := (F2.block _ (lt_of_block K0) (fun h => h)).trans K0
  replace I0 := (F2.block _ (lt_of_block I0) (fun h => h)).trans I0
  replace E0 := E0.trans F2 (fun _ h => h.elim)
  generalize w1.heap.size = b9 at *
  clear F2 hnn
  have hv2 := hv.grow E0 (fun _ _ h => h)
  have HCat := Lib.hid (show ∀ (W : World) (b1 b3 bs : Nat), W.heap[bs]? = some (.cells #[.slice (some ⟨b1, 0, none⟩) 1 1, .slice (some ⟨b9, 6, none⟩) 2 2, .slice a n c, .slice (some ⟨b3, 0, none⟩) 8 8, .slice (some ⟨w.heap.size, 0, none⟩) 32 32, .slice (some ⟨w.heap.size + 1, 0, none⟩) 32 32] 22 (0, 0)) → W.heap[b1]? = some (.cells #[.int .u8 3] 5 (0, 0)) → W.heap[b3]? = some (.cells (ub 8 (b8 u)) 5 (0, 0)) → Fr (fun _ => False) w2 W →
      Calls Tryd.prog 25 #[.slice (some ⟨bs, 0, none⟩) 6 6] W fun e W' => ∃ a c, e = .returned (.slice a M.length c) ∧ Came W' a M.length c M ∧ Fr (fun _ => False) w2 W' from fun W b1 b3 bs hbs h1 h3 hF => by
    have P6 := parts6 hbs (came_blk (l := [3]) h1 rfl rfl (by omega)) (tail_came ((hF.block _ z2 (fun h => h)).trans N0)) (hv2.grow hF (fun _ _ h => h)) (came_blk (l := S2.be8 u) (n := 8) (cs := ub 8 (b8 u)) (t := 5) (fr := (0, 0)) h3 (ub_bv 8 (b8 u)) (by simp [S2.be8]) (by omega)) (came_blk (l := kl) ((hF.block _ (lt_of_block K0) (fun h => h)).trans K0) (by rw [HKL.out]; exact ub_bv 32 fo) (by rw [HKL.out]; simp) (by omega)) (came_blk (l := il) ((hF.block _ (lt_of_block I0) (fun h => h)).trans I0) (by rw [HIL.out]; exact ub_bv 32 fi) (by rw [HIL.out]; simp) (by omega))
    have hM := HML.out
    refine (concat_any _ [[3], [b8 n 6, b8 n 7], id, S2.be8 u, kl, il] 6 6 W P6 rfl (by omega) (by rw [HFL.out]; omega) (by rw [HFL.out]; omega)).mono ?_
    rw [HFL.out]
    rintro e w6 ⟨a6, c6, rfl, own6, F6⟩
    obtain ⟨_, e2, e3, e4⟩ := own6.lies
    exact ⟨a6, c6, rfl, ⟨rfl, e2, e3, e4, fun e => by subst e; exact own6.nilAddr⟩, hF.trans F6 (fun _ h => h.elim)⟩)
  have HE0 := Lib.hid E0
  have HN := Lib.hid N0
  clear hv hv2 E0 K0 I0 N0 hvl
  go_wp2_with fail
  go_region_with ((first
    | (go_at_call 24
       with_reducible refine (HNU.out _).mono ?_
       rintro e w5 ⟨rfl, h5, F5⟩
       have z5 := lt_of_block h5
       (try simp at z5))
    | (go_at_call 25
       with_reducible refine (HCat.out _ _ _ _ (heap_alloc_at _ _ _ _ ?_) ?_ ?_ ?_).mono ?_
       · first | rfl | simp
       · (repeat (first | (refine heap_alloc_at _ _ _ _ ?_; (focus (first | rfl | (simp; done) | omega))) | exact h5 | (simpa using h5) | (refine (Below.heap_alloc _ _ _ ?_).trans ?_; (focus (first | omega | (simp; done) | (simp <;> omega)))) | (refine (F5.block _ ?_ (fun h => h)).trans ?_; (focus (first | omega | (simp; done) | (simp <;> omega)))) | (refine ((own_str_fr _ _).block _ ?_ (fun h => h)).trans ?_; (focus (first | omega | (simp; done) | (simp <;> omega))))))
       · (repeat (first | (refine heap_alloc_at _ _ _ _ ?_; (focus (first | rfl | (simp; done) | omega))) | exact h5 | (simpa using h5) | (refine (Below.heap_alloc _ _ _ ?_).trans ?_; (focus (first | omega | (simp; done) | (simp <;> omega)))) | (refine (F5.block _ ?_ (fun h => h)).trans ?_; (focus (first | omega | (simp; done) | (simp <;> omega)))) | (refine ((own_str_fr _ _).block _ ?_ (fun h => h)).trans ?_; (focus (first | omega | (simp; done) | (simp <;> omega))))))
       · (repeat (first | (with_reducible exact Fr.refl _ _) | (with_reducible refine Fr.alloc ?_ _) | (with_reducible refine Fr.drew ?_) | (with_reducible refine Fr.trans ?_ F5 (fun _ h => h.elim)) | (with_reducible refine Fr.trans ?_ (own_str_fr _ _) (fun _ h => h.elim))))
       rintro e w6 ⟨a6, c6, rfl, C6, G6⟩)))
  all_goals
    go_wp2_with fail
    go_ret
    exact ⟨_, _, rfl, C6, HE0.out.trans G6 (fun _ h => h.elim)⟩
set_option maxRecDepth 100000 in
set_option maxHeartbeats 1600000 in
theorem next_any (a : Option Addr) (n c : Nat) (id : List UInt8) (z : Int) (u : Nat) (hu : IntKind.u64.wrap z = (u : Int)) (fo fi : Nat → UInt8) (w : World) (hv : Came w a n c id) (hn : n ≤ 60000) (hE : Env w) :
    Calls Tryd.prog 7 #[.slice a n c, .int .i64 z, .agg (ub 32 fo), .agg (ub 32 fi)] w fun e w' => e = .returned (.agg (sumc (CH.text id u ((List.range 32).map fo) ((List.range 32).map fi)))) ∧ Fr (fun _ => False) w w' := by
  have hvl := hv.len
  obtain ⟨M, hM⟩ : ∃ M, M = CH.text id u ((List.range 32).map fo) ((List.range 32).map fi) := ⟨_, rfl⟩
  have hml : M.length = id.length + 75 := by rw [hM, CH.text_length]; simp
  have hct := fun (W : World) (h : Came W a n c id) => ctext_any a n c id z u hu fo fi W h hn
  rw [← hM] at hct ⊢
  have HML := Lib.hid hml
  clear hM hml
  go_enter Tryd.func7, Tryd.ntmps7
  have B0 := heap_three w (.cells (ub 32 fo) 23) (.cells (ub 32 fi) 23) (.cells (ub 32 (fun _ => 0)) 23)
  have B1 := heap_three1 w (.cells (ub 32 fo) 23) (.cells (ub 32 fi) 23) (.cells (ub 32 (fun _ => 0)) 23)
  have B2 := heap_three2 w (.cells (ub 32 fo) 23) (.cells (ub 32 fi) 23) (.cells (ub 32 (fun _ => 0)) 23)
  have F0 := (((Fr.refl (fun _ => False) w).alloc (.cells (ub 32 fo) 23)).alloc (.cells (ub 32 fi) 23)).alloc (.cells (ub 32 (fun _ => 0)) 23)
  rw [← zero32] at B0 B1 B2 F0
  have s32o : (Tryd.prog.info? 23).map (·.size) = some (ub 32 fo).size := by rw [ub_size]; kernel_rfl
  have s32i : (Tryd.prog.info? 23).map (·.size) = some (ub 32 fi).size := by rw [ub_size]; kernel_rfl
  go_upto_region 1 with fail
  generalize (((w.alloc (.cells (ub 32 fo) 23)).alloc (.cells (ub 32 fi) 23)).alloc (.cells _ 23)) = w3 at *
  rw [zero32] at B2
  go_wp2_with (first
    | (with_reducible refine wpList_load_row rfl 23 (.tmp 6) rfl w.heap.size rfl 23 (ub 32 fo) (0, 0) _ B0 Tryd.underlying23 rfl s32o ?_)
    | (with_reducible refine wpList_load_row rfl 23 (.tmp 7) rfl (w.heap.size + 1) rfl 23 (ub 32 fi) (0, 0) _ B1 Tryd.underlying23 rfl s32i ?_))
  refine (hct w3 (hv.grow F0 (fun _ _ h => h))).mono ?_
  rintro e w4 ⟨a4, c4, rfl, C4, F4⟩
  have G4 := F0.trans F4 (fun _ h => h.elim)
  replace B2 := (F4.block _ (lt_of_block B2) (fun h => h)).trans B2
  go_wp2_with fail
  have Fm := (Fr.refl (fun _ => False) w4).alloc (.cells #[.slice a4 M.length c4] 22)
  refine (psum_any _ [M] 1 1 rfl _ (parts1 (heap_alloc_new w4 _) (C4.grow Fm (fun _ _ h => h))) (by unfold maxLen; omega) (by have := HML.out; simp; omega) (hE.fr (G4.trans Fm (fun _ h => h.elim)) (fun h => h))).mono ?_
  rintro e w5 ⟨rfl, F5⟩
  rw [show [M].flatten = M by simp]
  have F45 : Fr (fun _ => False) w4 w5 := Fm.trans F5 (fun _ h => h.elim)
  replace B2 := (F45.block _ (lt_of_block B2) (fun h => h)).trans B2
  have hst := run_store32 (l := M) B2 (ub_size _ _)
  have HB := Lib.hid B2
  clear B0 B1 B2
  go_wp2_with fail
  refine bodyPost_ret (results_cell_row rfl _ _ (w.heap.size + 1 + 1) 23 (sumc M) (0, 0) _ rfl (setRow_heap _ _ _ _ _ _ HB.out) Tryd.underlying23 rfl Tryd.sizeC) rfl ?_
  exact ⟨rfl, (G4.trans F45 (fun _ h => h.elim)).trans (Fr.setRow (S := fun k => k = w.heap.size + 1 + 1) (Fr.refl _ _) rfl _) (fun i hi => Or.inr (by omega))⟩
end Go.Proofs.YtikdgjgcopjocaaDoor
namespace Go.Proofs.YtikdgjgcopjocaaDoor
open Go.RowKit
set_option linter.unusedVariables false

set_option maxRecDepth 100000 in
set_option maxHeartbeats 3200000 in
theorem chains_any (w : World) (hE : Env w) (hR : REnv w) : Calls Tryd.prog 9 #[] w fun e w' => e = .returned (.bool true) ∧ Fr (fun _ => False) w w' := by
  have kc1 := fun (V : World) (C : Array Value) (n c : Nat) => Lib.run_convert_bytes_const (P := Tryd.prog) V 22 5 C n c Tryd.underlying22 Tryd.underlying5
  have kc2 : ∀ (V : World) (C : Array Value) (n c : Nat), (convert 22 22 (.slice (some ⟨V.heap.size, 0, none⟩) n c)).run Tryd.prog (V.alloc (.cells C 5)).drew = .ok (.slice (some ⟨V.heap.size, 0, none⟩) n c) (V.alloc (.cells C 5 (C.size, C.size + 1))).drew := fun V C n c => kc1 V.drew C n c
  go_enter Tryd.func9, Tryd.ntmps9
  go_wp2_with fail
  have F0 := (Fr.refl (fun _ => False) w).alloc (.cells #[.int .u8 97, .int .u8 98] 5 (2, 3))
  have C0 : Came (w.alloc (.cells #[.int .u8 97, .int .u8 98] 5 (2, 3))) (some ⟨w.heap.size, 0, none⟩) 2 2 [97, 98] := came_blk (heap_alloc_new w _) rfl rfl (by omega)
  refine (cfirst_any _ 2 2 [97, 98] _ C0 (by omega) (hE.fr F0 (fun h => h))).mono ?_
  rintro e w1 ⟨rfl, F1⟩
  have G1 : Fr (fun _ => False) w w1 := F0.trans F1 (fun _ h => h.elim)
  have hone : (sumc [4, 97, 98]).all (·.oneCell') = true := sumv_one _
  have hsz : (#[.int .u8 0, .int .u8 0, .int .u8 0, .int .u8 0, .int .u8 0, .int .u8 0, .int .u8 0, .int .u8 0, .int .u8 0, .int .u8 0, .int .u8 0, .int .u8 0, .int .u8 0, .int .u8 0, .int .u8 0, .int .u8 0, .int .u8 0, .int .u8 0, .int .u8 0, .int .u8 0, .int .u8 0, .int .u8 0, .int .u8 0, .int .u8 0, .int .u8 0, .int .u8 0, .int .u8 0, .int .u8 0, .int .u8 0, .int .u8 0, .int .u8 0, .int .u8 0] : Array Value).size = (sumc [4, 97, 98]).size := (sumv_size _).symm
  clear F0 C0 F1
  go_wp2_with (with_reducible refine wpList_store_rowA rfl 23 (.tmp 1) (.tmp 4) rfl w1.heap.size (sumc [4, 97, 98]) rfl rfl 23 _ (heap_alloc_new w1 _) Tryd.sizeC hsz hone ?k2)
  case k2 =>
  intro w2 h2 hG2
  have F12 : Fr (fun _ => False) w1 w2 := ((Fr.refl (fun _ => False) w1).alloc _).trans hG2 (fun i hi => Or.inr (by omega))
  have G2 : Fr (fun _ => False) w w2 := G1.trans F12 (fun _ h => h.elim)
  have L2 := sumc_lies h2
  generalize w1.heap.size = b1 at *
  have HS := Lib.hid (show ∀ W : World, Fr (fun _ => False) w2 W → (convert 22 9 (.slice (some ⟨b1, 0, none⟩) 32 32)).run Tryd.prog W = .ok (.string ⟨(S2.sum [4, 97, 98]).toArray⟩) W from fun W hF => run_str (L2.grow hF) 32 9 Tryd.underlying9)
  have HT := Lib.hid (show ∀ (W : World) (b : Nat), W.heap[b]? = some (.cells #[.int .u8 97, .int .u8 98, .int .u8 99, .int .u8 100, .int .u8 101] 5 (5, 6)) → Fr (fun _ => False) w2 W → Calls Tryd.prog 11 #[.slice (some ⟨b, 0, none⟩) 5 5, .int .i64 1, .agg #[.int .u8 0, .int .u8 0, .int .u8 0, .int .u8 0, .int .u8 0, .int .u8 0, .int .u8 0, .int .u8 0, .int .u8 0, .int .u8 0, .int .u8 0, .int .u8 0, .int .u8 0, .int .u8 0, .int .u8 0, .int .u8 0, .int .u8 0, .int .u8 0, .int .u8 0, .int .u8 0, .int .u8 0, .int .u8 0, .int .u8 0, .int .u8 0, .int .u8 0, .int .u8 0, .int .u8 0, .int .u8 0, .int .u8 0, .int .u8 0, .int .u8 0, .int .u8 0], .agg #[.int .u8 0, .int .u8 0, .int .u8 0, .int .u8 0, .int .u8 0, .int .u8 0, .int .u8 0, .int .u8 0, .int .u8 0, .int .u8 0, .int .u8 0, .int .u8 0, .int .u8 0, .int .u8 0, .int .u8 0, .int .u8 0, .int .u8 0, .int .u8 0, .int .u8 0, .int .u8 0, .int .u8 0, .int .u8 0, .int .u8 0, .int .u8 0, .int .u8 0, .int .u8 0, .int .u8 0, .int .u8 0, .int .u8 0, .int .u8 0, .int .u8 0, .int .u8 0]] W fun e W' => ∃ a c, e = .returned (.slice a 80 c) ∧ Fr (fun _ => False) w2 W' from fun W b hb hF => by
    rw [zero32]
    refine (ctext_any _ 5 5 [97, 98, 99, 100, 101] 1 1 (by rfl) (fun _ => 0) (fun _ => 0) W (came_blk hb rfl rfl (by omega)) (by omega)).mono ?_
    rintro e w' ⟨a, c, rfl, _, F⟩
    refine ⟨a, c, ?_, hF.trans F (fun _ h => h.elim)⟩
    rw [CH.text_length]
    simp)
  have HU := Lib.hid (show ∀ W : World, Fr (fun _ => False) w2 W → Calls Tryd.prog 12 #[.string ⟨#[4, 97, 98]⟩] W fun e W' => e = .returned (.string ⟨(S2.sum [4, 97, 98]).toArray⟩) ∧ Fr (fun _ => False) w2 W' from fun W hF => by
    refine (rsum_any ⟨#[4, 97, 98]⟩ (by decide) W (hR.fr (G2.trans hF (fun _ h => h.elim)) (fun h => h) (fun h => h))).mono ?_
    rintro e w' ⟨rfl, F⟩
    exact ⟨rfl, hF.trans F (fun _ h => h.elim)⟩)
  clear hone hsz hG2 F12 G1 h2 L2
  go_wp2_with fail
  go_region_with ((first
    | (go_at_call 11
       with_reducible refine (HT.out _ _ ?_ ?_).mono ?_
       · (first | exact heap_alloc_new _ _ | exact heap_alloc_o _ _ _ rfl)
       · (repeat (first | (with_reducible exact Fr.refl _ _) | (with_reducible refine Fr.alloc ?_ _) | (with_reducible refine Fr.drew ?_)))
       rintro e w5 ⟨a5, c5, rfl, F5⟩
       have cv5 := HS.out _ F5)
    | (go_at_call 12
       with_reducible refine (HU.out _ F5).mono ?_
       rintro e w6 ⟨rfl, F6⟩
       have cv6 := HS.out _ F6)))
  all_goals
    go_wp2
    go_ret
    exact ⟨rfl, G2.trans F6 (fun _ h => h.elim)⟩
end Go.Proofs.YtikdgjgcopjocaaDoor

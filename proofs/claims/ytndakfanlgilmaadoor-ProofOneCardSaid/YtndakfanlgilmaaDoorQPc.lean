/-
  A proof's texts: a row of slices of one's own, each with its own bytes.
  A proof's texts: the walk.
  Is a proof taken, and what does it say?
-/
import Derived.Test.YtndakfanlgilmaaDoorQPb
import Derived.Test.YtndakfanlgilmaaDoorQPz
namespace Go.Proofs.YtndakfanlgilmaaDoor
open Go.RowKit Go.Shelf
set_option linter.unusedVariables false
set_option linter.unusedSimpArgs false
attribute [local go_sem] Oper.semAt_some
/-- A row of slices of one's own, each with its own bytes. -/
def TX (W : World) (Z : Nat) (v : Value) (Ts : List (List UInt8)) : Prop := ∃ vs : List Value, W.ownsRow Z 39 1 v Ts.length vs ∧ ∀ (i : Nat) (x : List UInt8), Ts[i]? = some x → ∃ sv, vs[i]? = some sv ∧ Own W Z sv x
set_option maxRecDepth 100000 in
theorem own_block {w : World} {Z : Nat} {v : Value} {l : List UInt8} (h : Own w Z v l) {k : Nat} (hk : v.ownBlock = some k) : ∃ cs fz, w.heap[k]? = some (.cells cs 5 fz) := by
  rcases h with ⟨rfl, _⟩ | ⟨g, cap, cur, fz, rfl, _, hg, _⟩
  · simp [Value.ownBlock] at hk
  · obtain rfl : g = k := by simpa [Value.ownBlock] using hk
    exact ⟨_, _, hg⟩
set_option maxRecDepth 100000 in
theorem row_block {w : World} {Z : Nat} {e : TypeId} {size : Nat} {v : Value} {n : Nat} {xs : List Value} (h : w.ownsRow Z e size v n xs) {k : Nat} (hk : v.ownBlock = some k) : ∃ cs fz, w.heap[k]? = some (.cells cs e fz) := by
  rcases h.2 with ⟨rfl, _⟩ | ⟨g, cap, cur, rfl, _, hg, _⟩
  · simp [Value.ownBlock] at hk
  · obtain rfl : g = k := by simpa [Value.ownBlock] using hk
    exact ⟨_, _, hg⟩
set_option maxRecDepth 100000 in
theorem TX.fr {W W' : World} {Z : Nat} {v : Value} {Ts : List (List UInt8)} {S : Nat → Prop} (h : TX W Z v Ts) (F : Fr S W W') (hS : ∀ k, S k → ∀ cs t fz, W.heap[k]? = some (.cells cs t fz) → t ≠ 5 ∧ t ≠ 39) : TX W' Z v Ts := by
  obtain ⟨vs, h1, h2⟩ := h
  refine ⟨vs, own_fr h1 F (fun k hk hs => ?_), fun i x hx => ?_⟩
  · obtain ⟨cs, fz, hb⟩ := row_block h1 hk
    exact (hS k hs _ _ _ hb).2 rfl
  · obtain ⟨sv, h3, h4⟩ := h2 i x hx
    refine ⟨sv, h3, h4.fr F (fun k hk hs => ?_)⟩
    obtain ⟨cs, fz, hb⟩ := own_block h4 hk
    exact (hS k hs _ _ _ hb).1 rfl
set_option maxRecDepth 100000 in
theorem TX.ext {W W' : World} {Z : Nat} {v : Value} {Ts : List (List UInt8)} (h : TX W Z v Ts) (F : Fr (fun _ => False) W W') : TX W' Z v Ts := h.fr F (fun _ h => h.elim)
set_option maxRecDepth 100000 in
theorem TX.app {W w2 : World} {Z : Nat} {v v2 sv : Value} {Ts : List (List UInt8)} {x : List UInt8} {vs : List Value} (h1 : W.ownsRow Z 39 1 v Ts.length vs) (h2 : ∀ (i : Nat) (x : List UInt8), Ts[i]? = some x → ∃ sv, vs[i]? = some sv ∧ Own W Z sv x) (hx : Own W Z sv x)
    (O : w2.ownsRow Z 39 1 v2 (Ts.length + 1) (vs ++ [sv])) (G : W.grownBy w2 v.ownBlock) : TX w2 Z v2 (Ts ++ [x]) := by
  have hl : vs.length = Ts.length := by have := h1.1; omega
  have hk : ∀ {sv : Value} {x : List UInt8}, Own W Z sv x → Own w2 Z sv x := fun h => h.fr (Fr.ofGrown G) (fun k hk hs => by
    obtain ⟨cs, fz, hb⟩ := own_block h hk
    obtain ⟨cs', fz', hb'⟩ := row_block h1 hs
    rw [hb] at hb'
    have := congrArg (fun o : Option Obj => match o with | some (.cells _ t _) => t | _ => 0) hb'
    simp at this)
  refine ⟨vs ++ [sv], by rw [List.length_append]; exact O, fun i y hy => ?_⟩
  by_cases hi : i < Ts.length
  · rw [List.getElem?_append_left hi] at hy
    obtain ⟨u, h3, h4⟩ := h2 i y hy
    exact ⟨u, by rw [List.getElem?_append_left (by omega)]; exact h3, hk h4⟩
  · rw [List.getElem?_append_right (by omega)] at hy
    have hi2 : i - Ts.length = 0 := by
      have := (List.getElem?_eq_some_iff.1 hy).1
      simp at this; omega
    rw [hi2] at hy
    cases hy
    exact ⟨sv, by rw [List.getElem?_append_right (by omega), show i - vs.length = 0 by omega]; rfl, hk hx⟩
set_option maxRecDepth 100000 in
theorem TX.one {W : World} {Z g : Nat} {sv : Value} {x : List UInt8} (h : W.heap[g]? = some (.cells #[sv] 39 (0, 0))) (hZ : Z ≤ g) (hx : Own W Z sv x) : TX W Z (.slice (some ⟨g, 0, none⟩) 1 1) [x] :=
  ⟨[sv], ⟨rfl, .inr ⟨g, 1, #[sv], rfl, hZ, h, Nat.le_refl _, by unfold maxLen; omega, rfl, rfl⟩⟩, fun i y hy => by
    match i, hy with
    | 0, hy => cases hy; exact ⟨sv, rfl, hx⟩⟩
set_option maxRecDepth 100000 in
/-- Boxed, and what lies there is of no text's type. -/
theorem own_slice {w : World} {Z : Nat} {v : Value} {l : List UInt8} (h : Own w Z v l) : ∃ a n c, v = .slice a n c := by
  obtain ⟨a, c, e⟩ := h.slice
  exact ⟨a, _, c, e⟩

/-- The texts of what has come, from the end on. -/
def Pf.go (key e : List UInt8) (pre : List Er) : List (List UInt8) := pre.foldl (fun Ts x => Ts ++ [Pf.nd (kb key x.1) x.1 (S2.sum (Ts.getLastD [])) (nrm x.2)]) [e]
set_option maxRecDepth 100000 in
theorem Pf.go_nil (key e : List UInt8) : Pf.go key e [] = [e] := rfl
set_option maxRecDepth 100000 in
theorem Pf.go_snoc (key e : List UInt8) (pre : List Er) (x : Er) : Pf.go key e (pre ++ [x]) = Pf.go key e pre ++ [Pf.nd (kb key x.1) x.1 (S2.sum ((Pf.go key e pre).getLastD [])) (nrm x.2)] := by simp [Pf.go, List.foldl_append]
set_option maxRecDepth 100000 in
theorem list_snoc {α : Type} : ∀ l : List α, l = [] ∨ ∃ m x, l = m ++ [x] := fun l => by
  rcases List.eq_nil_or_concat l with h | ⟨m, x, h⟩
  · exact .inl h
  · exact .inr ⟨m, x, by simpa using h⟩
set_option maxRecDepth 100000 in
theorem Pf.go_len (key e : List UInt8) : ∀ (n : Nat) (pre : List Er), pre.length = n → (Pf.go key e pre).length = n + 1
  | 0, pre, h => by rw [List.eq_nil_of_length_eq_zero h]; rfl
  | n + 1, pre, h => by
    rcases list_snoc pre with rfl | ⟨m, x, rfl⟩
    · simp at h
    · rw [Pf.go_snoc, List.length_append, Pf.go_len key e n m (by simpa using h)]; rfl
set_option maxRecDepth 100000 in
theorem Pf.go_le (key : List UInt8) {e : List UInt8} (he : e.length ≤ 67) : ∀ (n : Nat) (pre : List Er), pre.length = n → ∀ x ∈ Pf.go key e pre, x.length ≤ 67
  | 0, pre, h, x, hx => by
    rw [List.eq_nil_of_length_eq_zero h, Pf.go_nil] at hx
    rw [List.mem_singleton.1 hx]; exact he
  | n + 1, pre, h, x, hx => by
    rcases list_snoc pre with rfl | ⟨m, y, rfl⟩
    · simp at h
    · rw [Pf.go_snoc] at hx
      rcases List.mem_append.1 hx with h1 | h1
      · exact Pf.go_le key he n m (by simpa using h) x h1
      · rw [List.mem_singleton.1 h1, Pf.nd_len _ _ (sum_length _) (nrm_len _)]; omega
set_option maxRecDepth 100000 in
theorem Pf.go_br (key e : List UInt8) {S : List (List UInt8)} (hS : Lg.All32 S) : ∀ k, k ≤ S.length → Pf.go key e (br S k) = Pf.txs key S e k
  | 0, _ => rfl
  | k + 1, h => by
    have ih := Pf.go_br key e hS k (by omega)
    have hl : (Pf.txs key S e k).getLastD [] = Pf.tx key S e k := by
      cases k with
      | zero => rfl
      | succ k => rw [Pf.txs_succ, List.getLastD_concat]
    rw [br_succ, Pf.go_snoc, ih, hl, Pf.txs_succ, Pf.tx, nrm_id (Pf.at32 hS (by omega)), show S.length - 1 - k = S.length - 1 - k from rfl]
set_option maxRecDepth 100000 in
theorem kb_off {l : List UInt8} (h : l.length = 32) {d : Nat} (hd : 256 ≤ d) : kb l d = false := by
  unfold kb
  rw [List.getD_eq_getElem?_getD, List.getElem?_eq_none (by omega)]
  simp
set_option maxRecDepth 100000 in
theorem bit_all {l : List UInt8} (h : l.length = 32) (d : Nat) : Ans Tryd.prog 19 #[.agg (krow l), .int .i64 (d : Int)] (.int .i64 (bn (kb l d) : Int)) := by
  by_cases hd : d < 256
  · exact bit_in h d hd
  · rw [kb_off h (by omega)]
    exact bit_off h (d : Int) (.inr (by omega))
set_option maxRecDepth 100000 in
theorem bs55 (f h : Nat → UInt8) : Tryd.prog.built 55 [(0, .agg (ub 32 f)), (1, .agg (ub 32 h))] = some (ub 32 f ++ ub 32 h) := by kernel_rfl
set_option maxRecDepth 100000 in
theorem bp55 {k v : List UInt8} (hk : k.length = 32) (hv : v.length = 32) : Tryd.prog.built 55 [(0, .agg (krow k)), (1, .agg (krow v))] = some (leafRow k v) := by
  obtain ⟨f, hf⟩ := bv_range k hk
  obtain ⟨h, hh⟩ := bv_range v hv
  rw [leaf_cat, hf, hh]; exact bs55 f h
set_option maxRecDepth 100000 in
theorem sz55 : (Tryd.prog.info? 55).map (·.size) = some 64 := by kernel_rfl
set_option maxRecDepth 100000 in
theorem mkT1 (a : Option Addr) (n c : Nat) (w : World) : (Instr.buildSlice 30 1 #[(0, .slice a n c)]).run Tryd.prog w = .ok (.slice (some ⟨w.heap.size, 0, none⟩) 1 1) (w.alloc (.cells #[.slice a n c] 39)) := by kernel_rfl
set_option maxRecDepth 100000 in
theorem leaf_set {r s : List UInt8} (hr : r.length = 32) (hs : s.length = 32) (b : Bool) : ((leafRow r r).toList.take (bn b * 32) ++ (krow s).toList ++ (leafRow r r).toList.drop (bn b * 32 + (krow s).size)).toArray = leafRow (if b then r else s) (if b then s else r) := by
  have e : (leafRow r r).toList = bv r ++ bv r := by simp [leafRow, bv_append]
  have e2 : (krow s).toList = bv s := rfl
  rw [e, e2, krow_size, hs]
  cases b
  · show (List.take 0 _ ++ bv s ++ List.drop 32 (bv r ++ bv r)).toArray = leafRow s r
    rw [List.take_zero, List.drop_append_of_le_length (by simp [hr]), List.drop_of_length_le (by simp [hr])]
    simp [leafRow, bv_append]
  · show (List.take 32 (bv r ++ bv r) ++ bv s ++ List.drop 64 (bv r ++ bv r)).toArray = leafRow r s
    rw [List.take_append_of_le_length (by simp [hr]), List.take_of_length_le (by simp [hr]), List.drop_of_length_le (by simp [hr])]
    simp [leafRow, bv_append]
set_option maxRecDepth 100000 in
theorem TX.last {W : World} {Z m : Nat} {v : Value} {Ts : List (List UInt8)} (h : TX W Z v Ts) (hm : Ts.length = m + 1) : ∃ g cap a n c, v = .slice (some ⟨g, 0, none⟩) (m + 1) cap ∧ W.cell? ⟨g, m, none⟩ = some (.slice a n c) ∧ Own W Z (.slice a n c) (Ts.getLastD []) ∧ (∃ cs fz, W.heap[g]? = some (.cells cs 39 fz)) := by
  obtain ⟨vs, h1, h2⟩ := h
  rw [hm] at h1
  have hv := h1.1
  obtain ⟨sv, h3, h4⟩ := h2 m (Ts.getLastD []) (by
    rcases list_snoc Ts with rfl | ⟨t, x, rfl⟩
    · simp at hm
    · rw [List.getLastD_concat, List.getElem?_append_right (by simp at hm; omega)]
      simp at hm
      simp [hm])
  obtain ⟨a, n, c, rfl⟩ := own_slice h4
  rcases h1.2 with ⟨_, h0⟩ | ⟨g, cap, cur, rfl, _, hg, hc, hm2, hs, ht⟩
  · omega
  · refine ⟨g, cap, a, n, c, rfl, ?_, h4, _, _, hg⟩
    rw [cell_of_block hg]
    rw [← ht, List.getElem?_take_of_lt (by omega), Array.getElem?_toList] at h3
    exact h3
set_option maxRecDepth 100000 in
theorem src_tx {w : World} {b : Nat} {x : Value} {t : TypeId} {fr : Nat × Nat} (h1 : x.oneCell' = true) (h : w.heap[b]? = some (.cells #[x] t fr)) : Src Tryd.prog 1 30 (.slice (some ⟨b, 0, none⟩) 1 1) 1 [x] w :=
  Src.ofSlice _ Tryd.underlying30 ⟨b, 0, none⟩ 1 1 _ rfl (fun j u hj => by
    match j, hj with
    | 0, hj => rw [Addr.add_mid, cell_of_block h]; exact hj) (fun u hu => by rw [List.mem_singleton.1 hu]; exact h1)
set_option maxRecDepth 100000 in
theorem tInfo : ∃ ti z, Tryd.prog.info? 39 = some ti ∧ ti.zero = some z ∧ ti.size = 1 ∧ ti.bytes = 24 ∧ z.cells.size = 1 := ⟨_, .slice none 0 0, rfl, by kernel_rfl, by kernel_rfl, by kernel_rfl, by kernel_rfl⟩
set_option maxRecDepth 100000 in
theorem szTBB : (Tryd.prog.info? 30).map (·.size) = some 1 := by kernel_rfl
set_option maxRecDepth 100000 in
theorem Pf.nd_eq (b : Bool) (d : Nat) (s o : List UInt8) : Pf.nd b d s o = 1 :: UInt8.ofNat (d / 256) :: UInt8.ofNat d :: ((if b then o else s) ++ (if b then s else o)) := by cases b <;> rfl
set_option maxRecDepth 100000 in
theorem by1 (d : Nat) : (d : Int) / 256 % 256 = ((UInt8.ofNat (d / 256)).toNat : Int) := by rw [UInt8.toNat_ofNat']; omega
set_option maxRecDepth 100000 in
theorem by2 (d : Nat) : (d : Int) % 256 = ((UInt8.ofNat d).toNat : Int) := by rw [UInt8.toNat_ofNat']; omega
set_option maxRecDepth 100000 in
theorem own_shape {w : World} {base : Nat} {e : TypeId} {size : Nat} {v : Value} {n : Nat} {xs : List Value} (h : w.ownsRow base e size v n xs) : v.cells = #[v] ∧ v.oneCell' = true := by
  rcases h.2 with ⟨e, h0⟩ | ⟨g, cap, cur, e, _⟩
  · rw [e]; exact ⟨rfl, rfl⟩
  · rw [e]; exact ⟨rfl, rfl⟩
set_option maxRecDepth 100000 in
theorem Own.camex {w : World} {B n c : Nat} {a : Option Addr} {l : List UInt8} (h : Own w B (.slice a n c) l) : Came w a n c l := by
  obtain ⟨e1, e2, e3, e4⟩ := h.lies
  exact ⟨e1.symm, e2, e3, e4, fun e => by subst e; exact h.nilAddr⟩
set_option maxRecDepth 100000 in
theorem room9 {m : Nat} (h : m + 1 ≤ 1000) : m + 1 + 1 ≤ maxLen ∧ (m + 1 + 1) * 24 ≤ 140737488355328 := by unfold maxLen; omega
set_option maxRecDepth 100000 in
theorem rnd_keeps {n0 : Nat} {W W' : World} {S : Nat → Prop} (F : Fr S W W') (hS : ∀ k, S k → ∀ o, W.heap[k]? = some o → o.isCells = true) : KeepsFrom n0 W W' :=
  ⟨F.size, fun k o _ hk ho => (F.block k (Array.getElem?_eq_some_iff.1 hk).1 (fun hs => by rw [hS k hs o hk] at ho; cases ho)).trans hk⟩
set_option maxRecDepth 100000 in
theorem fr_below {w W : World} (h : Below w.heap.size w W) : Fr (fun k => w.heap.size ≤ k) w W := ⟨h.os, h.tape, h.output, h.size, fun k hk hs => h.block k (by omega)⟩
set_option maxRecDepth 100000 in
theorem below_fr {w W W' : World} {S : Nat → Prop} (h : Below w.heap.size w W) (F : Fr S W W') (hS : ∀ k, S k → w.heap.size ≤ k) : Below w.heap.size w W' :=
  h.trans ⟨F.os, F.tape, F.output, F.size, fun k hk => F.block k (by have := h.size; omega) (fun hs => by have := hS k hs; omega)⟩
/-- What holds between two rounds. -/
structure Jt (w : World) (n0 g4 g5 : Nat) (key e : List UInt8) (pre : List Er) (v : Value) (W : World) : Prop where
  bx : Boxed W g5 30 v
  tx : TX W w.heap.size v (Pf.go key e pre)
  ob : ∀ k, v.ownBlock = some k → k = g4 ∨ n0 ≤ k
  ky : W.heap[w.heap.size]? = some (.cells (krow key) 23 (0, 0))
  be : Below w.heap.size w W
  sz : n0 ≤ W.heap.size
set_option maxRecDepth 100000 in
theorem Jt.fr {w : World} {n0 g4 g5 : Nat} {key e : List UInt8} {pre : List Er} {v : Value} {W W' : World} {S : Nat → Prop} (h : Jt w n0 g4 g5 key e pre v W) (F : Fr S W W') (hS : ∀ k, S k → w.heap.size ≤ k ∧ ∀ cs t fz, W.heap[k]? = some (.cells cs t fz) → t ≠ 5 ∧ t ≠ 39 ∧ t ≠ 30 ∧ t ≠ 23) : Jt w n0 g4 g5 key e pre v W' :=
  ⟨(F.block _ h.bx.lt (fun hs => ((hS _ hs).2 _ _ _ h.bx).2.2.1 rfl)).trans h.bx, h.tx.fr F (fun k hk cs t fz hb => ⟨((hS k hk).2 cs t fz hb).1, ((hS k hk).2 cs t fz hb).2.1⟩), h.ob,
    (F.block _ (lt_of_block h.ky) (fun hs => ((hS _ hs).2 _ _ _ h.ky).2.2.2 rfl)).trans h.ky, below_fr h.be F (fun k hk => (hS k hk).1), Nat.le_trans h.sz F.size⟩
set_option maxRecDepth 100000 in
theorem Jt.ext {w : World} {n0 g4 g5 : Nat} {key e : List UInt8} {pre : List Er} {v : Value} {W W' : World} (h : Jt w n0 g4 g5 key e pre v W) (F : Fr (fun _ => False) W W') : Jt w n0 g4 g5 key e pre v W' := h.fr F (fun _ h => h.elim)
set_option maxRecDepth 100000 in
theorem Jt.from {w : World} {n0 g4 g5 : Nat} {key e : List UInt8} (hn : w.heap.size ≤ n0) : OwnFrom n0 (fun (pre : List Er) W => ∃ v, Jt w n0 g4 g5 key e pre v W) := fun s X Y row ⟨v, h⟩ hg hr =>
  ⟨v, h.fr (Fr.ofGrown hg) (fun k hk => ⟨Nat.le_trans hn (hr k hk).1, fun cs t fz hb => by
    obtain ⟨_, o, ho, hc⟩ := hr k hk
    rw [hb] at ho; cases ho; cases hc⟩)⟩
end Go.Proofs.YtndakfanlgilmaaDoor
namespace Go.Proofs.YtndakfanlgilmaaDoor
open Go.RowKit Go.Shelf
set_option linter.unusedVariables false
set_option linter.unusedSimpArgs false
attribute [local go_sem] Oper.semAt_some
set_option maxRecDepth 100000 in
theorem own1_eq {g k n c : Nat} (h : (Value.slice (some ⟨g, 0, none⟩) n c).ownBlock = some k) : k = g := by
  have : g = k := by simpa [Value.ownBlock] using h
  omega
set_option maxRecDepth 100000 in
set_option maxHeartbeats 6400000 in
theorem ptexts_in (key k v : List UInt8) (th : Bool) (S : List (List UInt8)) (a : Option Addr) (n c : Nat) (hSn : S.length = n) (hn9 : n ≤ 1000) (hnc : n ≤ c) (hcm : c ≤ maxLen) (hkey : key.length = 32) (hk : k.length = 32) (hv : v.length = 32) (w : World) (hK : Kv w a S) (ha : ∀ k, inBlk a k → k < w.heap.size) (hE : Env w) :
    CallsIn Fence.wide 5 Tryd.prog 6 #[.agg (krow key), .agg (pfRow (.slice a n c) th k v)] w fun e w' => (∃ u, e = .returned u ∧ TX w' w.heap.size u (Pf.txs key S (Pf.en th k v) n)) ∧ Fr (fun _ => False) w w' := by
  have s1 : (Tryd.prog.info? 35).map (·.size) = some (pfRow (.slice a n c) th k v).size := by rw [pf_size hk hv]; kernel_rfl
  have s2 : (Tryd.prog.info? 23).map (·.size) = some (krow key).size := by rw [krow_size, hkey]; kernel_rfl
  have B0 := heap_alloc2_old w (.cells (krow key) 23) (.cells (pfRow (.slice a n c) th k v) 35)
  have B1 := heap_alloc2_new w (.cells (krow key) 23) (.cells (pfRow (.slice a n c) th k v) 35)
  have F0 := ((Fr.refl (fun _ => False) w).alloc (.cells (krow key) 23)).alloc (.cells (pfRow (.slice a n c) th k v) 35)
  have HB := Lib.hid B0
  have HP := Lib.hid (Pb.of B1 hk)
  have hrow := pf_cell B1 (Part.whole _)
  have HPS := Lib.hid (pf_size (s := .slice a n c) (th := th) hk hv)
  have HF := Lib.hid F0
  have HSZ := Lib.hid (show ((w.alloc (.cells (krow key) 23)).alloc (.cells (pfRow (.slice a n c) th k v) 35)).heap.size = w.heap.size + 2 by simp)
  have HEN := Lib.hid (fun (V : World) => end_any (.slice a n c) th k v hk hv V)
  have HKV := Lib.hid (hK.ext F0)
  have HLE := Lib.hid (Pf.en_le th hk hv)
  clear B0 B1 F0 hk hv hK
  refine callsIn_of_wp_marks Tryd.func6 rfl trivial ?_ rfl
  simp only [Tryd.ntmps6, List.size_toArray, List.length_cons, List.length_nil, Nat.reduceAdd, Nat.reduceSub, Array.replicate_succ, Array.replicate_zero, List.push_toArray, List.append_toArray, List.nil_append, List.cons_append]
  gi_wp2_with (first | (refine wpListIn_load_cells rfl 35 (.tmp 3) rfl (w.heap.size + 1) 0 rfl (pfRow (.slice a n c) th k v) 66 _ Tryd.underlying35 rfl szPd hrow HPS.out ?_) | (refine ⟨trivial, ?_⟩; gi_at_call 16; refine (callsIn_wide.2 (HEN.out _)).mono ?_; rintro e w3 ⟨⟨u, rfl, hu⟩, F3⟩; obtain ⟨ua, un, uc, rfl⟩ := own_slice hu; have HU := Lib.hid hu; have HF3 := Lib.hid F3; clear hu F3 hrow; refine Hid.out ?_))
  have G4 := ((Fr.refl (fun _ => False) w3).alloc (.cells #[.slice ua un uc] 39)).alloc (.cells #[.slice (some ⟨w3.heap.size, 0, none⟩) 1 1] 30)
  have c0 := ((HP.out.fr HF3.out (fun h => h)).fr G4 (fun h => h)).c0
  have HG4 := Lib.hid G4
  clear G4
  have hs3 : w.heap.size + 2 ≤ w3.heap.size := by have := HF3.out.size; have := HSZ.out; omega
  refine Lib.hid ?_
  gi_wp2_with (refine ⟨trivial, ?_⟩; gi_at_call 17; refine (back_any Fence.wide 4 trivial rfl _ _ _ _).mono ?_; rintro e w' ⟨rfl, rfl⟩)
  have A1 := heap_three w3 (.cells #[.slice ua un uc] 39) (.cells #[.slice (some ⟨w3.heap.size, 0, none⟩) 1 1] 30) (.cells #[.slice a n c] 24)
  have A2 := heap_three1 w3 (.cells #[.slice ua un uc] 39) (.cells #[.slice (some ⟨w3.heap.size, 0, none⟩) 1 1] 30) (.cells #[.slice a n c] 24)
  have A3 := heap_three2 w3 (.cells #[.slice ua un uc] 39) (.cells #[.slice (some ⟨w3.heap.size, 0, none⟩) 1 1] 30) (.cells #[.slice a n c] 24)
  have G5 := HG4.out.alloc (.cells #[.slice a n c] 24)
  have hsz : (((w3.alloc (.cells #[.slice ua un uc] 39)).alloc (.cells #[.slice (some ⟨w3.heap.size, 0, none⟩) 1 1] 30)).alloc (.cells #[.slice a n c] 24)).heap.size = w3.heap.size + 3 := by simp
  generalize (((w3.alloc (.cells #[.slice ua un uc] 39)).alloc (.cells #[.slice (some ⟨w3.heap.size, 0, none⟩) 1 1] 30)).alloc (.cells #[.slice a n c] 24)) = W0 at *
  have G05 := (HF.out.trans HF3.out (fun _ h => h.elim)).trans G5 (fun _ h => h.elim)
  have he67 : (Pf.en th k v).length ≤ 67 := HLE.out
  have J0 : Jt w W0.heap.size w3.heap.size (w3.heap.size + 1) key (Pf.en th k v) [] (.slice (some ⟨w3.heap.size, 0, none⟩) 1 1) W0 :=
    ⟨A2, TX.one A1 (by omega) ((HU.out.up (by have := HSZ.out; omega)).ext G5), fun k hk => .inl (own1_eq hk),
      ((HF3.out.trans G5 (fun _ h => h.elim)).block _ (lt_of_block HB.out) (fun h => h)).trans HB.out, below_fr (Below.refl _ w) G05 (fun _ h => h.elim), Nat.le_refl _⟩
  have hKv : Kv W0 a S := HKV.out.ext (HF3.out.trans G5 (fun _ h => h.elim))
  have ha' : ∀ k, inBlk a k → k < W0.heap.size := fun k hk => by have := ha k hk; omega
  have hc5 : W0.cell? ⟨w3.heap.size + 2, 0, none⟩ = some (.slice a n c) := (cell_of_block A3 0).trans rfl
  have HAA := Lib.hid (show ∀ k, inBlk a k → k < w.heap.size from ha)
  generalize hee : Pf.en th k v = ee at *
  have HEQ := Lib.hid hee
  obtain ⟨g4, hg4⟩ : ∃ g4, g4 = w3.heap.size := ⟨_, rfl⟩
  obtain ⟨g5, hg5⟩ : ∃ g5, g5 = w3.heap.size + 1 := ⟨_, rfl⟩
  obtain ⟨gs, hgs⟩ : ∃ gs, gs = w3.heap.size + 2 := ⟨_, rfl⟩
  rw [← hgs, ← hg5, ← hg4]
  rw [← hg5, ← hg4] at J0
  rw [← hgs] at hc5
  have HG := Lib.hid (show w.heap.size + 2 ≤ g4 ∧ g5 = g4 + 1 ∧ gs = g4 + 2 ∧ W0.heap.size = g4 + 3 by omega)
  have hgs2 : gs < W0.heap.size := by omega
  have hw0 : w.heap.size ≤ W0.heap.size := by omega
  have HS2 := Lib.hid s2
  have HEE := Lib.hid he67
  have HE0 := Lib.hid hE
  have HKY := Lib.hid hkey
  have HXX := Lib.hid (And.intro hSn hKv.all)
  have HX05 := Lib.hid G05
  clear A1 A2 A3 G5 hsz G05 he67 hg4 hg5 hgs hE HB HP HPS HF HSZ HEN HKV HU HF3 HG4 hs3 c0 s1 s2 hee hkey ha
  refine wpIn_rangeFunc_ownH (w := W0) rfl (by decide) (gf := 28) (lb := #[.pointer (some ⟨gs, 0, none⟩)]) rfl trivial (enters_of Tryd.func28 (by kernel_rfl) rfl)
    (back32_stops Fence.wide 4 trivial rfl (by decide) gs n c a S hSn hnc hcm W0 hgs2 ha' hc5 hKv) KP.t (KP.put hgs2 ha') (Below.refl _ _) (fun _ => rfl)
    (fun pre W => ∃ u, Jt w W0.heap.size g4 g5 key ee pre u W)
    (fun _ _ _ => False)
    (Jt.from hw0)
    (fun _ _ _ _ _ hs _ _ => hs)
    ⟨_, J0⟩
    (fun x a' W => ∃ Ex, W0.heap.size ≤ Ex ∧ W.heap[Ex]? = some (.cells (krow (nrm x.2)) 22 (0, 0)) ∧ a' = { tmps := #[.agg (krow key), .agg (pfRow (.slice a n c) th k v), .pointer (some ⟨w.heap.size, 0, none⟩), .pointer (some ⟨w.heap.size + 1, 0, none⟩), .slice none 0 0, .pointer (some ⟨g5, 0, none⟩), .int .i64 (x.1 : Int), .pointer (some ⟨Ex, 0, none⟩), undef, .agg (pfRow (.slice a n c) th k v), .slice ua un uc, .slice (some ⟨g4, 0, none⟩) 1 1, .pointer (some ⟨w.heap.size + 1, 0, none⟩), .slice a n c, .func (.func 28) #[] #[.pointer (some ⟨gs, 0, none⟩)], .int .i64 (x.1 : Int), .agg (krow (nrm x.2)), undef, undef, undef, undef, undef, undef, undef, undef, undef, undef, undef, undef, undef, undef, undef, undef, undef, undef, undef, undef, undef, undef], defers := [] })
    (fun x a' _ X Y row hs hg hr => by
      obtain ⟨Ex, h1, h2, h3⟩ := hs
      exact ⟨Ex, h1, (hg.block Ex (lt_of_block h2) (fun e => by obtain ⟨_, o, ho, hc⟩ := hr Ex e.symm; rw [h2] at ho; cases ho; cases hc)).trans h2, h3⟩)
    ?assign ?body ?done ?stop
  case assign =>
    rintro l pre x W K ⟨u, hJ⟩ hK
    gi_wp2_with (refine wpListIn_one (by intro c e; cases e) ?_; rw [zero32]; refine wpList_store_rowA rfl 22 (.tmp 7) (.tmp 16) rfl W.heap.size (krow (nrm x.2)) rfl rfl 22 _ (heap_alloc_new _ _) (sz32' (nrm_len _)) (by rw [ub_size, krow_size, nrm_len]) (krow_one _) ?_; intro w2 B F; refine ⟨rfl, ?_⟩; simp only [Act.put, List.setIfInBounds_toArray, List.set_cons_zero, List.set_cons_succ]; refine Hid.out ?_)
    have G : Fr (fun _ => False) W w2 := ((Fr.refl (fun _ => False) W).alloc (.cells (ub 32 (fun _ => 0)) 22)).trans F (fun k hk => .inr (by rw [hk]; exact Nat.le_refl _))
    refine Lib.hid ?_
    gi_wp2
    exact hK _ _ (rnd_keeps G (fun _ h => h.elim)) (G.mono (fun _ _ h => h.elim)) ⟨u, hJ.ext G⟩ ⟨W.heap.size, hJ.sz, B, rfl⟩
  case body =>
    rintro l pre x a' W hl ⟨r9, hr9⟩ ⟨u, hJ⟩ ⟨Ex, hEx, hE7, rfl⟩ hlt
    obtain ⟨d, r0⟩ := x
    have hgs := Pf.go_snoc key ee pre (d, r0)
    dsimp only at hgs hE7
    have hr32 := nrm_len r0
    generalize nrm r0 = rr at *
    have hgl := Pf.go_len key ee _ pre rfl
    obtain ⟨gv, cap, sa, sn, sc, hu, hcell, hown, cv, fzv, hbl⟩ := hJ.tx.last hgl
    subst hu
    have htl : ((Pf.go key ee pre).getLastD []).length ≤ 67 := Pf.go_le key HEE.out _ pre rfl _ (by
      rcases list_snoc (Pf.go key ee pre) with h | ⟨t, y, h⟩
      · rw [h] at hgl; simp at hgl
      · rw [h, List.getLastD_concat]; simp)
    generalize htt : (Pf.go key ee pre).getLastD [] = tt at *
    have HJ := Lib.hid hJ
    have HGS := Lib.hid hgs
    have HGL := Lib.hid hgl
    have HV := Lib.hid (And.intro hcell (And.intro hown hbl))
    have HT := Lib.hid htl
    have HR := Lib.hid hr32
    have HM := Lib.hid (show pre.length + 1 ≤ 1000 by omega)
    have HE7 := Lib.hid hE7
    have b55 := bp55 hr32 hr32
    clear hJ hgs hgl hcell hown hbl htl hr32 htt hE7 hr9
    refine wpIn_block ?_
    refine wpIn_seq ?_
    refine wpIn_region_round (by kernel_rfl) ?_
    go_wp2_with (first | (refine wpList_load_row rfl 22 (.tmp 7) rfl Ex rfl 22 (krow rr) (0, 0) _ HE7.out Tryd.underlying22 rfl (sz32' HR.out) ?_) | (refine wpList_build2 rfl 55 0 1 (.tmp 17) (.tmp 18) (.agg (krow rr)) (.agg (krow rr)) rfl (leafRow rr rr) b55 rfl rfl ?_) | (refine wpList_store_rowA rfl 55 (.tmp 8) (.tmp 19) rfl W.heap.size (leafRow rr rr) rfl rfl 55 _ (heap_alloc_new _ _) (by rw [sz55, leaf_size HR.out HR.out]) (by rw [leaf_size HR.out HR.out]; rfl) (leaf_one _ _) ?_; intro W6 B6 F6; simp only [Act.put, List.setIfInBounds_toArray, List.set_cons_zero, List.set_cons_succ]; refine Hid.out ?_))
    have G6 : Fr (fun _ => False) W W6 := ((Fr.refl (fun _ => False) W).alloc _).trans F6 (fun k hk => .inr (by rw [hk]; exact Nat.le_refl _))
    have HJ6 := Lib.hid (HJ.out.ext G6)
    have HV6 := Lib.hid (And.intro (G6.cellSome (p := ⟨gv, pre.length, none⟩) (fun h => h) HV.out.1) (And.intro (HV.out.2.1.ext G6) ((G6.block _ (lt_of_block HV.out.2.2) (fun h => h)).trans HV.out.2.2)))
    have HG6 := Lib.hid G6
    have HVW := Lib.hid HV.out.2.2
    have HB6 := Lib.hid B6
    have HLT := Lib.hid (show gv < W.heap.size ∧ g5 < W.heap.size ∧ w.heap.size < W.heap.size ∧ W0.heap.size ≤ W.heap.size from ⟨lt_of_block HV.out.2.2, HJ.out.bx.lt, lt_of_block HJ.out.ky, HJ.out.sz⟩)
    have HOB := Lib.hid (show gv = g4 ∨ W0.heap.size ≤ gv from HJ.out.ob gv (by rfl))
    obtain ⟨m, hm⟩ : ∃ m, m = pre.length := ⟨_, rfl⟩
    rw [← hm] at HJ6 HV6 HGL HM
    have HBD := Lib.hid (show m + 1 + 1 ≤ maxLen ∧ (m + 1 + 1) * 24 ≤ 140737488355328 from room9 HM.out)
    obtain ⟨z, hz⟩ : ∃ z, z = bn (kb key d) := ⟨_, rfl⟩
    have hz2 : z < 2 := by rw [hz]; exact bn_lt _
    have HBI := Lib.hid (bit_all HKY.out d)
    rw [← hz] at HBI
    have HZ := Lib.hid hz
    have g8e : ∃ g8, g8 = W.heap.size := ⟨_, rfl⟩
    obtain ⟨g8, hg8⟩ := g8e
    rw [← hg8] at HB6
    have HG8 := Lib.hid hg8
    clear G6 B6 F6 hm hz HV hg8
    refine Lib.hid ?_
    go_wp2_with fail
    rw [← HG8.out]
    refine wpIn_seq ?_
    have q0 : (0 : Int) ≤ (m : Int) := Int.natCast_nonneg m
    have q1 : (m : Int) < ((m + 1 : Nat) : Int) := by omega
    have q2 : wrap64 (((m + 1 : Nat) : Int) - 1) = (m : Int) := by rw [IntWalk.wrap64_in _ (by have := HM.out; omega)]; omega
    have q3 : (0 : Int) ≤ (z : Int) := Int.natCast_nonneg z
    have q4 : (z : Int) < 2 := by omega
    have s2 := HS2.out
    have q5 : wrap64 (m : Int) = (m : Int) := IntWalk.wrap64_in _ (by have := HM.out; omega)
    have q6 : (m : Int) < (m : Int) + 1 := by omega
    refine Ks.wpIn_region_mono (fun b => b = g8) (sg 0 9 ++ ((9, true) :: ((10, true) :: (sg 11 1 ++ ((12, true) :: ([])))))) (by kernel_rfl) (by kernel_rfl) ?_
    refine Ks.Wk.seg 0 9 (by kernel_rfl) (by kernel_rfl) ?_
    apply Exists.intro
    refine ⟨?wk0, ?fin0⟩
    case wk0 =>
      intro γ
      have kx5 : ∀ u : Ks.Ws γ, u.w.cell? ⟨g5, 0, none⟩ = some (.slice (some ⟨gv, 0, none⟩) (m + 1) cap) := fun u => u.h.cellSome (p := ⟨g5, 0, none⟩) (by have := HLT.out; have := HG8.out; show ¬ g5 = g8; omega) HJ6.out.bx.cell
      have kxv : ∀ u : Ks.Ws γ, u.w.cell? ⟨gv, m, none⟩ = some (.slice sa sn sc) := fun u => u.h.cellSome (p := ⟨gv, m, none⟩) (by have := HLT.out; have := HG8.out; show ¬ gv = g8; omega) HV6.out.1
      simp only [List.drop_succ_cons, List.drop_zero, List.take_succ_cons, List.take_zero]
      repeat (any_goals (first | (focus (go_big_quiet_want; (refine Ks.quiet_load_rows 23 (.tmp 2) rfl w.heap.size rfl 23 (krow key) (0, 0) _ HJ6.out.ky (by have := HLT.out; have := HG8.out; show ¬ w.heap.size = g8; omega) Tryd.underlying23 rfl s2 ?_); simp only [Act.put, List.setIfInBounds_toArray, List.set_cons_zero, List.set_cons_succ]; go_big_quiet_on)) | go_big_quiet_step ((go_at_call 19; exact Ks.Calls.keeps (HBI.out _))) | quiet_step ((go_at_call 19; exact Ks.Calls.keeps (HBI.out _)))))
      exact wpQuiet_nil rfl
    case fin0 =>
    (try simp only [Act.put, List.setIfInBounds_toArray, List.set_cons_zero, List.set_cons_succ])
    refine Ks.Wk.one rfl (fun w4 Xw4 => ?_)
    refine wpList_buildSlice rfl 30 1 _ rfl #[(0, .slice sa sn sc)] (by first | kernel_rfl | rfl | simp [Act.eval]) (mkT1 _ _ _ w4) ⟨rfl, Ks.Es.of ((Fr.refl _ w4).alloc _), ?_⟩
    (try simp only [List.getElem_toArray, List.getElem_cons_succ, List.getElem_cons_zero, Act.put, List.setIfInBounds_toArray, List.set_cons_zero, List.set_cons_succ])
    have B4 := heap_alloc_new w4 (.cells #[.slice sa sn sc] 39)
    have X4 : Fr (fun _ => False) W6 (w4.alloc (.cells #[.slice sa sn sc] 39)) := Xw4.alloc _
    have C4 := Own.camex (HV6.out.2.1.ext X4)
    have P4 := parts_one B4 C4
    have E4 := (HE0.out.fr (fr_below HJ6.out.be) (by have := HE0.out.lt; show ¬ _ ≤ _; omega)).ext X4
    generalize (w4.alloc (.cells #[.slice sa sn sc] 39)) = v4 at *
    refine Ks.Wk.call rfl (by kernel_rfl) 18 #[.slice (some ⟨w4.heap.size, 0, none⟩) 1 1] (fun W => by first | kernel_rfl | rfl) (fun vv V => vv = .agg (krow (S2.sum tt))) (fun V hx => (psum_any _ [tt] 1 1 rfl V (P4.grow hx) (by unfold maxLen; omega) (by have := HT.out; simp; omega) (E4.ext hx)).mono (fun e V' he => ⟨_, he.1, he.2, by rw [krow_sum]; simp⟩)) ?_
    rintro vv w5 X5 rfl
    (try simp only [List.getElem_toArray, List.getElem_cons_succ, List.getElem_cons_zero, Act.put, List.setIfInBounds_toArray, List.set_cons_zero, List.set_cons_succ])
    refine Ks.Wk.seg 11 1 (by kernel_rfl) (by kernel_rfl) ?_
    apply Exists.intro
    refine ⟨?wk3, ?fin3⟩
    case wk3 =>
      intro γ
      simp only [List.drop_succ_cons, List.drop_zero, List.take_succ_cons, List.take_zero]
      repeat (any_goals (first | go_big_quiet_step (fail) | quiet_step (fail)))
      exact wpQuiet_nil rfl
    case fin3 =>
    (try simp only [Act.put, List.setIfInBounds_toArray, List.set_cons_zero, List.set_cons_succ])
    refine Ks.Wk.one rfl (fun w6 Xw6 => ?_)
    have HB64 := (X4.block _ (lt_of_block HB6.out) (fun h => h)).trans HB6.out
    have HB65 := (X5.block _ (lt_of_block HB64) (fun h => h)).trans HB64
    have HB66 := (Xw6.block _ (lt_of_block HB65) (fun h => h)).trans HB65
    refine wpList_store_seg rfl 22 (.tmp 31) (.tmp 30) rfl g8 (z * 32) (krow (S2.sum tt)) (by first | rfl | simp [Act.eval]) rfl (krow_one _) (sz32' (sum_length _)) 55 (leafRow rr rr) HB66 (by rw [leaf_size HR.out HR.out, krow_size, sum_length]; omega) (fun w8 B8 F8 => ⟨rfl, F8, ?_⟩)
    (try simp only [List.getElem_toArray, List.getElem_cons_succ, List.getElem_cons_zero, Act.put, List.setIfInBounds_toArray, List.set_cons_zero, List.set_cons_succ])
    intro w9 X9
    have B9 := (X9.block _ (lt_of_block B8) (fun h => h)).trans B8
    rw [HZ.out, leaf_set HR.out (sum_length tt)] at B9
    have F69 : Fr (fun b => b = g8) W6 w9 := (((X4.trans X5 (fun _ h => h.elim)).trans Xw6 (fun _ h => h.elim)).mono (T := fun b => b = g8) (fun _ _ h => h.elim)).trans (F8.trans X9 (fun _ h => h.elim)) (fun _ h => .inl h)
    have hnd := Pf.nd_eq (kb key d) d (S2.sum tt) rr
    have hA : (if kb key d then rr else S2.sum tt).length = 32 := by split; exact HR.out; exact sum_length _
    have hB : (if kb key d then S2.sum tt else rr).length = 32 := by split; exact sum_length _; exact HR.out
    generalize (if kb key d then rr else S2.sum tt) = ra at *
    generalize (if kb key d then S2.sum tt else rr) = rb at *
    have HJ9 := Lib.hid (HJ6.out.fr F69 (fun k hk => ⟨by have := HLT.out; have := HG8.out; omega, fun cs t fz hb => by rw [hk, HB6.out] at hb; cases hb; decide⟩))
    have HB9 := Lib.hid B9
    have HV9 := Lib.hid ((F69.block _ (lt_of_block HV6.out.2.2) (by have := HLT.out; have := HG8.out; show ¬ gv = g8; omega)).trans HV6.out.2.2)
    have HF9 := Lib.hid (HG6.out.trans F69 (fun k hk => .inr (by have := HG8.out; omega)))
    have HND := Lib.hid hnd
    have HAB := Lib.hid (And.intro hA hB)
    clear B8 F8 X9 HB66 HB65 HB64 Xw6 X5 E4 P4 C4 B4 X4 Xw4 B9 F69 hnd hA hB HB6 HV6 HJ6 HG6
    have HNG := Lib.hid (show gv ≠ g5 by have := HOB.out; have := HG.out; omega)
    obtain ⟨ti, zz, hTI⟩ := tInfo
    have HTI := Lib.hid hTI
    clear hTI
    refine Kj.wpIn_region_mono (fun j b => (j = 5 ∧ gv = b) ∨ (j = 6 ∧ b = g5)) (sg 0 1 ++ (sg 1 2 ++ ((3, true) :: ((4, true) :: ((5, true) :: ((6, true) :: ([]))))))) (by kernel_rfl) (by kernel_rfl) ?_
    refine Kj.Wk.seg (fun b => gv = b) 0 1 (by kernel_rfl) (by kernel_rfl) (fun j b h => h.elim (fun h => .inr h.2) (fun h => .inl (by rw [h.1]; kernel_rfl))) ?_
    apply Exists.intro
    refine ⟨?wk0, ?fin0⟩
    case wk0 =>
      intro γ
      have kx5 : ∀ u : Ks.Ws γ, u.w.cell? ⟨g5, 0, none⟩ = some (.slice (some ⟨gv, 0, none⟩) (m + 1) cap) := fun u => u.h.cellSome (p := ⟨g5, 0, none⟩) (by have := HNG.out; show ¬ gv = g5; omega) HJ9.out.bx.cell
      simp only [List.drop_succ_cons, List.drop_zero, List.take_succ_cons, List.take_zero]
      repeat (any_goals (first | go_big_quiet_step (fail) | quiet_step (fail)))
      exact wpQuiet_nil rfl
    case fin0 =>
    (try simp only [Act.put, List.setIfInBounds_toArray, List.set_cons_zero, List.set_cons_succ])
    refine Kj.Wk.seg (fun b => gv = b ∨ b = g5) 1 2 (by kernel_rfl) (by kernel_rfl) (fun j b h => .inr (h.imp And.right And.right)) ?_
    apply Exists.intro
    refine ⟨?wk1, ?fin1⟩
    case wk1 =>
      intro γ
      simp only [List.drop_succ_cons, List.drop_zero, List.take_succ_cons, List.take_zero]
      repeat (any_goals (first | (focus (go_big_quiet_want; (refine Ks.quiet_load_rows 55 (.tmp 8) rfl g8 rfl 55 (leafRow ra rb) (0, 0) _ HB9.out (by have := HLT.out; have := HG8.out; rintro (h | h) <;> omega) Tryd.underlying55 rfl (by rw [sz55, leaf_size HAB.out.1 HAB.out.2]) ?_); simp only [Act.put, List.setIfInBounds_toArray, List.set_cons_zero, List.set_cons_succ]; go_big_quiet_on)) | go_big_quiet_step (fail) | quiet_step (fail)))
      exact wpQuiet_nil rfl
    case fin1 =>
    (try simp only [Act.put, List.setIfInBounds_toArray, List.set_cons_zero, List.set_cons_succ])
    refine Kj.Wk.call rfl (by kernel_rfl) 20 #[.int .i64 (d : Int), .agg (leafRow ra rb)] (fun W => by first | kernel_rfl | rfl) (fun vv V => Own V w.heap.size vv (Pf.nd (kb key d) d (S2.sum tt) rr)) (fun V hx => (pnode_any (d : Int) _ _ (by1 d) (by2 d) ra rb HAB.out.1 HAB.out.2 V).mono (fun e V' he => by obtain ⟨⟨u, e1, ho⟩, hf⟩ := he; exact ⟨u, e1, hf, by rw [HND.out]; exact ho.up (by have := hx.size; have := HF9.out.size; have := HLT.out; omega)⟩)) ?_
    rintro vv w2 X2 hO2
    obtain ⟨na, nn, nc, rfl⟩ := own_slice hO2
    (try simp only [List.getElem_toArray, List.getElem_cons_succ, List.getElem_cons_zero, Act.put, List.setIfInBounds_toArray, List.set_cons_zero, List.set_cons_succ])
    refine Kj.Wk.one rfl (fun w3 Xw3 => ?_)
    refine wpList_buildSlice rfl 30 1 _ rfl #[(0, .slice na nn nc)] (by first | kernel_rfl | rfl | simp [Act.eval]) (mkT1 _ _ _ w3) ⟨rfl, Ks.Es.of ((Fr.refl _ w3).alloc _), ?_⟩
    (try simp only [List.getElem_toArray, List.getElem_cons_succ, List.getElem_cons_zero, Act.put, List.setIfInBounds_toArray, List.set_cons_zero, List.set_cons_succ])
    have B3 := heap_alloc_new w3 (.cells #[.slice na nn nc] 39)
    have X23 : Fr (fun _ => False) w9 (w3.alloc (.cells #[.slice na nn nc] 39)) := (X2.trans Xw3 (fun _ h => h.elim)).alloc _
    have O3 := (hO2.ext Xw3).ext ((Fr.refl (fun _ => False) w3).alloc (.cells #[.slice na nn nc] 39))
    refine Kj.Wk.one rfl (fun w4 Xw4 => ?_)
    have X24 := X23.trans Xw4 (fun _ h => h.elim)
    obtain ⟨vs, V1, V2⟩ := HJ9.out.tx.ext X24
    have V1' : w4.ownsRow w.heap.size 39 1 (.slice (some ⟨gv, 0, none⟩) (m + 1) cap) (m + 1) vs := by have h9 := V1; rw [HGL.out] at h9; exact h9
    have B4 := (Xw4.block _ (lt_of_block B3) (fun h => h)).trans B3
    have O4 := O3.ext Xw4
    have hz4 : w.heap.size ≤ w4.heap.size := by have := X24.size; have := HF9.out.size; have := HLT.out; omega
    refine wpList_app _ rfl (.tmp 32) (.tmp 36) 30 30 rfl w.heap.size 39 ti zz 1 24 Tryd.underlying30 HTI.out.1 HTI.out.2.1 HTI.out.2.2.1 HTI.out.2.2.2.1 HTI.out.2.2.2.2 (by decide) (.slice (some ⟨gv, 0, none⟩) (m + 1) cap) (m + 1) vs rfl V1' _ rfl 1 [.slice na nn nc] (src_tx rfl B4) HBD.out.1 HBD.out.2 hz4 (fun v5 w5 O5 G5 G5x => ⟨rfl, (Fr.ofGrown G5).mono (fun k _ hk => .inl ⟨rfl, (own1_eq hk).symm⟩), ?_⟩)
    (try simp only [List.getElem_toArray, List.getElem_cons_succ, List.getElem_cons_zero, Act.put, List.setIfInBounds_toArray, List.set_cons_zero, List.set_cons_succ])
    have HTX5 := Lib.hid (TX.app V1 V2 O4 (by rw [HGL.out]; exact O5) G5)
    have HSH5 := Lib.hid (own_shape O5)
    have HX5 := Lib.hid (show ∀ k, v5.ownBlock = some k → k = gv ∨ W0.heap.size ≤ k from fun k hk => by
      rcases G5x with h | h
      · rw [h] at hk; exact .inl (own1_eq hk)
      · rw [h] at hk
        have h1 := Option.some.inj hk
        have := X24.size; have := HF9.out.size; have := HLT.out
        exact .inr (by omega))
    have HF5 := Lib.hid (show Fr (fun k => gv = k) w9 w5 from (X24.mono (T := fun k => gv = k) (fun _ _ h => h.elim)).trans (Fr.ofGrown G5) (fun k h => .inl (own1_eq h).symm))
    clear G5x G5 O5 hz4 O4 B4 V1 V1' V2 X24 Xw4 O3 X23 B3 Xw3 X2 hO2
    refine Kj.Wk.one rfl (fun w6 Xw6 => ?_)
    have D5 := (HF5.out.block g5 HJ9.out.bx.lt (by have := HNG.out; show ¬ gv = g5; omega)).trans HJ9.out.bx
    have D6 := (Xw6.block _ (lt_of_block D5) (fun h => h)).trans D5
    refine wpList_store_one rfl 30 (.tmp 5) (.tmp 37) rfl g5 0 v5 rfl rfl HSH5.out.1 HSH5.out.2 szTBB 30 _ D6 (by simp) (fun w7 D7 F7 => ⟨rfl, F7.mono (fun k _ hk => .inr ⟨rfl, hk⟩), ?_⟩)
    (try simp only [List.getElem_toArray, List.getElem_cons_succ, List.getElem_cons_zero, Act.put, List.setIfInBounds_toArray, List.set_cons_zero, List.set_cons_succ])
    intro w8 X8
    have D8 := (X8.block _ (lt_of_block D7) (fun h => h)).trans D7
    have F58 : Fr (fun k => k = g5) w5 w8 := ((Xw6.mono (T := fun k => k = g5) (fun _ _ h => h.elim)).trans F7 (fun _ h => .inl h)).trans X8 (fun _ h => h.elim)
    have T8 := HTX5.out.fr F58 (fun k hk cs t fz hb => by rw [hk, D5] at hb; cases hb; decide)
    have F98 : Fr (fun k => k = gv ∨ k = g5) w9 w8 := (HF5.out.mono (T := fun k => k = gv ∨ k = g5) (fun _ _ h => .inl h.symm)).trans F58 (fun _ h => .inl (.inr h))
    have FW8 : Fr (fun k => k = gv ∨ k = g5) W w8 := (HF9.out.mono (T := fun k => k = gv ∨ k = g5) (fun _ _ h => h.elim)).trans F98 (fun _ h => .inl h)
    refine ⟨rnd_keeps FW8 (fun k hk o ho => ?_), FW8.mono (fun k _ hk hn => ?_), v5, ?_⟩
    · rcases hk with rfl | rfl
      · rw [HVW.out] at ho; cases ho; rfl
      · rw [show W.heap[_]? = _ from HJ.out.bx] at ho; cases ho; rfl
    · have := HOB.out; have := HG.out
      rcases hn with hn | hn
      · omega
      · have := HAA.out k hn; omega
    · refine ⟨D8, ?_, fun k hk => ?_, ?_, ?_, ?_⟩
      · rw [HGS.out]; exact T8
      · rcases HX5.out k hk with h | h
        · rw [h]; exact HOB.out
        · exact .inr h
      · exact (F98.block _ (lt_of_block HJ9.out.ky) (by have := HOB.out; have := HG.out; rintro (h | h) <;> omega)).trans HJ9.out.ky
      · exact below_fr HJ9.out.be F98 (fun k hk => by have := HOB.out; have := HG.out; omega)
      · exact Nat.le_trans HJ9.out.sz F98.size
  case done =>
    rintro D ys W hD rfl ⟨u, hJ⟩ hK
    obtain ⟨b1, b2, b3, rfl⟩ : ∃ a n c, u = .slice a n c := by
      obtain ⟨g, cap, a, n, c, e, _⟩ := hJ.tx.last (m := n) (by rw [Pf.go_len _ _ _ _ (br_len _ _)])
      exact ⟨_, _, _, e⟩
    have hc := hJ.bx.cell
    have hF : Fr (fun _ => False) w W := (fr_below hJ.be).trans (Fr.refl (fun _ => False) W) (fun _ h => h.elim) |>.mono (fun k hk hs => by omega)
    have hP := (Fr.ofGrown (grownBy_putObj' W D (.deferred none))).mono (T := fun k => W0.heap.size ≤ k) (fun k _ e => by cases e; exact hD)
    have hT := hJ.tx.fr (Fr.ofGrown (grownBy_putObj' W D (.deferred none))) (fun k e cs t fz hb => by cases e; rw [hK] at hb; cases hb)
    rw [Pf.go_br key ee HXX.out.2 n (by have := HXX.out.1; omega)] at hT
    rw [← HEQ.out] at hT
    gi_wp2
    refine ⟨by simp, .inl ⟨_, _, rfl, run_takeDeferred hK, ?_⟩⟩
    exact ⟨_, results_tmp rfl _ _ _, ⟨.slice b1 b2 b3, rfl, hT⟩, hF.trans hP (fun k h => .inr (by omega))⟩
  case stop =>
    rintro D c pre W _ _ h _
    exact h.elim
end Go.Proofs.YtndakfanlgilmaaDoor
namespace Go.Proofs.YtndakfanlgilmaaDoor
open Go.RowKit
set_option linter.unusedVariables false
set_option linter.unusedSimpArgs false
set_option maxRecDepth 100000 in
theorem results_ctt {P : Program} {fn : Func} {p q r : Tmp} {ty : TypeId} (h : fn.results = #[.cell p ty, .tmp q, .tmp r]) (tmps : Array Value) (w : World) (g : Nat) (t : TypeId) (cs : Array Value) (fr : Nat × Nat) (d : TypeDesc)
    (hp : tmps.getD p undef = .pointer (some ⟨g, 0, none⟩)) (hg : w.heap[g]? = some (.cells cs t fr)) (hu : P.underlying ty = some d) (hd : (match d with | .struct _ | .array _ _ => true | _ => false) = true) (hi : (P.info? ty).map (·.size) = some cs.size) :
    (results fn tmps).run P w = .ok (.tuple #[.agg cs, tmps.getD q undef, tmps.getD r undef]) w := by
  have hp' : tmps[p]?.getD undef = .pointer (some ⟨g, 0, none⟩) := by simpa using hp
  simp [results, h, hp', asAddr, run_loadVar_row w g t ty cs fr d hg hu hd hi]
def Pf.z : List UInt8 := List.replicate 32 0
set_option maxRecDepth 100000 in
theorem Pf.z_len : Pf.z.length = 32 := by simp [Pf.z]
set_option maxRecDepth 100000 in
theorem built_z : Tryd.prog.built 22 [] = some (krow Pf.z) := by kernel_rfl
set_option maxRecDepth 100000 in
theorem ub_z : ub 32 (fun _ => 0) = krow Pf.z := by rfl
set_option maxRecDepth 100000 in
theorem wpList_guarded {P : Program} {ops : Array Oper} {rest : List Oper} {o : Oper} {a : Act} {w : World} {Q : Exit → Act → World → Prop} (hw : Region.wanted o (yielded ops a.tmps) = true) (h : wpList P ops Q ({ o with guard := none } :: rest) a w) : wpList P ops Q (o :: rest) a w := by
  unfold wpList at h ⊢
  rw [if_pos hw]
  rw [if_pos (show Region.wanted { o with guard := none } (yielded ops a.tmps) = true from rfl)] at h
  exact h
set_option maxRecDepth 100000 in
theorem wpList_build0 {P : Program} {ops : Array Oper} {rest : List Oper} {o : Oper} {a : Act} {w : World} {Q : Exit → Act → World → Prop} (hg : o.guard = none) (t : TypeId) (ho : o.op = .build t #[])
    (cs : Array Value) (hb : P.built t [] = some cs) (h : wpList P ops Q rest (a.put o.dst (.agg cs)) w) : wpList P ops Q (o :: rest) a w :=
  wpList_build_to hg t _ ho cs (by simpa using hb) h
/-- Is a proof taken? -/
def Pf.pass (key root : List UInt8) (S : List (List UInt8)) (th : Bool) (k v : List UInt8) (c : Nat) : Bool := decide (S.length ≤ 256) && (!th || (decide ((S.length : Int) ≤ (c : Int)) || (c == 256))) && (S2.sum (Pf.tx key S (Pf.en th k v) S.length) == root)
set_option maxRecDepth 100000 in
theorem Pf.txs_last (key : List UInt8) (S : List (List UInt8)) (e : List UInt8) (n : Nat) : (Pf.txs key S e n).getLastD [] = Pf.tx key S e n := by
  cases n with
  | zero => rfl
  | succ n => rw [Pf.txs_succ, List.getLastD_concat]
set_option maxRecDepth 100000 in
theorem eql_rowK {x y : List UInt8} (hx : x.length = 32) (hy : y.length = 32) (w : World) : (binOp .eql 23 (.agg (krow x)) (.agg (krow y))).run Tryd.prog w = .ok (.bool (x == y)) w := by
  refine run_eql_bytes w 23 5 32 Tryd.underlying23 Tryd.underlying5 ?_ _ _ hx hy
  intro w2
  obtain ⟨i0, hi, hz⟩ := Option.map_eq_some_iff.1 Tryd.sizeB
  simp [sizeOf, typeInfo, hi, hz]
set_option maxRecDepth 100000 in
theorem neq_rowK {x y : List UInt8} (hx : x.length = 32) (hy : y.length = 32) (w : World) : (binOp .neq 23 (.agg (krow x)) (.agg (krow y))).run Tryd.prog w = .ok (.bool (!(x == y))) w := by
  have h := eql_rowK hx hy w
  simp only [binOp, Sem.run_bind] at h ⊢
  cases hr : (Op.equal 23 (.agg (krow x)) (.agg (krow y))).run Tryd.prog w with
  | ok b w2 =>
    rw [hr] at h
    simp only [Result.andThen_ok, Sem.run_pure, Result.ok.injEq, Value.bool.injEq] at h ⊢
    exact ⟨by rw [h.1], h.2⟩
  | halt b w2 => rw [hr] at h; simp [Result.andThen] at h
set_option maxRecDepth 100000 in
theorem ptexts_any (key k v : List UInt8) (th : Bool) (S : List (List UInt8)) (a : Option Addr) (n c : Nat) (hSn : S.length = n) (hn9 : n ≤ 1000) (hnc : n ≤ c) (hcm : c ≤ maxLen) (hkey : key.length = 32) (hk : k.length = 32) (hv : v.length = 32) (w : World) (hK : Kv w a S) (ha : ∀ k, inBlk a k → k < w.heap.size) (hE : Env w) :
    Calls Tryd.prog 6 #[.agg (krow key), .agg (pfRow (.slice a n c) th k v)] w fun e w' => (∃ u, e = .returned u ∧ TX w' w.heap.size u (Pf.txs key S (Pf.en th k v) n)) ∧ Fr (fun _ => False) w w' :=
  callsIn_wide.1 (ptexts_in key k v th S a n c hSn hn9 hnc hcm hkey hk hv w hK ha hE)
set_option maxRecDepth 100000 in
theorem heap_four (w : World) (A B C D : Obj) : ((((w.alloc A).alloc B).alloc C).alloc D).heap[w.heap.size]? = some A ∧ ((((w.alloc A).alloc B).alloc C).alloc D).heap[w.heap.size + 1]? = some B ∧ ((((w.alloc A).alloc B).alloc C).alloc D).heap[w.heap.size + 2]? = some C ∧ ((((w.alloc A).alloc B).alloc C).alloc D).heap[w.heap.size + 3]? = some D := by
  have F := (Fr.refl (fun _ => False) (((w.alloc A).alloc B).alloc C)).alloc D
  have h0 := heap_three w A B C
  have h1 := heap_three1 w A B C
  have h2 := heap_three2 w A B C
  have h3 := heap_alloc_new (((w.alloc A).alloc B).alloc C) D
  have e : (((w.alloc A).alloc B).alloc C).heap.size = w.heap.size + 3 := by simp
  rw [e] at h3
  exact ⟨(F.block _ (lt_of_block h0) (fun h => h)).trans h0, (F.block _ (lt_of_block h1) (fun h => h)).trans h1, (F.block _ (lt_of_block h2) (fun h => h)).trans h2, h3⟩
set_option maxRecDepth 100000 in
set_option maxHeartbeats 6400000 in
theorem pchk_big0 (root key k v : List UInt8) (S : List (List UInt8)) (a : Option Addr) (n c : Nat) (hSn : S.length = n) (hn9 : n ≤ 1000) (hnc : n ≤ c) (hcm : c ≤ maxLen) (hroot : root.length = 32) (hkey : key.length = 32) (hk : k.length = 32) (hv : v.length = 32) (hbig : ¬ n ≤ 256) (w : World) (hK : Kv w a S) (ha : ∀ k, inBlk a k → k < w.heap.size) (hE : Env w) :
    Calls Tryd.prog 10 #[.agg (krow root), .agg (krow key), .agg (pfRow (.slice a n c) false k v)] w fun e w' => e = .returned (.tuple #[.agg (krow Pf.z), .bool false, .int .i64 17]) ∧ Fr (fun _ => False) w w' := by
  have s0 := sz32' hroot
  have s1 : (Tryd.prog.info? 23).map (·.size) = some (krow key).size := by rw [krow_size, hkey]; kernel_rfl
  have s2 : (Tryd.prog.info? 35).map (·.size) = some (pfRow (.slice a n c) false k v).size := by rw [pf_size hk hv]; kernel_rfl
  obtain ⟨b0, b1, b2, b3⟩ := heap_four w (.cells (krow root) 22) (.cells (krow key) 23) (.cells (pfRow (.slice a n c) false k v) 35) (.cells (ub 32 (fun _ => 0)) 22)
  have F0 := ((((Fr.refl (fun _ => False) w).alloc (.cells (krow root) 22)).alloc (.cells (krow key) 23)).alloc (.cells (pfRow (.slice a n c) false k v) 35)).alloc (.cells (ub 32 (fun _ => 0)) 22)
  have HP := Lib.hid (Pb.of b2 hk)
  have HW3 := Lib.hid (pf_cell b2 (Part.whole _))
  have HPS := Lib.hid (pf_size (s := .slice a n c) (th := false) hk hv)
  have HB := Lib.hid (And.intro b0 (And.intro b1 b3))
  have HF := Lib.hid F0
  have HN := Lib.hid (And.intro hroot (And.intro hkey (And.intro hk hv)))
  have HSN := Lib.hid (And.intro hSn (And.intro hn9 (And.intro hnc hcm)))
  have HKA := Lib.hid (And.intro hK (And.intro ha hE))
  have t256 : ((256 : Int) < (n : Int)) := by omega
  have HSK := Lib.hid (show (krow k).size = 32 by rw [krow_size, hk])
  have HSV := Lib.hid (show (krow v).size = 32 by rw [krow_size, hv])
  clear b0 b1 b2 b3 F0 hroot hkey hk hv hSn hn9 hnc hcm hK ha hE hbig   
  go_enter Tryd.func10, Tryd.ntmps10
  go_upto_region 1 with fail
  rw [zero32]
  generalize ((((w.alloc (.cells (krow root) 22)).alloc (.cells (krow key) 23)).alloc (.cells (pfRow (.slice a n c) false k v) 35)).alloc (.cells (ub 32 (fun _ => 0)) 22)) = w4 at *
  obtain ⟨ga, hga⟩ : ∃ x, x = w.heap.size := ⟨_, rfl⟩
  obtain ⟨gb, hgb⟩ : ∃ x, x = w.heap.size + 1 := ⟨_, rfl⟩
  obtain ⟨gc, hgc⟩ : ∃ x, x = w.heap.size + 1 + 1 := ⟨_, rfl⟩
  obtain ⟨gd, hgd⟩ : ∃ x, x = w.heap.size + 1 + 1 + 1 := ⟨_, rfl⟩
  have hge2 : w.heap.size + 2 = gc := hgc.symm
  have hge3 : w.heap.size + 3 = gd := hgd.symm
  rw [← hgd, ← hgc, ← hgb, ← hga]
  rw [hge2] at HP HW3
  rw [hge3, ← hgb, ← hga] at HB
  have HGD := Lib.hid (show w.heap.size ≤ gd by omega)
  clear hga hgb hgc hgd hge2 hge3
  have c0 := HP.out.c0
  have c1 := HP.out.c1
  go_upto_region 2 with fail
  refine wp_region_lit ?_
  refine wpList_build0 rfl 22 rfl (krow Pf.z) built_z ?_
  simp only [Act.put, List.setIfInBounds_toArray, List.set_cons_zero, List.set_cons_succ]
  refine wpList_store_rowA rfl 22 (.tmp 6) (.tmp 29) rfl gd (krow Pf.z) rfl rfl 22 _ HB.out.2.2 (sz32' Pf.z_len) (by rw [ub_size, krow_size, Pf.z_len]) (krow_one _) ?_
  intro w8 B8 F8
  simp only [Act.put, List.setIfInBounds_toArray, List.set_cons_zero, List.set_cons_succ]
  refine Hid.out ?_
  have HX := Lib.hid (HF.out.trans F8 (fun k h => .inr (by rw [h]; exact HGD.out)))
  have HB8 := Lib.hid B8
  clear B8 F8
  refine Lib.hid ?_
  go_wp2_with fail
  refine bodyPost_ret (results_ctt rfl _ _ gd 22 (krow Pf.z) (0, 0) _ rfl HB8.out Tryd.underlying22 rfl (sz32' Pf.z_len)) rfl ?_
  exact ⟨rfl, HX.out⟩
set_option maxRecDepth 100000 in
set_option maxHeartbeats 6400000 in
theorem pchk_big1 (root key k v : List UInt8) (S : List (List UInt8)) (a : Option Addr) (n c : Nat) (hSn : S.length = n) (hn9 : n ≤ 1000) (hnc : n ≤ c) (hcm : c ≤ maxLen) (hroot : root.length = 32) (hkey : key.length = 32) (hk : k.length = 32) (hv : v.length = 32) (hbig : ¬ n ≤ 256) (w : World) (hK : Kv w a S) (ha : ∀ k, inBlk a k → k < w.heap.size) (hE : Env w) :
    Calls Tryd.prog 10 #[.agg (krow root), .agg (krow key), .agg (pfRow (.slice a n c) true k v)] w fun e w' => e = .returned (.tuple #[.agg (krow Pf.z), .bool false, .int .i64 17]) ∧ Fr (fun _ => False) w w' := by
  have s0 := sz32' hroot
  have s1 : (Tryd.prog.info? 23).map (·.size) = some (krow key).size := by rw [krow_size, hkey]; kernel_rfl
  have s2 : (Tryd.prog.info? 35).map (·.size) = some (pfRow (.slice a n c) true k v).size := by rw [pf_size hk hv]; kernel_rfl
  obtain ⟨b0, b1, b2, b3⟩ := heap_four w (.cells (krow root) 22) (.cells (krow key) 23) (.cells (pfRow (.slice a n c) true k v) 35) (.cells (ub 32 (fun _ => 0)) 22)
  have F0 := ((((Fr.refl (fun _ => False) w).alloc (.cells (krow root) 22)).alloc (.cells (krow key) 23)).alloc (.cells (pfRow (.slice a n c) true k v) 35)).alloc (.cells (ub 32 (fun _ => 0)) 22)
  have HP := Lib.hid (Pb.of b2 hk)
  have HW3 := Lib.hid (pf_cell b2 (Part.whole _))
  have HPS := Lib.hid (pf_size (s := .slice a n c) (th := true) hk hv)
  have HB := Lib.hid (And.intro b0 (And.intro b1 b3))
  have HF := Lib.hid F0
  have HN := Lib.hid (And.intro hroot (And.intro hkey (And.intro hk hv)))
  have HSN := Lib.hid (And.intro hSn (And.intro hn9 (And.intro hnc hcm)))
  have HKA := Lib.hid (And.intro hK (And.intro ha hE))
  have t256 : ((256 : Int) < (n : Int)) := by omega
  have HSK := Lib.hid (show (krow k).size = 32 by rw [krow_size, hk])
  have HSV := Lib.hid (show (krow v).size = 32 by rw [krow_size, hv])
  clear b0 b1 b2 b3 F0 hroot hkey hk hv hSn hn9 hnc hcm hK ha hE hbig   
  go_enter Tryd.func10, Tryd.ntmps10
  go_upto_region 1 with fail
  rw [zero32]
  generalize ((((w.alloc (.cells (krow root) 22)).alloc (.cells (krow key) 23)).alloc (.cells (pfRow (.slice a n c) true k v) 35)).alloc (.cells (ub 32 (fun _ => 0)) 22)) = w4 at *
  obtain ⟨ga, hga⟩ : ∃ x, x = w.heap.size := ⟨_, rfl⟩
  obtain ⟨gb, hgb⟩ : ∃ x, x = w.heap.size + 1 := ⟨_, rfl⟩
  obtain ⟨gc, hgc⟩ : ∃ x, x = w.heap.size + 1 + 1 := ⟨_, rfl⟩
  obtain ⟨gd, hgd⟩ : ∃ x, x = w.heap.size + 1 + 1 + 1 := ⟨_, rfl⟩
  have hge2 : w.heap.size + 2 = gc := hgc.symm
  have hge3 : w.heap.size + 3 = gd := hgd.symm
  rw [← hgd, ← hgc, ← hgb, ← hga]
  rw [hge2] at HP HW3
  rw [hge3, ← hgb, ← hga] at HB
  have HGD := Lib.hid (show w.heap.size ≤ gd by omega)
  clear hga hgb hgc hgd hge2 hge3
  have c0 := HP.out.c0
  have c1 := HP.out.c1
  go_upto_region 2 with fail
  refine wp_region_lit ?_
  refine wpList_build0 rfl 22 rfl (krow Pf.z) built_z ?_
  simp only [Act.put, List.setIfInBounds_toArray, List.set_cons_zero, List.set_cons_succ]
  refine wpList_store_rowA rfl 22 (.tmp 6) (.tmp 29) rfl gd (krow Pf.z) rfl rfl 22 _ HB.out.2.2 (sz32' Pf.z_len) (by rw [ub_size, krow_size, Pf.z_len]) (krow_one _) ?_
  intro w8 B8 F8
  simp only [Act.put, List.setIfInBounds_toArray, List.set_cons_zero, List.set_cons_succ]
  refine Hid.out ?_
  have HX := Lib.hid (HF.out.trans F8 (fun k h => .inr (by rw [h]; exact HGD.out)))
  have HB8 := Lib.hid B8
  clear B8 F8
  refine Lib.hid ?_
  go_wp2_with fail
  refine bodyPost_ret (results_ctt rfl _ _ gd 22 (krow Pf.z) (0, 0) _ rfl HB8.out Tryd.underlying22 rfl (sz32' Pf.z_len)) rfl ?_
  exact ⟨rfl, HX.out⟩
set_option maxRecDepth 100000 in
set_option maxHeartbeats 6400000 in
theorem pchk_und (root key k v : List UInt8) (S : List (List UInt8)) (a : Option Addr) (n c : Nat) (cc : Nat) (hSn : S.length = n) (hn9 : n ≤ 1000) (hnc : n ≤ c) (hcm : c ≤ maxLen) (hroot : root.length = 32) (hkey : key.length = 32) (hk : k.length = 32) (hv : v.length = 32) (hsm : n ≤ 256) (hC : IsC k key cc) (hun : (decide ((n : Int) ≤ (cc : Int)) || (cc == 256)) = false) (w : World) (hK : Kv w a S) (ha : ∀ k, inBlk a k → k < w.heap.size) (hE : Env w) :
    Calls Tryd.prog 10 #[.agg (krow root), .agg (krow key), .agg (pfRow (.slice a n c) true k v)] w fun e w' => e = .returned (.tuple #[.agg (krow Pf.z), .bool false, .int .i64 17]) ∧ Fr (fun _ => False) w w' := by
  have s0 := sz32' hroot
  have s1 : (Tryd.prog.info? 23).map (·.size) = some (krow key).size := by rw [krow_size, hkey]; kernel_rfl
  have s2 : (Tryd.prog.info? 35).map (·.size) = some (pfRow (.slice a n c) true k v).size := by rw [pf_size hk hv]; kernel_rfl
  obtain ⟨b0, b1, b2, b3⟩ := heap_four w (.cells (krow root) 22) (.cells (krow key) 23) (.cells (pfRow (.slice a n c) true k v) 35) (.cells (ub 32 (fun _ => 0)) 22)
  have F0 := ((((Fr.refl (fun _ => False) w).alloc (.cells (krow root) 22)).alloc (.cells (krow key) 23)).alloc (.cells (pfRow (.slice a n c) true k v) 35)).alloc (.cells (ub 32 (fun _ => 0)) 22)
  have HP := Lib.hid (Pb.of b2 hk)
  have HW3 := Lib.hid (pf_cell b2 (Part.whole _))
  have HPS := Lib.hid (pf_size (s := .slice a n c) (th := true) hk hv)
  have HB := Lib.hid (And.intro b0 (And.intro b1 b3))
  have HF := Lib.hid F0
  have HN := Lib.hid (And.intro hroot (And.intro hkey (And.intro hk hv)))
  have HSN := Lib.hid (And.intro hSn (And.intro hn9 (And.intro hnc hcm)))
  have HKA := Lib.hid (And.intro hK (And.intro ha hE))
  have t256 : (¬ ((256 : Int) < (n : Int))) := by omega
  have HSK := Lib.hid (show (krow k).size = 32 by rw [krow_size, hk])
  have HSV := Lib.hid (show (krow v).size = 32 by rw [krow_size, hv])
  have HU := Lib.hid (under_ans hk hkey hC (n : Int))
  rw [hun] at HU
  clear b0 b1 b2 b3 F0 hroot hkey hk hv hSn hn9 hnc hcm hK ha hE hsm hC hun  
  go_enter Tryd.func10, Tryd.ntmps10
  go_upto_region 1 with fail
  rw [zero32]
  generalize ((((w.alloc (.cells (krow root) 22)).alloc (.cells (krow key) 23)).alloc (.cells (pfRow (.slice a n c) true k v) 35)).alloc (.cells (ub 32 (fun _ => 0)) 22)) = w4 at *
  obtain ⟨ga, hga⟩ : ∃ x, x = w.heap.size := ⟨_, rfl⟩
  obtain ⟨gb, hgb⟩ : ∃ x, x = w.heap.size + 1 := ⟨_, rfl⟩
  obtain ⟨gc, hgc⟩ : ∃ x, x = w.heap.size + 1 + 1 := ⟨_, rfl⟩
  obtain ⟨gd, hgd⟩ : ∃ x, x = w.heap.size + 1 + 1 + 1 := ⟨_, rfl⟩
  have hge2 : w.heap.size + 2 = gc := hgc.symm
  have hge3 : w.heap.size + 3 = gd := hgd.symm
  rw [← hgd, ← hgc, ← hgb, ← hga]
  rw [hge2] at HP HW3
  rw [hge3, ← hgb, ← hga] at HB
  have HGD := Lib.hid (show w.heap.size ≤ gd by omega)
  clear hga hgb hgc hgd hge2 hge3
  have c0 := HP.out.c0
  have c1 := HP.out.c1
  go_wp2_with (first | (focus ((refine wpList_guarded rfl ?_; refine wpList_load_cells rfl 23 (.tmp 19) rfl gc 2 rfl (krow k) 32 _ Tryd.underlying23 rfl szK (HP.out).ck HSK.out ?_); simp only [Act.put, List.setIfInBounds_toArray, List.set_cons_zero, List.set_cons_succ])) | (focus ((refine wpList_guarded rfl ?_; refine wpList_load_row rfl 23 (.tmp 4) rfl gb rfl 23 (krow key) (0, 0) _ HB.out.2.1 Tryd.underlying23 rfl s1 ?_); simp only [Act.put, List.setIfInBounds_toArray, List.set_cons_zero, List.set_cons_succ])))
  refine (HU.out _).mono ?_
  rintro e w5 ⟨rfl, F5⟩
  have HF5 := Lib.hid F5
  have HP5 := Lib.hid (HP.out.fr F5 (fun h => h))
  have HB5 := Lib.hid (show w5.heap[ga]? = _ ∧ w5.heap[gb]? = _ ∧ w5.heap[gd]? = _ from ⟨(F5.block _ (lt_of_block HB.out.1) (fun h => h)).trans HB.out.1, (F5.block _ (lt_of_block HB.out.2.1) (fun h => h)).trans HB.out.2.1, (F5.block _ (lt_of_block HB.out.2.2) (fun h => h)).trans HB.out.2.2⟩)
  have HW5 := Lib.hid (show ∀ (i : Nat) (x : Value), (pfRow (.slice a n c) true k v)[i]? = some x → w5.cell? ⟨gc, 0 + i, none⟩ = some x from fun i x hx => F5.cellSome (p := ⟨gc, 0 + i, none⟩) (fun h => h) (HW3.out i x hx))
  clear F5 c0 c1
  go_upto_region 2 with fail
  refine wp_region_lit ?_
  refine wpList_build0 rfl 22 rfl (krow Pf.z) built_z ?_
  simp only [Act.put, List.setIfInBounds_toArray, List.set_cons_zero, List.set_cons_succ]
  refine wpList_store_rowA rfl 22 (.tmp 6) (.tmp 29) rfl gd (krow Pf.z) rfl rfl 22 _ HB5.out.2.2 (sz32' Pf.z_len) (by rw [ub_size, krow_size, Pf.z_len]) (krow_one _) ?_
  intro w8 B8 F8
  simp only [Act.put, List.setIfInBounds_toArray, List.set_cons_zero, List.set_cons_succ]
  refine Hid.out ?_
  have HX := Lib.hid ((HF.out.trans HF5.out (fun _ h => h.elim)).trans F8 (fun k h => .inr (by rw [h]; exact HGD.out)))
  have HB8 := Lib.hid B8
  clear B8 F8
  refine Lib.hid ?_
  go_wp2_with fail
  refine bodyPost_ret (results_ctt rfl _ _ gd 22 (krow Pf.z) (0, 0) _ rfl HB8.out Tryd.underlying22 rfl (sz32' Pf.z_len)) rfl ?_
  exact ⟨rfl, HX.out⟩
set_option maxRecDepth 100000 in
set_option maxHeartbeats 6400000 in
theorem pchk_sum0 (root key k v : List UInt8) (S : List (List UInt8)) (a : Option Addr) (n c : Nat) (hSn : S.length = n) (hn9 : n ≤ 1000) (hnc : n ≤ c) (hcm : c ≤ maxLen) (hroot : root.length = 32) (hkey : key.length = 32) (hk : k.length = 32) (hv : v.length = 32) (hsm : n ≤ 256) (hsum : (S2.sum (Pf.tx key S (Pf.en false k v) n) == root) = false) (w : World) (hK : Kv w a S) (ha : ∀ k, inBlk a k → k < w.heap.size) (hE : Env w) :
    Calls Tryd.prog 10 #[.agg (krow root), .agg (krow key), .agg (pfRow (.slice a n c) false k v)] w fun e w' => e = .returned (.tuple #[.agg (krow Pf.z), .bool false, .int .i64 17]) ∧ Fr (fun _ => False) w w' := by
  have s0 := sz32' hroot
  have s1 : (Tryd.prog.info? 23).map (·.size) = some (krow key).size := by rw [krow_size, hkey]; kernel_rfl
  have s2 : (Tryd.prog.info? 35).map (·.size) = some (pfRow (.slice a n c) false k v).size := by rw [pf_size hk hv]; kernel_rfl
  obtain ⟨b0, b1, b2, b3⟩ := heap_four w (.cells (krow root) 22) (.cells (krow key) 23) (.cells (pfRow (.slice a n c) false k v) 35) (.cells (ub 32 (fun _ => 0)) 22)
  have F0 := ((((Fr.refl (fun _ => False) w).alloc (.cells (krow root) 22)).alloc (.cells (krow key) 23)).alloc (.cells (pfRow (.slice a n c) false k v) 35)).alloc (.cells (ub 32 (fun _ => 0)) 22)
  have HP := Lib.hid (Pb.of b2 hk)
  have HW3 := Lib.hid (pf_cell b2 (Part.whole _))
  have HPS := Lib.hid (pf_size (s := .slice a n c) (th := false) hk hv)
  have HB := Lib.hid (And.intro b0 (And.intro b1 b3))
  have HF := Lib.hid F0
  have HN := Lib.hid (And.intro hroot (And.intro hkey (And.intro hk hv)))
  have HSN := Lib.hid (And.intro hSn (And.intro hn9 (And.intro hnc hcm)))
  have HKA := Lib.hid (And.intro hK (And.intro ha hE))
  have t256 : (¬ ((256 : Int) < (n : Int))) := by omega
  have HSK := Lib.hid (show (krow k).size = 32 by rw [krow_size, hk])
  have HSV := Lib.hid (show (krow v).size = 32 by rw [krow_size, hv])
  have HNE := Lib.hid (show ∀ W : World, (binOp .neq 22 (.agg (krow (S2.sum (Pf.tx key S (Pf.en false k v) n)))) (.agg (krow root))).run Tryd.prog W = .ok (.bool true) W from fun W => by rw [neq_row (sum_length _) hroot, hsum]; rfl)
  clear b0 b1 b2 b3 F0 hroot hkey hk hv hSn hn9 hnc hcm hK ha hE hsm  hsum 
  go_enter Tryd.func10, Tryd.ntmps10
  go_upto_region 1 with fail
  rw [zero32]
  generalize ((((w.alloc (.cells (krow root) 22)).alloc (.cells (krow key) 23)).alloc (.cells (pfRow (.slice a n c) false k v) 35)).alloc (.cells (ub 32 (fun _ => 0)) 22)) = w4 at *
  obtain ⟨ga, hga⟩ : ∃ x, x = w.heap.size := ⟨_, rfl⟩
  obtain ⟨gb, hgb⟩ : ∃ x, x = w.heap.size + 1 := ⟨_, rfl⟩
  obtain ⟨gc, hgc⟩ : ∃ x, x = w.heap.size + 1 + 1 := ⟨_, rfl⟩
  obtain ⟨gd, hgd⟩ : ∃ x, x = w.heap.size + 1 + 1 + 1 := ⟨_, rfl⟩
  have hge2 : w.heap.size + 2 = gc := hgc.symm
  have hge3 : w.heap.size + 3 = gd := hgd.symm
  rw [← hgd, ← hgc, ← hgb, ← hga]
  rw [hge2] at HP HW3
  rw [hge3, ← hgb, ← hga] at HB
  have HGD := Lib.hid (show w.heap.size ≤ gd by omega)
  clear hga hgb hgc hgd hge2 hge3
  have c0 := HP.out.c0
  have c1 := HP.out.c1
  go_upto_region 3 with fail
  clear c0 c1
  go_wp2_with (first | (focus ((refine wpList_load_row rfl 23 (.tmp 4) rfl gb rfl 23 (krow key) (0, 0) _ HB.out.2.1 Tryd.underlying23 rfl s1 ?_); simp only [Act.put, List.setIfInBounds_toArray, List.set_cons_zero, List.set_cons_succ])) | (focus ((refine wpList_load_cells rfl 35 (.tmp 5) rfl gc 0 rfl (pfRow (.slice a n c) false k v) 66 _ Tryd.underlying35 rfl szPd HW3.out HPS.out ?_); simp only [Act.put, List.setIfInBounds_toArray, List.set_cons_zero, List.set_cons_succ])))
  have FW := HF.out
  refine (ptexts_any key k v false S a n c HSN.out.1 HSN.out.2.1 HSN.out.2.2.1 HSN.out.2.2.2 HN.out.2.1 HN.out.2.2.1 HN.out.2.2.2 w4 (HKA.out.1.ext FW) (fun k hk => Nat.lt_of_lt_of_le (HKA.out.2.1 k hk) FW.size) (HKA.out.2.2.ext FW)).mono ?_
  rintro e w6 ⟨⟨u, rfl, hT⟩, F6⟩
  obtain ⟨gv, cap, sa, sn, sc, rfl, hcell, hown, cv, fzv, hbl⟩ := hT.last (Pf.txs_len _ _ _ _)
  rw [Pf.txs_last] at hown
  have htl : (Pf.tx key S (Pf.en false k v) n).length ≤ 67 := Pf.tx_le key HKA.out.1.all (Pf.en_le false HN.out.2.2.1 HN.out.2.2.2) n (by have := HSN.out.1; omega)
  have F06 := FW.trans F6 (fun _ h => h.elim)
  have HF6 := Lib.hid F06
  have HP6 := Lib.hid (HP.out.fr F6 (fun h => h))
  have HB6 := Lib.hid (show w6.heap[ga]? = _ ∧ w6.heap[gb]? = _ ∧ w6.heap[gd]? = _ from ⟨(F6.block _ (lt_of_block HB.out.1) (fun h => h)).trans HB.out.1, (F6.block _ (lt_of_block HB.out.2.1) (fun h => h)).trans HB.out.2.1, (F6.block _ (lt_of_block HB.out.2.2) (fun h => h)).trans HB.out.2.2⟩)
  generalize Pf.tx key S (Pf.en false k v) n = tt at *
  have HTT := Lib.hid htl
  have HV := Lib.hid (And.intro hcell hown)
  have E6 := Lib.hid (HKA.out.2.2.ext F06)
  have hne := HNE.out
  have q0 : (0 : Int) ≤ (n : Int) := Int.natCast_nonneg n
  have q6 : (n : Int) < (n : Int) + 1 := by omega
  have q5 : wrap64 (n : Int) = (n : Int) := IntWalk.wrap64_in _ (by have := HSN.out.2.1; omega)
  have q1 : (n : Int) < ((n + 1 : Nat) : Int) := by omega
  clear hcell hown hbl htl F6 FW F06 hT t256 
  go_wp2_with fail
  refine Ks.wp_region_mono (fun _ => False) (sg 0 6 ++ (sg 8 1 ++ ((6, true) :: ((7, true) :: (sg 9 1 ++ ([])))))) (by kernel_rfl) (by kernel_rfl) ?_
  refine Ks.Wk.seg 0 6 (by kernel_rfl) (by kernel_rfl) ?_
  apply Exists.intro
  refine ⟨?wk0, ?fin0⟩
  case wk0 =>
    intro γ
    have kxv : ∀ z : Ks.Ws γ, z.w.cell? ⟨gv, n, none⟩ = some (.slice sa sn sc) := fun z => z.h.cellSome (p := ⟨gv, n, none⟩) (fun h => h) HV.out.1
    simp only [List.drop_succ_cons, List.drop_zero, List.take_succ_cons, List.take_zero]
    repeat (any_goals (first | go_big_quiet_step (fail) | quiet_step (fail)))
    exact wpQuiet_nil rfl
  case fin0 =>
  (try simp only [Act.put, List.setIfInBounds_toArray, List.set_cons_zero, List.set_cons_succ])
  refine Ks.Wk.seg 8 1 (by kernel_rfl) (by kernel_rfl) ?_
  apply Exists.intro
  refine ⟨?wk1, ?fin1⟩
  case wk1 =>
    intro γ
    simp only [List.drop_succ_cons, List.drop_zero, List.take_succ_cons, List.take_zero]
    repeat (any_goals (first | (focus (go_big_quiet_want; (refine Ks.quiet_load_rows 22 (.tmp 3) rfl ga rfl 22 (krow root) (0, 0) _ HB6.out.1 (fun h => h) Tryd.underlying22 rfl s0 ?_); simp only [Act.put, List.setIfInBounds_toArray, List.set_cons_zero, List.set_cons_succ]; go_big_quiet_on)) | go_big_quiet_step (fail) | quiet_step (fail)))
    exact wpQuiet_nil rfl
  case fin1 =>
  (try simp only [Act.put, List.setIfInBounds_toArray, List.set_cons_zero, List.set_cons_succ])
  refine Ks.Wk.one rfl (fun w7 Xw7 => ?_)
  refine wpList_buildSlice rfl 30 1 _ rfl #[(0, .slice sa sn sc)] (by first | kernel_rfl | rfl | simp [Act.eval]) (mkT1 _ _ _ w7) ⟨rfl, Ks.Es.of ((Fr.refl _ w7).alloc _), ?_⟩
  (try simp only [List.getElem_toArray, List.getElem_cons_succ, List.getElem_cons_zero, Act.put, List.setIfInBounds_toArray, List.set_cons_zero, List.set_cons_succ])
  have B4 := heap_alloc_new w7 (.cells #[.slice sa sn sc] 39)
  have X4 : Fr (fun _ => False) w6 (w7.alloc (.cells #[.slice sa sn sc] 39)) := Xw7.alloc _
  have P4 := parts_one B4 (Own.camex (HV.out.2.ext X4))
  have E4 := E6.out.ext X4
  generalize (w7.alloc (.cells #[.slice sa sn sc] 39)) = v4 at *
  refine Ks.Wk.call rfl (by kernel_rfl) 18 #[.slice (some ⟨w7.heap.size, 0, none⟩) 1 1] (fun W => by first | kernel_rfl | rfl) (fun vv V => vv = .agg (krow (S2.sum tt))) (fun V hx => (psum_any _ [tt] 1 1 rfl V (P4.grow hx) (by unfold maxLen; omega) (by have := HTT.out; simp; omega) (E4.ext hx)).mono (fun e V' he => ⟨_, he.1, he.2, by rw [krow_sum]; simp⟩)) ?_
  rintro vv w9 X9 rfl
  (try simp only [List.getElem_toArray, List.getElem_cons_succ, List.getElem_cons_zero, Act.put, List.setIfInBounds_toArray, List.set_cons_zero, List.set_cons_succ])
  refine Ks.Wk.seg 9 1 (by kernel_rfl) (by kernel_rfl) ?_
  apply Exists.intro
  refine ⟨?wk4, ?fin4⟩
  case wk4 =>
    intro γ
    simp only [List.drop_succ_cons, List.drop_zero, List.take_succ_cons, List.take_zero]
    repeat (any_goals (first | go_big_quiet_step (fail) | quiet_step (fail)))
    exact wpQuiet_nil rfl
  case fin4 =>
  (try simp only [Act.put, List.setIfInBounds_toArray, List.set_cons_zero, List.set_cons_succ])
  intro w10 X10
  have X610 : Fr (fun _ => False) w6 w10 := (X4.trans X9 (fun _ h => h.elim)).trans X10 (fun _ h => h.elim)
  have HFX := Lib.hid (HF6.out.trans X610 (fun _ h => h.elim))
  have HPX := Lib.hid (HP6.out.fr X610 (fun h => h))
  have HBX := Lib.hid (show w10.heap[gb]? = _ ∧ w10.heap[gd]? = _ from ⟨(X610.block _ (lt_of_block HB6.out.2.1) (fun h => h)).trans HB6.out.2.1, (X610.block _ (lt_of_block HB6.out.2.2) (fun h => h)).trans HB6.out.2.2⟩)
  have c1 := HPX.out.c1
  clear X610 X10 X9 X4 P4 E4 B4 Xw7 hne
  go_upto_region 5 with fail
  refine wp_region_lit ?_
  refine wpList_build0 rfl 22 rfl (krow Pf.z) built_z ?_
  simp only [Act.put, List.setIfInBounds_toArray, List.set_cons_zero, List.set_cons_succ]
  refine wpList_store_rowA rfl 22 (.tmp 6) (.tmp 43) rfl gd (krow Pf.z) rfl rfl 22 _ HBX.out.2 (sz32' Pf.z_len) (by rw [ub_size, krow_size, Pf.z_len]) (krow_one _) ?_
  intro w8 B8 F8
  simp only [Act.put, List.setIfInBounds_toArray, List.set_cons_zero, List.set_cons_succ]
  refine Hid.out ?_
  have HX := Lib.hid (HFX.out.trans F8 (fun k h => .inr (by rw [h]; exact HGD.out)))
  have HB8 := Lib.hid B8
  clear B8 F8
  refine Lib.hid ?_
  go_wp2_with fail
  refine bodyPost_ret (results_ctt rfl _ _ gd 22 (krow Pf.z) (0, 0) _ rfl HB8.out Tryd.underlying22 rfl (sz32' Pf.z_len)) rfl ?_
  exact ⟨rfl, HX.out⟩
set_option maxRecDepth 100000 in
set_option maxHeartbeats 6400000 in
theorem pchk_sum1 (root key k v : List UInt8) (S : List (List UInt8)) (a : Option Addr) (n c : Nat) (cc : Nat) (hSn : S.length = n) (hn9 : n ≤ 1000) (hnc : n ≤ c) (hcm : c ≤ maxLen) (hroot : root.length = 32) (hkey : key.length = 32) (hk : k.length = 32) (hv : v.length = 32) (hsm : n ≤ 256) (hC : IsC k key cc) (hun : (decide ((n : Int) ≤ (cc : Int)) || (cc == 256)) = true) (hsum : (S2.sum (Pf.tx key S (Pf.en true k v) n) == root) = false) (w : World) (hK : Kv w a S) (ha : ∀ k, inBlk a k → k < w.heap.size) (hE : Env w) :
    Calls Tryd.prog 10 #[.agg (krow root), .agg (krow key), .agg (pfRow (.slice a n c) true k v)] w fun e w' => e = .returned (.tuple #[.agg (krow Pf.z), .bool false, .int .i64 17]) ∧ Fr (fun _ => False) w w' := by
  have s0 := sz32' hroot
  have s1 : (Tryd.prog.info? 23).map (·.size) = some (krow key).size := by rw [krow_size, hkey]; kernel_rfl
  have s2 : (Tryd.prog.info? 35).map (·.size) = some (pfRow (.slice a n c) true k v).size := by rw [pf_size hk hv]; kernel_rfl
  obtain ⟨b0, b1, b2, b3⟩ := heap_four w (.cells (krow root) 22) (.cells (krow key) 23) (.cells (pfRow (.slice a n c) true k v) 35) (.cells (ub 32 (fun _ => 0)) 22)
  have F0 := ((((Fr.refl (fun _ => False) w).alloc (.cells (krow root) 22)).alloc (.cells (krow key) 23)).alloc (.cells (pfRow (.slice a n c) true k v) 35)).alloc (.cells (ub 32 (fun _ => 0)) 22)
  have HP := Lib.hid (Pb.of b2 hk)
  have HW3 := Lib.hid (pf_cell b2 (Part.whole _))
  have HPS := Lib.hid (pf_size (s := .slice a n c) (th := true) hk hv)
  have HB := Lib.hid (And.intro b0 (And.intro b1 b3))
  have HF := Lib.hid F0
  have HN := Lib.hid (And.intro hroot (And.intro hkey (And.intro hk hv)))
  have HSN := Lib.hid (And.intro hSn (And.intro hn9 (And.intro hnc hcm)))
  have HKA := Lib.hid (And.intro hK (And.intro ha hE))
  have t256 : (¬ ((256 : Int) < (n : Int))) := by omega
  have HSK := Lib.hid (show (krow k).size = 32 by rw [krow_size, hk])
  have HSV := Lib.hid (show (krow v).size = 32 by rw [krow_size, hv])
  have HU := Lib.hid (under_ans hk hkey hC (n : Int))
  rw [hun] at HU
  have HNE := Lib.hid (show ∀ W : World, (binOp .neq 22 (.agg (krow (S2.sum (Pf.tx key S (Pf.en true k v) n)))) (.agg (krow root))).run Tryd.prog W = .ok (.bool true) W from fun W => by rw [neq_row (sum_length _) hroot, hsum]; rfl)
  clear b0 b1 b2 b3 F0 hroot hkey hk hv hSn hn9 hnc hcm hK ha hE hsm hC hun hsum 
  go_enter Tryd.func10, Tryd.ntmps10
  go_upto_region 1 with fail
  rw [zero32]
  generalize ((((w.alloc (.cells (krow root) 22)).alloc (.cells (krow key) 23)).alloc (.cells (pfRow (.slice a n c) true k v) 35)).alloc (.cells (ub 32 (fun _ => 0)) 22)) = w4 at *
  obtain ⟨ga, hga⟩ : ∃ x, x = w.heap.size := ⟨_, rfl⟩
  obtain ⟨gb, hgb⟩ : ∃ x, x = w.heap.size + 1 := ⟨_, rfl⟩
  obtain ⟨gc, hgc⟩ : ∃ x, x = w.heap.size + 1 + 1 := ⟨_, rfl⟩
  obtain ⟨gd, hgd⟩ : ∃ x, x = w.heap.size + 1 + 1 + 1 := ⟨_, rfl⟩
  have hge2 : w.heap.size + 2 = gc := hgc.symm
  have hge3 : w.heap.size + 3 = gd := hgd.symm
  rw [← hgd, ← hgc, ← hgb, ← hga]
  rw [hge2] at HP HW3
  rw [hge3, ← hgb, ← hga] at HB
  have HGD := Lib.hid (show w.heap.size ≤ gd by omega)
  clear hga hgb hgc hgd hge2 hge3
  have c0 := HP.out.c0
  have c1 := HP.out.c1
  go_wp2_with (first | (focus ((refine wpList_guarded rfl ?_; refine wpList_load_cells rfl 23 (.tmp 19) rfl gc 2 rfl (krow k) 32 _ Tryd.underlying23 rfl szK (HP.out).ck HSK.out ?_); simp only [Act.put, List.setIfInBounds_toArray, List.set_cons_zero, List.set_cons_succ])) | (focus ((refine wpList_guarded rfl ?_; refine wpList_load_row rfl 23 (.tmp 4) rfl gb rfl 23 (krow key) (0, 0) _ HB.out.2.1 Tryd.underlying23 rfl s1 ?_); simp only [Act.put, List.setIfInBounds_toArray, List.set_cons_zero, List.set_cons_succ])))
  refine (HU.out _).mono ?_
  rintro e w5 ⟨rfl, F5⟩
  have HF5 := Lib.hid F5
  have HP5 := Lib.hid (HP.out.fr F5 (fun h => h))
  have HB5 := Lib.hid (show w5.heap[ga]? = _ ∧ w5.heap[gb]? = _ ∧ w5.heap[gd]? = _ from ⟨(F5.block _ (lt_of_block HB.out.1) (fun h => h)).trans HB.out.1, (F5.block _ (lt_of_block HB.out.2.1) (fun h => h)).trans HB.out.2.1, (F5.block _ (lt_of_block HB.out.2.2) (fun h => h)).trans HB.out.2.2⟩)
  have HW5 := Lib.hid (show ∀ (i : Nat) (x : Value), (pfRow (.slice a n c) true k v)[i]? = some x → w5.cell? ⟨gc, 0 + i, none⟩ = some x from fun i x hx => F5.cellSome (p := ⟨gc, 0 + i, none⟩) (fun h => h) (HW3.out i x hx))
  clear F5 c0 c1
  go_wp2_with (first | (focus ((refine wpList_load_row rfl 23 (.tmp 4) rfl gb rfl 23 (krow key) (0, 0) _ HB5.out.2.1 Tryd.underlying23 rfl s1 ?_); simp only [Act.put, List.setIfInBounds_toArray, List.set_cons_zero, List.set_cons_succ])) | (focus ((refine wpList_load_cells rfl 35 (.tmp 5) rfl gc 0 rfl (pfRow (.slice a n c) true k v) 66 _ Tryd.underlying35 rfl szPd HW5.out HPS.out ?_); simp only [Act.put, List.setIfInBounds_toArray, List.set_cons_zero, List.set_cons_succ])))
  have FW := (HF.out.trans HF5.out (fun _ h => h.elim))
  refine (ptexts_any key k v true S a n c HSN.out.1 HSN.out.2.1 HSN.out.2.2.1 HSN.out.2.2.2 HN.out.2.1 HN.out.2.2.1 HN.out.2.2.2 w5 (HKA.out.1.ext FW) (fun k hk => Nat.lt_of_lt_of_le (HKA.out.2.1 k hk) FW.size) (HKA.out.2.2.ext FW)).mono ?_
  rintro e w6 ⟨⟨u, rfl, hT⟩, F6⟩
  obtain ⟨gv, cap, sa, sn, sc, rfl, hcell, hown, cv, fzv, hbl⟩ := hT.last (Pf.txs_len _ _ _ _)
  rw [Pf.txs_last] at hown
  have htl : (Pf.tx key S (Pf.en true k v) n).length ≤ 67 := Pf.tx_le key HKA.out.1.all (Pf.en_le true HN.out.2.2.1 HN.out.2.2.2) n (by have := HSN.out.1; omega)
  have F06 := FW.trans F6 (fun _ h => h.elim)
  have HF6 := Lib.hid F06
  have HP6 := Lib.hid (HP5.out.fr F6 (fun h => h))
  have HB6 := Lib.hid (show w6.heap[ga]? = _ ∧ w6.heap[gb]? = _ ∧ w6.heap[gd]? = _ from ⟨(F6.block _ (lt_of_block HB5.out.1) (fun h => h)).trans HB5.out.1, (F6.block _ (lt_of_block HB5.out.2.1) (fun h => h)).trans HB5.out.2.1, (F6.block _ (lt_of_block HB5.out.2.2) (fun h => h)).trans HB5.out.2.2⟩)
  generalize Pf.tx key S (Pf.en true k v) n = tt at *
  have HTT := Lib.hid htl
  have HV := Lib.hid (And.intro hcell hown)
  have E6 := Lib.hid (HKA.out.2.2.ext F06)
  have hne := HNE.out
  have q0 : (0 : Int) ≤ (n : Int) := Int.natCast_nonneg n
  have q6 : (n : Int) < (n : Int) + 1 := by omega
  have q5 : wrap64 (n : Int) = (n : Int) := IntWalk.wrap64_in _ (by have := HSN.out.2.1; omega)
  have q1 : (n : Int) < ((n + 1 : Nat) : Int) := by omega
  clear hcell hown hbl htl F6 FW F06 hT t256 
  go_wp2_with fail
  refine Ks.wp_region_mono (fun _ => False) (sg 0 6 ++ (sg 8 1 ++ ((6, true) :: ((7, true) :: (sg 9 1 ++ ([])))))) (by kernel_rfl) (by kernel_rfl) ?_
  refine Ks.Wk.seg 0 6 (by kernel_rfl) (by kernel_rfl) ?_
  apply Exists.intro
  refine ⟨?wk0, ?fin0⟩
  case wk0 =>
    intro γ
    have kxv : ∀ z : Ks.Ws γ, z.w.cell? ⟨gv, n, none⟩ = some (.slice sa sn sc) := fun z => z.h.cellSome (p := ⟨gv, n, none⟩) (fun h => h) HV.out.1
    simp only [List.drop_succ_cons, List.drop_zero, List.take_succ_cons, List.take_zero]
    repeat (any_goals (first | go_big_quiet_step (fail) | quiet_step (fail)))
    exact wpQuiet_nil rfl
  case fin0 =>
  (try simp only [Act.put, List.setIfInBounds_toArray, List.set_cons_zero, List.set_cons_succ])
  refine Ks.Wk.seg 8 1 (by kernel_rfl) (by kernel_rfl) ?_
  apply Exists.intro
  refine ⟨?wk1, ?fin1⟩
  case wk1 =>
    intro γ
    simp only [List.drop_succ_cons, List.drop_zero, List.take_succ_cons, List.take_zero]
    repeat (any_goals (first | (focus (go_big_quiet_want; (refine Ks.quiet_load_rows 22 (.tmp 3) rfl ga rfl 22 (krow root) (0, 0) _ HB6.out.1 (fun h => h) Tryd.underlying22 rfl s0 ?_); simp only [Act.put, List.setIfInBounds_toArray, List.set_cons_zero, List.set_cons_succ]; go_big_quiet_on)) | go_big_quiet_step (fail) | quiet_step (fail)))
    exact wpQuiet_nil rfl
  case fin1 =>
  (try simp only [Act.put, List.setIfInBounds_toArray, List.set_cons_zero, List.set_cons_succ])
  refine Ks.Wk.one rfl (fun w7 Xw7 => ?_)
  refine wpList_buildSlice rfl 30 1 _ rfl #[(0, .slice sa sn sc)] (by first | kernel_rfl | rfl | simp [Act.eval]) (mkT1 _ _ _ w7) ⟨rfl, Ks.Es.of ((Fr.refl _ w7).alloc _), ?_⟩
  (try simp only [List.getElem_toArray, List.getElem_cons_succ, List.getElem_cons_zero, Act.put, List.setIfInBounds_toArray, List.set_cons_zero, List.set_cons_succ])
  have B4 := heap_alloc_new w7 (.cells #[.slice sa sn sc] 39)
  have X4 : Fr (fun _ => False) w6 (w7.alloc (.cells #[.slice sa sn sc] 39)) := Xw7.alloc _
  have P4 := parts_one B4 (Own.camex (HV.out.2.ext X4))
  have E4 := E6.out.ext X4
  generalize (w7.alloc (.cells #[.slice sa sn sc] 39)) = v4 at *
  refine Ks.Wk.call rfl (by kernel_rfl) 18 #[.slice (some ⟨w7.heap.size, 0, none⟩) 1 1] (fun W => by first | kernel_rfl | rfl) (fun vv V => vv = .agg (krow (S2.sum tt))) (fun V hx => (psum_any _ [tt] 1 1 rfl V (P4.grow hx) (by unfold maxLen; omega) (by have := HTT.out; simp; omega) (E4.ext hx)).mono (fun e V' he => ⟨_, he.1, he.2, by rw [krow_sum]; simp⟩)) ?_
  rintro vv w9 X9 rfl
  (try simp only [List.getElem_toArray, List.getElem_cons_succ, List.getElem_cons_zero, Act.put, List.setIfInBounds_toArray, List.set_cons_zero, List.set_cons_succ])
  refine Ks.Wk.seg 9 1 (by kernel_rfl) (by kernel_rfl) ?_
  apply Exists.intro
  refine ⟨?wk4, ?fin4⟩
  case wk4 =>
    intro γ
    simp only [List.drop_succ_cons, List.drop_zero, List.take_succ_cons, List.take_zero]
    repeat (any_goals (first | go_big_quiet_step (fail) | quiet_step (fail)))
    exact wpQuiet_nil rfl
  case fin4 =>
  (try simp only [Act.put, List.setIfInBounds_toArray, List.set_cons_zero, List.set_cons_succ])
  intro w10 X10
  have X610 : Fr (fun _ => False) w6 w10 := (X4.trans X9 (fun _ h => h.elim)).trans X10 (fun _ h => h.elim)
  have HFX := Lib.hid (HF6.out.trans X610 (fun _ h => h.elim))
  have HPX := Lib.hid (HP6.out.fr X610 (fun h => h))
  have HBX := Lib.hid (show w10.heap[gb]? = _ ∧ w10.heap[gd]? = _ from ⟨(X610.block _ (lt_of_block HB6.out.2.1) (fun h => h)).trans HB6.out.2.1, (X610.block _ (lt_of_block HB6.out.2.2) (fun h => h)).trans HB6.out.2.2⟩)
  have c1 := HPX.out.c1
  clear X610 X10 X9 X4 P4 E4 B4 Xw7 hne
  go_upto_region 5 with fail
  refine wp_region_lit ?_
  refine wpList_build0 rfl 22 rfl (krow Pf.z) built_z ?_
  simp only [Act.put, List.setIfInBounds_toArray, List.set_cons_zero, List.set_cons_succ]
  refine wpList_store_rowA rfl 22 (.tmp 6) (.tmp 43) rfl gd (krow Pf.z) rfl rfl 22 _ HBX.out.2 (sz32' Pf.z_len) (by rw [ub_size, krow_size, Pf.z_len]) (krow_one _) ?_
  intro w8 B8 F8
  simp only [Act.put, List.setIfInBounds_toArray, List.set_cons_zero, List.set_cons_succ]
  refine Hid.out ?_
  have HX := Lib.hid (HFX.out.trans F8 (fun k h => .inr (by rw [h]; exact HGD.out)))
  have HB8 := Lib.hid B8
  clear B8 F8
  refine Lib.hid ?_
  go_wp2_with fail
  refine bodyPost_ret (results_ctt rfl _ _ gd 22 (krow Pf.z) (0, 0) _ rfl HB8.out Tryd.underlying22 rfl (sz32' Pf.z_len)) rfl ?_
  exact ⟨rfl, HX.out⟩
set_option maxRecDepth 100000 in
set_option maxHeartbeats 6400000 in
theorem pchk_no (root key k v : List UInt8) (S : List (List UInt8)) (a : Option Addr) (n c : Nat) (hSn : S.length = n) (hn9 : n ≤ 1000) (hnc : n ≤ c) (hcm : c ≤ maxLen) (hroot : root.length = 32) (hkey : key.length = 32) (hk : k.length = 32) (hv : v.length = 32) (hsm : n ≤ 256) (hsum : (S2.sum (Pf.tx key S (Pf.en false k v) n) == root) = true) (w : World) (hK : Kv w a S) (ha : ∀ k, inBlk a k → k < w.heap.size) (hE : Env w) :
    Calls Tryd.prog 10 #[.agg (krow root), .agg (krow key), .agg (pfRow (.slice a n c) false k v)] w fun e w' => e = .returned (.tuple #[.agg (krow Pf.z), .bool false, .int .i64 0]) ∧ Fr (fun _ => False) w w' := by
  have s0 := sz32' hroot
  have s1 : (Tryd.prog.info? 23).map (·.size) = some (krow key).size := by rw [krow_size, hkey]; kernel_rfl
  have s2 : (Tryd.prog.info? 35).map (·.size) = some (pfRow (.slice a n c) false k v).size := by rw [pf_size hk hv]; kernel_rfl
  obtain ⟨b0, b1, b2, b3⟩ := heap_four w (.cells (krow root) 22) (.cells (krow key) 23) (.cells (pfRow (.slice a n c) false k v) 35) (.cells (ub 32 (fun _ => 0)) 22)
  have F0 := ((((Fr.refl (fun _ => False) w).alloc (.cells (krow root) 22)).alloc (.cells (krow key) 23)).alloc (.cells (pfRow (.slice a n c) false k v) 35)).alloc (.cells (ub 32 (fun _ => 0)) 22)
  have HP := Lib.hid (Pb.of b2 hk)
  have HW3 := Lib.hid (pf_cell b2 (Part.whole _))
  have HPS := Lib.hid (pf_size (s := .slice a n c) (th := false) hk hv)
  have HB := Lib.hid (And.intro b0 (And.intro b1 b3))
  have HF := Lib.hid F0
  have HN := Lib.hid (And.intro hroot (And.intro hkey (And.intro hk hv)))
  have HSN := Lib.hid (And.intro hSn (And.intro hn9 (And.intro hnc hcm)))
  have HKA := Lib.hid (And.intro hK (And.intro ha hE))
  have t256 : (¬ ((256 : Int) < (n : Int))) := by omega
  have HSK := Lib.hid (show (krow k).size = 32 by rw [krow_size, hk])
  have HSV := Lib.hid (show (krow v).size = 32 by rw [krow_size, hv])
  have HNE := Lib.hid (show ∀ W : World, (binOp .neq 22 (.agg (krow (S2.sum (Pf.tx key S (Pf.en false k v) n)))) (.agg (krow root))).run Tryd.prog W = .ok (.bool false) W from fun W => by rw [neq_row (sum_length _) hroot, hsum]; rfl)
  clear b0 b1 b2 b3 F0 hroot hkey hk hv hSn hn9 hnc hcm hK ha hE hsm  hsum 
  go_enter Tryd.func10, Tryd.ntmps10
  go_upto_region 1 with fail
  rw [zero32]
  generalize ((((w.alloc (.cells (krow root) 22)).alloc (.cells (krow key) 23)).alloc (.cells (pfRow (.slice a n c) false k v) 35)).alloc (.cells (ub 32 (fun _ => 0)) 22)) = w4 at *
  obtain ⟨ga, hga⟩ : ∃ x, x = w.heap.size := ⟨_, rfl⟩
  obtain ⟨gb, hgb⟩ : ∃ x, x = w.heap.size + 1 := ⟨_, rfl⟩
  obtain ⟨gc, hgc⟩ : ∃ x, x = w.heap.size + 1 + 1 := ⟨_, rfl⟩
  obtain ⟨gd, hgd⟩ : ∃ x, x = w.heap.size + 1 + 1 + 1 := ⟨_, rfl⟩
  have hge2 : w.heap.size + 2 = gc := hgc.symm
  have hge3 : w.heap.size + 3 = gd := hgd.symm
  rw [← hgd, ← hgc, ← hgb, ← hga]
  rw [hge2] at HP HW3
  rw [hge3, ← hgb, ← hga] at HB
  have HGD := Lib.hid (show w.heap.size ≤ gd by omega)
  clear hga hgb hgc hgd hge2 hge3
  have c0 := HP.out.c0
  have c1 := HP.out.c1
  go_upto_region 3 with fail
  clear c0 c1
  go_wp2_with (first | (focus ((refine wpList_load_row rfl 23 (.tmp 4) rfl gb rfl 23 (krow key) (0, 0) _ HB.out.2.1 Tryd.underlying23 rfl s1 ?_); simp only [Act.put, List.setIfInBounds_toArray, List.set_cons_zero, List.set_cons_succ])) | (focus ((refine wpList_load_cells rfl 35 (.tmp 5) rfl gc 0 rfl (pfRow (.slice a n c) false k v) 66 _ Tryd.underlying35 rfl szPd HW3.out HPS.out ?_); simp only [Act.put, List.setIfInBounds_toArray, List.set_cons_zero, List.set_cons_succ])))
  have FW := HF.out
  refine (ptexts_any key k v false S a n c HSN.out.1 HSN.out.2.1 HSN.out.2.2.1 HSN.out.2.2.2 HN.out.2.1 HN.out.2.2.1 HN.out.2.2.2 w4 (HKA.out.1.ext FW) (fun k hk => Nat.lt_of_lt_of_le (HKA.out.2.1 k hk) FW.size) (HKA.out.2.2.ext FW)).mono ?_
  rintro e w6 ⟨⟨u, rfl, hT⟩, F6⟩
  obtain ⟨gv, cap, sa, sn, sc, rfl, hcell, hown, cv, fzv, hbl⟩ := hT.last (Pf.txs_len _ _ _ _)
  rw [Pf.txs_last] at hown
  have htl : (Pf.tx key S (Pf.en false k v) n).length ≤ 67 := Pf.tx_le key HKA.out.1.all (Pf.en_le false HN.out.2.2.1 HN.out.2.2.2) n (by have := HSN.out.1; omega)
  have F06 := FW.trans F6 (fun _ h => h.elim)
  have HF6 := Lib.hid F06
  have HP6 := Lib.hid (HP.out.fr F6 (fun h => h))
  have HB6 := Lib.hid (show w6.heap[ga]? = _ ∧ w6.heap[gb]? = _ ∧ w6.heap[gd]? = _ from ⟨(F6.block _ (lt_of_block HB.out.1) (fun h => h)).trans HB.out.1, (F6.block _ (lt_of_block HB.out.2.1) (fun h => h)).trans HB.out.2.1, (F6.block _ (lt_of_block HB.out.2.2) (fun h => h)).trans HB.out.2.2⟩)
  generalize Pf.tx key S (Pf.en false k v) n = tt at *
  have HTT := Lib.hid htl
  have HV := Lib.hid (And.intro hcell hown)
  have E6 := Lib.hid (HKA.out.2.2.ext F06)
  have hne := HNE.out
  have q0 : (0 : Int) ≤ (n : Int) := Int.natCast_nonneg n
  have q6 : (n : Int) < (n : Int) + 1 := by omega
  have q5 : wrap64 (n : Int) = (n : Int) := IntWalk.wrap64_in _ (by have := HSN.out.2.1; omega)
  have q1 : (n : Int) < ((n + 1 : Nat) : Int) := by omega
  clear hcell hown hbl htl F6 FW F06 hT t256 
  go_wp2_with fail
  refine Ks.wp_region_mono (fun _ => False) (sg 0 6 ++ (sg 8 1 ++ ((6, true) :: ((7, true) :: (sg 9 1 ++ ([])))))) (by kernel_rfl) (by kernel_rfl) ?_
  refine Ks.Wk.seg 0 6 (by kernel_rfl) (by kernel_rfl) ?_
  apply Exists.intro
  refine ⟨?wk0, ?fin0⟩
  case wk0 =>
    intro γ
    have kxv : ∀ z : Ks.Ws γ, z.w.cell? ⟨gv, n, none⟩ = some (.slice sa sn sc) := fun z => z.h.cellSome (p := ⟨gv, n, none⟩) (fun h => h) HV.out.1
    simp only [List.drop_succ_cons, List.drop_zero, List.take_succ_cons, List.take_zero]
    repeat (any_goals (first | go_big_quiet_step (fail) | quiet_step (fail)))
    exact wpQuiet_nil rfl
  case fin0 =>
  (try simp only [Act.put, List.setIfInBounds_toArray, List.set_cons_zero, List.set_cons_succ])
  refine Ks.Wk.seg 8 1 (by kernel_rfl) (by kernel_rfl) ?_
  apply Exists.intro
  refine ⟨?wk1, ?fin1⟩
  case wk1 =>
    intro γ
    simp only [List.drop_succ_cons, List.drop_zero, List.take_succ_cons, List.take_zero]
    repeat (any_goals (first | (focus (go_big_quiet_want; (refine Ks.quiet_load_rows 22 (.tmp 3) rfl ga rfl 22 (krow root) (0, 0) _ HB6.out.1 (fun h => h) Tryd.underlying22 rfl s0 ?_); simp only [Act.put, List.setIfInBounds_toArray, List.set_cons_zero, List.set_cons_succ]; go_big_quiet_on)) | go_big_quiet_step (fail) | quiet_step (fail)))
    exact wpQuiet_nil rfl
  case fin1 =>
  (try simp only [Act.put, List.setIfInBounds_toArray, List.set_cons_zero, List.set_cons_succ])
  refine Ks.Wk.one rfl (fun w7 Xw7 => ?_)
  refine wpList_buildSlice rfl 30 1 _ rfl #[(0, .slice sa sn sc)] (by first | kernel_rfl | rfl | simp [Act.eval]) (mkT1 _ _ _ w7) ⟨rfl, Ks.Es.of ((Fr.refl _ w7).alloc _), ?_⟩
  (try simp only [List.getElem_toArray, List.getElem_cons_succ, List.getElem_cons_zero, Act.put, List.setIfInBounds_toArray, List.set_cons_zero, List.set_cons_succ])
  have B4 := heap_alloc_new w7 (.cells #[.slice sa sn sc] 39)
  have X4 : Fr (fun _ => False) w6 (w7.alloc (.cells #[.slice sa sn sc] 39)) := Xw7.alloc _
  have P4 := parts_one B4 (Own.camex (HV.out.2.ext X4))
  have E4 := E6.out.ext X4
  generalize (w7.alloc (.cells #[.slice sa sn sc] 39)) = v4 at *
  refine Ks.Wk.call rfl (by kernel_rfl) 18 #[.slice (some ⟨w7.heap.size, 0, none⟩) 1 1] (fun W => by first | kernel_rfl | rfl) (fun vv V => vv = .agg (krow (S2.sum tt))) (fun V hx => (psum_any _ [tt] 1 1 rfl V (P4.grow hx) (by unfold maxLen; omega) (by have := HTT.out; simp; omega) (E4.ext hx)).mono (fun e V' he => ⟨_, he.1, he.2, by rw [krow_sum]; simp⟩)) ?_
  rintro vv w9 X9 rfl
  (try simp only [List.getElem_toArray, List.getElem_cons_succ, List.getElem_cons_zero, Act.put, List.setIfInBounds_toArray, List.set_cons_zero, List.set_cons_succ])
  refine Ks.Wk.seg 9 1 (by kernel_rfl) (by kernel_rfl) ?_
  apply Exists.intro
  refine ⟨?wk4, ?fin4⟩
  case wk4 =>
    intro γ
    simp only [List.drop_succ_cons, List.drop_zero, List.take_succ_cons, List.take_zero]
    repeat (any_goals (first | go_big_quiet_step (fail) | quiet_step (fail)))
    exact wpQuiet_nil rfl
  case fin4 =>
  (try simp only [Act.put, List.setIfInBounds_toArray, List.set_cons_zero, List.set_cons_succ])
  intro w10 X10
  have X610 : Fr (fun _ => False) w6 w10 := (X4.trans X9 (fun _ h => h.elim)).trans X10 (fun _ h => h.elim)
  have HFX := Lib.hid (HF6.out.trans X610 (fun _ h => h.elim))
  have HPX := Lib.hid (HP6.out.fr X610 (fun h => h))
  have HBX := Lib.hid (show w10.heap[gb]? = _ ∧ w10.heap[gd]? = _ from ⟨(X610.block _ (lt_of_block HB6.out.2.1) (fun h => h)).trans HB6.out.2.1, (X610.block _ (lt_of_block HB6.out.2.2) (fun h => h)).trans HB6.out.2.2⟩)
  have c1 := HPX.out.c1
  clear X610 X10 X9 X4 P4 E4 B4 Xw7 hne
  go_upto_region 7 with (first | (focus ((refine wpList_guarded rfl ?_; refine wpList_load_cells rfl 23 (.tmp 49) rfl gc 2 rfl (krow k) 32 _ Tryd.underlying23 rfl szK HPX.out.ck HSK.out ?_); simp only [Act.put, List.setIfInBounds_toArray, List.set_cons_zero, List.set_cons_succ])) | (focus ((refine wpList_guarded rfl ?_; refine wpList_load_row rfl 23 (.tmp 4) rfl gb rfl 23 (krow key) (0, 0) _ HBX.out.1 Tryd.underlying23 rfl s1 ?_); simp only [Act.put, List.setIfInBounds_toArray, List.set_cons_zero, List.set_cons_succ])))
  refine wp_region_lit ?_
  refine wpList_build0 rfl 22 rfl (krow Pf.z) built_z ?_
  simp only [Act.put, List.setIfInBounds_toArray, List.set_cons_zero, List.set_cons_succ]
  refine wpList_store_rowA rfl 22 (.tmp 6) (.tmp 54) rfl gd (krow Pf.z) rfl rfl 22 _ HBX.out.2 (sz32' Pf.z_len) (by rw [ub_size, krow_size, Pf.z_len]) (krow_one _) ?_
  intro w8 B8 F8
  simp only [Act.put, List.setIfInBounds_toArray, List.set_cons_zero, List.set_cons_succ]
  refine Hid.out ?_
  have HX := Lib.hid (HFX.out.trans F8 (fun k h => .inr (by rw [h]; exact HGD.out)))
  have HB8 := Lib.hid B8
  clear B8 F8
  refine Lib.hid ?_
  go_wp2_with fail
  refine bodyPost_ret (results_ctt rfl _ _ gd 22 (krow Pf.z) (0, 0) _ rfl HB8.out Tryd.underlying22 rfl (sz32' Pf.z_len)) rfl ?_
  exact ⟨rfl, HX.out⟩
set_option maxRecDepth 100000 in
set_option maxHeartbeats 6400000 in
theorem pchk_oth (root key k v : List UInt8) (S : List (List UInt8)) (a : Option Addr) (n c : Nat) (cc : Nat) (hSn : S.length = n) (hn9 : n ≤ 1000) (hnc : n ≤ c) (hcm : c ≤ maxLen) (hroot : root.length = 32) (hkey : key.length = 32) (hk : k.length = 32) (hv : v.length = 32) (hsm : n ≤ 256) (hC : IsC k key cc) (hun : (decide ((n : Int) ≤ (cc : Int)) || (cc == 256)) = true) (hsum : (S2.sum (Pf.tx key S (Pf.en true k v) n) == root) = true) (hky : (k == key) = false) (w : World) (hK : Kv w a S) (ha : ∀ k, inBlk a k → k < w.heap.size) (hE : Env w) :
    Calls Tryd.prog 10 #[.agg (krow root), .agg (krow key), .agg (pfRow (.slice a n c) true k v)] w fun e w' => e = .returned (.tuple #[.agg (krow Pf.z), .bool false, .int .i64 0]) ∧ Fr (fun _ => False) w w' := by
  have s0 := sz32' hroot
  have s1 : (Tryd.prog.info? 23).map (·.size) = some (krow key).size := by rw [krow_size, hkey]; kernel_rfl
  have s2 : (Tryd.prog.info? 35).map (·.size) = some (pfRow (.slice a n c) true k v).size := by rw [pf_size hk hv]; kernel_rfl
  obtain ⟨b0, b1, b2, b3⟩ := heap_four w (.cells (krow root) 22) (.cells (krow key) 23) (.cells (pfRow (.slice a n c) true k v) 35) (.cells (ub 32 (fun _ => 0)) 22)
  have F0 := ((((Fr.refl (fun _ => False) w).alloc (.cells (krow root) 22)).alloc (.cells (krow key) 23)).alloc (.cells (pfRow (.slice a n c) true k v) 35)).alloc (.cells (ub 32 (fun _ => 0)) 22)
  have HP := Lib.hid (Pb.of b2 hk)
  have HW3 := Lib.hid (pf_cell b2 (Part.whole _))
  have HPS := Lib.hid (pf_size (s := .slice a n c) (th := true) hk hv)
  have HB := Lib.hid (And.intro b0 (And.intro b1 b3))
  have HF := Lib.hid F0
  have HN := Lib.hid (And.intro hroot (And.intro hkey (And.intro hk hv)))
  have HSN := Lib.hid (And.intro hSn (And.intro hn9 (And.intro hnc hcm)))
  have HKA := Lib.hid (And.intro hK (And.intro ha hE))
  have t256 : (¬ ((256 : Int) < (n : Int))) := by omega
  have HSK := Lib.hid (show (krow k).size = 32 by rw [krow_size, hk])
  have HSV := Lib.hid (show (krow v).size = 32 by rw [krow_size, hv])
  have HU := Lib.hid (under_ans hk hkey hC (n : Int))
  rw [hun] at HU
  have HNE := Lib.hid (show ∀ W : World, (binOp .neq 22 (.agg (krow (S2.sum (Pf.tx key S (Pf.en true k v) n)))) (.agg (krow root))).run Tryd.prog W = .ok (.bool false) W from fun W => by rw [neq_row (sum_length _) hroot, hsum]; rfl)
  have nk : ∀ W : World, (binOp .neq 23 (.agg (krow k)) (.agg (krow key))).run Tryd.prog W = .ok (.bool true) W := fun W => by rw [neq_rowK hk hkey, hky]; rfl
  clear b0 b1 b2 b3 F0 hroot hkey hk hv hSn hn9 hnc hcm hK ha hE hsm hC hun hsum hky
  go_enter Tryd.func10, Tryd.ntmps10
  go_upto_region 1 with fail
  rw [zero32]
  generalize ((((w.alloc (.cells (krow root) 22)).alloc (.cells (krow key) 23)).alloc (.cells (pfRow (.slice a n c) true k v) 35)).alloc (.cells (ub 32 (fun _ => 0)) 22)) = w4 at *
  obtain ⟨ga, hga⟩ : ∃ x, x = w.heap.size := ⟨_, rfl⟩
  obtain ⟨gb, hgb⟩ : ∃ x, x = w.heap.size + 1 := ⟨_, rfl⟩
  obtain ⟨gc, hgc⟩ : ∃ x, x = w.heap.size + 1 + 1 := ⟨_, rfl⟩
  obtain ⟨gd, hgd⟩ : ∃ x, x = w.heap.size + 1 + 1 + 1 := ⟨_, rfl⟩
  have hge2 : w.heap.size + 2 = gc := hgc.symm
  have hge3 : w.heap.size + 3 = gd := hgd.symm
  rw [← hgd, ← hgc, ← hgb, ← hga]
  rw [hge2] at HP HW3
  rw [hge3, ← hgb, ← hga] at HB
  have HGD := Lib.hid (show w.heap.size ≤ gd by omega)
  clear hga hgb hgc hgd hge2 hge3
  have c0 := HP.out.c0
  have c1 := HP.out.c1
  go_wp2_with (first | (focus ((refine wpList_guarded rfl ?_; refine wpList_load_cells rfl 23 (.tmp 19) rfl gc 2 rfl (krow k) 32 _ Tryd.underlying23 rfl szK (HP.out).ck HSK.out ?_); simp only [Act.put, List.setIfInBounds_toArray, List.set_cons_zero, List.set_cons_succ])) | (focus ((refine wpList_guarded rfl ?_; refine wpList_load_row rfl 23 (.tmp 4) rfl gb rfl 23 (krow key) (0, 0) _ HB.out.2.1 Tryd.underlying23 rfl s1 ?_); simp only [Act.put, List.setIfInBounds_toArray, List.set_cons_zero, List.set_cons_succ])))
  refine (HU.out _).mono ?_
  rintro e w5 ⟨rfl, F5⟩
  have HF5 := Lib.hid F5
  have HP5 := Lib.hid (HP.out.fr F5 (fun h => h))
  have HB5 := Lib.hid (show w5.heap[ga]? = _ ∧ w5.heap[gb]? = _ ∧ w5.heap[gd]? = _ from ⟨(F5.block _ (lt_of_block HB.out.1) (fun h => h)).trans HB.out.1, (F5.block _ (lt_of_block HB.out.2.1) (fun h => h)).trans HB.out.2.1, (F5.block _ (lt_of_block HB.out.2.2) (fun h => h)).trans HB.out.2.2⟩)
  have HW5 := Lib.hid (show ∀ (i : Nat) (x : Value), (pfRow (.slice a n c) true k v)[i]? = some x → w5.cell? ⟨gc, 0 + i, none⟩ = some x from fun i x hx => F5.cellSome (p := ⟨gc, 0 + i, none⟩) (fun h => h) (HW3.out i x hx))
  clear F5 c0 c1
  go_wp2_with (first | (focus ((refine wpList_load_row rfl 23 (.tmp 4) rfl gb rfl 23 (krow key) (0, 0) _ HB5.out.2.1 Tryd.underlying23 rfl s1 ?_); simp only [Act.put, List.setIfInBounds_toArray, List.set_cons_zero, List.set_cons_succ])) | (focus ((refine wpList_load_cells rfl 35 (.tmp 5) rfl gc 0 rfl (pfRow (.slice a n c) true k v) 66 _ Tryd.underlying35 rfl szPd HW5.out HPS.out ?_); simp only [Act.put, List.setIfInBounds_toArray, List.set_cons_zero, List.set_cons_succ])))
  have FW := (HF.out.trans HF5.out (fun _ h => h.elim))
  refine (ptexts_any key k v true S a n c HSN.out.1 HSN.out.2.1 HSN.out.2.2.1 HSN.out.2.2.2 HN.out.2.1 HN.out.2.2.1 HN.out.2.2.2 w5 (HKA.out.1.ext FW) (fun k hk => Nat.lt_of_lt_of_le (HKA.out.2.1 k hk) FW.size) (HKA.out.2.2.ext FW)).mono ?_
  rintro e w6 ⟨⟨u, rfl, hT⟩, F6⟩
  obtain ⟨gv, cap, sa, sn, sc, rfl, hcell, hown, cv, fzv, hbl⟩ := hT.last (Pf.txs_len _ _ _ _)
  rw [Pf.txs_last] at hown
  have htl : (Pf.tx key S (Pf.en true k v) n).length ≤ 67 := Pf.tx_le key HKA.out.1.all (Pf.en_le true HN.out.2.2.1 HN.out.2.2.2) n (by have := HSN.out.1; omega)
  have F06 := FW.trans F6 (fun _ h => h.elim)
  have HF6 := Lib.hid F06
  have HP6 := Lib.hid (HP5.out.fr F6 (fun h => h))
  have HB6 := Lib.hid (show w6.heap[ga]? = _ ∧ w6.heap[gb]? = _ ∧ w6.heap[gd]? = _ from ⟨(F6.block _ (lt_of_block HB5.out.1) (fun h => h)).trans HB5.out.1, (F6.block _ (lt_of_block HB5.out.2.1) (fun h => h)).trans HB5.out.2.1, (F6.block _ (lt_of_block HB5.out.2.2) (fun h => h)).trans HB5.out.2.2⟩)
  generalize Pf.tx key S (Pf.en true k v) n = tt at *
  have HTT := Lib.hid htl
  have HV := Lib.hid (And.intro hcell hown)
  have E6 := Lib.hid (HKA.out.2.2.ext F06)
  have hne := HNE.out
  have q0 : (0 : Int) ≤ (n : Int) := Int.natCast_nonneg n
  have q6 : (n : Int) < (n : Int) + 1 := by omega
  have q5 : wrap64 (n : Int) = (n : Int) := IntWalk.wrap64_in _ (by have := HSN.out.2.1; omega)
  have q1 : (n : Int) < ((n + 1 : Nat) : Int) := by omega
  clear hcell hown hbl htl F6 FW F06 hT t256 
  go_wp2_with fail
  refine Ks.wp_region_mono (fun _ => False) (sg 0 6 ++ (sg 8 1 ++ ((6, true) :: ((7, true) :: (sg 9 1 ++ ([])))))) (by kernel_rfl) (by kernel_rfl) ?_
  refine Ks.Wk.seg 0 6 (by kernel_rfl) (by kernel_rfl) ?_
  apply Exists.intro
  refine ⟨?wk0, ?fin0⟩
  case wk0 =>
    intro γ
    have kxv : ∀ z : Ks.Ws γ, z.w.cell? ⟨gv, n, none⟩ = some (.slice sa sn sc) := fun z => z.h.cellSome (p := ⟨gv, n, none⟩) (fun h => h) HV.out.1
    simp only [List.drop_succ_cons, List.drop_zero, List.take_succ_cons, List.take_zero]
    repeat (any_goals (first | go_big_quiet_step (fail) | quiet_step (fail)))
    exact wpQuiet_nil rfl
  case fin0 =>
  (try simp only [Act.put, List.setIfInBounds_toArray, List.set_cons_zero, List.set_cons_succ])
  refine Ks.Wk.seg 8 1 (by kernel_rfl) (by kernel_rfl) ?_
  apply Exists.intro
  refine ⟨?wk1, ?fin1⟩
  case wk1 =>
    intro γ
    simp only [List.drop_succ_cons, List.drop_zero, List.take_succ_cons, List.take_zero]
    repeat (any_goals (first | (focus (go_big_quiet_want; (refine Ks.quiet_load_rows 22 (.tmp 3) rfl ga rfl 22 (krow root) (0, 0) _ HB6.out.1 (fun h => h) Tryd.underlying22 rfl s0 ?_); simp only [Act.put, List.setIfInBounds_toArray, List.set_cons_zero, List.set_cons_succ]; go_big_quiet_on)) | go_big_quiet_step (fail) | quiet_step (fail)))
    exact wpQuiet_nil rfl
  case fin1 =>
  (try simp only [Act.put, List.setIfInBounds_toArray, List.set_cons_zero, List.set_cons_succ])
  refine Ks.Wk.one rfl (fun w7 Xw7 => ?_)
  refine wpList_buildSlice rfl 30 1 _ rfl #[(0, .slice sa sn sc)] (by first | kernel_rfl | rfl | simp [Act.eval]) (mkT1 _ _ _ w7) ⟨rfl, Ks.Es.of ((Fr.refl _ w7).alloc _), ?_⟩
  (try simp only [List.getElem_toArray, List.getElem_cons_succ, List.getElem_cons_zero, Act.put, List.setIfInBounds_toArray, List.set_cons_zero, List.set_cons_succ])
  have B4 := heap_alloc_new w7 (.cells #[.slice sa sn sc] 39)
  have X4 : Fr (fun _ => False) w6 (w7.alloc (.cells #[.slice sa sn sc] 39)) := Xw7.alloc _
  have P4 := parts_one B4 (Own.camex (HV.out.2.ext X4))
  have E4 := E6.out.ext X4
  generalize (w7.alloc (.cells #[.slice sa sn sc] 39)) = v4 at *
  refine Ks.Wk.call rfl (by kernel_rfl) 18 #[.slice (some ⟨w7.heap.size, 0, none⟩) 1 1] (fun W => by first | kernel_rfl | rfl) (fun vv V => vv = .agg (krow (S2.sum tt))) (fun V hx => (psum_any _ [tt] 1 1 rfl V (P4.grow hx) (by unfold maxLen; omega) (by have := HTT.out; simp; omega) (E4.ext hx)).mono (fun e V' he => ⟨_, he.1, he.2, by rw [krow_sum]; simp⟩)) ?_
  rintro vv w9 X9 rfl
  (try simp only [List.getElem_toArray, List.getElem_cons_succ, List.getElem_cons_zero, Act.put, List.setIfInBounds_toArray, List.set_cons_zero, List.set_cons_succ])
  refine Ks.Wk.seg 9 1 (by kernel_rfl) (by kernel_rfl) ?_
  apply Exists.intro
  refine ⟨?wk4, ?fin4⟩
  case wk4 =>
    intro γ
    simp only [List.drop_succ_cons, List.drop_zero, List.take_succ_cons, List.take_zero]
    repeat (any_goals (first | go_big_quiet_step (fail) | quiet_step (fail)))
    exact wpQuiet_nil rfl
  case fin4 =>
  (try simp only [Act.put, List.setIfInBounds_toArray, List.set_cons_zero, List.set_cons_succ])
  intro w10 X10
  have X610 : Fr (fun _ => False) w6 w10 := (X4.trans X9 (fun _ h => h.elim)).trans X10 (fun _ h => h.elim)
  have HFX := Lib.hid (HF6.out.trans X610 (fun _ h => h.elim))
  have HPX := Lib.hid (HP6.out.fr X610 (fun h => h))
  have HBX := Lib.hid (show w10.heap[gb]? = _ ∧ w10.heap[gd]? = _ from ⟨(X610.block _ (lt_of_block HB6.out.2.1) (fun h => h)).trans HB6.out.2.1, (X610.block _ (lt_of_block HB6.out.2.2) (fun h => h)).trans HB6.out.2.2⟩)
  have c1 := HPX.out.c1
  clear X610 X10 X9 X4 P4 E4 B4 Xw7 hne
  go_upto_region 7 with (first | (focus ((refine wpList_guarded rfl ?_; refine wpList_load_cells rfl 23 (.tmp 49) rfl gc 2 rfl (krow k) 32 _ Tryd.underlying23 rfl szK HPX.out.ck HSK.out ?_); simp only [Act.put, List.setIfInBounds_toArray, List.set_cons_zero, List.set_cons_succ])) | (focus ((refine wpList_guarded rfl ?_; refine wpList_load_row rfl 23 (.tmp 4) rfl gb rfl 23 (krow key) (0, 0) _ HBX.out.1 Tryd.underlying23 rfl s1 ?_); simp only [Act.put, List.setIfInBounds_toArray, List.set_cons_zero, List.set_cons_succ])))
  refine wp_region_lit ?_
  refine wpList_build0 rfl 22 rfl (krow Pf.z) built_z ?_
  simp only [Act.put, List.setIfInBounds_toArray, List.set_cons_zero, List.set_cons_succ]
  refine wpList_store_rowA rfl 22 (.tmp 6) (.tmp 54) rfl gd (krow Pf.z) rfl rfl 22 _ HBX.out.2 (sz32' Pf.z_len) (by rw [ub_size, krow_size, Pf.z_len]) (krow_one _) ?_
  intro w8 B8 F8
  simp only [Act.put, List.setIfInBounds_toArray, List.set_cons_zero, List.set_cons_succ]
  refine Hid.out ?_
  have HX := Lib.hid (HFX.out.trans F8 (fun k h => .inr (by rw [h]; exact HGD.out)))
  have HB8 := Lib.hid B8
  clear B8 F8
  refine Lib.hid ?_
  go_wp2_with fail
  refine bodyPost_ret (results_ctt rfl _ _ gd 22 (krow Pf.z) (0, 0) _ rfl HB8.out Tryd.underlying22 rfl (sz32' Pf.z_len)) rfl ?_
  exact ⟨rfl, HX.out⟩
set_option maxRecDepth 100000 in
set_option maxHeartbeats 6400000 in
theorem pchk_yes (root key k v : List UInt8) (S : List (List UInt8)) (a : Option Addr) (n c : Nat) (cc : Nat) (hSn : S.length = n) (hn9 : n ≤ 1000) (hnc : n ≤ c) (hcm : c ≤ maxLen) (hroot : root.length = 32) (hkey : key.length = 32) (hk : k.length = 32) (hv : v.length = 32) (hsm : n ≤ 256) (hC : IsC k key cc) (hun : (decide ((n : Int) ≤ (cc : Int)) || (cc == 256)) = true) (hsum : (S2.sum (Pf.tx key S (Pf.en true k v) n) == root) = true) (hky : (k == key) = true) (w : World) (hK : Kv w a S) (ha : ∀ k, inBlk a k → k < w.heap.size) (hE : Env w) :
    Calls Tryd.prog 10 #[.agg (krow root), .agg (krow key), .agg (pfRow (.slice a n c) true k v)] w fun e w' => e = .returned (.tuple #[.agg (krow v), .bool true, .int .i64 0]) ∧ Fr (fun _ => False) w w' := by
  have s0 := sz32' hroot
  have s1 : (Tryd.prog.info? 23).map (·.size) = some (krow key).size := by rw [krow_size, hkey]; kernel_rfl
  have s2 : (Tryd.prog.info? 35).map (·.size) = some (pfRow (.slice a n c) true k v).size := by rw [pf_size hk hv]; kernel_rfl
  obtain ⟨b0, b1, b2, b3⟩ := heap_four w (.cells (krow root) 22) (.cells (krow key) 23) (.cells (pfRow (.slice a n c) true k v) 35) (.cells (ub 32 (fun _ => 0)) 22)
  have F0 := ((((Fr.refl (fun _ => False) w).alloc (.cells (krow root) 22)).alloc (.cells (krow key) 23)).alloc (.cells (pfRow (.slice a n c) true k v) 35)).alloc (.cells (ub 32 (fun _ => 0)) 22)
  have HP := Lib.hid (Pb.of b2 hk)
  have HW3 := Lib.hid (pf_cell b2 (Part.whole _))
  have HPS := Lib.hid (pf_size (s := .slice a n c) (th := true) hk hv)
  have HB := Lib.hid (And.intro b0 (And.intro b1 b3))
  have HF := Lib.hid F0
  have HN := Lib.hid (And.intro hroot (And.intro hkey (And.intro hk hv)))
  have HSN := Lib.hid (And.intro hSn (And.intro hn9 (And.intro hnc hcm)))
  have HKA := Lib.hid (And.intro hK (And.intro ha hE))
  have t256 : (¬ ((256 : Int) < (n : Int))) := by omega
  have HSK := Lib.hid (show (krow k).size = 32 by rw [krow_size, hk])
  have HSV := Lib.hid (show (krow v).size = 32 by rw [krow_size, hv])
  have HU := Lib.hid (under_ans hk hkey hC (n : Int))
  rw [hun] at HU
  have HNE := Lib.hid (show ∀ W : World, (binOp .neq 22 (.agg (krow (S2.sum (Pf.tx key S (Pf.en true k v) n)))) (.agg (krow root))).run Tryd.prog W = .ok (.bool false) W from fun W => by rw [neq_row (sum_length _) hroot, hsum]; rfl)
  have nk : ∀ W : World, (binOp .neq 23 (.agg (krow k)) (.agg (krow key))).run Tryd.prog W = .ok (.bool false) W := fun W => by rw [neq_rowK hk hkey, hky]; rfl
  clear b0 b1 b2 b3 F0 hroot hkey hk hv hSn hn9 hnc hcm hK ha hE hsm hC hun hsum hky
  go_enter Tryd.func10, Tryd.ntmps10
  go_upto_region 1 with fail
  rw [zero32]
  generalize ((((w.alloc (.cells (krow root) 22)).alloc (.cells (krow key) 23)).alloc (.cells (pfRow (.slice a n c) true k v) 35)).alloc (.cells (ub 32 (fun _ => 0)) 22)) = w4 at *
  obtain ⟨ga, hga⟩ : ∃ x, x = w.heap.size := ⟨_, rfl⟩
  obtain ⟨gb, hgb⟩ : ∃ x, x = w.heap.size + 1 := ⟨_, rfl⟩
  obtain ⟨gc, hgc⟩ : ∃ x, x = w.heap.size + 1 + 1 := ⟨_, rfl⟩
  obtain ⟨gd, hgd⟩ : ∃ x, x = w.heap.size + 1 + 1 + 1 := ⟨_, rfl⟩
  have hge2 : w.heap.size + 2 = gc := hgc.symm
  have hge3 : w.heap.size + 3 = gd := hgd.symm
  rw [← hgd, ← hgc, ← hgb, ← hga]
  rw [hge2] at HP HW3
  rw [hge3, ← hgb, ← hga] at HB
  have HGD := Lib.hid (show w.heap.size ≤ gd by omega)
  clear hga hgb hgc hgd hge2 hge3
  have c0 := HP.out.c0
  have c1 := HP.out.c1
  go_wp2_with (first | (focus ((refine wpList_guarded rfl ?_; refine wpList_load_cells rfl 23 (.tmp 19) rfl gc 2 rfl (krow k) 32 _ Tryd.underlying23 rfl szK (HP.out).ck HSK.out ?_); simp only [Act.put, List.setIfInBounds_toArray, List.set_cons_zero, List.set_cons_succ])) | (focus ((refine wpList_guarded rfl ?_; refine wpList_load_row rfl 23 (.tmp 4) rfl gb rfl 23 (krow key) (0, 0) _ HB.out.2.1 Tryd.underlying23 rfl s1 ?_); simp only [Act.put, List.setIfInBounds_toArray, List.set_cons_zero, List.set_cons_succ])))
  refine (HU.out _).mono ?_
  rintro e w5 ⟨rfl, F5⟩
  have HF5 := Lib.hid F5
  have HP5 := Lib.hid (HP.out.fr F5 (fun h => h))
  have HB5 := Lib.hid (show w5.heap[ga]? = _ ∧ w5.heap[gb]? = _ ∧ w5.heap[gd]? = _ from ⟨(F5.block _ (lt_of_block HB.out.1) (fun h => h)).trans HB.out.1, (F5.block _ (lt_of_block HB.out.2.1) (fun h => h)).trans HB.out.2.1, (F5.block _ (lt_of_block HB.out.2.2) (fun h => h)).trans HB.out.2.2⟩)
  have HW5 := Lib.hid (show ∀ (i : Nat) (x : Value), (pfRow (.slice a n c) true k v)[i]? = some x → w5.cell? ⟨gc, 0 + i, none⟩ = some x from fun i x hx => F5.cellSome (p := ⟨gc, 0 + i, none⟩) (fun h => h) (HW3.out i x hx))
  clear F5 c0 c1
  go_wp2_with (first | (focus ((refine wpList_load_row rfl 23 (.tmp 4) rfl gb rfl 23 (krow key) (0, 0) _ HB5.out.2.1 Tryd.underlying23 rfl s1 ?_); simp only [Act.put, List.setIfInBounds_toArray, List.set_cons_zero, List.set_cons_succ])) | (focus ((refine wpList_load_cells rfl 35 (.tmp 5) rfl gc 0 rfl (pfRow (.slice a n c) true k v) 66 _ Tryd.underlying35 rfl szPd HW5.out HPS.out ?_); simp only [Act.put, List.setIfInBounds_toArray, List.set_cons_zero, List.set_cons_succ])))
  have FW := (HF.out.trans HF5.out (fun _ h => h.elim))
  refine (ptexts_any key k v true S a n c HSN.out.1 HSN.out.2.1 HSN.out.2.2.1 HSN.out.2.2.2 HN.out.2.1 HN.out.2.2.1 HN.out.2.2.2 w5 (HKA.out.1.ext FW) (fun k hk => Nat.lt_of_lt_of_le (HKA.out.2.1 k hk) FW.size) (HKA.out.2.2.ext FW)).mono ?_
  rintro e w6 ⟨⟨u, rfl, hT⟩, F6⟩
  obtain ⟨gv, cap, sa, sn, sc, rfl, hcell, hown, cv, fzv, hbl⟩ := hT.last (Pf.txs_len _ _ _ _)
  rw [Pf.txs_last] at hown
  have htl : (Pf.tx key S (Pf.en true k v) n).length ≤ 67 := Pf.tx_le key HKA.out.1.all (Pf.en_le true HN.out.2.2.1 HN.out.2.2.2) n (by have := HSN.out.1; omega)
  have F06 := FW.trans F6 (fun _ h => h.elim)
  have HF6 := Lib.hid F06
  have HP6 := Lib.hid (HP5.out.fr F6 (fun h => h))
  have HB6 := Lib.hid (show w6.heap[ga]? = _ ∧ w6.heap[gb]? = _ ∧ w6.heap[gd]? = _ from ⟨(F6.block _ (lt_of_block HB5.out.1) (fun h => h)).trans HB5.out.1, (F6.block _ (lt_of_block HB5.out.2.1) (fun h => h)).trans HB5.out.2.1, (F6.block _ (lt_of_block HB5.out.2.2) (fun h => h)).trans HB5.out.2.2⟩)
  generalize Pf.tx key S (Pf.en true k v) n = tt at *
  have HTT := Lib.hid htl
  have HV := Lib.hid (And.intro hcell hown)
  have E6 := Lib.hid (HKA.out.2.2.ext F06)
  have hne := HNE.out
  have q0 : (0 : Int) ≤ (n : Int) := Int.natCast_nonneg n
  have q6 : (n : Int) < (n : Int) + 1 := by omega
  have q5 : wrap64 (n : Int) = (n : Int) := IntWalk.wrap64_in _ (by have := HSN.out.2.1; omega)
  have q1 : (n : Int) < ((n + 1 : Nat) : Int) := by omega
  clear hcell hown hbl htl F6 FW F06 hT t256 
  go_wp2_with fail
  refine Ks.wp_region_mono (fun _ => False) (sg 0 6 ++ (sg 8 1 ++ ((6, true) :: ((7, true) :: (sg 9 1 ++ ([])))))) (by kernel_rfl) (by kernel_rfl) ?_
  refine Ks.Wk.seg 0 6 (by kernel_rfl) (by kernel_rfl) ?_
  apply Exists.intro
  refine ⟨?wk0, ?fin0⟩
  case wk0 =>
    intro γ
    have kxv : ∀ z : Ks.Ws γ, z.w.cell? ⟨gv, n, none⟩ = some (.slice sa sn sc) := fun z => z.h.cellSome (p := ⟨gv, n, none⟩) (fun h => h) HV.out.1
    simp only [List.drop_succ_cons, List.drop_zero, List.take_succ_cons, List.take_zero]
    repeat (any_goals (first | go_big_quiet_step (fail) | quiet_step (fail)))
    exact wpQuiet_nil rfl
  case fin0 =>
  (try simp only [Act.put, List.setIfInBounds_toArray, List.set_cons_zero, List.set_cons_succ])
  refine Ks.Wk.seg 8 1 (by kernel_rfl) (by kernel_rfl) ?_
  apply Exists.intro
  refine ⟨?wk1, ?fin1⟩
  case wk1 =>
    intro γ
    simp only [List.drop_succ_cons, List.drop_zero, List.take_succ_cons, List.take_zero]
    repeat (any_goals (first | (focus (go_big_quiet_want; (refine Ks.quiet_load_rows 22 (.tmp 3) rfl ga rfl 22 (krow root) (0, 0) _ HB6.out.1 (fun h => h) Tryd.underlying22 rfl s0 ?_); simp only [Act.put, List.setIfInBounds_toArray, List.set_cons_zero, List.set_cons_succ]; go_big_quiet_on)) | go_big_quiet_step (fail) | quiet_step (fail)))
    exact wpQuiet_nil rfl
  case fin1 =>
  (try simp only [Act.put, List.setIfInBounds_toArray, List.set_cons_zero, List.set_cons_succ])
  refine Ks.Wk.one rfl (fun w7 Xw7 => ?_)
  refine wpList_buildSlice rfl 30 1 _ rfl #[(0, .slice sa sn sc)] (by first | kernel_rfl | rfl | simp [Act.eval]) (mkT1 _ _ _ w7) ⟨rfl, Ks.Es.of ((Fr.refl _ w7).alloc _), ?_⟩
  (try simp only [List.getElem_toArray, List.getElem_cons_succ, List.getElem_cons_zero, Act.put, List.setIfInBounds_toArray, List.set_cons_zero, List.set_cons_succ])
  have B4 := heap_alloc_new w7 (.cells #[.slice sa sn sc] 39)
  have X4 : Fr (fun _ => False) w6 (w7.alloc (.cells #[.slice sa sn sc] 39)) := Xw7.alloc _
  have P4 := parts_one B4 (Own.camex (HV.out.2.ext X4))
  have E4 := E6.out.ext X4
  generalize (w7.alloc (.cells #[.slice sa sn sc] 39)) = v4 at *
  refine Ks.Wk.call rfl (by kernel_rfl) 18 #[.slice (some ⟨w7.heap.size, 0, none⟩) 1 1] (fun W => by first | kernel_rfl | rfl) (fun vv V => vv = .agg (krow (S2.sum tt))) (fun V hx => (psum_any _ [tt] 1 1 rfl V (P4.grow hx) (by unfold maxLen; omega) (by have := HTT.out; simp; omega) (E4.ext hx)).mono (fun e V' he => ⟨_, he.1, he.2, by rw [krow_sum]; simp⟩)) ?_
  rintro vv w9 X9 rfl
  (try simp only [List.getElem_toArray, List.getElem_cons_succ, List.getElem_cons_zero, Act.put, List.setIfInBounds_toArray, List.set_cons_zero, List.set_cons_succ])
  refine Ks.Wk.seg 9 1 (by kernel_rfl) (by kernel_rfl) ?_
  apply Exists.intro
  refine ⟨?wk4, ?fin4⟩
  case wk4 =>
    intro γ
    simp only [List.drop_succ_cons, List.drop_zero, List.take_succ_cons, List.take_zero]
    repeat (any_goals (first | go_big_quiet_step (fail) | quiet_step (fail)))
    exact wpQuiet_nil rfl
  case fin4 =>
  (try simp only [Act.put, List.setIfInBounds_toArray, List.set_cons_zero, List.set_cons_succ])
  intro w10 X10
  have X610 : Fr (fun _ => False) w6 w10 := (X4.trans X9 (fun _ h => h.elim)).trans X10 (fun _ h => h.elim)
  have HFX := Lib.hid (HF6.out.trans X610 (fun _ h => h.elim))
  have HPX := Lib.hid (HP6.out.fr X610 (fun h => h))
  have HBX := Lib.hid (show w10.heap[gb]? = _ ∧ w10.heap[gd]? = _ from ⟨(X610.block _ (lt_of_block HB6.out.2.1) (fun h => h)).trans HB6.out.2.1, (X610.block _ (lt_of_block HB6.out.2.2) (fun h => h)).trans HB6.out.2.2⟩)
  have c1 := HPX.out.c1
  clear X610 X10 X9 X4 P4 E4 B4 Xw7 hne
  go_wp2_with (first | (focus ((refine wpList_guarded rfl ?_; refine wpList_load_cells rfl 23 (.tmp 49) rfl gc 2 rfl (krow k) 32 _ Tryd.underlying23 rfl szK HPX.out.ck HSK.out ?_); simp only [Act.put, List.setIfInBounds_toArray, List.set_cons_zero, List.set_cons_succ])) | (focus ((refine wpList_guarded rfl ?_; refine wpList_load_row rfl 23 (.tmp 4) rfl gb rfl 23 (krow key) (0, 0) _ HBX.out.1 Tryd.underlying23 rfl s1 ?_); simp only [Act.put, List.setIfInBounds_toArray, List.set_cons_zero, List.set_cons_succ])) | (focus ((refine wpList_load_cells rfl 22 (.tmp 56) rfl gc 34 rfl (krow v) 32 _ Tryd.underlying22 rfl sz32 HPX.out.cv HSV.out ?_); simp only [Act.put, List.setIfInBounds_toArray, List.set_cons_zero, List.set_cons_succ])) | (focus (refine wpList_store_rowA rfl 22 (.tmp 6) (.tmp 57) rfl gd (krow v) rfl rfl 22 _ HBX.out.2 (sz32' HN.out.2.2.2) (by rw [ub_size, krow_size, HN.out.2.2.2]) (krow_one _) ?_; intro w8 B8 F8; simp only [Act.put, List.setIfInBounds_toArray, List.set_cons_zero, List.set_cons_succ]; refine Hid.out ?_)))
  have HX := Lib.hid (HFX.out.trans F8 (fun k h => .inr (by rw [h]; exact HGD.out)))
  have HB8 := Lib.hid B8
  clear B8 F8
  refine Lib.hid ?_
  go_wp2_with fail
  refine bodyPost_ret (results_ctt rfl _ _ gd 22 (krow v) (0, 0) _ rfl HB8.out Tryd.underlying22 rfl (sz32' HN.out.2.2.2)) rfl ?_
  exact ⟨rfl, HX.out⟩
set_option maxRecDepth 100000 in
set_option maxHeartbeats 6400000 in
theorem pchk_any (root key k v : List UInt8) (th : Bool) (S : List (List UInt8)) (a : Option Addr) (n c cc : Nat) (hSn : S.length = n) (hn9 : n ≤ 1000) (hnc : n ≤ c) (hcm : c ≤ maxLen) (hroot : root.length = 32) (hkey : key.length = 32) (hk : k.length = 32) (hv : v.length = 32) (hC : IsC k key cc) (w : World) (hK : Kv w a S) (ha : ∀ k, inBlk a k → k < w.heap.size) (hE : Env w) :
    Calls Tryd.prog 10 #[.agg (krow root), .agg (krow key), .agg (pfRow (.slice a n c) th k v)] w fun e w' => e = .returned (.tuple #[.agg (krow (if Pf.pass key root S th k v cc then Pf.val key th k v else Pf.z)), .bool (Pf.pass key root S th k v cc && Pf.says key th k v), .int .i64 (if Pf.pass key root S th k v cc then 0 else 17)]) ∧ Fr (fun _ => False) w w' := by
  by_cases hb : n ≤ 256
  · cases th with
    | false =>
      cases hs : (S2.sum (Pf.tx key S (Pf.en false k v) n) == root) with
      | false =>
        have hp : Pf.pass key root S false k v cc = false := by unfold Pf.pass; rw [hSn, hs, Bool.and_false]
        rw [hp]
        exact pchk_sum0 root key k v S a n c hSn hn9 hnc hcm hroot hkey hk hv hb hs w hK ha hE
      | true =>
        have hp : Pf.pass key root S false k v cc = true := by unfold Pf.pass; rw [hSn, hs, decide_eq_true hb]; rfl
        rw [hp]
        exact pchk_no root key k v S a n c hSn hn9 hnc hcm hroot hkey hk hv hb hs w hK ha hE
    | true =>
      cases hu : (decide ((n : Int) ≤ (cc : Int)) || (cc == 256)) with
      | false =>
        have hp : Pf.pass key root S true k v cc = false := by unfold Pf.pass; rw [hSn, hu, decide_eq_true hb]; rfl
        rw [hp]
        exact pchk_und root key k v S a n c cc hSn hn9 hnc hcm hroot hkey hk hv hb hC hu w hK ha hE
      | true =>
        cases hs : (S2.sum (Pf.tx key S (Pf.en true k v) n) == root) with
        | false =>
          have hp : Pf.pass key root S true k v cc = false := by unfold Pf.pass; rw [hSn, hs, Bool.and_false]
          rw [hp]
          exact pchk_sum1 root key k v S a n c cc hSn hn9 hnc hcm hroot hkey hk hv hb hC hu hs w hK ha hE
        | true =>
          have hp : Pf.pass key root S true k v cc = true := by unfold Pf.pass; rw [hSn, hs, hu, decide_eq_true hb]; rfl
          cases hy : (k == key) with
          | false =>
            have hv1 : Pf.says key true k v = false := by unfold Pf.says; rw [hy]; rfl
            have hv2 : Pf.val key true k v = Pf.z := by unfold Pf.val; rw [hv1]; rfl
            rw [hp, hv1, hv2]
            exact pchk_oth root key k v S a n c cc hSn hn9 hnc hcm hroot hkey hk hv hb hC hu hs hy w hK ha hE
          | true =>
            have hv1 : Pf.says key true k v = true := by unfold Pf.says; rw [hy]; rfl
            have hv2 : Pf.val key true k v = v := by unfold Pf.val; rw [hv1]; rfl
            rw [hp, hv1, hv2]
            exact pchk_yes root key k v S a n c cc hSn hn9 hnc hcm hroot hkey hk hv hb hC hu hs hy w hK ha hE
  · have hp : Pf.pass key root S th k v cc = false := by unfold Pf.pass; rw [hSn, decide_eq_false hb]; rfl
    rw [hp]
    cases th
    · exact pchk_big0 root key k v S a n c hSn hn9 hnc hcm hroot hkey hk hv hb w hK ha hE
    · exact pchk_big1 root key k v S a n c hSn hn9 hnc hcm hroot hkey hk hv hb w hK ha hE
end Go.Proofs.YtndakfanlgilmaaDoor

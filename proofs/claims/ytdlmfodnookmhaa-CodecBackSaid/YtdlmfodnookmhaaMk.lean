/-
  Drawn regions of which some operations may come up in any order, by an invariant; the two calls of next.
-/
import Derived.Test.YtdlmfodnookmhaaMj
import Derived.Test.YtdlmfodnookmhaaKw
import Derived.Shelf.Abstract
namespace Go.Proofs.Ytdlmfodnookmhaa
open Go.RowKit
set_option linter.unusedVariables false
set_option linter.unusedSimpArgs false
namespace Ks
theorem Wk.seqs {S : Nat → Prop} {P : Program} {md : Region.Mode} {ops : Array Oper} {Q : Act → World → Prop} {fuel : Nat} (hs : Region.noSelect ops = true) : ∀ (l : List (Nat × Bool)) (listed : Array Bool) (a : Act) (w : World), okC md ops l listed = true →
    Wk S P md ops (fun a w => wpM S P md ops Q fuel (marks l listed) a w) l a w → wpM S P md ops Q (fuel + l.length) listed a w
  | [], _, _, w, _, h => h w (Fr.refl _ w)
  | (k, false) :: r, listed, a, w, hB, h => by
    obtain ⟨o, v, h0, hy, hk⟩ := h
    simp only [okC, Bool.and_eq_true] at hB
    obtain ⟨⟨hr, hf⟩, hB'⟩ := hB
    exact wpM_first h0 (Region.noSelect_spec hs) (fuel + r.length) listed a w (Region.free_spec h0 hf) (by simpa using hr) hy (Wk.seqs hs r _ _ w hB' hk)
  | (k, true) :: r, listed, a, w, hB, h => by
    simp only [okC, Bool.and_eq_true, beq_iff_eq] at hB
    refine ⟨fun h0 => (by rw [hB.1] at h0; cases h0), fun i hi w' hx => ?_⟩
    rw [hB.1] at hi
    obtain rfl : i = k := by simpa using hi
    exact wpOp_mono (fun a'' w'' ⟨h1, h2⟩ => ⟨h1, Wk.seqs hs r _ a'' w'' hB.2 h2⟩) (h w' hx)
theorem wp_region_part (S : Nat → Prop) {P : Program} {id : Nat} {Q : Exit → Act → World → Prop} {a : Act} {W0 : World} {l : List Oper} (π : List (Nat × Bool)) (n : Nat) (hm : P.follows .mixedOrders = true)
    (hB : (Region.noSelect l.toArray && okC .any l.toArray π (Array.replicate l.length false) && (l.length == n + π.length)) = true)
    (h : Wk S P .any l.toArray (fun a w => wpM S P .any l.toArray (fun a w => Q .normal a w) n (marks π (Array.replicate l.length false)) a w) π a W0) : (Code.region id l.toArray true).wp P Q a W0 := by
  simp only [Bool.and_eq_true, beq_iff_eq] at hB
  obtain ⟨⟨h1, h2⟩, h3⟩ := hB
  refine wp_region_any hm ?_
  have := wpM.up _ _ _ _ _ ((Fr.refl (fun _ => False) W0).drew) (Wk.seqs h1 π _ a W0 h2 h)
  rw [← h3] at this
  have h4 := wpAny_of_M (Q' := Q) (fun _ _ h => h) _ _ _ _ this
  simpa using h4
/-- By an invariant of what has come up. -/
theorem wpM.lat {S : Nat → Prop} {P : Program} {md : Region.Mode} {ops : Array Oper} {Q : Act → World → Prop} (J : Nat → Array Bool → Act → World → Prop) (up : ∀ n L a w w', Ex w w' → J n L a w → J n L a w')
    (fin : ∀ L a w, J 0 L a w → Region.ready md ops L = [] ∧ Q a w)
    (step : ∀ n L a w, J (n + 1) L a w → Region.ready md ops L ≠ [] ∧ ∀ i ∈ Region.ready md ops L, wpOp P ops NQ i (fun a'' w'' => Es S w w'' ∧ J n (L.setIfInBounds i true) a'' w'') a w) :
    ∀ (n : Nat) (L : Array Bool) (a : Act) (w : World), J n L a w → wpM S P md ops Q n L a w
  | 0, L, a, w, h => ⟨(fin L a w h).1, fun w' hx => (fin L a w' (up _ _ _ _ _ hx h)).2⟩
  | n + 1, L, a, w, h => ⟨fun h0 => absurd h0 (step n L a w h).1, fun i hi w' hx => wpOp_mono (fun a'' w'' ⟨h1, h2⟩ => ⟨h1, wpM.lat J up fin step n _ a'' w'' h2⟩) ((step n L a w' (up _ _ _ _ _ hx h)).2 i hi)⟩
theorem wpOp_callS {P : Program} {ops : Array Oper} {k : Nat} {o : Oper} {a : Act} {w : World} {f : FuncId} {args : Array Value} {R : Value → World → Prop} {K : Act → World → Prop} (hk : ops[k]? = some o) (hg : o.guard = none) (hr : (execOp a.eval o).run P w = .ok (.enter f args) w)
    (hc : Calls P f args w fun e w' => ∃ x, e = .returned x ∧ R x w') (h : ∀ x w', R x w' → K (a.put o.dst x) w') : wpOp P ops NQ k K a w := by
  have hw : Region.wanted o (yielded ops a.tmps) = true := by unfold Region.wanted; rw [hg]
  unfold wpOp
  simp only [hk, hw, if_true]
  refine .inl ?_
  unfold Oper.wp
  rw [hr, Oper.upon_enter]
  refine hc.mono ?_
  rintro e w' ⟨x, rfl, hx⟩
  exact h x w' hx
end Ks
theorem put_ne (a : Act) (v : Value) {i j : Nat} (h : i ≠ j) : (a.put (some i) v).tmps[j]? = a.tmps[j]? := by
  show (a.tmps.setIfInBounds i v)[j]? = _
  rw [Array.getElem?_setIfInBounds, if_neg h]
theorem put_eq (a : Act) (v : Value) {i : Nat} (h : i < a.tmps.size) : (a.put (some i) v).tmps[i]? = some v := by
  show (a.tmps.setIfInBounds i v)[i]? = _
  rw [Array.getElem?_setIfInBounds, if_pos rfl, if_pos h]
theorem put_sz2 (a : Act) (v : Value) (i : Nat) : (a.put (some i) v).tmps.size = a.tmps.size := by
  show (a.tmps.setIfInBounds i v).size = _
  simp
theorem eval_tmp {a : Act} {i : Nat} {v : Value} (h : a.tmps[i]? = some v) : a.eval (.tmp i) = v := by
  show a.tmps.getD i undef = v
  rw [Array.getD_eq_getD_getElem?, h]; rfl
theorem zPt3 : (#[.int .i64 0, .int .i64 0, .int .u8 0, .int .u8 0, .int .u8 0, .int .u8 0, .int .u8 0, .int .u8 0, .int .u8 0, .int .u8 0, .int .u8 0, .int .u8 0, .int .u8 0, .int .u8 0, .int .u8 0, .int .u8 0, .int .u8 0, .int .u8 0, .int .u8 0, .int .u8 0, .int .u8 0, .int .u8 0, .int .u8 0, .int .u8 0, .int .u8 0, .int .u8 0, .int .u8 0, .int .u8 0, .int .u8 0, .int .u8 0, .int .u8 0, .int .u8 0, .int .u8 0, .int .u8 0, .string ⟨#[]⟩] : Array Value) = pt 0 0 (fun _ => 0) [] := rfl
/-- What is known while the last operations come up: so many of those that follow each other; the one new block; the other. -/
structure Nx (W0 : World) (br1 br2 g1 o1 c1 g2 o2 c2 : Nat) (l rest1 rest2 : List UInt8) (v6 v15 vk : Value) (R : Array Value) (p : Nat) (ba bb : Bool) (a : Act) (w : World) : Prop where
  sz : a.tmps.size = 156
  df : a.defers = []
  s6 : a.tmps[6]? = some v6
  s13 : a.tmps[13]? = some (.pointer (some ⟨br1, 0, none⟩))
  s14 : a.tmps[14]? = some (.pointer (some ⟨br2, 0, none⟩))
  s15 : a.tmps[15]? = some v15
  s76 : a.tmps[76]? = some (.pointer (some ⟨br1, 0, none⟩))
  s81 : a.tmps[81]? = some vk
  s83 : a.tmps[83]? = some (.pointer (some ⟨br2, 0, none⟩))
  s88 : a.tmps[88]? = some vk
  s82 : 1 ≤ p → a.tmps[82]? = some (.agg R)
  s89 : 2 ≤ p → a.tmps[89]? = some (.agg R)
  fr : Fr (fun k => k = br1 ∨ k = br2) W0 w
  r1 : p = 0 → Rd w br1 (some ⟨g1, o1, none⟩) c1 (l ++ rest1) 0
  r1' : 1 ≤ p → ∃ o, Rd w br1 (some ⟨g1, o, none⟩) (c1 - l.length) rest1 0
  r2 : p ≤ 1 → Rd w br2 (some ⟨g2, o2, none⟩) c2 (l ++ rest2) 0
  r2' : 2 ≤ p → ∃ o, Rd w br2 (some ⟨g2, o, none⟩) (c2 - l.length) rest2 0
  ma : ba = true → ∃ g, a.tmps[16]? = some (.pointer (some ⟨g, 0, none⟩)) ∧ W0.heap.size ≤ g ∧ w.heap[g]? = some (.cells (if 3 ≤ p then R else pt 0 0 (fun _ => 0) []) 34 (0, 0))
  mb : bb = true → ∃ g, a.tmps[17]? = some (.pointer (some ⟨g, 0, none⟩)) ∧ W0.heap.size ≤ g ∧ w.heap[g]? = some (.cells (if 4 ≤ p then R else pt 0 0 (fun _ => 0) []) 34 (0, 0))
  mn : ba = true → bb = true → a.tmps[16]? ≠ a.tmps[17]?
theorem Nx.up {W0 : World} {br1 br2 g1 o1 c1 g2 o2 c2 : Nat} {l rest1 rest2 : List UInt8} {v6 v15 vk : Value} {R : Array Value} {p : Nat} {ba bb : Bool} {a : Act} {w w' : World} (F : Fr (fun _ => False) w w') (h : Nx W0 br1 br2 g1 o1 c1 g2 o2 c2 l rest1 rest2 v6 v15 vk R p ba bb a w) : Nx W0 br1 br2 g1 o1 c1 g2 o2 c2 l rest1 rest2 v6 v15 vk R p ba bb a w' :=
  ⟨h.sz, h.df, h.s6, h.s13, h.s14, h.s15, h.s76, h.s81, h.s83, h.s88, h.s82, h.s89, h.fr.trans F (fun _ h => h.elim), fun e => (h.r1 e).fr F (fun h => h) (fun _ _ h => h), fun e => (h.r1' e).imp fun _ r => r.fr F (fun h => h) (fun _ _ h => h), fun e => (h.r2 e).fr F (fun h => h) (fun _ _ h => h), fun e => (h.r2' e).imp fun _ r => r.fr F (fun h => h) (fun _ _ h => h),
    fun e => (h.ma e).imp fun _ r => ⟨r.1, r.2.1, F.kp r.2.2⟩, fun e => (h.mb e).imp fun _ r => ⟨r.1, r.2.1, F.kp r.2.2⟩, h.mn⟩
set_option maxRecDepth 100000 in
theorem st_call1 {W0 : World} {br1 br2 g1 o1 c1 g2 o2 c2 : Nat} {l rest1 rest2 : List UInt8} {v6 v15 vk : Value} {R : Array Value} (hb1 : br1 < W0.heap.size) (hb2 : br2 < W0.heap.size) (h12 : br1 ≠ br2) (hg1 : g1 ≠ br2) (hg2 : g2 ≠ br1) (HN : ∀ (br c g off : Nat) (rest : List UInt8) (w : World), Rd w br (some ⟨g, off, none⟩) c (l ++ rest) 0 → Calls Try.prog 13 #[.pointer (some ⟨br, 0, none⟩), vk, .int .i64 300] w fun e w' => e = .returned (.agg R) ∧ RdPost w w' br g (c - l.length) rest 0) {ops : Array Oper} {o : Oper} {a : Act} {w : World} {ba bb : Bool} {ty : Array TypeId} (hi : ops[6]? = some o) (hd : o.dst = some 82) (hop : o.op = .call { callee := .value (.func 13), args := #[.tmp 76, .tmp 81, .const (.int .i64 300)], argTypes := ty }) (hgd : o.guard = none) (h : Nx W0 br1 br2 g1 o1 c1 g2 o2 c2 l rest1 rest2 v6 v15 vk R 0 ba bb a w) :
    wpOp Try.prog ops NQ 6 (fun a'' w'' => Ks.Es (fun k => k = br1 ∨ k = br2 ∨ W0.heap.size ≤ k) w w'' ∧ Nx W0 br1 br2 g1 o1 c1 g2 o2 c2 l rest1 rest2 v6 v15 vk R 1 ba bb a'' w'') a w := by
  have eg := enters_of (P := Try.prog) Try.func13 (by kernel_rfl) rfl
  have hr : (execOp a.eval o).run Try.prog w = .ok (.enter 13 #[(.pointer (some ⟨br1, 0, none⟩)), vk, .int .i64 300]) w := by
    unfold execOp
    simp only [hop, resolve, Deferred.ofValue, Sem.run_bind, Sem.run_pure, Result.andThen_ok, List.map_toArray, List.map_cons, List.map_nil, Act.eval, invoke]
    rw [show a.tmps.getD 76 undef = (.pointer (some ⟨br1, 0, none⟩)) from eval_tmp h.s76, show a.tmps.getD 81 undef = vk from eval_tmp h.s81]
    exact eg #[(.pointer (some ⟨br1, 0, none⟩)), vk, .int .i64 300] w
  refine Ks.wpOp_callS hi hgd hr (R := fun x w' => x = .agg R ∧ RdPost w w' br1 g1 (c1 - l.length) rest1 0) ((HN br1 c1 g1 o1 rest1 w (h.r1 rfl)).mono fun e w' hh => ⟨_, hh.1, rfl, hh.2⟩) ?_
  rintro x w' ⟨rfl, oo, h3, F3⟩
  rw [hd]
  have hs : a.tmps.size = 156 := h.sz
  refine ⟨F3.mono (fun _ _ e => .inl e), by rw [put_sz2]; exact h.sz, h.df, (put_ne _ _ (by decide)).trans h.s6, (put_ne _ _ (by decide)).trans h.s13, (put_ne _ _ (by decide)).trans h.s14, (put_ne _ _ (by decide)).trans h.s15, (put_ne _ _ (by decide)).trans h.s76, (put_ne _ _ (by decide)).trans h.s81, (put_ne _ _ (by decide)).trans h.s83, (put_ne _ _ (by decide)).trans h.s88, fun _ => put_eq _ _ (by rw [hs]; decide), fun e => absurd e (by decide), h.fr.trans F3 (fun _ e => .inl (.inl e)), fun e => absurd e (by decide), fun _ => ⟨oo, h3⟩, fun _ => (h.r2 (by decide)).fr F3 (fun e => h12 e.symm) (fun k hk e => ?_), fun e => absurd e (by decide), fun e => ?_, fun e => ?_, fun e1 e2 => ?_⟩
  · obtain ⟨ad, e1, e2⟩ := hk
    cases e1
    exact hg2 (e2.trans e)
  · obtain ⟨g, m1, m2, m3⟩ := h.ma e
    exact ⟨g, (put_ne _ _ (by decide)).trans m1, m2, (F3.block g (lt_of_block m3) (fun e => by omega)).trans m3⟩
  · obtain ⟨g, m1, m2, m3⟩ := h.mb e
    exact ⟨g, (put_ne _ _ (by decide)).trans m1, m2, (F3.block g (lt_of_block m3) (fun e => by omega)).trans m3⟩
  · rw [put_ne _ _ (show (82 : Nat) ≠ 16 by decide), put_ne _ _ (show (82 : Nat) ≠ 17 by decide)]; exact h.mn e1 e2
set_option maxRecDepth 100000 in
theorem st_call2 {W0 : World} {br1 br2 g1 o1 c1 g2 o2 c2 : Nat} {l rest1 rest2 : List UInt8} {v6 v15 vk : Value} {R : Array Value} (hb1 : br1 < W0.heap.size) (hb2 : br2 < W0.heap.size) (h12 : br1 ≠ br2) (hg1 : g1 ≠ br2) (hg2 : g2 ≠ br1) (HN : ∀ (br c g off : Nat) (rest : List UInt8) (w : World), Rd w br (some ⟨g, off, none⟩) c (l ++ rest) 0 → Calls Try.prog 13 #[.pointer (some ⟨br, 0, none⟩), vk, .int .i64 300] w fun e w' => e = .returned (.agg R) ∧ RdPost w w' br g (c - l.length) rest 0) {ops : Array Oper} {o : Oper} {a : Act} {w : World} {ba bb : Bool} {ty : Array TypeId} (hi : ops[13]? = some o) (hd : o.dst = some 89) (hop : o.op = .call { callee := .value (.func 13), args := #[.tmp 83, .tmp 88, .const (.int .i64 300)], argTypes := ty }) (hgd : o.guard = none) (h : Nx W0 br1 br2 g1 o1 c1 g2 o2 c2 l rest1 rest2 v6 v15 vk R 1 ba bb a w) :
    wpOp Try.prog ops NQ 13 (fun a'' w'' => Ks.Es (fun k => k = br1 ∨ k = br2 ∨ W0.heap.size ≤ k) w w'' ∧ Nx W0 br1 br2 g1 o1 c1 g2 o2 c2 l rest1 rest2 v6 v15 vk R 2 ba bb a'' w'') a w := by
  have eg := enters_of (P := Try.prog) Try.func13 (by kernel_rfl) rfl
  have hr : (execOp a.eval o).run Try.prog w = .ok (.enter 13 #[(.pointer (some ⟨br2, 0, none⟩)), vk, .int .i64 300]) w := by
    unfold execOp
    simp only [hop, resolve, Deferred.ofValue, Sem.run_bind, Sem.run_pure, Result.andThen_ok, List.map_toArray, List.map_cons, List.map_nil, Act.eval, invoke]
    rw [show a.tmps.getD 83 undef = (.pointer (some ⟨br2, 0, none⟩)) from eval_tmp h.s83, show a.tmps.getD 88 undef = vk from eval_tmp h.s88]
    exact eg #[(.pointer (some ⟨br2, 0, none⟩)), vk, .int .i64 300] w
  refine Ks.wpOp_callS hi hgd hr (R := fun x w' => x = .agg R ∧ RdPost w w' br2 g2 (c2 - l.length) rest2 0) ((HN br2 c2 g2 o2 rest2 w (h.r2 (by decide))).mono fun e w' hh => ⟨_, hh.1, rfl, hh.2⟩) ?_
  rintro x w' ⟨rfl, oo, h3, F3⟩
  rw [hd]
  have hs : a.tmps.size = 156 := h.sz
  have hr1 : ∃ o, Rd w' br1 (some ⟨g1, o, none⟩) (c1 - l.length) rest1 0 := by
    obtain ⟨o', r⟩ := h.r1' (by decide)
    exact ⟨o', r.fr F3 (fun e => h12 e) (fun k hk e => by
      obtain ⟨ad, e1, e2⟩ := hk
      cases e1
      exact hg1 (e2.trans e))⟩
  refine ⟨F3.mono (fun _ _ e => .inr (.inl e)), by rw [put_sz2]; exact h.sz, h.df, (put_ne _ _ (by decide)).trans h.s6, (put_ne _ _ (by decide)).trans h.s13, (put_ne _ _ (by decide)).trans h.s14, (put_ne _ _ (by decide)).trans h.s15, (put_ne _ _ (by decide)).trans h.s76, (put_ne _ _ (by decide)).trans h.s81, (put_ne _ _ (by decide)).trans h.s83, (put_ne _ _ (by decide)).trans h.s88, fun _ => (put_ne _ _ (by decide)).trans (h.s82 (by decide)), fun _ => put_eq _ _ (by rw [hs]; decide), h.fr.trans F3 (fun _ e => .inl (.inr e)), fun e => absurd e (by decide), fun _ => hr1, fun e => absurd e (by decide), fun _ => ⟨oo, h3⟩, fun e => ?_, fun e => ?_, fun e1 e2 => ?_⟩
  · obtain ⟨g, m1, m2, m3⟩ := h.ma e
    exact ⟨g, (put_ne _ _ (by decide)).trans m1, m2, (F3.block g (lt_of_block m3) (fun e => by omega)).trans m3⟩
  · obtain ⟨g, m1, m2, m3⟩ := h.mb e
    exact ⟨g, (put_ne _ _ (by decide)).trans m1, m2, (F3.block g (lt_of_block m3) (fun e => by omega)).trans m3⟩
  · rw [put_ne _ _ (show (89 : Nat) ≠ 16 by decide), put_ne _ _ (show (89 : Nat) ≠ 17 by decide)]; exact h.mn e1 e2
set_option maxRecDepth 100000 in
theorem run_mk (w : World) : (Instr.alloc 34 true (.tuple #[])).run Try.prog w = .ok (.pointer (some ⟨w.heap.size, 0, none⟩)) (w.alloc (.cells #[.int .i64 0, .int .i64 0, .int .u8 0, .int .u8 0, .int .u8 0, .int .u8 0, .int .u8 0, .int .u8 0, .int .u8 0, .int .u8 0, .int .u8 0, .int .u8 0, .int .u8 0, .int .u8 0, .int .u8 0, .int .u8 0, .int .u8 0, .int .u8 0, .int .u8 0, .int .u8 0, .int .u8 0, .int .u8 0, .int .u8 0, .int .u8 0, .int .u8 0, .int .u8 0, .int .u8 0, .int .u8 0, .int .u8 0, .int .u8 0, .int .u8 0, .int .u8 0, .int .u8 0, .int .u8 0, .string ⟨#[]⟩] 34)) := by kernel_rfl
set_option maxRecDepth 100000 in
theorem st_new1 {W0 : World} {br1 br2 g1 o1 c1 g2 o2 c2 : Nat} {l rest1 rest2 : List UInt8} {v6 v15 vk : Value} {R : Array Value} {p : Nat} (hp : p ≤ 2) {ops : Array Oper} {o : Oper} {a : Act} {w : World} {ba bb : Bool} (hi : ops[14]? = some o) (hd : o.dst = some 16) (hop : o.op = .alloc 34) (hgd : o.guard = none) (h : Nx W0 br1 br2 g1 o1 c1 g2 o2 c2 l rest1 rest2 v6 v15 vk R p false bb a w) :
    wpOp Try.prog ops NQ 14 (fun a'' w'' => Ks.Es (fun k => k = br1 ∨ k = br2 ∨ W0.heap.size ≤ k) w w'' ∧ Nx W0 br1 br2 g1 o1 c1 g2 o2 c2 l rest1 rest2 v6 v15 vk R p true bb a'' w'') a w := by
  refine wpOp_value hi (by unfold Region.wanted; rw [hgd]) (v := .pointer (some ⟨w.heap.size, 0, none⟩)) (w' := w.alloc (.cells #[.int .i64 0, .int .i64 0, .int .u8 0, .int .u8 0, .int .u8 0, .int .u8 0, .int .u8 0, .int .u8 0, .int .u8 0, .int .u8 0, .int .u8 0, .int .u8 0, .int .u8 0, .int .u8 0, .int .u8 0, .int .u8 0, .int .u8 0, .int .u8 0, .int .u8 0, .int .u8 0, .int .u8 0, .int .u8 0, .int .u8 0, .int .u8 0, .int .u8 0, .int .u8 0, .int .u8 0, .int .u8 0, .int .u8 0, .int .u8 0, .int .u8 0, .int .u8 0, .int .u8 0, .int .u8 0, .string ⟨#[]⟩] 34)) (by unfold execOp; simp only [hop, Sem.run_bind, Result.andThen_ok, Sem.run_pure, run_mk]) ?_
  rw [hd]
  have F := (Fr.refl (fun _ => False) w).alloc (.cells #[.int .i64 0, .int .i64 0, .int .u8 0, .int .u8 0, .int .u8 0, .int .u8 0, .int .u8 0, .int .u8 0, .int .u8 0, .int .u8 0, .int .u8 0, .int .u8 0, .int .u8 0, .int .u8 0, .int .u8 0, .int .u8 0, .int .u8 0, .int .u8 0, .int .u8 0, .int .u8 0, .int .u8 0, .int .u8 0, .int .u8 0, .int .u8 0, .int .u8 0, .int .u8 0, .int .u8 0, .int .u8 0, .int .u8 0, .int .u8 0, .int .u8 0, .int .u8 0, .int .u8 0, .int .u8 0, .string ⟨#[]⟩] 34)
  have hs : a.tmps.size = 156 := h.sz
  have h' := h.up F
  refine ⟨F.mono (fun _ _ e => e.elim), by rw [put_sz2]; exact h'.sz, h'.df, (put_ne _ _ (by decide)).trans h'.s6, (put_ne _ _ (by decide)).trans h'.s13, (put_ne _ _ (by decide)).trans h'.s14, (put_ne _ _ (by decide)).trans h'.s15, (put_ne _ _ (by decide)).trans h'.s76, (put_ne _ _ (by decide)).trans h'.s81, (put_ne _ _ (by decide)).trans h'.s83, (put_ne _ _ (by decide)).trans h'.s88, fun e => (put_ne _ _ (by decide)).trans (h'.s82 e), fun e => (put_ne _ _ (by decide)).trans (h'.s89 e), h'.fr, h'.r1, h'.r1', h'.r2, h'.r2', fun _ => ⟨w.heap.size, put_eq _ _ (by rw [hs]; decide), h.fr.size, ?_⟩, fun e => ?_, fun _ e => ?_⟩
  · rw [if_neg (by omega), ← zPt3]; exact heap_alloc_new w _
  · obtain ⟨g, m1, m2, m3⟩ := h'.mb e
    exact ⟨g, (put_ne _ _ (by decide)).trans m1, m2, m3⟩
  · obtain ⟨g, m1, m2, m3⟩ := h.mb e
    rw [put_eq _ _ (by rw [hs]; decide), put_ne _ _ (show (16 : Nat) ≠ 17 by decide), m1]
    intro e
    have : w.heap.size = g := by simpa using e
    have := lt_of_block m3
    omega
set_option maxRecDepth 100000 in
theorem st_new2 {W0 : World} {br1 br2 g1 o1 c1 g2 o2 c2 : Nat} {l rest1 rest2 : List UInt8} {v6 v15 vk : Value} {R : Array Value} {p : Nat} (hp : p ≤ 2) {ops : Array Oper} {o : Oper} {a : Act} {w : World} {ba bb : Bool} (hi : ops[15]? = some o) (hd : o.dst = some 17) (hop : o.op = .alloc 34) (hgd : o.guard = none) (h : Nx W0 br1 br2 g1 o1 c1 g2 o2 c2 l rest1 rest2 v6 v15 vk R p ba false a w) :
    wpOp Try.prog ops NQ 15 (fun a'' w'' => Ks.Es (fun k => k = br1 ∨ k = br2 ∨ W0.heap.size ≤ k) w w'' ∧ Nx W0 br1 br2 g1 o1 c1 g2 o2 c2 l rest1 rest2 v6 v15 vk R p ba true a'' w'') a w := by
  refine wpOp_value hi (by unfold Region.wanted; rw [hgd]) (v := .pointer (some ⟨w.heap.size, 0, none⟩)) (w' := w.alloc (.cells #[.int .i64 0, .int .i64 0, .int .u8 0, .int .u8 0, .int .u8 0, .int .u8 0, .int .u8 0, .int .u8 0, .int .u8 0, .int .u8 0, .int .u8 0, .int .u8 0, .int .u8 0, .int .u8 0, .int .u8 0, .int .u8 0, .int .u8 0, .int .u8 0, .int .u8 0, .int .u8 0, .int .u8 0, .int .u8 0, .int .u8 0, .int .u8 0, .int .u8 0, .int .u8 0, .int .u8 0, .int .u8 0, .int .u8 0, .int .u8 0, .int .u8 0, .int .u8 0, .int .u8 0, .int .u8 0, .string ⟨#[]⟩] 34)) (by unfold execOp; simp only [hop, Sem.run_bind, Result.andThen_ok, Sem.run_pure, run_mk]) ?_
  rw [hd]
  have F := (Fr.refl (fun _ => False) w).alloc (.cells #[.int .i64 0, .int .i64 0, .int .u8 0, .int .u8 0, .int .u8 0, .int .u8 0, .int .u8 0, .int .u8 0, .int .u8 0, .int .u8 0, .int .u8 0, .int .u8 0, .int .u8 0, .int .u8 0, .int .u8 0, .int .u8 0, .int .u8 0, .int .u8 0, .int .u8 0, .int .u8 0, .int .u8 0, .int .u8 0, .int .u8 0, .int .u8 0, .int .u8 0, .int .u8 0, .int .u8 0, .int .u8 0, .int .u8 0, .int .u8 0, .int .u8 0, .int .u8 0, .int .u8 0, .int .u8 0, .string ⟨#[]⟩] 34)
  have hs : a.tmps.size = 156 := h.sz
  have h' := h.up F
  refine ⟨F.mono (fun _ _ e => e.elim), by rw [put_sz2]; exact h'.sz, h'.df, (put_ne _ _ (by decide)).trans h'.s6, (put_ne _ _ (by decide)).trans h'.s13, (put_ne _ _ (by decide)).trans h'.s14, (put_ne _ _ (by decide)).trans h'.s15, (put_ne _ _ (by decide)).trans h'.s76, (put_ne _ _ (by decide)).trans h'.s81, (put_ne _ _ (by decide)).trans h'.s83, (put_ne _ _ (by decide)).trans h'.s88, fun e => (put_ne _ _ (by decide)).trans (h'.s82 e), fun e => (put_ne _ _ (by decide)).trans (h'.s89 e), h'.fr, h'.r1, h'.r1', h'.r2, h'.r2', fun e => ?_, fun _ => ⟨w.heap.size, put_eq _ _ (by rw [hs]; decide), h.fr.size, ?_⟩, fun e _ => ?_⟩
  · obtain ⟨g, m1, m2, m3⟩ := h'.ma e
    exact ⟨g, (put_ne _ _ (by decide)).trans m1, m2, m3⟩
  · rw [if_neg (by omega), ← zPt3]; exact heap_alloc_new w _
  · obtain ⟨g, m1, m2, m3⟩ := h.ma e
    rw [put_ne _ _ (show (17 : Nat) ≠ 16 by decide), put_eq _ _ (by rw [hs]; decide), m1]
    intro e
    have : g = w.heap.size := by simpa using e
    have := lt_of_block m3
    omega
set_option maxRecDepth 100000 in
theorem st_store1 {W0 : World} {br1 br2 g1 o1 c1 g2 o2 c2 : Nat} {l rest1 rest2 : List UInt8} {v6 v15 vk : Value} {R : Array Value} (hb1 : br1 < W0.heap.size) (hb2 : br2 < W0.heap.size) (h12 : br1 ≠ br2) (hg1 : g1 ≠ br2) (hg2 : g2 ≠ br1) (hl1 : g1 < W0.heap.size) (hl2 : g2 < W0.heap.size) (sR : Sz 35 R) {ops : Array Oper} {o : Oper} {a : Act} {w : World} (hi : ops[16]? = some o) (hd : o.dst = none) (hop : o.op = .store 34 (.tmp 16) (.tmp 82)) (hgd : o.guard = none) (h : Nx W0 br1 br2 g1 o1 c1 g2 o2 c2 l rest1 rest2 v6 v15 vk R 2 true true a w) :
    wpOp Try.prog ops NQ 16 (fun a'' w'' => Ks.Es (fun k => k = br1 ∨ k = br2 ∨ W0.heap.size ≤ k) w w'' ∧ Nx W0 br1 br2 g1 o1 c1 g2 o2 c2 l rest1 rest2 v6 v15 vk R 3 true true a'' w'') a w := by
  refine Ks.wpOp_of_list hi ?_
  obtain ⟨g, m1, m2, m3⟩ := h.ma rfl
  obtain ⟨g', k1, k2, k3⟩ := h.mb rfl
  have hgg : g ≠ g' := fun e => h.mn rfl rfl (by rw [m1, k1, e])
  have hsz : (pt 0 0 (fun _ => 0) []).size = 35 := pt_size _ _ _ _
  rw [if_neg (by decide)] at m3
  refine wpList_store_part hgd 34 (.tmp 16) (.tmp 82) hop g 0 R (eval_tmp m1) (eval_tmp (h.s82 (by decide))) (by rw [sR.1]; exact szPt) sR.2 34 _ m3 (by rw [sR.1, hsz]; decide) ?_
  intro w' hz Fz
  rw [whole_put _ _ (by rw [sR.1, hsz]; decide)] at hz
  rw [hd]
  refine ⟨rfl, Fz.mono (fun i _ e => .inr (.inr (by rw [e]; exact m2))), h.sz, h.df, h.s6, h.s13, h.s14, h.s15, h.s76, h.s81, h.s83, h.s88, fun _ => h.s82 (by decide), fun _ => h.s89 (by decide), h.fr.trans Fz (fun i e => .inr (by rw [e]; exact m2)), fun e => absurd e (by decide), fun _ => ?_, fun e => absurd e (by decide), fun _ => ?_, fun _ => ⟨g, m1, m2, by rw [if_pos (by decide)]; exact hz⟩, fun e => ⟨g', k1, k2, by rw [if_neg (by decide)]; rw [if_neg (by decide)] at k3; exact (Fz.block g' (lt_of_block k3) (fun e => hgg e.symm)).trans k3⟩, h.mn⟩
  · obtain ⟨o', r⟩ := h.r1' (by decide)
    exact ⟨o', r.fr Fz (fun e => by omega) (fun k hk e => by obtain ⟨ad, e1, e2⟩ := hk; cases e1; simp at e2; omega)⟩
  · obtain ⟨o', r⟩ := h.r2' (by decide)
    exact ⟨o', r.fr Fz (fun e => by omega) (fun k hk e => by obtain ⟨ad, e1, e2⟩ := hk; cases e1; simp at e2; omega)⟩
set_option maxRecDepth 100000 in
theorem st_store2 {W0 : World} {br1 br2 g1 o1 c1 g2 o2 c2 : Nat} {l rest1 rest2 : List UInt8} {v6 v15 vk : Value} {R : Array Value} (hb1 : br1 < W0.heap.size) (hb2 : br2 < W0.heap.size) (h12 : br1 ≠ br2) (hg1 : g1 ≠ br2) (hg2 : g2 ≠ br1) (hl1 : g1 < W0.heap.size) (hl2 : g2 < W0.heap.size) (sR : Sz 35 R) {ops : Array Oper} {o : Oper} {a : Act} {w : World} (hi : ops[17]? = some o) (hd : o.dst = none) (hop : o.op = .store 34 (.tmp 17) (.tmp 89)) (hgd : o.guard = none) (h : Nx W0 br1 br2 g1 o1 c1 g2 o2 c2 l rest1 rest2 v6 v15 vk R 3 true true a w) :
    wpOp Try.prog ops NQ 17 (fun a'' w'' => Ks.Es (fun k => k = br1 ∨ k = br2 ∨ W0.heap.size ≤ k) w w'' ∧ Nx W0 br1 br2 g1 o1 c1 g2 o2 c2 l rest1 rest2 v6 v15 vk R 4 true true a'' w'') a w := by
  refine Ks.wpOp_of_list hi ?_
  obtain ⟨g, m1, m2, m3⟩ := h.mb rfl
  obtain ⟨g', k1, k2, k3⟩ := h.ma rfl
  have hgg : g ≠ g' := fun e => h.mn rfl rfl (by rw [m1, k1, e])
  have hsz : (pt 0 0 (fun _ => 0) []).size = 35 := pt_size _ _ _ _
  rw [if_neg (by decide)] at m3
  refine wpList_store_part hgd 34 (.tmp 17) (.tmp 89) hop g 0 R (eval_tmp m1) (eval_tmp (h.s89 (by decide))) (by rw [sR.1]; exact szPt) sR.2 34 _ m3 (by rw [sR.1, hsz]; decide) ?_
  intro w' hz Fz
  rw [whole_put _ _ (by rw [sR.1, hsz]; decide)] at hz
  rw [hd]
  refine ⟨rfl, Fz.mono (fun i _ e => .inr (.inr (by rw [e]; exact m2))), h.sz, h.df, h.s6, h.s13, h.s14, h.s15, h.s76, h.s81, h.s83, h.s88, fun _ => h.s82 (by decide), fun _ => h.s89 (by decide), h.fr.trans Fz (fun i e => .inr (by rw [e]; exact m2)), fun e => absurd e (by decide), fun _ => ?_, fun e => absurd e (by decide), fun _ => ?_, fun e => ⟨g', k1, k2, by rw [if_pos (by decide)]; rw [if_pos (by decide)] at k3; exact (Fz.block g' (lt_of_block k3) (fun e => hgg e.symm)).trans k3⟩, fun _ => ⟨g, m1, m2, by rw [if_pos (by decide)]; exact hz⟩, h.mn⟩
  · obtain ⟨o', r⟩ := h.r1' (by decide)
    exact ⟨o', r.fr Fz (fun e => by omega) (fun k hk e => by obtain ⟨ad, e1, e2⟩ := hk; cases e1; simp at e2; omega)⟩
  · obtain ⟨o', r⟩ := h.r2' (by decide)
    exact ⟨o', r.fr Fz (fun e => by omega) (fun k hk e => by obtain ⟨ad, e1, e2⟩ := hk; cases e1; simp at e2; omega)⟩
end Go.Proofs.Ytdlmfodnookmhaa

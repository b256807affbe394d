/-
  CodecBack: next of whatever kind; lists of parts; the first loop.
-/
import Derived.Test.YtdlmfodnookmhaaMh
namespace Go.Proofs.Ytdlmfodnookmhaa
open Go.RowKit
set_option linter.unusedVariables false
set_option linter.unusedSimpArgs false
def allLoops : Code → List Code
  | .loop c => c :: allLoops c
  | .seq a b => allLoops a ++ allLoops b
  | .block _ c => allLoops c
  | .scope c => allLoops c
  | .cond _ a b => allLoops a ++ allLoops b
  | _ => []
noncomputable def loopAt (F : Func) (k : Nat) : Code := (((F.body.map allLoops).getD [])[k]?).getD .skip
theorem getD_pin {t : Array Value} {i : Nat} {v : Value} (h : t[i]? = some v) : t.getD i undef = v := by
  rw [Array.getD_eq_getD_getElem?, h]; rfl
theorem frame_map {t : Array Value} {n : Nat} (h : t.size = n) : t = ((List.range n).map fun i => t.getD i undef).toArray := by
  apply Array.ext
  · simp [h]
  · intro i h1 h2
    simp [Array.getD, h1]
theorem frame_open {t : Array Value} {n : Nat} (h : t.size = n) : ∃ f : Nat → Value, (∀ i v, t[i]? = some v → f i = v) ∧ t = ((List.range n).map f).toArray :=
  ⟨fun i => t.getD i undef, fun _ _ h => getD_pin h, frame_map h⟩
/-- A loop that counts up: the relation at k, for k up to n; the frame as an array. -/
theorem wp_loop_up {P : Program} {Q : Exit → Act → World → Prop} {c : Code} (n : Nat) (R : Nat → Array Value → World → Prop) (t : Array Value) (w : World) (h0 : R 0 t w)
    (round : ∀ k t w, k ≤ n → R k t w → ∀ (K : Act → World → Prop), (∀ t' w', k < n → R (k + 1) t' w' → K ⟨t', []⟩ w') → c.wp P (Exit.then K Q) ⟨t, []⟩ w) : (Code.loop c).wp P Q ⟨t, []⟩ w := by
  refine wp_loop_ghost (fun m a w => a.defers = [] ∧ ∃ k, k + m = n ∧ R k a.tmps w) n ⟨rfl, 0, by omega, h0⟩ ?_
  rintro m ⟨t, ds⟩ w ⟨rfl, k, hk, hR⟩
  exact round k t w (by omega) hR _ (fun t' w' hlt hR' => ⟨m - 1, by omega, rfl, k + 1, by omega, hR'⟩)

theorem own_fr {w w' : World} {base : Nat} {e : TypeId} {size : Nat} {v : Value} {n : Nat} {xs : List Value} {S : Nat → Prop} (h : w.ownsRow base e size v n xs) (hF : Fr S w w') (hS : ∀ k, v.ownBlock = some k → ¬ S k) : w'.ownsRow base e size v n xs := by
  refine ⟨h.1, ?_⟩
  rcases h.2 with hn | ⟨g, cap, cur, e, hb, hg, rest⟩
  · exact .inl hn
  · refine .inr ⟨g, cap, cur, e, hb, ?_, rest⟩
    exact (hF.block g (lt_of_block hg) (hS _ (by rw [e]; rfl))).trans hg
theorem own_slice {w : World} {base : Nat} {e : TypeId} {size : Nat} {v : Value} {n : Nat} {xs : List Value} (h : w.ownsRow base e size v n xs) : ∃ a cap, v = .slice a n cap := by
  rcases h.2 with ⟨e, h0⟩ | ⟨g, cap, cur, e, _⟩
  · exact ⟨none, 0, by rw [e, h0]⟩
  · exact ⟨_, _, e⟩
theorem own_shape {w : World} {base : Nat} {e : TypeId} {size : Nat} {v : Value} {n : Nat} {xs : List Value} (h : w.ownsRow base e size v n xs) : v.cells = #[v] ∧ v.oneCell' = true := by
  rcases h.2 with ⟨e, _⟩ | ⟨g, cap, cur, e, _⟩
  · rw [e]; exact ⟨rfl, rfl⟩
  · rw [e]; exact ⟨rfl, rfl⟩
theorem wpList_value {P : Program} {ops : Array Oper} {rest : List Oper} {o : Oper} {a : Act} {w : World} {Q : Exit → Act → World → Prop} (hgd : o.guard = none) {w' : World} {v : Value} (hr : (execOp a.eval o).run P w = .ok (.value v) w') (h : wpList P ops Q rest (a.put o.dst v) w') : wpList P ops Q (o :: rest) a w := by
  refine wpList_plain hgd fun _ hK => ?_
  unfold Oper.wp
  rw [hr]
  exact hK _ _ h
theorem wpList_build {P : Program} {ops : Array Oper} {rest : List Oper} {o : Oper} {a : Act} {w : World} {Q : Exit → Act → World → Prop} (hgd : o.guard = none) (t : TypeId) (parts : Array (Nat × Operand)) (ho : o.op = .build t parts) (vs : Array (Nat × Value)) (hvs : (parts.map fun (p : Nat × Operand) => (p.1, a.eval p.2)) = vs) {w' : World} {v : Value} (hr : (Instr.build t vs).run P w = .ok v w') (h : wpList P ops Q rest (a.put o.dst v) w') : wpList P ops Q (o :: rest) a w := by
  refine wpList_value hgd (v := v) (w' := w') ?_ h
  unfold execOp
  simp only [ho, hvs, Sem.run_bind, Result.andThen_ok, Sem.run_pure, hr]
theorem wpList_buildSlice {P : Program} {ops : Array Oper} {rest : List Oper} {o : Oper} {a : Act} {w : World} {Q : Exit → Act → World → Prop} (hgd : o.guard = none) (t : TypeId) (m : Nat) (parts : Array (Nat × Operand)) (ho : o.op = .buildSlice t m parts) (vs : Array (Nat × Value)) (hvs : (parts.map fun (p : Nat × Operand) => (p.1, a.eval p.2)) = vs) {w' : World} {v : Value} (hr : (Instr.buildSlice t m vs).run P w = .ok v w') (h : wpList P ops Q rest (a.put o.dst v) w') : wpList P ops Q (o :: rest) a w := by
  refine wpList_value hgd (v := v) (w' := w') ?_ h
  unfold execOp
  simp only [ho, hvs, Sem.run_bind, Result.andThen_ok, Sem.run_pure, hr]
set_option maxRecDepth 100000 in
theorem lit156 (f : Nat → Value) : ((List.range 156).map f).toArray = (f 0 :: f 1 :: f 2 :: f 3 :: f 4 :: f 5 :: f 6 :: f 7 :: f 8 :: f 9 :: f 10 :: f 11 :: f 12 :: f 13 :: f 14 :: f 15 :: f 16 :: f 17 :: f 18 :: f 19 :: f 20 :: f 21 :: f 22 :: f 23 :: f 24 :: f 25 :: f 26 :: f 27 :: f 28 :: f 29 :: f 30 :: f 31 :: f 32 :: f 33 :: f 34 :: f 35 :: f 36 :: f 37 :: f 38 :: f 39 :: f 40 :: f 41 :: f 42 :: f 43 :: f 44 :: f 45 :: f 46 :: f 47 :: f 48 :: f 49 :: f 50 :: f 51 :: f 52 :: f 53 :: f 54 :: f 55 :: f 56 :: f 57 :: f 58 :: f 59 :: f 60 :: f 61 :: f 62 :: f 63 :: f 64 :: f 65 :: f 66 :: f 67 :: f 68 :: f 69 :: f 70 :: f 71 :: f 72 :: f 73 :: f 74 :: f 75 :: f 76 :: f 77 :: f 78 :: f 79 :: f 80 :: f 81 :: f 82 :: f 83 :: f 84 :: f 85 :: f 86 :: f 87 :: f 88 :: f 89 :: f 90 :: f 91 :: f 92 :: f 93 :: f 94 :: f 95 :: f 96 :: f 97 :: f 98 :: f 99 :: f 100 :: f 101 :: f 102 :: f 103 :: f 104 :: f 105 :: f 106 :: f 107 :: f 108 :: f 109 :: f 110 :: f 111 :: f 112 :: f 113 :: f 114 :: f 115 :: f 116 :: f 117 :: f 118 :: f 119 :: f 120 :: f 121 :: f 122 :: f 123 :: f 124 :: f 125 :: f 126 :: f 127 :: f 128 :: f 129 :: f 130 :: f 131 :: f 132 :: f 133 :: f 134 :: f 135 :: f 136 :: f 137 :: f 138 :: f 139 :: f 140 :: f 141 :: f 142 :: f 143 :: f 144 :: f 145 :: f 146 :: f 147 :: f 148 :: f 149 :: f 150 :: f 151 :: f 152 :: f 153 :: f 154 :: f 155 :: []).toArray := by kernel_rfl

/-- What is read of a part. -/
def wnt (q : Nat) (z : Int) (f : Nat → UInt8) (t : List UInt8) : Array Value :=
  match q with
  | 0 => pt 1 z (fun _ => 0) []
  | 1 => pt 2 (low z : Int) (fun _ => 0) []
  | 2 => pt 3 z (fun _ => 0) []
  | 3 => pt 4 0 f []
  | _ => pt 5 0 (fun _ => 0) t
theorem next_any (q : Nat) (hq : q < 5) (br c g off : Nat) (z : Int) (hz : In64 z) (f : Nat → UInt8) (t : List UInt8) (ht : t.length ≤ 300) (l rest : List UInt8) (hl : enc q z f t = some l) (w : World) (h : Rd w br (some ⟨g, off, none⟩) c (l ++ rest) 0) :
    Calls Try.prog 13 #[.pointer (some ⟨br, 0, none⟩), .int .i64 (1 + (q : Int)), .int .i64 300] w fun e w' => e = .returned (.agg (wnt q z f t)) ∧ RdPost w w' br g (c - l.length) rest 0 := by
  match q, hq with
  | 0, _ =>
    have hl' : (if 0 ≤ z ∧ z ≤ 255 then some [UInt8.ofNat z.toNat] else none) = some l := hl
    by_cases h0 : 0 ≤ z ∧ z ≤ 255
    · rw [if_pos h0] at hl'
      obtain rfl := Option.some.inj hl'
      exact nx_byte br c g off z f t h0.1 h0.2 rest w h
    · rw [if_neg h0] at hl'; cases hl'
  | 1, _ =>
    have hl' : some [UInt8.ofNat (low z)] = some l := hl
    obtain rfl := Option.some.inj hl'
    have hw : wnt 1 z f t = pt 2 (low z : Int) (fun _ => 0) [] := rfl
    rw [hw]
    have : low z = 0 ∨ low z = 1 := by have := (low_eq z).2; omega
    rcases this with e | e
    · rw [e] at h ⊢; exact nx_flag0 br c g off z f t rest w h
    · rw [e] at h ⊢; exact nx_flag1 br c g off z f t rest w h
  | 2, _ =>
    have hl' : some (be8 (IntKind.u64.wrap z).toNat) = some l := hl
    obtain rfl := Option.some.inj hl'
    obtain ⟨u, hu⟩ := wrap_u64_nat z
    have e : (IntKind.u64.wrap z).toNat = u := by rw [hu]; rfl
    rw [e] at h ⊢
    exact nx_num br c g off z f t u hz hu rest w h
  | 3, _ =>
    have hl' : some ((List.range 32).map f) = some l := hl
    obtain rfl := Option.some.inj hl'
    exact nx_sum br c g off z f t rest w h
  | 4, _ =>
    have hl' : some (txt t) = some l := hl
    obtain rfl := Option.some.inj hl'
    exact nx_text br c g off z f t ht rest w h
structure Rp where
  q : Nat
  z : Int
  f : Nat → UInt8
  t : List UInt8
def Rp.cells (x : Rp) : Array Value := pt (1 + (x.q : Int)) x.z x.f x.t
def Rp.bytes (x : Rp) : Option (List UInt8) := enc x.q x.z x.f x.t
def Rp.ok (x : Rp) : Prop := x.q < 5 ∧ In64 x.z ∧ x.t.length ≤ 300 ∧ ∃ l, x.bytes = some l
def flat (ks : List Rp) : List Value := (ks.map fun x => x.cells.toList).flatten
def bts (ks : List Rp) : List UInt8 := (ks.map fun x => encd x.bytes).flatten
theorem cells_len (x : Rp) : x.cells.toList.length = 35 := by rw [Array.length_toList]; exact pt_size _ _ _ _
theorem flat_snoc (ks : List Rp) (x : Rp) : flat (ks ++ [x]) = flat ks ++ x.cells.toList := by simp [flat]
theorem bts_snoc (ks : List Rp) (x : Rp) : bts (ks ++ [x]) = bts ks ++ encd x.bytes := by simp [bts]
theorem flat_get : ∀ (ks : List Rp) (k i : Nat) (x : Rp), ks[k]? = some x → i < 35 → (flat ks)[k * 35 + i]? = x.cells[i]?
  | [], k, i, x, h, _ => by simp at h
  | y :: ks, 0, i, x, h, hi => by
    have e : y = x := by simpa using h
    subst e
    show (y.cells.toList ++ flat ks)[0 * 35 + i]? = _
    rw [Nat.zero_mul, Nat.zero_add, List.getElem?_append_left (by rw [cells_len]; exact hi), Array.getElem?_toList]
  | y :: ks, k + 1, i, x, h, hi => by
    show (y.cells.toList ++ flat ks)[(k + 1) * 35 + i]? = _
    rw [List.getElem?_append_right (by rw [cells_len]; omega), cells_len, show (k + 1) * 35 + i - 35 = k * 35 + i by omega]
    exact flat_get ks k i x (by simpa using h) hi
theorem own_cells {w : World} {base : Nat} {v : Value} {ks : List Rp} (h : w.ownsRow base 34 35 v ks.length (flat ks)) (k : Nat) (x : Rp) (hx : ks[k]? = some x) : ∃ g cap cur, v = .slice (some ⟨g, 0, none⟩) ks.length cap ∧ base ≤ g ∧ w.heap[g]? = some (.cells cur 34 (0, 0)) ∧ ∀ i u, x.cells[i]? = some u → cur[k * 35 + i]? = some u := by
  have hk : k < ks.length := (List.getElem?_eq_some_iff.1 hx).1
  rcases h.2 with ⟨_, h0⟩ | ⟨g, cap, cur, e1, hb, hg, _, _, _, hxs⟩
  · omega
  · refine ⟨g, cap, cur, e1, hb, hg, fun i u hu => ?_⟩
    have hi : i < 35 := by have := (Array.getElem?_eq_some_iff.1 hu).1; rwa [show x.cells.size = 35 from pt_size _ _ _ _] at this
    have := flat_get ks k i x hx hi
    rw [← hxs, List.getElem?_take_of_lt (by omega), Array.getElem?_toList] at this
    rw [this]; exact hu
set_option maxRecDepth 100000 in
theorem ptInfo : ∃ ti z, Try.prog.info? 34 = some ti ∧ ti.zero = some z ∧ ti.size = 35 ∧ ti.bytes = 64 ∧ z.cells.size = 35 := ⟨_, .agg #[.int .i64 0, .int .i64 0, .int .u8 0, .int .u8 0, .int .u8 0, .int .u8 0, .int .u8 0, .int .u8 0, .int .u8 0, .int .u8 0, .int .u8 0, .int .u8 0, .int .u8 0, .int .u8 0, .int .u8 0, .int .u8 0, .int .u8 0, .int .u8 0, .int .u8 0, .int .u8 0, .int .u8 0, .int .u8 0, .int .u8 0, .int .u8 0, .int .u8 0, .int .u8 0, .int .u8 0, .int .u8 0, .int .u8 0, .int .u8 0, .int .u8 0, .int .u8 0, .int .u8 0, .int .u8 0, .string ⟨#[]⟩], rfl, by kernel_rfl, by kernel_rfl, by kernel_rfl, by kernel_rfl⟩
set_option maxRecDepth 100000 in
theorem mkP (k z : Int) (f : Nat → UInt8) (t : List UInt8) (w : World) : (Instr.buildSlice 22 1 #[(0, .agg (pt k z f t))]).run Try.prog w = .ok (.slice (some ⟨w.heap.size, 0, none⟩) 1 1) (w.alloc (.cells (pt k z f t) 34)) := by kernel_rfl
structure Inv (w0 w : World) (bw : Nat) (v' vin : Value) (ks : List Rp) : Prop where
  own : w.ownsRow w0.heap.size 34 35 vin ks.length (flat ks)
  wr : Wr w bw w0.heap.size v' (bv (bts ks)) 0
  s1 : vin.ownBlock ≠ some bw
  s2 : ∀ k, vin.ownBlock = some k → v'.ownBlock ≠ some k
  ok : ∀ x ∈ ks, x.ok
  fr : Fr (fun _ => False) w0 w
  bw0 : w0.heap.size ≤ bw
  len : (bts ks).length ≤ 302 * ks.length
theorem Inv.fr' {w0 w w' : World} {bw : Nat} {v' vin : Value} {ks : List Rp} (h : Inv w0 w bw v' vin ks) (F : Fr (fun _ => False) w w') : Inv w0 w' bw v' vin ks :=
  ⟨own_fr h.own F (fun _ _ h => h), h.wr.fr F (fun h => h) (fun _ _ h => h), h.s1, h.s2, h.ok, h.fr.trans F (fun _ h => h.elim), h.bw0, h.len⟩
theorem own_lt {w : World} {base : Nat} {e : TypeId} {size : Nat} {v : Value} {n : Nat} {xs : List Value} (h : w.ownsRow base e size v n xs) : ∀ k, v.ownBlock = some k → base ≤ k ∧ k < w.heap.size := by
  intro k hk
  rcases h.2 with ⟨e, _⟩ | ⟨g, cap, cur, e, hb, hg, _⟩
  · rw [e] at hk; exact absurd hk (by simp [Value.ownBlock])
  · rw [e] at hk
    have : g = k := by simpa [Value.ownBlock] using hk
    subst this
    exact ⟨hb, lt_of_block hg⟩
end Go.Proofs.Ytdlmfodnookmhaa

/-
  CacheJobs: a cache and the document's parts beside each other; calls of no part.
-/
import Derived.Test.YtkigdgkklninoaaWs2
namespace Go.Proofs.Ytkigdgkklninoaa
open Go.RowKit
set_option linter.unusedVariables false
set_option linter.unusedSimpArgs false
set_option maxRecDepth 100000 in
set_option maxHeartbeats 6400000 in
theorem get_bad (cp : Value) (i : Int) (s : ByteArray) (w : World) (h : Calls Try.prog 17 #[cp, .int .i64 i] w fun e w' => e = .returned (.pointer none) ∧ w = w') : Calls Try.prog 7 #[cp, .int .i64 i, .string s] w fun e w' => e = .returned (.tuple #[.string ⟨#[]⟩, .bool false]) ∧ w = w' := by
  have HP := Lib.hid h
  clear h
  go_enter Try.func7, Try.ntmps7
  go_wp2_with fail
  refine HP.out.mono ?_
  rintro e w1 ⟨rfl, rfl⟩
  go_wp2_with fail
  go_returns
  exact ⟨rfl, rfl⟩
set_option maxRecDepth 100000 in
set_option maxHeartbeats 6400000 in
theorem hits_bad (cp : Value) (i : Int)  (w : World) (h : Calls Try.prog 17 #[cp, .int .i64 i] w fun e w' => e = .returned (.pointer none) ∧ w = w') : Calls Try.prog 8 #[cp, .int .i64 i] w fun e w' => e = .returned (.tuple #[.int .i64 0, .int .i64 0]) ∧ w = w' := by
  have HP := Lib.hid h
  clear h
  go_enter Try.func8, Try.ntmps8
  go_wp2_with fail
  refine HP.out.mono ?_
  rintro e w1 ⟨rfl, rfl⟩
  go_wp2_with fail
  go_returns
  exact ⟨rfl, rfl⟩
set_option maxRecDepth 100000 in
set_option maxHeartbeats 6400000 in
theorem put_bad (cp : Value) (i : Int) (s t : ByteArray) (w : World) (h : Calls Try.prog 17 #[cp, .int .i64 i] w fun e w' => e = .returned (.pointer none) ∧ w = w') : Calls Try.prog 10 #[cp, .int .i64 i, .string s, .string t] w fun e w' => e = .returned (.int .i64 1) ∧ w = w' := by
  have HP := Lib.hid h
  clear h
  go_enter Try.func10, Try.ntmps10
  go_wp2_with fail
  refine HP.out.mono ?_
  rintro e w1 ⟨rfl, rfl⟩
  go_wp2_with fail
  go_ret
  exact ⟨rfl, rfl⟩
set_option maxRecDepth 100000 in
set_option maxHeartbeats 6400000 in
theorem drop_bad (cp : Value) (i : Int)  (w : World) (h : Calls Try.prog 17 #[cp, .int .i64 i] w fun e w' => e = .returned (.pointer none) ∧ w = w') : Calls Try.prog 11 #[cp, .int .i64 i] w fun e w' => e = .returned (.int .i64 1) ∧ w = w' := by
  have HP := Lib.hid h
  clear h
  go_enter Try.func11, Try.ntmps11
  go_wp2_with fail
  refine HP.out.mono ?_
  rintro e w1 ⟨rfl, rfl⟩
  go_wp2_with fail
  go_ret
  exact ⟨rfl, rfl⟩
set_option maxRecDepth 100000 in
set_option maxHeartbeats 6400000 in
theorem names_bad (cp : Value) (i : Int)  (w : World) (h : Calls Try.prog 17 #[cp, .int .i64 i] w fun e w' => e = .returned (.pointer none) ∧ w = w') : Calls Try.prog 12 #[cp, .int .i64 i] w fun e w' => e = .returned (.slice none 0 0) ∧ w = w' := by
  have HP := Lib.hid h
  clear h
  go_enter Try.func12, Try.ntmps12
  go_wp2_with fail
  refine HP.out.mono ?_
  rintro e w1 ⟨rfl, rfl⟩
  go_wp2_with fail
  go_ret
  exact ⟨rfl, rfl⟩
set_option maxRecDepth 100000 in
set_option maxHeartbeats 6400000 in
theorem part_nil (i : Int) (w : World) : Calls Try.prog 17 #[.pointer none, .int .i64 i] w fun e w' => e = .returned (.pointer none) ∧ w = w' := by
  go_enter Try.func17, Try.ntmps17
  go_wp2_with fail
  go_ret
  exact ⟨rfl, rfl⟩
set_option maxRecDepth 100000 in
set_option maxHeartbeats 6400000 in
theorem new_bad (n size : Int) (h : n < 1 ∨ 8 < n ∨ size < 1 ∨ 256 < size) (w : World) : Calls Try.prog 13 #[.int .i64 n, .int .i64 size] w fun e w' => e = .returned (.tuple #[.pointer none, .int .i64 1]) ∧ w = w' := by
  by_cases h1 : n < 1
  · clear h
    go_enter Try.func13, Try.ntmps13
    go_wp2_with fail
    go_returns
    exact ⟨rfl, rfl⟩
  by_cases h2 : 8 < n
  · clear h
    go_enter Try.func13, Try.ntmps13
    go_wp2_with fail
    go_returns
    exact ⟨rfl, rfl⟩
  by_cases h3 : size < 1
  · clear h
    go_enter Try.func13, Try.ntmps13
    go_wp2_with fail
    go_returns
    exact ⟨rfl, rfl⟩
  have h4 : 256 < size := by omega
  clear h
  go_enter Try.func13, Try.ntmps13
  go_wp2_with fail
  go_returns
  exact ⟨rfl, rfl⟩
theorem none_any (w : World) : Calls Try.prog 6 #[] w fun e w' => e = .returned (.pointer none) ∧ w = w' := by
  go_enter Try.func6, Try.ntmps6
  go_wp2_with fail
  go_ret
  exact ⟨rfl, rfl⟩
/-- The document's eight parts. -/
def RBK (pw : Nat) (r : Nat → Ps) (k : Nat) : Prop := k = pw ∨ ∃ i, i < 8 ∧ (r i).v.ownBlock = some k
structure RS (w : World) (base pw sz : Nat) (cu : Array Value) (r : Nat → Ps) : Prop where
  rp : ∀ i, i < 8 → RP w base pw (i * 4) 40 cu (sz : Int) (r i).v (r i).L (r i).h (r i).m
  b2 : base ≤ pw
theorem RS.lt {w : World} {base pw sz : Nat} {cu : Array Value} {r : Nat → Ps} (R : RS w base pw sz cu r) (k : Nat) (h : RBK pw r k) : base ≤ k ∧ k < w.heap.size := by
  rcases h with rfl | ⟨i, hi, e⟩
  · exact ⟨R.b2, lt_of_block (R.rp 0 (by decide)).blk⟩
  · exact (R.rp i hi).own.lt k e
theorem RS.fr {w w' : World} {base pw sz : Nat} {cu : Array Value} {r : Nat → Ps} {S : Nat → Prop} (R : RS w base pw sz cu r) (F : Fr S w w') (hS : ∀ k, RBK pw r k → ¬ S k) : RS w' base pw sz cu r :=
  ⟨fun i hi => (R.rp i hi).fr F (hS pw (.inl rfl)) (fun k e => hS k (.inr ⟨i, hi, e⟩)), R.b2⟩
theorem RS.step {w w' : World} {base pw sz : Nat} {cu cu' : Array Value} {r : Nat → Ps} (R : RS w base pw sz cu r) (i : Nat) (hi : i < 8) {v' : Value} {L' : List (ByteArray × ByteArray)} {h' m' : Int} (S : RStep w w' base pw (i * 4) 40 cu cu' (sz : Int) (r i).v v' L' h' m') : RS w' base pw sz cu' (upd r i ⟨v', L', h', m'⟩) := by
  refine ⟨fun j hj => ?_, R.b2⟩
  by_cases hji : j = i
  · subst hji; rw [upd_same]; exact S.rp
  · rw [upd_ne _ _ _ _ hji]
    have p := R.rp j hj
    have o : ∀ x, j * 4 ≤ x → x < j * 4 + 4 → cu'[x]? = cu[x]? := fun x h1 h2 => S.other x (by rcases Nat.lt_or_gt_of_ne hji with h | h <;> omega)
    exact ⟨S.rp.blk, (o _ (by omega) (by omega)).trans p.size, (o _ (by omega) (by omega)).trans p.row, (o _ (by omega) (by omega)).trans p.hits, (o _ (by omega) (by omega)).trans p.miss, S.fr.own p.own (fun k e hk => p.apart (by rw [e, hk])), p.apart⟩
def At2 (n : Nat) (f : Nat → Ps) (d : Nat → Dt) : Prop := ∀ i, i < n → (f i).L = (d i).L ∧ (f i).h = (d i).h ∧ (f i).m = (d i).m
def updD (d : Nat → Dt) (i : Nat) (x : Dt) : Nat → Dt := fun j => if j = i then x else d j
theorem At2.upd {n : Nat} {f : Nat → Ps} {d : Nat → Dt} (h : At2 n f d) (i : Nat) (p : Ps) (x : Dt) (e : p.L = x.L ∧ p.h = x.h ∧ p.m = x.m) : At2 n (upd f i p) (updD d i x) := fun j hj => by
  by_cases hji : j = i
  · subst hji
    have e2 : updD d j x j = x := if_pos rfl
    rw [upd_same, e2]; exact e
  · have e2 : updD d i x j = d j := if_neg hji
    rw [upd_ne _ _ _ _ hji, e2]; exact h j hj
/-- Both, and blocks that neither has. -/
structure Jo (w0 w : World) (cb pw n sz : Nat) (q : Int) (df dr : Nat → Dt) (js : List (Nat × Obj)) : Prop where
  ex : ∃ pb xa f cu r, CS w w0.heap.size cb pb n sz xa f q ∧ RS w w0.heap.size pw sz cu r ∧ At2 n f df ∧ At2 8 r dr ∧ (∀ k, BK cb pb n f k → ¬ RBK pw r k) ∧ (∀ p ∈ js, w.heap[p.1]? = some p.2 ∧ ¬ BK cb pb n f p.1 ∧ ¬ RBK pw r p.1)
  fr : Fr (fun _ => False) w0 w
section
variable {w0 w : World} {cb pw n sz : Nat} {q : Int} {df dr : Nat → Dt} {js : List (Nat × Obj)}
theorem Jo.more (T : Jo w0 w cb pw n sz q df dr js) (q' : Int) (h : q ≤ q') : Jo w0 w cb pw n sz q' df dr js := by
  obtain ⟨⟨pb, xa, f, cu, r, C, R⟩, F⟩ := T
  exact ⟨⟨pb, xa, f, cu, r, C.more q' h, R⟩, F⟩
theorem Jo.fewer (T : Jo w0 w cb pw n sz q df dr js) : Jo w0 w cb pw n sz q df dr [] := by
  obtain ⟨⟨pb, xa, f, cu, r, C, R, a, b, D, J⟩, F⟩ := T
  exact ⟨⟨pb, xa, f, cu, r, C, R, a, b, D, fun p hp => by cases hp⟩, F⟩
theorem Jo.ext (T : Jo w0 w cb pw n sz q df dr js) {w' : World} (G : Fr (fun _ => False) w w') : Jo w0 w' cb pw n sz q df dr js := by
  obtain ⟨⟨pb, xa, f, cu, r, C, R, a, b, D, J⟩, F⟩ := T
  exact ⟨⟨pb, xa, f, cu, r, C.fr G (fun _ _ h => h), R.fr G (fun _ _ h => h), a, b, D, fun p hp => ⟨(G.block p.1 (lt_of_block (J p hp).1) (fun h => h)).trans (J p hp).1, (J p hp).2⟩⟩, F.trans G (fun _ h => h.elim)⟩
theorem Jo.add (T : Jo w0 w cb pw n sz q df dr []) (o : Obj) : Jo w0 (w.alloc o) cb pw n sz q df dr [(w.heap.size, o)] := by
  obtain ⟨⟨pb, xa, f, cu, r, C, R, a, b, D, J⟩, F⟩ := T
  have G := (Fr.refl (fun _ => False) w).alloc o
  refine ⟨⟨pb, xa, f, cu, r, C.fr G (fun _ _ h => h), R.fr G (fun _ _ h => h), a, b, D, fun p hp => ?_⟩, F.alloc o⟩
  obtain rfl : p = (w.heap.size, o) := by simpa using hp
  exact ⟨heap_alloc_new w o, fun h => by have := (C.lt _ h).2; simp at this, fun h => by have := (R.lt _ h).2; simp at this⟩
theorem Jo.job {g : Nat} {o : Obj} (T : Jo w0 w cb pw n sz q df dr [(g, o)]) : w.heap[g]? = some o := by
  obtain ⟨⟨pb, xa, f, cu, r, C, R, a, b, D, J⟩, F⟩ := T
  exact (J (g, o) (List.mem_singleton.2 rfl)).1
theorem jo_f {pb : Nat} {xa cu x' : Array Value} {f r : Nat → Ps} {w' : World} {q' : Int} {p : Ps} {d : Dt} (C : CS w w0.heap.size cb pb n sz xa f q) (R : RS w w0.heap.size pw sz cu r) (a : At2 n f df) (b : At2 8 r dr) (D : ∀ k, BK cb pb n f k → ¬ RBK pw r k) (J : ∀ p ∈ js, w.heap[p.1]? = some p.2 ∧ ¬ BK cb pb n f p.1 ∧ ¬ RBK pw r p.1) (F : Fr (fun _ => False) w0 w) (i : Nat) (hi : i < n) (C' : CS w' w0.heap.size cb pb n sz x' (upd f i p) q') (own : ∀ k, p.v.ownBlock = some k → (f i).v.ownBlock = some k ∨ w.heap.size ≤ k) (G : Fr (fun b => b = pb ∨ (f i).v.ownBlock = some b) w w') (e : p.L = d.L ∧ p.h = d.h ∧ p.m = d.m) : Jo w0 w' cb pw n sz q' (updD df i d) dr js := by
  have hT : ∀ k, (k = pb ∨ (f i).v.ownBlock = some k) → BK cb pb n f k := fun k h => h.elim (fun e => .inr (.inl e)) (fun e => .inr (.inr ⟨i, hi, e⟩))
  have hnew : ∀ k, BK cb pb n (upd f i p) k → BK cb pb n f k ∨ w.heap.size ≤ k := fun k h => by
    rcases h with h | h | ⟨j, hj, e⟩
    · exact .inl (.inl h)
    · exact .inl (.inr (.inl h))
    · by_cases hji : j = i
      · subst hji
        rw [upd_same] at e
        rcases own k e with e1 | e1
        · exact .inl (.inr (.inr ⟨j, hj, e1⟩))
        · exact .inr e1
      · rw [upd_ne _ _ _ _ hji] at e
        exact .inl (.inr (.inr ⟨j, hj, e⟩))
  refine ⟨⟨pb, x', upd f i p, cu, r, C', R.fr G (fun k h1 h2 => D k (hT k h2) h1), a.upd i p d e, b, fun k h1 h2 => ?_, fun p hp => ?_⟩, fr_up F G (fun k h => (C.lt k (hT k h)).1)⟩
  · rcases hnew k h1 with h | h
    · exact D k h h2
    · have := (R.lt k h2).2; omega
  · obtain ⟨j1, j2, j3⟩ := J p hp
    have hl := lt_of_block j1
    refine ⟨(G.block p.1 hl (fun h => j2 (hT _ h))).trans j1, fun h => ?_, j3⟩
    rcases hnew _ h with h | h
    · exact j2 h
    · omega
theorem jo_r {pb : Nat} {xa cu cu' : Array Value} {f r : Nat → Ps} {w' : World} {v' : Value} {L' : List (ByteArray × ByteArray)} {h' m' : Int} {d : Dt} (C : CS w w0.heap.size cb pb n sz xa f q) (R : RS w w0.heap.size pw sz cu r) (a : At2 n f df) (b : At2 8 r dr) (D : ∀ k, BK cb pb n f k → ¬ RBK pw r k) (J : ∀ p ∈ js, w.heap[p.1]? = some p.2 ∧ ¬ BK cb pb n f p.1 ∧ ¬ RBK pw r p.1) (F : Fr (fun _ => False) w0 w) (i : Nat) (hi : i < 8) (S : RStep w w' w0.heap.size pw (i * 4) 40 cu cu' (sz : Int) (r i).v v' L' h' m') (e : L' = d.L ∧ h' = d.h ∧ m' = d.m) : Jo w0 w' cb pw n sz q df (updD dr i d) js := by
  have hT : ∀ k, k = pw → RBK pw r k := fun k h => .inl h
  have own := S.own
  have hnew : ∀ k, RBK pw (upd r i ⟨v', L', h', m'⟩) k → RBK pw r k ∨ w.heap.size ≤ k := fun k h => by
    rcases h with h | ⟨j, hj, e⟩
    · exact .inl (.inl h)
    · by_cases hji : j = i
      · subst hji
        rw [upd_same] at e
        rcases own k e with e1 | e1
        · exact .inl (.inr ⟨j, hj, e1⟩)
        · exact .inr e1
      · rw [upd_ne _ _ _ _ hji] at e
        exact .inl (.inr ⟨j, hj, e⟩)
  refine ⟨⟨pb, xa, f, cu', upd r i ⟨v', L', h', m'⟩, C.fr S.fr (fun k h1 h2 => D k h1 (hT k h2)), R.step i hi S, a, b.upd i _ d e, fun k h1 h2 => ?_, fun p hp => ?_⟩, fr_up F S.fr (fun k h => (R.lt k (hT k h)).1)⟩
  · rcases hnew k h2 with h | h
    · exact D k h1 h
    · have := (C.lt k h1).2; omega
  · obtain ⟨j1, j2, j3⟩ := J p hp
    have hl := lt_of_block j1
    refine ⟨(S.fr.block p.1 hl (fun h => j3 (hT _ h))).trans j1, j2, fun h => ?_⟩
    rcases hnew _ h with h | h
    · exact j3 h
    · omega
def pput (sz : Nat) (s t : ByteArray) (d : Dt) : Dt := ⟨putL sz s t d.L, d.h, d.m⟩
def qget (s : ByteArray) (d : Dt) : Dt := ⟨dgL s d.L, if hasS s d.L then d.h + 1 else d.h, if hasS s d.L then d.m else d.m + 1⟩
def qput (sz : Nat) (s t : ByteArray) (d : Dt) : Dt := ⟨dpL sz s t d.L, d.h, d.m⟩
theorem Jo.put (T : Jo w0 w cb pw n sz q df dr js) (i : Nat) (hi : i < n) (s t : ByteArray) : Calls Try.prog 10 #[.pointer (some ⟨cb, 0, none⟩), .int .i64 (i : Int), .string s, .string t] w fun e w' => e = .returned (.int .i64 0) ∧ Jo w0 w' cb pw n sz q (updD df i (pput sz s t (df i))) dr js := by
  obtain ⟨⟨pb, xa, f, cu, r, C, R, a, b, D, J⟩, F⟩ := T
  refine (C.put i hi s t).mono ?_
  rintro e w' ⟨rfl, x', v', C', own, G⟩
  refine ⟨rfl, jo_f C R a b D J F i hi C' (own_of own) G ⟨?_, (a i hi).2.1, (a i hi).2.2⟩⟩
  show putL sz s t (f i).L = _
  rw [(a i hi).1]; rfl
theorem Jo.drop (T : Jo w0 w cb pw n sz q df dr js) (i : Nat) (hi : i < n) : Calls Try.prog 11 #[.pointer (some ⟨cb, 0, none⟩), .int .i64 (i : Int)] w fun e w' => e = .returned (.int .i64 0) ∧ Jo w0 w' cb pw n sz q (updD df i ⟨[], (df i).h, (df i).m⟩) dr js := by
  obtain ⟨⟨pb, xa, f, cu, r, C, R, a, b, D, J⟩, F⟩ := T
  refine (C.drop i hi).mono ?_
  rintro e w' ⟨rfl, x', C', G⟩
  exact ⟨rfl, jo_f C R a b D J F i hi C' (fun k e => by simp [Value.ownBlock] at e) G ⟨rfl, (a i hi).2.1, (a i hi).2.2⟩⟩
theorem Jo.get (T : Jo w0 w cb pw n sz q df dr js) (hq : q ≤ 1000000) (i : Nat) (hi : i < n) (s : ByteArray) : Calls Try.prog 7 #[.pointer (some ⟨cb, 0, none⟩), .int .i64 (i : Int), .string s] w fun e w' => e = .returned (.tuple #[.string (getV s (df i).L), .bool (getB s (df i).L)]) ∧ Jo w0 w' cb pw n sz (q + 1) (updD df i (dget s (df i))) dr js := by
  obtain ⟨⟨pb, xa, f, cu, r, C, R, a, b, D, J⟩, F⟩ := T
  obtain ⟨a1, a2, a3⟩ := a i hi
  rw [← a1]
  refine (C.get hq i hi s).mono ?_
  rintro e w' ⟨rfl, x', v', C', own, G⟩
  refine ⟨rfl, jo_f C R a b D J F i hi C' (own_of own) G ⟨?_, ?_, ?_⟩⟩
  · show getL s (f i).L = getL s (df i).L; rw [a1]
  · show (if getB s (f i).L then (f i).h + 1 else (f i).h) = if getB s (df i).L then (df i).h + 1 else (df i).h; rw [a1, a2]
  · show (if getB s (f i).L then (f i).m else (f i).m + 1) = if getB s (df i).L then (df i).m else (df i).m + 1; rw [a1, a3]
theorem Jo.docget (T : Jo w0 w cb pw n sz q df dr js) (i : Nat) (hi : i < 8) (hl : (dr i).L.length ≤ 999) (hc : 0 ≤ (dr i).h ∧ (dr i).h ≤ 1000000 ∧ 0 ≤ (dr i).m ∧ (dr i).m ≤ 1000000) (s : ByteArray) : Calls Try.prog 14 #[.pointer (some ⟨pw, i * 4, none⟩), .string s] w fun e w' => e = .returned (.tuple #[.string (dgV s (dr i).L), .bool (hasS s (dr i).L)]) ∧ Jo w0 w' cb pw n sz q df (updD dr i (qget s (dr i))) js := by
  obtain ⟨⟨pb, xa, f, cu, r, C, R, a, b, D, J⟩, F⟩ := T
  obtain ⟨b1, b2, b3⟩ := b i hi
  rw [← b1] at hl ⊢
  rw [← b2, ← b3] at hc
  refine (docget_any w (R.rp i hi) F.size hl hc.1 hc.2.1 hc.2.2.1 hc.2.2.2 s).mono ?_
  rintro e w' ⟨rfl, cu', v', S⟩
  refine ⟨rfl, jo_r C R a b D J F i hi S ⟨?_, ?_, ?_⟩⟩
  · show dgL s (r i).L = dgL s (dr i).L; rw [b1]
  · show (if hasS s (r i).L then (r i).h + 1 else (r i).h) = if hasS s (dr i).L then (dr i).h + 1 else (dr i).h; rw [b1, b2]
  · show (if hasS s (r i).L then (r i).m else (r i).m + 1) = if hasS s (dr i).L then (dr i).m else (dr i).m + 1; rw [b1, b3]
theorem Jo.docput (T : Jo w0 w cb pw n sz q df dr js) (i : Nat) (hi : i < 8) (hl : (dr i).L.length ≤ 999) (hs : sz ≤ 256) (s t : ByteArray) : Calls Try.prog 15 #[.pointer (some ⟨pw, i * 4, none⟩), .string s, .string t] w fun e w' => e = .returned (.tuple #[]) ∧ Jo w0 w' cb pw n sz q df (updD dr i (qput sz s t (dr i))) js := by
  obtain ⟨⟨pb, xa, f, cu, r, C, R, a, b, D, J⟩, F⟩ := T
  obtain ⟨b1, b2, b3⟩ := b i hi
  rw [← b1] at hl
  refine (docput_any w (R.rp i hi) F.size hl hs s t).mono ?_
  rintro e w' ⟨rfl, cu', v', S⟩
  refine ⟨rfl, jo_r C R a b D J F i hi S ⟨?_, b2, b3⟩⟩
  show dpL sz s t (r i).L = dpL sz s t (dr i).L; rw [b1]
theorem Jo.part (T : Jo w0 w cb pw n sz q df dr js) (i : Int) (hi : i < 0 ∨ (n : Int) ≤ i) : Calls Try.prog 17 #[.pointer (some ⟨cb, 0, none⟩), .int .i64 i] w fun e w' => e = .returned (.pointer none) ∧ w = w' := by
  obtain ⟨⟨pb, xa, f, cu, r, C, R, a, b, D, J⟩, F⟩ := T
  exact part_no cb pb n i (sz : Int) hi w C.blk
/-- The document's part is emptied. -/
theorem Jo.docdrop (T : Jo w0 w cb pw n sz q df dr js) (i : Nat) (hi : i < 8) : (∃ v, w.cell? ⟨pw, i * 4 + 1, none⟩ = some v) ∧ w.frozen? ⟨pw, i * 4 + 1, none⟩ = false ∧ Jo w0 (w.setCell ⟨pw, i * 4 + 1, none⟩ (.slice none 0 0)) cb pw n sz q df (updD dr i ⟨[], (dr i).h, (dr i).m⟩) js := by
  obtain ⟨⟨pb, xa, f, cu, r, C, R, a, b, D, J⟩, F⟩ := T
  have P := R.rp i hi
  obtain ⟨b1, b2, b3⟩ := b i hi
  have hl := (Array.getElem?_eq_some_iff.1 P.miss).1
  refine ⟨⟨_, P.c.2.1⟩, free_of_block P.blk _, jo_r C R a b D J F i hi (v' := .slice none 0 0) (L' := []) (h' := (r i).h) (m' := (r i).m) (cu' := cu.setIfInBounds (i * 4 + 1) (.slice none 0 0)) ⟨⟨block_setCell P.blk _ _, set_one P.size (by omega), set_here (by omega), set_one P.hits (by omega), set_one P.miss (by omega), World.ownsRow_nil _ _ _ _, by simp [Value.ownBlock]⟩, by simp, fun j hj => by rw [Array.getElem?_setIfInBounds, if_neg (by omega)], fun k e => by simp [Value.ownBlock] at e, Fr.setCell (S := fun b => b = pw) (Fr.refl _ w) (Or.inl rfl) _⟩ ⟨rfl, b2, b3⟩⟩
end
end Go.Proofs.Ytkigdgkklninoaa

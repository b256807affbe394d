/-
  A cache of some parts: its calls, as steps of what is kept; the law's own look.
-/
import Derived.Test.YtkigdgkklninoaaWf
import Derived.Test.YtkigdgkklninoaaWg
namespace Go.Proofs.Ytkigdgkklninoaa
open Go.RowKit
set_option linter.unusedVariables false
set_option linter.unusedSimpArgs false
/-- A part: its row's value, what is kept, how often it told something, how often not. -/
structure Ps where
  v : Value
  L : List (ByteArray × ByteArray)
  h : Int
  m : Int
def upd (f : Nat → Ps) (i : Nat) (x : Ps) : Nat → Ps := fun j => if j = i then x else f j
theorem upd_same (f : Nat → Ps) (i : Nat) (x : Ps) : upd f i x i = x := if_pos rfl
theorem upd_ne (f : Nat → Ps) (i j : Nat) (x : Ps) (h : j ≠ i) : upd f i x j = f j := if_neg h
/-- Its blocks. -/
def BK (cb pb n : Nat) (f : Nat → Ps) (k : Nat) : Prop := k = cb ∨ k = pb ∨ ∃ i, i < n ∧ (f i).v.ownBlock = some k
structure CS (w : World) (base cb pb n sz : Nat) (cur : Array Value) (f : Nat → Ps) (q : Int) : Prop where
  blk : CB w cb pb n (sz : Int)
  pt : ∀ i, i < n → Pt w base pb (i * 3) cur (f i).v (f i).L (f i).h (f i).m
  cp : cb ≠ pb
  cv : ∀ i, i < n → (f i).v.ownBlock ≠ some cb
  vv : ∀ i j, i < n → j < n → i ≠ j → ∀ k, (f i).v.ownBlock = some k → (f j).v.ownBlock ≠ some k
  len : ∀ i, i < n → (f i).L.length ≤ sz
  s1 : 1 ≤ sz
  s2 : sz ≤ 256
  cnt : ∀ i, i < n → 0 ≤ (f i).h ∧ (f i).h ≤ q ∧ 0 ≤ (f i).m ∧ (f i).m ≤ q
  b1 : base ≤ cb
  b2 : base ≤ pb
  n0 : 0 < n
theorem CS.lt {w : World} {base cb pb n sz : Nat} {cur : Array Value} {f : Nat → Ps} {q : Int} (C : CS w base cb pb n sz cur f q) (k : Nat) (h : BK cb pb n f k) : base ≤ k ∧ k < w.heap.size := by
  rcases h with rfl | rfl | ⟨i, hi, e⟩
  · exact ⟨C.b1, lt_of_block C.blk⟩
  · exact ⟨C.b2, lt_of_block (C.pt 0 C.n0).blk⟩
  · exact (C.pt i hi).own.lt k e
theorem CS.fr {w w' : World} {base cb pb n sz : Nat} {cur : Array Value} {f : Nat → Ps} {q : Int} {S : Nat → Prop} (C : CS w base cb pb n sz cur f q) (F : Fr S w w') (hS : ∀ k, BK cb pb n f k → ¬ S k) : CS w' base cb pb n sz cur f q :=
  ⟨C.blk.fr F (hS cb (.inl rfl)), fun i hi => (C.pt i hi).fr F (hS pb (.inr (.inl rfl))) (fun k e => hS k (.inr (.inr ⟨i, hi, e⟩))), C.cp, C.cv, C.vv, C.len, C.s1, C.s2, C.cnt, C.b1, C.b2, C.n0⟩
theorem CS.more {w : World} {base cb pb n sz : Nat} {cur : Array Value} {f : Nat → Ps} {q : Int} (C : CS w base cb pb n sz cur f q) (q' : Int) (h : q ≤ q') : CS w base cb pb n sz cur f q' :=
  ⟨C.blk, C.pt, C.cp, C.cv, C.vv, C.len, C.s1, C.s2, fun i hi => by have := C.cnt i hi; omega, C.b1, C.b2, C.n0⟩
theorem CS.step {w w' : World} {base cb pb n sz : Nat} {cur cur' : Array Value} {f : Nat → Ps} {q : Int} (C : CS w base cb pb n sz cur f q) (i : Nat) (hi : i < n) {v' : Value} {L' : List (ByteArray × ByteArray)} {h' m' : Int} (S : Step w w' base pb (i * 3) cur (f i).v cur' v' L' h' m') (hl : L'.length ≤ sz) (hc : 0 ≤ h' ∧ h' ≤ q ∧ 0 ≤ m' ∧ m' ≤ q) : CS w' base cb pb n sz cur' (upd f i ⟨v', L', h', m'⟩) q := by
  have hnew : ∀ k, v'.ownBlock = some k → (f i).v.ownBlock = some k ∨ w.heap.size ≤ k := fun k e => by
    rcases S.own with e1 | ⟨k1, e1, hk⟩
    · exact .inl (by rw [← e1]; exact e)
    · rw [e1] at e; obtain rfl := Option.some.inj e; exact .inr hk
  refine ⟨C.blk.fr S.fr ?_, fun j hj => ?_, C.cp, fun j hj => ?_, fun a b ha hb hab k e1 e2 => ?_, fun j hj => ?_, C.s1, C.s2, fun j hj => ?_, C.b1, C.b2, C.n0⟩
  · intro e
    rcases e with e | e
    · exact C.cp e
    · exact C.cv i hi e
  · by_cases hji : j = i
    · subst hji
      rw [upd_same]
      exact S.pt
    · rw [upd_ne _ _ _ _ hji]
      refine (C.pt j hj).beside (off' := 0) (v' := .slice none 0 0) cur' S.pt.blk (fun x hx1 hx2 => S.other x ?_) S.fr (fun k e hk => ?_)
      · rcases Nat.lt_or_gt_of_ne hji with h | h
        · left; omega
        · right; omega
      · rcases hk with hk | hk
        · subst hk; exact (C.pt j hj).apart e
        · exact C.vv i j hi hj (fun e => hji e.symm) k hk e
  · by_cases hji : j = i
    · subst hji
      rw [upd_same]
      intro e
      rcases hnew cb e with h | h
      · exact C.cv j hj h
      · have := lt_of_block C.blk; omega
    · rw [upd_ne _ _ _ _ hji]; exact C.cv j hj
  · by_cases hai : a = i
    · subst hai
      rw [upd_same] at e1
      rw [upd_ne _ _ _ _ (fun e => hab e.symm)] at e2
      rcases hnew k e1 with h | h
      · exact C.vv a b ha hb hab k h e2
      · have := ((C.pt b hb).own.lt k e2).2; omega
    · rw [upd_ne _ _ _ _ hai] at e1
      by_cases hbi : b = i
      · subst hbi
        rw [upd_same] at e2
        rcases hnew k e2 with h | h
        · exact C.vv a b ha hb hab k e1 h
        · have := ((C.pt a ha).own.lt k e1).2; omega
      · rw [upd_ne _ _ _ _ hbi] at e2
        exact C.vv a b ha hb hab k e1 e2
  · by_cases hji : j = i
    · subst hji; rw [upd_same]; exact hl
    · rw [upd_ne _ _ _ _ hji]; exact C.len j hj
  · by_cases hji : j = i
    · subst hji; rw [upd_same]; exact hc
    · rw [upd_ne _ _ _ _ hji]; exact C.cnt j hj
def getV (s : ByteArray) (L : List (ByteArray × ByteArray)) : ByteArray := match L.findIdx? (nm s) with
  | some k => (L[k]?.getD (⟨#[]⟩, ⟨#[]⟩)).2
  | none => ⟨#[]⟩
def getB (s : ByteArray) (L : List (ByteArray × ByteArray)) : Bool := (L.findIdx? (nm s)).isSome
def getL (s : ByteArray) (L : List (ByteArray × ByteArray)) : List (ByteArray × ByteArray) := match L.findIdx? (nm s) with
  | some k => L.eraseIdx k ++ [L[k]?.getD (⟨#[]⟩, ⟨#[]⟩)]
  | none => L
theorem getL_len (s : ByteArray) (L : List (ByteArray × ByteArray)) : (getL s L).length = L.length := by
  unfold getL
  split
  · rename_i k hk
    obtain ⟨h, _⟩ := List.findIdx?_eq_some_iff_getElem.1 hk
    rw [List.length_append, List.length_eraseIdx, if_pos h]
    simp; omega
  · rfl
theorem putL_len (sz : Nat) (s t : ByteArray) (L : List (ByteArray × ByteArray)) (h : L.length ≤ sz) (h1 : 1 ≤ sz) : (putL sz s t L).length ≤ sz := by
  unfold putL
  have := cutOf_len s L
  rw [List.length_append]
  split
  · rw [List.length_eraseIdx, if_pos (by omega)]; simp; omega
  · simp; omega
theorem get_any (cb pb n i : Nat) (size : Int) (hi : i < n) {base : Nat} {cur : Array Value} {v : Value} {L : List (ByteArray × ByteArray)} {h m : Int} (w : World) (hc : CB w cb pb n size) (hp : Pt w base pb (i * 3) cur v L h m) (hbs : base ≤ w.heap.size) (hlen : L.length ≤ 1000) (h0 : 0 ≤ h) (h1 : h ≤ 1000000) (m0 : 0 ≤ m) (m1 : m ≤ 1000000) (s : ByteArray) : Calls Try.prog 7 #[.pointer (some ⟨cb, 0, none⟩), .int .i64 (i : Int), .string s] w fun e w' => e = .returned (.tuple #[.string (getV s L), .bool (getB s L)]) ∧ ∃ cur' v', Step w w' base pb (i * 3) cur v cur' v' (getL s L) (if getB s L then h + 1 else h) (if getB s L then m else m + 1) := by
  cases hf : L.findIdx? (nm s) with
  | none =>
    have e1 : getV s L = ⟨#[]⟩ := by unfold getV; rw [hf]
    have e2 : getB s L = false := by unfold getB; rw [hf]; rfl
    have e3 : getL s L = L := by unfold getL; rw [hf]
    rw [e1, e2, e3]
    refine (get_none cb pb n i size hi w hc hp m0 m1 s (fun j x hj hx => ?_)).mono ?_
    · rw [List.findIdx?_eq_none_iff] at hf
      exact hf x (List.mem_of_getElem? hx)
    · rintro e w' ⟨rfl, hh⟩
      exact ⟨rfl, hh⟩
  | some k =>
    obtain ⟨hk, k1, k2⟩ := List.findIdx?_eq_some_iff_getElem.1 hf
    have hx : L[k]? = some L[k] := List.getElem?_eq_getElem hk
    have e1 : getV s L = L[k].2 := by unfold getV; rw [hf]; simp only [hx]; rfl
    have e2 : getB s L = true := by unfold getB; rw [hf]; rfl
    have e3 : getL s L = L.eraseIdx k ++ [L[k]] := by unfold getL; rw [hf]; simp only [hx]; rfl
    rw [e1, e2, e3]
    refine (get_some cb pb n i size hi w hc hp hbs hlen h0 h1 s k L[k] hx k1 (fun j x hj hx => ?_)).mono ?_
    · have := k2 j hj
      rw [List.getElem?_eq_getElem (by omega)] at hx
      rw [← Option.some.inj hx]
      simpa using this
    · rintro e w' ⟨rfl, hh⟩
      exact ⟨rfl, hh⟩
section
variable {w : World} {base cb pb n sz : Nat} {cur : Array Value} {f : Nat → Ps} {q : Int}
theorem CS.bs (C : CS w base cb pb n sz cur f q) : base ≤ w.heap.size := Nat.le_of_lt (Nat.lt_of_le_of_lt C.b1 (lt_of_block C.blk))
theorem CS.put (C : CS w base cb pb n sz cur f q) (i : Nat) (hi : i < n) (s t : ByteArray) : Calls Try.prog 10 #[.pointer (some ⟨cb, 0, none⟩), .int .i64 (i : Int), .string s, .string t] w fun e w' => e = .returned (.int .i64 0) ∧ ∃ cur' v', CS w' base cb pb n sz cur' (upd f i ⟨v', putL sz s t (f i).L, (f i).h, (f i).m⟩) q ∧ (v'.ownBlock = (f i).v.ownBlock ∨ ∃ k, v'.ownBlock = some k ∧ w.heap.size ≤ k) ∧ Fr (fun b => b = pb ∨ (f i).v.ownBlock = some b) w w' := by
  refine (put_step cb pb n i sz hi w C.blk (C.pt i hi) C.cp (C.cv i hi) C.bs (by have := C.len i hi; have := C.s2; omega) C.s1 s t).mono ?_
  rintro e w' ⟨rfl, cur', v', S⟩
  exact ⟨rfl, cur', v', C.step i hi S (putL_len sz s t _ (C.len i hi) C.s1) (C.cnt i hi), S.own, S.fr⟩
theorem CS.get (C : CS w base cb pb n sz cur f q) (hq : q ≤ 1000000) (i : Nat) (hi : i < n) (s : ByteArray) : Calls Try.prog 7 #[.pointer (some ⟨cb, 0, none⟩), .int .i64 (i : Int), .string s] w fun e w' => e = .returned (.tuple #[.string (getV s (f i).L), .bool (getB s (f i).L)]) ∧ ∃ cur' v', CS w' base cb pb n sz cur' (upd f i ⟨v', getL s (f i).L, if getB s (f i).L then (f i).h + 1 else (f i).h, if getB s (f i).L then (f i).m else (f i).m + 1⟩) (q + 1) ∧ (v'.ownBlock = (f i).v.ownBlock ∨ ∃ k, v'.ownBlock = some k ∧ w.heap.size ≤ k) ∧ Fr (fun b => b = pb ∨ (f i).v.ownBlock = some b) w w' := by
  have hc := C.cnt i hi
  refine (get_any cb pb n i (sz : Int) hi w C.blk (C.pt i hi) C.bs (by have := C.len i hi; have := C.s2; omega) hc.1 (by omega) hc.2.2.1 (by omega) s).mono ?_
  rintro e w' ⟨rfl, cur', v', S⟩
  exact ⟨rfl, cur', v', (C.more (q + 1) (by omega)).step i hi S (by rw [getL_len]; exact C.len i hi) (by split <;> omega), S.own, S.fr⟩
theorem CS.names (C : CS w base cb pb n sz cur f q) (i : Nat) (hi : i < n) : Calls Try.prog 12 #[.pointer (some ⟨cb, 0, none⟩), .int .i64 (i : Int)] w fun e w' => ∃ v, e = .returned v ∧ w'.ownsRow w.heap.size 9 1 v (f i).L.length ((f i).L.reverse.map fun x => Value.string x.1) ∧ Fr (fun _ => False) w w' := by
  refine (callsIn_wide.1 (names_in cb pb n i (sz : Int) hi w C.blk (C.pt i hi) (by have := C.len i hi; have := C.s2; omega))).mono ?_
  rintro e w' ⟨v, rfl, O, h⟩
  exact ⟨v, rfl, O, h.os, h.tape, h.output, h.size, fun k hk _ => h.block k hk⟩
theorem CS.hits (C : CS w base cb pb n sz cur f q) (i : Nat) (hi : i < n) : Calls Try.prog 8 #[.pointer (some ⟨cb, 0, none⟩), .int .i64 (i : Int)] w fun e w' => e = .returned (.tuple #[.int .i64 (f i).h, .int .i64 (f i).m]) ∧ Fr (fun _ => False) w w' :=
  hits_any cb pb n i (sz : Int) hi w C.blk (C.pt i hi)
theorem CS.drop (C : CS w base cb pb n sz cur f q) (i : Nat) (hi : i < n) : Calls Try.prog 11 #[.pointer (some ⟨cb, 0, none⟩), .int .i64 (i : Int)] w fun e w' => e = .returned (.int .i64 0) ∧ ∃ cur', CS w' base cb pb n sz cur' (upd f i ⟨.slice none 0 0, [], (f i).h, (f i).m⟩) q ∧ Fr (fun b => b = pb ∨ (f i).v.ownBlock = some b) w w' := by
  refine (drop_any cb pb n i (sz : Int) hi w C.blk (C.pt i hi)).mono ?_
  rintro e w' ⟨rfl, P, F⟩
  refine ⟨rfl, cur.setIfInBounds (i * 3) (.slice none 0 0), ?_, F.mono (fun _ _ h => .inl h)⟩
  have hcnt := C.cnt i hi
  refine ⟨C.blk.fr F (fun e => C.cp e), fun j hj => ?_, C.cp, fun j hj => ?_, fun a b ha hb hab k e1 e2 => ?_, fun j hj => ?_, C.s1, C.s2, fun j hj => ?_, C.b1, C.b2, C.n0⟩
  · by_cases hji : j = i
    · subst hji; rw [upd_same]; exact P
    · rw [upd_ne _ _ _ _ hji]
      refine (C.pt j hj).beside (off' := 0) (v' := .slice none 0 0) _ P.blk (fun x hx1 hx2 => ?_) F (fun k e hk => by subst hk; exact (C.pt j hj).apart e)
      rw [Array.getElem?_setIfInBounds, if_neg]
      rcases Nat.lt_or_gt_of_ne hji with h | h <;> omega
  · by_cases hji : j = i
    · subst hji; rw [upd_same]; simp [Value.ownBlock]
    · rw [upd_ne _ _ _ _ hji]; exact C.cv j hj
  · by_cases hai : a = i
    · subst hai; rw [upd_same] at e1; simp [Value.ownBlock] at e1
    · rw [upd_ne _ _ _ _ hai] at e1
      by_cases hbi : b = i
      · subst hbi; rw [upd_same] at e2; simp [Value.ownBlock] at e2
      · rw [upd_ne _ _ _ _ hbi] at e2; exact C.vv a b ha hb hab k e1 e2
  · by_cases hji : j = i
    · subst hji; rw [upd_same]; simp
    · rw [upd_ne _ _ _ _ hji]; exact C.len j hj
  · by_cases hji : j = i
    · subst hji; rw [upd_same]; exact hcnt
    · rw [upd_ne _ _ _ _ hji]; exact C.cnt j hj
end
theorem new_cs (n sz : Nat) (h1 : 1 ≤ n) (h2 : n ≤ 8) (s1 : 1 ≤ sz) (s2 : sz ≤ 256) (w : World) : Calls Try.prog 13 #[.int .i64 (n : Int), .int .i64 (sz : Int)] w fun e w' => ∃ cb pb cur, e = .returned (.tuple #[.pointer (some ⟨cb, 0, none⟩), .int .i64 0]) ∧ CS w' w.heap.size cb pb n sz cur (fun _ => ⟨.slice none 0 0, [], 0, 0⟩) 0 ∧ Fr (fun _ => False) w w' := by
  refine (new_ok n sz h1 h2 s1 s2 w).mono ?_
  rintro e w' ⟨cb, pb, cur, rfl, hc, hcp, b1, b2, hs, hp, F⟩
  exact ⟨cb, pb, cur, rfl, ⟨hc, hp, hcp, fun i hi => by simp [Value.ownBlock], fun i j _ _ _ k e => by simp [Value.ownBlock] at e, fun i hi => by simp, s1, s2, fun i hi => by simp, b1, b2, by omega⟩, F⟩
/-- Nothing of what was there when the call began is turned. -/
theorem fr_up {w0 w w' : World} {T : Nat → Prop} (F : Fr (fun _ => False) w0 w) (G : Fr T w w') (h : ∀ k, T k → w0.heap.size ≤ k) : Fr (fun _ => False) w0 w' := F.trans G (fun k e => .inr (h k e))
end Go.Proofs.Ytkigdgkklninoaa

/-
  The document's part: DocGet, DocPut.
-/
import Derived.Test.YtkigdgkklninoaaWo
namespace Go.Proofs.Ytkigdgkklninoaa
open Go.RowKit
set_option linter.unusedVariables false
set_option linter.unusedSimpArgs false
theorem srcRow {W : World} {base : Nat} {a : Option Addr} {n c : Nat} {L : List (ByteArray × ByteArray)} (O : W.ownsRow base 70 2 (.slice a n c) n (ec L)) (hn : L.length = n) : Src Try.prog 2 37 (.slice a n c) n (ec L) W := by
  rcases O.2 with ⟨e, h0⟩ | ⟨g, cap, gc, e, _, hg, hnc, _, hs, ht⟩
  · injection e with e1 e2 e3
    subst e1 e3 h0
    obtain rfl : L = [] := List.eq_nil_of_length_eq_zero hn
    exact Src.ofNil W Try.underlying37 0
  · injection e with e1 e2 e3
    subst e1 e3
    refine Src.ofSlice W Try.underlying37 ⟨g, 0, none⟩ n c (ec L) (by rw [ec_len, hn]) (fun j u hj => ?_) (ec_one L)
    have hl := (List.getElem?_eq_some_iff.1 hj).1
    rw [Addr.add_mid, Nat.zero_add, cell_of_block hg, ← Array.getElem?_toList, ← hj, ← ht, List.getElem?_take_of_lt (by rw [ec_len, hn] at hl; omega)]
theorem own_lit (W : World) (base : Nat) (hb : base ≤ W.heap.size) (s t : ByteArray) : (W.alloc (.cells #[.string s, .string t] 70)).ownsRow base 70 2 (.slice (some ⟨W.heap.size, 0, none⟩) 1 1) 1 [.string s, .string t] :=
  ⟨rfl, .inr ⟨W.heap.size, 1, _, rfl, hb, heap_alloc_new W _, Nat.le_refl _, by unfold maxLen; omega, rfl, rfl⟩⟩
/-- What an append in front leaves, and the store of it. -/
theorem front_fin {X w5 : World} {{base pw off : Nat}} {{T : TypeId}} {{cur : Array Value}} {{sz : Int}} {{v : Value}} {{L : List (ByteArray × ByteArray)}} {{h m : Int}} {s t : ByteArray} {L1 : List (ByteArray × ByteArray)} {n1 : Nat} {v3 : Value} (P : RP X base pw off T cur sz v L h m) (hn1 : L1.length = n1) (O5 : w5.ownsRow base 70 2 v3 (1 + n1) ([.string s, .string t] ++ ec L1)) (G5 : (X.alloc (.cells #[.string s, .string t] 70)).grownBy w5 (some X.heap.size)) (B5 : v3.ownBlock = some X.heap.size ∨ v3.ownBlock = some (X.alloc (.cells #[.string s, .string t] 70)).heap.size) :
    RP (w5.setCell ⟨pw, off + 1, none⟩ v3) base pw off T (cur.setIfInBounds (off + 1) v3) sz v3 ((s, t) :: L1) h m ∧ (∃ k, v3.ownBlock = some k ∧ X.heap.size ≤ k) ∧ Fr (fun b => b = pw) X (w5.setCell ⟨pw, off + 1, none⟩ v3) := by
  subst hn1
  have hpl := lt_of_block P.blk
  have hb5 : w5.heap[pw]? = _ := (G5.block pw (by simp; omega) (fun e => by have := Option.some.inj e; omega)).trans ((Below.heap_alloc _ _ _ hpl).trans P.blk)
  have S := Fr.setCell (S := fun b => b = pw) (Fr.refl _ w5) (p := ⟨pw, off + 1, none⟩) (Or.inl rfl) v3
  have hv : ∃ k, v3.ownBlock = some k ∧ X.heap.size ≤ k := by
    rcases B5 with e | e
    · exact ⟨_, e, Nat.le_refl _⟩
    · exact ⟨_, e, by simp⟩
  have ha : v3.ownBlock ≠ some pw := fun e => by
    obtain ⟨k, e1, hk⟩ := hv
    rw [e1] at e; have := Option.some.inj e; omega
  have hl := (Array.getElem?_eq_some_iff.1 P.miss).1
  have F1 : Fr (fun _ => False) X w5 := ((Fr.refl (fun _ => False) X).alloc _).trans (Fr.ofGrown G5) (fun i e => .inr (by have := Option.some.inj e; omega))
  refine ⟨⟨block_setCell hb5 _ v3, set_one P.size (by omega), set_here (by omega), set_one P.hits (by omega), set_one P.miss (by omega), S.own ?_ (fun k e h => ha (by rw [e, h])), ha⟩, hv, (F1.mono (fun _ _ h => h.elim)).trans S (fun _ h => .inl h)⟩
  rw [List.length_cons, Nat.add_comm]
  exact O5
structure RStep (w w' : World) (base pw off : Nat) (T : TypeId) (cur cur' : Array Value) (sz : Int) (v v' : Value) (L' : List (ByteArray × ByteArray)) (h' m' : Int) : Prop where
  rp : RP w' base pw off T cur' sz v' L' h' m'
  sz : cur'.size = cur.size
  other : ∀ j, j < off ∨ off + 4 ≤ j → cur'[j]? = cur[j]?
  own : ∀ k, v'.ownBlock = some k → v.ownBlock = some k ∨ w.heap.size ≤ k
  fr : Fr (fun b => b = pw) w w'
def dgL (s : ByteArray) (L : List (ByteArray × ByteArray)) : List (ByteArray × ByteArray) := if hasS s L then (s, whS s L) :: wo s L else L
def dgV (s : ByteArray) (L : List (ByteArray × ByteArray)) : ByteArray := if hasS s L then whS s L else ⟨#[]⟩
set_option maxRecDepth 100000 in
set_option maxHeartbeats 6400000 in
theorem docget_any (w : World) {{base pw off : Nat}} {{T : TypeId}} {{cur : Array Value}} {{sz : Int}} {{v : Value}} {{L : List (ByteArray × ByteArray)}} {{h m : Int}} (p : RP w base pw off T cur sz v L h m) (hb : base ≤ w.heap.size) (hlen : L.length ≤ 999) (h0 : 0 ≤ h) (h1 : h ≤ 1000000) (m0 : 0 ≤ m) (m1 : m ≤ 1000000) (s : ByteArray) : Calls Try.prog 14 #[.pointer (some ⟨pw, off, none⟩), .string s] w fun e w' => e = .returned (.tuple #[.string (dgV s L), .bool (hasS s L)]) ∧ ∃ cur' v', RStep w w' base pw off T cur cur' sz v v' (dgL s L) (if hasS s L then h + 1 else h) (if hasS s L then m else m + 1) := by
  have HW := Lib.hid (without_any w p (by omega) s)
  have HP := Lib.hid p
  have HB := Lib.hid hb
  have hwl := wo_len s L
  have HLN := Lib.hid (show (wo s L).length ≤ 999 by omega)
  have HDV := Lib.hid (show dgV s L = if hasS s L then whS s L else ⟨#[]⟩ from rfl)
  have HDL := Lib.hid (show dgL s L = if hasS s L then (s, whS s L) :: wo s L else L from rfl)
  obtain ⟨ti, zv, t1, t2, t3, t4, t5⟩ := pInfo
  have HT := Lib.hid (And.intro t1 (And.intro t2 (And.intro t3 (And.intro t4 t5))))
  clear p hb hlen hwl t1 t2 t3 t4 t5
  generalize dgV s L = DV at *
  generalize dgL s L = DL at *
  generalize whS s L = wh at *
  generalize wo s L = L1 at *
  generalize hasS s L = ok at *
  go_enter Try.func14, Try.ntmps14
  go_wp2_with fail
  refine HW.out.mono ?_
  rintro e w2 ⟨v2, rfl, O2, F2⟩
  have P2 := HP.out.fr F2 (fun h => h) (fun _ _ h => h)
  obtain ⟨c0, c1, c2, c3, f0⟩ := P2.c
  have f2 := f0 (off + 2)
  have f3 := f0 (off + 3)
  have hl := (Array.getElem?_eq_some_iff.1 P2.miss).1
  have HL := Lib.hid hl
  have HP2 := Lib.hid P2
  have HF2 := Lib.hid F2
  have HO2 := Lib.hid O2
  clear f0 hl
  cases ok with
  | false =>
    have e1 := HDV.out
    have e2 := HDL.out
    simp only [Bool.false_eq_true, if_false] at e1 e2
    subst e1 e2
    clear P2 F2 O2 c0 c1 c2 HW HDV HDL
    go_wp2_with fail
    go_returns
    refine ⟨rfl, cur.setIfInBounds (off + 3) (.int .i64 (m + 1)), v, ⟨block_setCell HP2.out.blk _ _, set_one HP2.out.size (by omega), set_one HP2.out.row (by omega), set_one HP2.out.hits (by omega), set_here HL.out, ?_, HP2.out.apart⟩, by simp, fun j hj => by rw [Array.getElem?_setIfInBounds, if_neg (by omega)], own_of (.inl rfl), ?_⟩
    · exact (Fr.setCell (S := fun b => b = pw) (Fr.refl _ _) (p := ⟨pw, off + 3, none⟩) (Or.inl rfl) _).own HP2.out.own (fun k e h => HP2.out.apart (by rw [e, h]))
    · exact (HF2.out.mono (fun _ _ h => h.elim)).trans (Fr.setCell (S := fun b => b = pw) (Fr.refl _ _) (p := ⟨pw, off + 3, none⟩) (Or.inl rfl) _) (fun _ h => .inl h)
  | true =>
    have e1 := HDV.out
    have e2 := HDL.out
    simp only [if_true] at e1 e2
    subst e1 e2
    have S3 := Fr.setCell (S := fun b => b = pw) (Fr.refl _ w2) (p := ⟨pw, off + 2, none⟩) (Or.inl rfl) (.int .i64 (h + 1))
    have P3 : RP (w2.setCell ⟨pw, off + 2, none⟩ (.int .i64 (h + 1))) base pw off T (cur.setIfInBounds (off + 2) (.int .i64 (h + 1))) sz v L (h + 1) m :=
      ⟨block_setCell P2.blk _ _, set_one P2.size (by omega), set_one P2.row (by omega), set_here (by have := HL.out; omega), set_one P2.miss (by omega), S3.own P2.own (fun k e h => P2.apart (by rw [e, h])), P2.apart⟩
    have O3 : (w2.setCell ⟨pw, off + 2, none⟩ (.int .i64 (h + 1))).ownsRow w.heap.size 70 2 v2 L1.length (ec L1) := S3.own O2 (fun k e h => by have := (O2.lt k e).1; have := lt_of_block HP.out.blk; omega)
    have F3 : Fr (fun b => b = pw) w (w2.setCell ⟨pw, off + 2, none⟩ (.int .i64 (h + 1))) := (F2.mono (fun _ _ h => h.elim)).trans S3 (fun _ h => .inl h)
    obtain ⟨W3, hW3⟩ : ∃ W3, W3 = w2.setCell ⟨pw, off + 2, none⟩ (.int .i64 (h + 1)) := ⟨_, rfl⟩
    rw [← hW3] at P3 O3 F3
    obtain ⟨a2, c2', rfl⟩ : ∃ a c, v2 = .slice a L1.length c := by
      rcases O3.2 with ⟨e, h0⟩ | ⟨g, cap, gc, e, _⟩
      · exact ⟨none, 0, by rw [e, h0]⟩
      · exact ⟨_, _, e⟩
    have hbs : base ≤ W3.heap.size := by have := F3.size; have := HB.out; omega
    have HP3 := Lib.hid P3
    have HF3 := Lib.hid F3
    have HSR := Lib.hid (srcRow (O3.alloc (.cells #[.string s, .string DV] 70)) rfl)
    have HOL := Lib.hid (own_lit W3 base hbs s DV)
    have HMX := Lib.hid (show 1 + L1.length ≤ maxLen by have := HLN.out; unfold maxLen; omega)
    have HBY := Lib.hid (show (1 + L1.length) * 32 ≤ 140737488355328 by have := HLN.out; omega)
    have HBS := Lib.hid (show base ≤ (W3.alloc (.cells #[.string s, .string DV] 70)).heap.size by simp; omega)
    have HW3 := Lib.hid hW3
    clear P2 F2 O2 S3 P3 O3 F3 hW3 hbs c0 c1 c3 f3 HW HDV HDL
    go_wp2_with (first | (rw [← HW3.out]) | (at_builtin; refine wpList_app _ rfl (.tmp 36) (.tmp 37) 37 37 rfl base 70 ti zv 2 32 Try.underlying37 HT.out.1 HT.out.2.1 HT.out.2.2.1 HT.out.2.2.2.1 HT.out.2.2.2.2 (by decide) (.slice (some ⟨W3.heap.size, 0, none⟩) 1 1) 1 [.string s, .string DV] rfl HOL.out _ rfl L1.length (ec L1) HSR.out HMX.out HBY.out HBS.out ?_; intro v3 w5 O5 G5 B5; refine Hid.out ?_))
    refine Lib.hid ?_
    obtain ⟨g9, c9, e9⟩ : ∃ g c, v3 = .slice (some ⟨g, 0, none⟩) (L1.length + 1) c := own_succ (by rw [Nat.add_comm]; exact O5)
    have fin := front_fin HP3.out rfl O5 G5 B5
    have hb5 : w5.heap[pw]? = _ := (G5.block pw (by have := lt_of_block HP3.out.blk; simp; omega) (fun e => by have e2 : pw = W3.heap.size := Option.some.inj e; have := lt_of_block HP3.out.blk; omega)).trans ((Below.heap_alloc _ _ _ (lt_of_block HP3.out.blk)).trans HP3.out.blk)
    have k5 : w5.cell? ⟨pw, off + 1, none⟩ = some _ := (cell_of_block hb5 _).trans HP3.out.row
    have f5 := free_of_block hb5 (off + 1)
    subst e9
    have HFI := Lib.hid fin
    clear fin hb5 O5 G5 B5
    (try simp only [Act.put, List.setIfInBounds_toArray, List.set_cons_zero, List.set_cons_succ])
    go_wp2_with fail
    go_returns
    obtain ⟨P6, ⟨k6, e6, hk6⟩, F6⟩ := HFI.out
    exact ⟨rfl, _, _, P6, by simp, fun j hj => by simp only [Array.getElem?_setIfInBounds]; rw [if_neg (by omega), if_neg (by omega)], own_of (.inr ⟨k6, e6, Nat.le_trans HF3.out.size hk6⟩), HF3.out.trans F6 (fun _ h => .inl h)⟩
end Go.Proofs.Ytkigdgkklninoaa

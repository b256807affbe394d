/-
  The document's part: without.
-/
import Derived.Test.YtkigdgkklninoaaWn
namespace Go.Proofs.Ytkigdgkklninoaa
open Go.RowKit
set_option linter.unusedVariables false
set_option linter.unusedSimpArgs false
/-- A part of the document's: size, row, counts. -/
structure RP (w : World) (base pw off : Nat) (T : TypeId) (cur : Array Value) (sz : Int) (v : Value) (L : List (ByteArray × ByteArray)) (h m : Int) : Prop where
  blk : w.heap[pw]? = some (.cells cur T (0, 0))
  size : cur[off]? = some (.int .i64 sz)
  row : cur[off + 1]? = some v
  hits : cur[off + 2]? = some (.int .i64 h)
  miss : cur[off + 3]? = some (.int .i64 m)
  own : w.ownsRow base 70 2 v L.length (ec L)
  apart : v.ownBlock ≠ some pw
theorem RP.fr {w w' : World} {base pw off : Nat} {T : TypeId} {cur : Array Value} {sz : Int} {v : Value} {L : List (ByteArray × ByteArray)} {h m : Int} {S : Nat → Prop} (p : RP w base pw off T cur sz v L h m) (F : Fr S w w') (hS : ¬ S pw) (hv : ∀ k, v.ownBlock = some k → ¬ S k) : RP w' base pw off T cur sz v L h m :=
  ⟨(F.block pw (lt_of_block p.blk) hS).trans p.blk, p.size, p.row, p.hits, p.miss, F.own p.own hv, p.apart⟩
theorem RP.c {w : World} {base pw off : Nat} {T : TypeId} {cur : Array Value} {sz : Int} {v : Value} {L : List (ByteArray × ByteArray)} {h m : Int} (p : RP w base pw off T cur sz v L h m) :
    w.cell? ⟨pw, off, none⟩ = some (.int .i64 sz) ∧ w.cell? ⟨pw, off + 1, none⟩ = some v ∧ w.cell? ⟨pw, off + 2, none⟩ = some (.int .i64 h) ∧ w.cell? ⟨pw, off + 3, none⟩ = some (.int .i64 m) ∧ ∀ k, w.frozen? ⟨pw, k, none⟩ = false :=
  ⟨(cell_of_block p.blk _).trans p.size, (cell_of_block p.blk _).trans p.row, (cell_of_block p.blk _).trans p.hits, (cell_of_block p.blk _).trans p.miss, fun k => free_of_block p.blk k⟩
theorem RP.form {w : World} {base pw off : Nat} {T : TypeId} {cur : Array Value} {sz : Int} {v : Value} {L : List (ByteArray × ByteArray)} {h m : Int} (p : RP w base pw off T cur sz v L h m) : ∃ a c, v = .slice a L.length c := by
  rcases p.own.2 with ⟨rfl, h0⟩ | ⟨g, cap, gc, rfl, _⟩
  · exact ⟨none, 0, by rw [h0]⟩
  · exact ⟨_, _, rfl⟩
/-- An entry of a row of pairs. -/
theorem pair_cells {w : World} {base : Nat} {T : TypeId} {a : Option Addr} {c : Nat} {L : List (ByteArray × ByteArray)} (O : w.ownsRow base T 2 (.slice a L.length c) L.length (ec L)) {k : Nat} {x : ByteArray × ByteArray} (hx : L[k]? = some x) : ∃ g, a = some ⟨g, 0, none⟩ ∧ w.cell? ⟨g, k * 2, none⟩ = some (.string x.1) ∧ w.cell? ⟨g, k * 2 + 1, none⟩ = some (.string x.2) := by
  have hk := (List.getElem?_eq_some_iff.1 hx).1
  rcases O.2 with ⟨_, h0⟩ | ⟨g, cap, gc, e, _, hg, hnc, _, hs, ht⟩
  · omega
  · injection e with e1 e2 e3
    subst e1 e3
    obtain ⟨h1, h2⟩ := ec_get L k x hx
    rw [← ht, List.getElem?_take_of_lt (by omega), Array.getElem?_toList] at h1 h2
    exact ⟨g, rfl, (cell_of_block hg _).trans h1, (cell_of_block hg _).trans h2⟩
def wo (s : ByteArray) (L : List (ByteArray × ByteArray)) : List (ByteArray × ByteArray) := L.filter fun x => !nm s x
def whS (s : ByteArray) (L : List (ByteArray × ByteArray)) : ByteArray := L.foldl (fun u x => if nm s x then x.2 else u) ⟨#[]⟩
def hasS (s : ByteArray) (L : List (ByteArray × ByteArray)) : Bool := L.any (nm s)
theorem wo_yes {s : ByteArray} {L : List (ByteArray × ByteArray)} {x : ByteArray × ByteArray} (h : nm s x = true) : wo s (L ++ [x]) = wo s L ∧ whS s (L ++ [x]) = x.2 ∧ hasS s (L ++ [x]) = true := by
  simp [wo, whS, hasS, h]
theorem wo_no {s : ByteArray} {L : List (ByteArray × ByteArray)} {x : ByteArray × ByteArray} (h : nm s x = false) : wo s (L ++ [x]) = wo s L ++ [x] ∧ whS s (L ++ [x]) = whS s L ∧ hasS s (L ++ [x]) = hasS s L := by
  simp [wo, whS, hasS, h]
theorem take_snoc {L : List (ByteArray × ByteArray)} {k : Nat} {x : ByteArray × ByteArray} (h : L[k]? = some x) : L.take (k + 1) = L.take k ++ [x] := by
  rw [List.take_add_one, h]; rfl
theorem wo_len (s : ByteArray) (L : List (ByteArray × ByteArray)) : (wo s L).length ≤ L.length := List.length_filter_le _ _
theorem pInfo : ∃ ti z, Try.prog.info? 70 = some ti ∧ ti.zero = some z ∧ ti.size = 2 ∧ ti.bytes = 32 ∧ z.cells.size = 2 := ⟨_, .agg #[.string ⟨#[]⟩, .string ⟨#[]⟩], rfl, by kernel_rfl, by kernel_rfl, by kernel_rfl, by kernel_rfl⟩
theorem srcP (a b : ByteArray) (W : World) : Src Try.prog 2 37 (.slice (some ⟨W.heap.size, 0, none⟩) 1 1) 1 [.string a, .string b] (W.alloc (.cells #[.string a, .string b] 70)) :=
  Src.ofSlice _ Try.underlying37 ⟨W.heap.size, 0, none⟩ 1 1 _ rfl (fun j u hj => by
    rw [Addr.add_mid, Nat.zero_add, cell_of_block (heap_alloc_new W _), ← Array.getElem?_toList]; exact hj) (fun u hu => by
    simp only [List.mem_cons, List.not_mem_nil, or_false] at hu
    rcases hu with rfl | rfl <;> rfl)
set_option maxRecDepth 100000 in
theorem lit51 (f : Nat → Value) : ((List.range 51).map f).toArray = (f 0 :: f 1 :: f 2 :: f 3 :: f 4 :: f 5 :: f 6 :: f 7 :: f 8 :: f 9 :: f 10 :: f 11 :: f 12 :: f 13 :: f 14 :: f 15 :: f 16 :: f 17 :: f 18 :: f 19 :: f 20 :: f 21 :: f 22 :: f 23 :: f 24 :: f 25 :: f 26 :: f 27 :: f 28 :: f 29 :: f 30 :: f 31 :: f 32 :: f 33 :: f 34 :: f 35 :: f 36 :: f 37 :: f 38 :: f 39 :: f 40 :: f 41 :: f 42 :: f 43 :: f 44 :: f 45 :: f 46 :: f 47 :: f 48 :: f 49 :: f 50 :: []).toArray := by kernel_rfl
set_option maxRecDepth 100000 in
set_option maxHeartbeats 6400000 in
theorem wo_loop {Q : Exit → Act → World → Prop} {w : World} {base pw off : Nat} {T : TypeId} {cur : Array Value} {sz : Int} {v : Value} {L : List (ByteArray × ByteArray)} {h m : Int} {s : ByteArray} (p : RP w base pw off T cur sz v L h m) (hlen : L.length ≤ 1000) (fr : Array Value) (hn : fr.size = 51) (p0 : fr[0]? = some (.pointer (some ⟨pw, off, none⟩))) (p1 : fr[1]? = some (.string s)) (p7 : fr[7]? = some (.slice none 0 0)) (p8 : fr[8]? = some (.string ⟨#[]⟩)) (p9 : fr[9]? = some (.bool false)) (p10 : fr[10]? = some (.int .i64 0))
    (hexit : ∀ t' w' v', t'.size = 51 → t'[7]? = some v' → t'[8]? = some (.string (whS s L)) → t'[9]? = some (.bool (hasS s L)) → w'.ownsRow w.heap.size 70 2 v' (wo s L).length (ec (wo s L)) → Fr (fun _ => False) w w' → Q (.exit 0) ⟨t', []⟩ w') :
    Code.wp Try.prog (.loop (loopAt Try.f21 0)) Q ⟨fr, []⟩ w := by
  refine wp_loop_up L.length (fun k t w' => t.size = 51 ∧ t[0]? = some (.pointer (some ⟨pw, off, none⟩)) ∧ t[1]? = some (.string s) ∧ t[8]? = some (.string (whS s (L.take k))) ∧ t[9]? = some (.bool (hasS s (L.take k))) ∧ t[10]? = some (.int .i64 (k : Int)) ∧ (∃ v, t[7]? = some v ∧ w'.ownsRow w.heap.size 70 2 v (wo s (L.take k)).length (ec (wo s (L.take k)))) ∧ Fr (fun _ => False) w w') fr w ⟨hn, p0, p1, p8, p9, p10, ⟨_, p7, World.ownsRow_nil _ _ _ _⟩, Fr.refl _ w⟩ ?_
  clear hn p0 p1 p7 p8 p9 p10 fr
  rintro k fr w1 hk ⟨hn, p0, p1, p8, p9, p10, ⟨vo, p7, O⟩, F⟩ K hK
  have P1 := p.fr F (fun h => h) (fun _ _ h => h)
  obtain ⟨a1, c1, rfl⟩ := P1.form
  have e1 := P1.c.2.1
  by_cases hlt : k < L.length
  · obtain ⟨x, hx⟩ : ∃ x, L[k]? = some x := ⟨_, List.getElem?_eq_getElem hlt⟩
    obtain ⟨g, rfl, x0, x1⟩ := pair_cells P1.own hx
    have q1 : (k : Int) < (L.length : Int) := by omega
    have q0 : (0 : Int) ≤ (k : Int) := Int.natCast_nonneg k
    have w1' : wrap64 ((k : Int) + 1) = ((k + 1 : Nat) : Int) := by rw [IntWalk.wrap64_in _ (by omega)]; omega
    have W1 := Lib.hid w1'
    have HO := Lib.hid O
    have HF := Lib.hid F
    have HX := Lib.hid hx
    have HLT := Lib.hid hlt
    have HK := Lib.hid hK
    have hbl := wo_len s (L.take k)
    rw [List.length_take] at hbl
    have HMX := Lib.hid (show (wo s (L.take k)).length + 1 ≤ maxLen by unfold maxLen; omega)
    have HBY := Lib.hid (show ((wo s (L.take k)).length + 1) * 32 ≤ 140737488355328 by omega)
    have HBS := Lib.hid (show w.heap.size ≤ (w1.alloc (.cells #[.string x.1, .string x.2] 70)).heap.size by have := F.size; simp; omega)
    obtain ⟨ti, zv, t1, t2, t3, t4, t5⟩ := pInfo
    have HT := Lib.hid (And.intro t1 (And.intro t2 (And.intro t3 (And.intro t4 t5))))
    clear O F hx hlt hK hk hlen hbl w1' P1 t1 t2 t3 t4 t5
    cases hb : nm s x with
    | true =>
      have hb1 : (x.1.toList == s.toList) = true := hb
      have HY := Lib.hid (wo_yes (L := L.take k) hb)
      clear hb
      obtain ⟨f, hff, rfl⟩ := frame_open hn
      have e0 := hff 0 _ p0
      have e1 := hff 1 _ p1
      have e7 := hff 7 _ p7
      have e8 := hff 8 _ p8
      have e9 := hff 9 _ p9
      have e10 := hff 10 _ p10
      clear hff hn p0 p1 p7 p8 p9 p10
      rw [lit51, e0, e1, e7, e8, e9, e10]
      clear e0 e1 e7 e8 e9 e10
      conv => arg 2; whnf
      go_wp2_with fail
      (try rw [W1.out])
      obtain ⟨y1, y2, y3⟩ := HY.out
      rw [← take_snoc HX.out] at y1 y2 y3
      exact HK.out _ _ HLT.out ⟨rfl, rfl, rfl, by rw [y2]; rfl, by rw [y3]; rfl, rfl, ⟨_, rfl, by rw [y1]; exact HO.out⟩, HF.out⟩
    | false =>
      have hb1 : (x.1.toList == s.toList) = false := hb
      have HY := Lib.hid (wo_no (L := L.take k) hb)
      clear hb
      obtain ⟨f, hff, rfl⟩ := frame_open hn
      have e0 := hff 0 _ p0
      have e1 := hff 1 _ p1
      have e7 := hff 7 _ p7
      have e8 := hff 8 _ p8
      have e9 := hff 9 _ p9
      have e10 := hff 10 _ p10
      clear hff hn p0 p1 p7 p8 p9 p10
      rw [lit51, e0, e1, e7, e8, e9, e10]
      clear e0 e1 e7 e8 e9 e10
      conv => arg 2; whnf
      go_wp2_with (at_builtin; refine wpList_app _ rfl (.tmp 38) (.tmp 46) 37 37 rfl w.heap.size 70 ti zv 2 32 Try.underlying37 HT.out.1 HT.out.2.1 HT.out.2.2.1 HT.out.2.2.2.1 HT.out.2.2.2.2 (by decide) vo (wo s (L.take k)).length (ec (wo s (L.take k))) rfl (HO.out.alloc _) _ rfl 1 [.string x.1, .string x.2] (srcP _ _ _) HMX.out HBY.out HBS.out ?_; intro v2 w5 O5 G5 B5; refine Hid.out ?_)
      refine Lib.hid ?_
      obtain ⟨g9, c9, rfl⟩ := own_succ O5
      have F5 : Fr (fun _ => False) w w5 := (HF.out.alloc _).trans (Fr.ofGrown G5) (fun i e => .inr (HO.out.lt i e).1)
      have HO5 := Lib.hid O5
      have HF5 := Lib.hid F5
      clear O5 G5 B5 F5 e1 x0 x1
      (try simp only [Act.put, List.setIfInBounds_toArray, List.set_cons_zero, List.set_cons_succ])
      go_wp2_with fail
      (try rw [W1.out])
      obtain ⟨y1, y2, y3⟩ := HY.out
      rw [← take_snoc HX.out] at y1 y2 y3
      refine HK.out _ _ HLT.out ⟨rfl, rfl, rfl, by rw [y2]; rfl, by rw [y3]; rfl, rfl, ⟨_, rfl, ?_⟩, HF5.out⟩
      rw [y1, ec_app, List.length_append]
      exact HO5.out
  · obtain rfl : k = L.length := by omega
    have q1 : ¬ ((L.length : Int) < (L.length : Int)) := by omega
    rw [List.take_length] at O p8 p9
    have HE := Lib.hid hexit
    have HO := Lib.hid O
    have HF := Lib.hid F
    clear hexit O F hK hk hlt hlen P1
    obtain ⟨f, hff, rfl⟩ := frame_open hn
    have e0 := hff 0 _ p0
    have e1 := hff 1 _ p1
    have e7 := hff 7 _ p7
    have e8 := hff 8 _ p8
    have e9 := hff 9 _ p9
    have e10 := hff 10 _ p10
    clear hff hn p0 p1 p7 p8 p9 p10
    rw [lit51, e0, e1, e7, e8, e9, e10]
    clear e0 e1 e7 e8 e9 e10
    conv => arg 2; whnf
    go_wp2_with fail
    exact HE.out _ _ _ rfl rfl rfl rfl HO.out HF.out
set_option maxRecDepth 100000 in
set_option maxHeartbeats 6400000 in
theorem without_any (w : World) {base pw off : Nat} {T : TypeId} {cur : Array Value} {sz : Int} {v : Value} {L : List (ByteArray × ByteArray)} {h m : Int} (p : RP w base pw off T cur sz v L h m) (hlen : L.length ≤ 1000) (s : ByteArray) : Calls Try.prog 21 #[.pointer (some ⟨pw, off, none⟩), .string s] w fun e w' => ∃ v', e = .returned (.tuple #[v', .string (whS s L), .bool (hasS s L)]) ∧ w'.ownsRow w.heap.size 70 2 v' (wo s L).length (ec (wo s L)) ∧ Fr (fun _ => False) w w' := by
  have HP := Lib.hid p
  clear p
  go_enter Try.func21, Try.ntmps21
  go_wp2_with fail
  refine wo_loop HP.out hlen _ rfl rfl rfl rfl rfl rfl rfl ?_
  intro t' w' v' hn p7 p8 p9 O F
  have HO := Lib.hid O
  have HF := Lib.hid F
  clear O F
  obtain ⟨f, hff, rfl⟩ := frame_open hn
  have e7 := hff 7 _ p7
  have e8 := hff 8 _ p8
  have e9 := hff 9 _ p9
  clear hff hn p7 p8 p9
  rw [lit51, e7, e8, e9]
  clear e7 e8 e9
  go_wp2_with fail
  refine bodyPost_ret (results_tmp3 rfl _ _ _) rfl ?_
  exact ⟨v', rfl, HO.out, HF.out⟩
end Go.Proofs.Ytkigdgkklninoaa

/-
  A cache: its memory; New, part, Hits, Drop.
-/
import Derived.Test.YtkigdgkklninoaaLaw
import Derived.Test.YtkigdgkklninoaaKo
import Derived.Test.YtkigdgkklninoaaKw
import Derived.Laws.MakeOwn
import Derived.Handy
namespace Go.Proofs.Ytkigdgkklninoaa
open Go.RowKit
set_option linter.unusedVariables false
set_option linter.unusedSimpArgs false

/-- What is kept, as cells: a name, what is kept by it. -/
def ec (L : List (ByteArray × ByteArray)) : List Value := L.flatMap fun x => [.string x.1, .string x.2]
theorem ec_nil : ec [] = [] := rfl
theorem ec_cons (x : ByteArray × ByteArray) (L : List (ByteArray × ByteArray)) : ec (x :: L) = .string x.1 :: .string x.2 :: ec L := rfl
theorem ec_app (A B : List (ByteArray × ByteArray)) : ec (A ++ B) = ec A ++ ec B := by simp [ec]
theorem ec_len : ∀ L : List (ByteArray × ByteArray), (ec L).length = L.length * 2
  | [] => rfl
  | x :: L => by rw [ec_cons]; simp only [List.length_cons, ec_len L]; omega
theorem ec_get : ∀ (L : List (ByteArray × ByteArray)) (k : Nat) (x : ByteArray × ByteArray), L[k]? = some x → (ec L)[k * 2]? = some (.string x.1) ∧ (ec L)[k * 2 + 1]? = some (.string x.2)
  | y :: L, 0, x, h => by
    obtain rfl : y = x := by simpa using h
    exact ⟨rfl, rfl⟩
  | y :: L, k + 1, x, h => by
    have := ec_get L k x (by simpa using h)
    rw [ec_cons, show (k + 1) * 2 = k * 2 + 1 + 1 by omega, show k * 2 + 1 + 1 + 1 = (k * 2 + 1) + 1 + 1 by omega]
    simpa using this
theorem ec_take (L : List (ByteArray × ByteArray)) (k : Nat) : (ec L).take (k * 2) = ec (L.take k) := by
  induction L generalizing k with
  | nil => simp [ec]
  | cons x L ih =>
    cases k with
    | zero => simp [ec]
    | succ k => rw [ec_cons, show (k + 1) * 2 = k * 2 + 1 + 1 by omega, List.take_succ_cons, List.take_succ_cons, List.take_succ_cons, ec_cons, ih]
theorem ec_drop (L : List (ByteArray × ByteArray)) (k : Nat) : (ec L).drop (k * 2) = ec (L.drop k) := by
  induction L generalizing k with
  | nil => simp [ec]
  | cons x L ih =>
    cases k with
    | zero => simp
    | succ k => rw [ec_cons, show (k + 1) * 2 = k * 2 + 1 + 1 by omega, List.drop_succ_cons, List.drop_succ_cons, List.drop_succ_cons, ih]
theorem ec_one (L : List (ByteArray × ByteArray)) : ∀ u ∈ ec L, u.oneCell' = true := by
  intro u hu
  obtain ⟨x, _, hx⟩ := List.mem_flatMap.1 hu
  simp only [List.mem_cons, List.not_mem_nil, or_false] at hx
  rcases hx with rfl | rfl <;> rfl

/-- A cache: where its parts lie. -/
def CB (w : World) (cb pb n : Nat) (size : Int) : Prop := w.heap[cb]? = some (.cells #[.slice (some ⟨pb, 0, none⟩) n n, .int .i64 size] 62 (0, 0))
/-- A part: what is kept lies in a row of its own. -/
structure Pt (w : World) (base pb off : Nat) (cur : Array Value) (v : Value) (L : List (ByteArray × ByteArray)) (h m : Int) : Prop where
  blk : w.heap[pb]? = some (.cells cur 59 (0, 0))
  kept : cur[off]? = some v
  hits : cur[off + 1]? = some (.int .i64 h)
  miss : cur[off + 2]? = some (.int .i64 m)
  own : w.ownsRow base 54 2 v L.length (ec L)
  apart : v.ownBlock ≠ some pb
theorem CB.fr {w w' : World} {cb pb n : Nat} {size : Int} {S : Nat → Prop} (h : CB w cb pb n size) (F : Fr S w w') (hS : ¬ S cb) : CB w' cb pb n size := (F.block cb (lt_of_block h) hS).trans h
theorem CB.c {w : World} {cb pb n : Nat} {size : Int} (h : CB w cb pb n size) : w.cell? ⟨cb, 0, none⟩ = some (.slice (some ⟨pb, 0, none⟩) n n) ∧ w.cell? ⟨cb, 1, none⟩ = some (.int .i64 size) :=
  ⟨(cell_of_block h 0).trans rfl, (cell_of_block h 1).trans rfl⟩
theorem Pt.fr {w w' : World} {base pb off : Nat} {cur : Array Value} {v : Value} {L : List (ByteArray × ByteArray)} {h m : Int} {S : Nat → Prop} (p : Pt w base pb off cur v L h m) (F : Fr S w w') (hS : ¬ S pb) (hv : ∀ k, v.ownBlock = some k → ¬ S k) : Pt w' base pb off cur v L h m :=
  ⟨(F.block pb (lt_of_block p.blk) hS).trans p.blk, p.kept, p.hits, p.miss, F.own p.own hv, p.apart⟩
theorem Pt.c {w : World} {base pb off : Nat} {cur : Array Value} {v : Value} {L : List (ByteArray × ByteArray)} {h m : Int} (p : Pt w base pb off cur v L h m) :
    w.cell? ⟨pb, off, none⟩ = some v ∧ w.cell? ⟨pb, off + 1, none⟩ = some (.int .i64 h) ∧ w.cell? ⟨pb, off + 2, none⟩ = some (.int .i64 m) ∧ ∀ k, w.frozen? ⟨pb, k, none⟩ = false :=
  ⟨(cell_of_block p.blk _).trans p.kept, (cell_of_block p.blk _).trans p.hits, (cell_of_block p.blk _).trans p.miss, fun k => free_of_block p.blk k⟩
theorem Pt.lt {w : World} {base pb off : Nat} {cur : Array Value} {v : Value} {L : List (ByteArray × ByteArray)} {h m : Int} (p : Pt w base pb off cur v L h m) : off + 2 < cur.size := (Array.getElem?_eq_some_iff.1 p.miss).1
/-- The row is another one. -/
theorem Pt.turn {w w' : World} {base pb off : Nat} {cur : Array Value} {v v' : Value} {L L' : List (ByteArray × ByteArray)} {h m : Int} (p : Pt w base pb off cur v L h m) (hb : w'.heap[pb]? = some (.cells (cur.setIfInBounds off v') 59 (0, 0))) (own : w'.ownsRow base 54 2 v' L'.length (ec L')) (ha : v'.ownBlock ≠ some pb) : Pt w' base pb off (cur.setIfInBounds off v') v' L' h m := by
  have hl := p.lt
  refine ⟨hb, ?_, ?_, ?_, own, ha⟩
  · rw [Array.getElem?_setIfInBounds, if_pos rfl, if_pos (by omega)]
  · rw [Array.getElem?_setIfInBounds, if_neg (by omega)]; exact p.hits
  · rw [Array.getElem?_setIfInBounds, if_neg (by omega)]; exact p.miss
/-- One part more is left untouched. -/
theorem Pt.beside {w w' : World} {base pb off off' : Nat} {cur : Array Value} {v v' : Value} {L : List (ByteArray × ByteArray)} {h m : Int} {S : Nat → Prop} (p : Pt w base pb off cur v L h m) (cur' : Array Value) (hb : w'.heap[pb]? = some (.cells cur' 59 (0, 0))) (hc : ∀ j, off ≤ j → j < off + 3 → cur'[j]? = cur[j]?) (F : Fr S w w') (hv : ∀ k, v.ownBlock = some k → ¬ S k) : Pt w' base pb off cur' v L h m :=
  ⟨hb, (hc _ (by omega) (by omega)).trans p.kept, (hc _ (by omega) (by omega)).trans p.hits, (hc _ (by omega) (by omega)).trans p.miss, F.own p.own hv, p.apart⟩

set_option maxRecDepth 100000 in
theorem mk_parts (n : Nat) (h : n ≤ 8) : ∃ Z : Array Value, (∀ j, j < n → Z[j * 3]? = some (.slice none 0 0) ∧ Z[j * 3 + 1]? = some (.int .i64 0) ∧ Z[j * 3 + 2]? = some (.int .i64 0)) ∧ Z.size = n * 3 ∧ ∀ W : World, (Instr.makeSlice 60 (.int .i64 (n : Int)) (.int .i64 (n : Int))).run Try.prog W = .ok (.slice (some ⟨W.heap.size, 0, none⟩) n n) (W.alloc (.cells Z 59)) := by
  have hi : ∃ i, Try.prog.info? 59 = some i ∧ i.zero = some (.agg #[.slice none 0 0, .int .i64 0, .int .i64 0]) ∧ i.size = 3 ∧ i.bytes = 40 := ⟨_, rfl, by kernel_rfl, by kernel_rfl, by kernel_rfl⟩
  obtain ⟨i, h1, h2, h3, h4⟩ := hi
  refine ⟨madeCells (Value.agg #[.slice none 0 0, .int .i64 0, .int .i64 0]).cells (n * 3), ?_, ?_, fun W => ?_⟩
  · intro j hj
    have e : ∀ k, k < n * 3 → (madeCells (Value.agg #[.slice none 0 0, .int .i64 0, .int .i64 0]).cells (n * 3))[k]? = some ((#[Value.slice none 0 0, .int .i64 0, .int .i64 0])[k % 3]!) := fun k hk => by
      unfold madeCells
      simp [Value.cells, hk]
    refine ⟨?_, ?_, ?_⟩
    · rw [e _ (by omega), show j * 3 % 3 = 0 by omega]; rfl
    · rw [e _ (by omega), show (j * 3 + 1) % 3 = 1 by omega]; rfl
    · rw [e _ (by omega), show (j * 3 + 2) % 3 = 2 by omega]; rfl
  · rw [size_madeCells]
  · have := run_makeSlice (P := Try.prog) (w := W) 60 59 i _ Try.underlying60 h1 h2 .i64 .i64 (n : Int) (n : Int) (by omega) (by omega) (by rw [h3]; simp; omega) (by rw [h4]; omega) (by omega)
    rw [h3] at this
    simpa using this
set_option maxRecDepth 100000 in
set_option maxHeartbeats 1600000 in
theorem new_ok (n size : Nat) (h1 : 1 ≤ n) (h2 : n ≤ 8) (s1 : 1 ≤ size) (s2 : size ≤ 256) (w : World) : Calls Try.prog 13 #[.int .i64 (n : Int), .int .i64 (size : Int)] w fun e w' => ∃ cb pb cur, e = .returned (.tuple #[.pointer (some ⟨cb, 0, none⟩), .int .i64 0]) ∧ CB w' cb pb n (size : Int) ∧ cb ≠ pb ∧ w.heap.size ≤ cb ∧ w.heap.size ≤ pb ∧ cur.size = n * 3 ∧ (∀ i, i < n → Pt w' w.heap.size pb (i * 3) cur (.slice none 0 0) [] 0 0) ∧ Fr (fun _ => False) w w' := by
  obtain ⟨Z, hZ, hZs, hmk⟩ := mk_parts n h2
  have t1 : decide ((n : Int) < 1) = false := by simp; omega
  have t2 : decide ((8 : Int) < (n : Int)) = false := by simp; omega
  have t3 : decide ((size : Int) < 1) = false := by simp; omega
  have t4 : decide ((256 : Int) < (size : Int)) = false := by simp; omega
  have HZ := Lib.hid hZ
  have HZs := Lib.hid hZs
  clear hZ hZs h1 h2 s1 s2
  go_enter Try.func13, Try.ntmps13
  go_wp2_with fail
  go_returns
  have hp : ((w.alloc (.cells Z 59)).alloc (.cells #[.slice (some ⟨w.heap.size, 0, none⟩) n n, .int .i64 (size : Int)] 62)).heap[w.heap.size]? = some (.cells Z 59 (0, 0)) := by
    rw [Below.heap_alloc _ _ _ (by simp), heap_alloc_new]
  have hc := heap_alloc_new (w.alloc (.cells Z 59)) (.cells #[.slice (some ⟨w.heap.size, 0, none⟩) n n, .int .i64 (size : Int)] 62)
  rw [show (w.alloc (.cells Z 59)).heap.size = w.heap.size + 1 by simp] at hc
  exact ⟨w.heap.size + 1, w.heap.size, Z, rfl, hc, by omega, by omega, Nat.le_refl _, HZs.out, fun i hi => ⟨hp, (HZ.out i hi).1, (HZ.out i hi).2.1, (HZ.out i hi).2.2, World.ownsRow_nil _ _ _ _, by simp [Value.ownBlock]⟩, ((Fr.refl _ w).alloc _).alloc _⟩
set_option maxRecDepth 100000 in
set_option maxHeartbeats 1600000 in
theorem part_any (cb pb n i : Nat) (size : Int) (hi : i < n) (w : World) (h : CB w cb pb n size) : Calls Try.prog 17 #[.pointer (some ⟨cb, 0, none⟩), .int .i64 (i : Int)] w fun e w' => e = .returned (.pointer (some ⟨pb, i * 3, none⟩)) ∧ w = w' := by
  obtain ⟨c0, _⟩ := h.c
  have t1 : decide ((i : Int) < 0) = false := by simp
  have t2 : decide ((n : Int) ≤ (i : Int)) = false := by simp; omega
  have q1 : (i : Int) < (n : Int) := by omega
  clear h
  go_enter Try.func17, Try.ntmps17
  go_wp2_with fail
  go_ret
  exact ⟨rfl, rfl⟩
set_option maxRecDepth 100000 in
set_option maxHeartbeats 1600000 in
theorem part_no (cb pb n : Nat) (i size : Int) (hi : i < 0 ∨ (n : Int) ≤ i) (w : World) (h : CB w cb pb n size) : Calls Try.prog 17 #[.pointer (some ⟨cb, 0, none⟩), .int .i64 i] w fun e w' => e = .returned (.pointer none) ∧ w = w' := by
  obtain ⟨c0, _⟩ := h.c
  clear h
  by_cases h0 : i < 0
  · have t1 : decide (i < 0) = true := by simpa using h0
    clear h0 hi
    go_enter Try.func17, Try.ntmps17
    go_wp2_with fail
    go_ret
    exact ⟨rfl, rfl⟩
  · have t1 : decide (i < 0) = false := by simpa using h0
    have t2 : decide ((n : Int) ≤ i) = true := by simp; omega
    clear h0 hi
    go_enter Try.func17, Try.ntmps17
    go_wp2_with fail
    go_ret
    exact ⟨rfl, rfl⟩
set_option maxRecDepth 100000 in
set_option maxHeartbeats 1600000 in
theorem hits_any (cb pb n i : Nat) (size : Int) (hi : i < n) {base : Nat} {cur : Array Value} {v : Value} {L : List (ByteArray × ByteArray)} {h m : Int} (w : World) (hc : CB w cb pb n size) (hp : Pt w base pb (i * 3) cur v L h m) : Calls Try.prog 8 #[.pointer (some ⟨cb, 0, none⟩), .int .i64 (i : Int)] w fun e w' => e = .returned (.tuple #[.int .i64 h, .int .i64 m]) ∧ Fr (fun _ => False) w w' := by
  have HP := Lib.hid (part_any cb pb n i size hi w hc)
  have c1 : ∀ y : Wd w, y.w.cell? ⟨pb, i * 3 + 1, none⟩ = some (.int .i64 h) := fun y => (hp.fr y.h (fun h => h) (fun _ _ h => h)).c.2.1
  have c2 : ∀ y : Wd w, y.w.cell? ⟨pb, i * 3 + 2, none⟩ = some (.int .i64 m) := fun y => (hp.fr y.h (fun h => h) (fun _ _ h => h)).c.2.2.1
  clear hc hp hi
  go_enter Try.func8, Try.ntmps8
  go_wp2_with fail
  refine HP.out.mono ?_
  rintro e w1 ⟨rfl, rfl⟩
  go_wp2_with fail
  refine wp_region_keep (by kernel_rfl) (by kernel_rfl) ?_
  repeat (any_goals (first | go_big_quiet_step (fail) | quiet_step (fail)))
  refine wpQuiet_nil ?_
  intro _ hwz
  obtain ⟨y, rfl⟩ := hwz
  have HF := Lib.hid y.h
  go_wp2_with fail
  go_returns
  exact ⟨rfl, HF.out⟩
set_option maxRecDepth 100000 in
set_option maxHeartbeats 1600000 in
theorem drop_any (cb pb n i : Nat) (size : Int) (hi : i < n) {base : Nat} {cur : Array Value} {v : Value} {L : List (ByteArray × ByteArray)} {h m : Int} (w : World) (hc : CB w cb pb n size) (hp : Pt w base pb (i * 3) cur v L h m) : Calls Try.prog 11 #[.pointer (some ⟨cb, 0, none⟩), .int .i64 (i : Int)] w fun e w' => e = .returned (.int .i64 0) ∧ Pt w' base pb (i * 3) (cur.setIfInBounds (i * 3) (.slice none 0 0)) (.slice none 0 0) [] h m ∧ Fr (fun k => k = pb) w w' := by
  have HP := Lib.hid (part_any cb pb n i size hi w hc)
  obtain ⟨c0, _, _, f0⟩ := hp.c
  have f1 := f0 (i * 3)
  have HQ := Lib.hid hp
  clear hc hp hi f0
  go_enter Try.func11, Try.ntmps11
  go_wp2_with fail
  refine HP.out.mono ?_
  rintro e w1 ⟨rfl, rfl⟩
  go_wp2_with fail
  go_ret
  exact ⟨rfl, HQ.out.turn (block_setCell HQ.out.blk _ _) (World.ownsRow_nil _ _ _ _) (by simp [Value.ownBlock]), Fr.setCell (S := fun k => k = pb) (Fr.refl _ w) (Or.inl rfl) _⟩
end Go.Proofs.Ytkigdgkklninoaa

/-
  Names: a range over what is kept, from the end.
-/
import Derived.RangeFuncNested
import Derived.RangeFuncBound
import Derived.RangeFuncCalls
import Derived.RangeFuncLeaves
import Derived.RangeFuncBox
import Derived.Shelf.Abstract
import Derived.Shelf.RegionOpen
import Derived.WalkKit
import Derived.OwnWalkIn
import Derived.TacticsInMore
import Derived.LoopNIn
import Derived.LoopIn
import Derived.Maps.AppendAt
import Derived.Maps.OwnIn
import Derived.Test.YtkigdgkklninoaaWc
namespace Go.Proofs.Ytkigdgkklninoaa
open Go.RowKit Go.Shelf
set_option linter.unusedVariables false
set_option linter.unusedSimpArgs false
attribute [local go_sem] Oper.semAt_some
/-- What a round keeps: all that lay ahead of the loop, but for the block of the names. -/
def KB (n₀ B : Nat) (W W' : World) : Prop := ∀ b, b < n₀ → b ≠ B → W'.heap[b]? = W.heap[b]?
theorem KB.t {n₀ B : Nat} {X Y Z : World} (h : KB n₀ B X Y) (k : KB n₀ B Y Z) : KB n₀ B X Z := fun b hb hB => (k b hb hB).trans (h b hb hB)
theorem KB.b {n₀ B : Nat} {w : World} (hn : n₀ ≤ w.heap.size) (W : World) (l : Nat) (o o' : Obj) (hl : w.heap.size ≤ l) (h : W.heap[l]? = some o) (_ : o.isCells = false) (_ : o.isWalk = false) : KB n₀ B W (W.putObj l o') := fun b hb _ => World.putObj_heap_other (by omega)
abbrev En := Nat × (ByteArray × ByteArray)
/-- What has come when k rounds are over. -/
def bw (L : List (ByteArray × ByteArray)) (k : Nat) : List En := (List.range k).map fun j => (L.length - 1 - j, (L[L.length - 1 - j]?).getD (⟨#[]⟩, ⟨#[]⟩))
theorem bw_succ (L : List (ByteArray × ByteArray)) (k : Nat) : bw L (k + 1) = bw L k ++ [(L.length - 1 - k, (L[L.length - 1 - k]?).getD (⟨#[]⟩, ⟨#[]⟩))] := by simp [bw, List.range_succ]
theorem bw_len (L : List (ByteArray × ByteArray)) (k : Nat) : (bw L k).length = k := by simp [bw]
theorem bw_all (L : List (ByteArray × ByteArray)) : (bw L L.length).map (fun x => Value.string x.2.1) = L.reverse.map fun x => Value.string x.1 := by
  apply List.ext_getElem
  · simp [bw]
  · intro i h1 h2
    simp [bw] at h1
    simp [bw, show L.length - 1 - i < L.length by omega]
set_option maxRecDepth 100000 in
set_option maxHeartbeats 2000000 in
theorem back1_in (F : Fence) (n : Nat) (h7 : F.fn 22) (hro : F.round = none) (hn : 1 ≤ n) (l Bs n₀ B g len cap : Nat) (L : List (ByteArray × ByteArray)) (hL : L.length = len) (hlm : len ≤ maxLen) (hb : g < n₀) (hBs0 : Bs < n₀) (hgB : g ≠ B) (hBB : Bs ≠ B) (J Jx : List En → World → Prop)
    (hY : ∀ pre x W, J pre W → pre.length < len → YieldAt F (n - 1) Try.prog l #[.int .i64 ((x : En).1 : Int), .agg #[.string x.2.1, .string x.2.2]] W fun e W' =>
      (e = .returned (.bool true) ∧ J (pre ++ [x]) W' ∧ KB n₀ B W W') ∨ (e = .returned (.bool false) ∧ Jx (pre ++ [x]) W'))
    (W : World) (hBs : W.cell? ⟨Bs, 0, none⟩ = some (.slice (some ⟨g, 0, none⟩) len cap)) (hc : ∀ j x, L[j]? = some x → W.cell? ⟨g, j * 2, none⟩ = some (.string x.1) ∧ W.cell? ⟨g, j * 2 + 1, none⟩ = some (.string x.2)) (h0 : J [] W) :
    CallsIn F n Try.prog 22 #[.func (.yield l) #[] #[], .pointer (some ⟨Bs, 0, none⟩)] W fun e W' => (∃ v, e = .returned v) ∧
      ((∃ ys, ys = bw L len ∧ J ys W') ∨ (∃ pre, (∃ k, k ≤ len ∧ pre = bw L k) ∧ Jx pre W')) := by
  have kc : ∀ wr : World, KB n₀ B W wr → wr.cell? ⟨Bs, 0, none⟩ = some (.slice (some ⟨g, 0, none⟩) len cap) ∧ ∀ j x, L[j]? = some x → wr.cell? ⟨g, j * 2, none⟩ = some (.string x.1) ∧ wr.cell? ⟨g, j * 2 + 1, none⟩ = some (.string x.2) := fun wr h =>
    ⟨(World.cell?_of_block (h Bs hBs0 hBB)).trans hBs, fun j x hx => ⟨(World.cell?_of_block (a := ⟨g, j * 2, none⟩) (h g hb hgB)).trans (hc j x hx).1, (World.cell?_of_block (a := ⟨g, j * 2 + 1, none⟩) (h g hb hgB)).trans (hc j x hx).2⟩⟩
  have HKC := Lib.hid kc
  have w0 : wrap64 ((len : Int) - 1) = (len : Int) - 1 := IntWalk.wrap64_in _ (by simp only [maxLen] at hlm; omega)
  have W0 := Lib.hid w0
  have HC := Lib.hid hc
  have hlm2 : len ≤ 9223372036854775807 := by simp only [maxLen] at hlm; omega
  clear kc hc hlm
  refine callsIn_of_wp Try.func22 rfl h7 ?_ hro
  simp only [Try.ntmps22, List.size_toArray, List.length_cons, List.length_nil, Nat.reduceAdd, Nat.reduceSub, Array.replicate_succ, Array.replicate_zero, List.push_toArray, List.append_toArray, List.nil_append, List.cons_append]
  gi_wp2
  gi_loopw [3] (fun i wr => ∃ k : Nat, k ≤ len ∧ i = .int .i64 ((len : Int) - 1 - (k : Int)) ∧ J (bw L k) wr ∧ KB n₀ B W wr)
    (fun i _ => (intOf i + 1).toNat)
  case atStart => exact ⟨0, Nat.zero_le _, by simp [w0], h0, fun _ _ _ => rfl⟩
  case round =>
    obtain ⟨k, hk, rfl, hJs, hnx⟩ := hrel
    clear w0
    have hnx2 := HKC.out wr hnx
    obtain ⟨hs, hcs⟩ := hnx2
    by_cases hlt : k < len
    · obtain ⟨j, hj⟩ : ∃ j : Nat, j = len - 1 - k := ⟨_, rfl⟩
      have hji : (len : Int) - 1 - (k : Int) = (j : Int) := by omega
      rw [hji]
      obtain ⟨x, hx⟩ : ∃ x, L[j]? = some x := ⟨_, List.getElem?_eq_getElem (by omega)⟩
      obtain ⟨fn, tmps, assign, body, hy, hR⟩ := hY _ (j, x) wr hJs (by rw [bw_len]; exact hlt)
      obtain ⟨c0, c1⟩ := hcs j x hx
      have q0 : (0 : Int) ≤ (j : Int) := Int.natCast_nonneg j
      have q1 : (j : Int) < (len : Int) := by omega
      have w2 : wrap64 ((j : Int) - 1) = (j : Int) - 1 := IntWalk.wrap64_in _ (by omega)
      have HX := Lib.hid (show bw L (k + 1) = bw L k ++ [(j, x)] from by rw [bw_succ, hL, ← hj, hx]; rfl)
      dsimp only at hy
      have HJ := Lib.hid hj
      clear hji hcs hj
      gi_wp2
      refine hR.mono ?_
      rintro e W3 (⟨rfl, hJ3, hk3⟩ | ⟨rfl, hJx3⟩)
      · gi_wp2
        go_roundw
        case rel =>
          have hJ := HJ.out
          have e : (j : Int) - 1 = (len : Int) - 1 - ((k + 1 : Nat) : Int) := by omega
          refine ⟨k + 1, by omega, ?_, by rw [HX.out]; exact hJ3, hnx.t hk3⟩
          first
            | rw [w2, e]
            | rw [e]
        case measure =>
          have hJ := HJ.out
          have e1 : intOf (Value.int .i64 ((j : Int) - 1)) = (j : Int) - 1 := rfl
          have e2 : intOf (Value.int .i64 (j : Int)) = (j : Int) := rfl
          first
            | (rw [w2, e1, e2]; omega)
            | (rw [e1, e2]; omega)
      · gi_wp2
        refine bodyPost_ret (results_none rfl _ _ _) rfl ?_
        exact ⟨⟨_, rfl⟩, .inr ⟨_, ⟨k + 1, by omega, HX.out.symm⟩, hJx3⟩⟩
    · obtain rfl : k = len := by omega
      have hm : (k : Int) - 1 - (k : Int) = -1 := by omega
      rw [hm]
      gi_wp2
      go_end0
      exact ⟨⟨_, rfl⟩, .inl ⟨_, rfl, hJs⟩⟩
set_option maxHeartbeats 1000000 in
theorem back_in (F : Fence) (n : Nat) (h5 : F.fn 20) (hro : F.round = none) (a : Option Addr) (len cap : Nat) (w : World) :
    CallsIn F n Try.prog 20 #[.slice a len cap] w fun e w' => e = .returned (.func (.func 22) #[] #[.pointer (some ⟨w.heap.size, 0, none⟩)]) ∧ w' = w.alloc (.cells #[.slice a len cap] 57) := by
  refine callsIn_of_wp Try.func20 rfl h5 ?_ hro
  simp only [Try.ntmps20, List.size_toArray, List.length_cons, List.length_nil, Nat.reduceAdd, Nat.reduceSub, Array.replicate_succ, Array.replicate_zero, List.push_toArray, List.append_toArray, List.nil_append, List.cons_append]
  gi_wp2
  go_ret
  exact ⟨rfl, rfl⟩
set_option maxRecDepth 100000 in
set_option maxHeartbeats 1000000 in
theorem back1_nil_in (F : Fence) (n : Nat) (h7 : F.fn 22) (hro : F.round = none) (l Bs : Nat) (J : List En → World → Prop) (W : World) (hBs : W.cell? ⟨Bs, 0, none⟩ = some (.slice none 0 0)) (h0 : J [] W) :
    CallsIn F n Try.prog 22 #[.func (.yield l) #[] #[], .pointer (some ⟨Bs, 0, none⟩)] W fun e W' => (∃ v, e = .returned v) ∧ J [] W' := by
  refine callsIn_of_wp Try.func22 rfl h7 ?_ hro
  simp only [Try.ntmps22, List.size_toArray, List.length_cons, List.length_nil, Nat.reduceAdd, Nat.reduceSub, Array.replicate_succ, Array.replicate_zero, List.push_toArray, List.append_toArray, List.nil_append, List.cons_append]
  gi_wp2
  gi_loopw [3] (fun i wr => i = .int .i64 (-1) ∧ J [] wr) (fun _ _ => 0)
  case atStart => exact ⟨rfl, h0⟩
  case round =>
    obtain ⟨rfl, hJs⟩ := hrel
    gi_wp2
    go_end0
    exact ⟨⟨_, rfl⟩, hJs⟩
/-- The slice value holds these. -/
def Ents (n₀ B : Nat) (W : World) (sv : Value) (L : List (ByteArray × ByteArray)) : Prop :=
  (sv = .slice none 0 0 ∧ L = []) ∨ ∃ g cap, sv = .slice (some ⟨g, 0, none⟩) L.length cap ∧ g < n₀ ∧ g ≠ B ∧ L.length ≤ maxLen ∧ ∀ j x, L[j]? = some x → W.cell? ⟨g, j * 2, none⟩ = some (.string x.1) ∧ W.cell? ⟨g, j * 2 + 1, none⟩ = some (.string x.2)
theorem Ents.below {n₀ B : Nat} {X Y : World} (h : Below n₀ X Y) {sv : Value} {L : List (ByteArray × ByteArray)} : Ents n₀ B X sv L → Ents n₀ B Y sv L
  | .inl e => .inl e
  | .inr ⟨g, cap, e, hb, hB, hm, hc⟩ => .inr ⟨g, cap, e, hb, hB, hm, fun j x hj => ⟨(h.cell (p := ⟨g, j * 2, none⟩) hb).trans (hc j x hj).1, (h.cell (p := ⟨g, j * 2 + 1, none⟩) hb).trans (hc j x hj).2⟩⟩
theorem back_stops (F : Fence) (n : Nat) (h7 : F.fn 22) (hro : F.round = none) (hn : 1 ≤ n) (Bs n₀ B : Nat) (sv : Value) (L : List (ByteArray × ByteArray)) (w : World) (hBs : Bs < n₀) (hBB : Bs ≠ B) (hn₀ : n₀ ≤ w.heap.size)
    (hc : w.cell? ⟨Bs, 0, none⟩ = some sv) (hI : Ents n₀ B w sv L) :
    SeqStopsK F n Try.prog 22 #[.pointer (some ⟨Bs, 0, none⟩)] (fun x : En => #[Value.int .i64 (x.1 : Int), Value.agg #[.string x.2.1, .string x.2.2]]) (KB n₀ B) (fun ys => ys = bw L L.length) (fun pre => ∃ k, k ≤ L.length ∧ pre = bw L k) L.length w := fun l J Jx W hW _ _ hY h0 => by
  have hc' := (hW.cell (p := ⟨Bs, 0, none⟩) (by show Bs < _; omega)).trans hc
  rcases hI.below (hW.mono hn₀) with ⟨rfl, rfl⟩ | ⟨g, cap, rfl, hb, hgB, hm, hcs⟩
  · exact (back1_nil_in F n h7 hro l Bs J W hc' h0).mono fun e W' ⟨he, hj⟩ => ⟨he, .inl ⟨_, rfl, hj⟩⟩
  · exact back1_in F n h7 hro hn l Bs n₀ B g L.length cap L rfl hm hb hBs hgB hBB J Jx hY W hc' hcs h0
theorem sInfo : (Try.prog.info? 9).map (fun i => (i.zero, i.size, i.bytes)) = some (some (.string ⟨#[]⟩), 1, 16) := by kernel_rfl
set_option maxRecDepth 100000 in
set_option maxHeartbeats 4000000 in
theorem names_in (cb pb n i : Nat) (size : Int) (hi : i < n) {base : Nat} {cur : Array Value} {v : Value} {L : List (ByteArray × ByteArray)} {h m : Int} (w : World) (hc : CB w cb pb n size) (hp : Pt w base pb (i * 3) cur v L h m) (hlen : L.length ≤ 1000) : CallsIn Fence.wide 5 Try.prog 12 #[.pointer (some ⟨cb, 0, none⟩), .int .i64 (i : Int)] w fun e W' => ∃ v, e = .returned v ∧ W'.ownsRow w.heap.size 9 1 v L.length (L.reverse.map fun x => Value.string x.1) ∧ Below w.heap.size w W' := by
  obtain ⟨i0, hi0, hz0, hz1, hz2⟩ := info_parts sInfo
  have HP := Lib.hid (part_any cb pb n i size hi w hc)
  obtain ⟨a1, c1, ev⟩ : ∃ a c, v = .slice a L.length c := by
    rcases hp.own.2 with ⟨rfl, h0⟩ | ⟨g, cap, gc, rfl, _⟩
    · exact ⟨none, 0, by rw [h0]⟩
    · exact ⟨_, _, rfl⟩
  subst ev
  have A1 := (Fr.refl (fun _ => False) w).alloc (.cells #[.slice none 0 0] 33)
  have P1 := hp.fr A1 (fun h => h) (fun _ _ h => h)
  have c0 := P1.c.1
  have HQ := Lib.hid hp
  clear hc hp A1 P1
  refine callsIn_of_wp_marks Try.func12 rfl trivial ?_ rfl
  simp only [Try.ntmps12, List.size_toArray, List.length_cons, List.length_nil, Nat.reduceAdd, Nat.reduceSub, Array.replicate_succ, Array.replicate_zero, List.push_toArray, List.append_toArray, List.nil_append, List.cons_append]
  gi_wp2_with (first | (refine ⟨trivial, ?_⟩; gi_at_call 17; refine (callsIn_wide.2 HP.out).mono ?_; rintro e w' ⟨rfl, rfl⟩) | (refine ⟨trivial, ?_⟩; gi_at_call 20; refine (back_in Fence.wide 4 trivial rfl _ _ _ _).mono ?_; rintro e w' ⟨rfl, rfl⟩))
  have bN := (Boxed.new w 33 (.slice none 0 0)).alloc (.cells #[.slice a1 L.length c1] 57)
  have bS := Boxed.new (w.alloc (.cells #[.slice none 0 0] 33)) 57 (.slice a1 L.length c1)
  rw [World.size_alloc] at bS
  have hB0 : Below w.heap.size w ((w.alloc (.cells #[.slice none 0 0] 33)).alloc (.cells #[.slice a1 L.length c1] 57)) := ((Below.refl _ w).alloc (Nat.le_refl _) _).alloc (by simp) _
  have hsz : ((w.alloc (.cells #[.slice none 0 0] 33)).alloc (.cells #[.slice a1 L.length c1] 57)).heap.size = w.heap.size + 2 := by simp
  obtain ⟨W0, hW0⟩ : ∃ W0, (w.alloc (.cells #[.slice none 0 0] 33)).alloc (.cells #[.slice a1 L.length c1] 57) = W0 := ⟨_, rfl⟩
  rw [hW0] at bN bS hB0 hsz ⊢
  clear hW0 c0
  have hEn : Ents (w.heap.size + 2) w.heap.size W0 (.slice a1 L.length c1) L := by
    rcases HQ.out.own.2 with ⟨e, h0⟩ | ⟨g, cap, gc, e, hbg, hg, hnc, hcm, hcs, htk⟩
    · exact .inl ⟨e, List.eq_nil_of_length_eq_zero h0⟩
    · have hgl := lt_of_block hg
      have hg0 : W0.heap[g]? = some _ := (hB0.block g hgl).trans hg
      exact .inr ⟨g, cap, e, by omega, by omega, by omega, fun j x hx => ent_cells hg0 rfl hnc hcs htk hx⟩
  refine wpIn_rangeFunc_ownH (w := W0) rfl (by decide) (gf := 22) (lb := #[.pointer (some ⟨w.heap.size + 1, 0, none⟩)]) rfl trivial (enters_of Try.func22 (by kernel_rfl) rfl)
    (back_stops Fence.wide 4 trivial rfl (by decide) (w.heap.size + 1) (w.heap.size + 2) w.heap.size _ L W0 (by omega) (by omega) (by omega) bS.cell hEn) KB.t (KB.b (by omega)) (Below.refl _ _) (fun _ => rfl)
    (fun pre W => (∃ v, Boxed W w.heap.size 33 v ∧ W.ownsRow w.heap.size 9 1 v pre.length (pre.map fun x => Value.string x.2.1) ∧ (∀ k, v.ownBlock = some k → w.heap.size + 2 ≤ k)) ∧ (Below w.heap.size w W ∧ w.heap.size + 2 ≤ W.heap.size))
    (fun _ _ _ => False)
    (OwnFrom.and (Own.from (holdsRow_own w.heap.size w.heap.size 33 9 1 (fun (pre : List En) => pre.length) (fun (pre : List En) => pre.map fun x => Value.string x.2.1) (fun (pre : List En) v => ∀ k, v.ownBlock = some k → w.heap.size + 2 ≤ k)) _) (OwnFrom.and (ownFrom_below (Nat.le_refl _) (by omega)) (fun s X Y row hs hg hr => Nat.le_trans hs hg.size)))
    (fun _ _ _ _ _ hs _ _ => hs)
    ⟨⟨_, bN, World.ownsRow_nil _ _ _ _, by simp [Value.ownBlock]⟩, hB0, by omega⟩
    (fun x a' W => ∃ Ex, w.heap.size + 2 ≤ Ex ∧ W.heap[Ex]? = some (.cells #[.string x.2.1, .string x.2.2] 54 (0, 0)) ∧ a' = { tmps := #[.pointer (some ⟨cb, 0, none⟩), .int .i64 (i : Int), undef, undef, .slice none 0 0, .pointer (some ⟨pb, i * 3, none⟩), .pointer (some ⟨w.heap.size, 0, none⟩), undef, .pointer (some ⟨Ex, 0, none⟩), .pointer (some ⟨cb, 0, none⟩), .int .i64 (i : Int), .pointer (some ⟨pb, i * 3, none⟩), .pointer (some ⟨pb, i * 3, none⟩), .bool false, .pointer (some ⟨pb, i * 3, none⟩), .pointer (some ⟨pb, i * 3, none⟩), .pointer (some ⟨pb, i * 3, none⟩), .slice a1 L.length c1, .func (.func 22) #[] #[.pointer (some ⟨w.heap.size + 1, 0, none⟩)], .int .i64 (x.1 : Int), .agg #[.string x.2.1, .string x.2.2], undef, undef, undef, undef, undef, undef], defers := [] })
    (fun x a' _ X Y row hs hg hr => by
      obtain ⟨Ex, h1, h2, h3⟩ := hs
      exact ⟨Ex, h1, (hg.block Ex (lt_of_block h2) (fun e => by obtain ⟨_, o, ho, hc⟩ := hr Ex e.symm; rw [h2] at ho; cases ho; cases hc)).trans h2, h3⟩)
    ?assign ?body ?done ?stop
  case assign =>
    rintro l pre x W K ⟨⟨v, hv, hrow, hk⟩, hB, hs⟩ hK
    gi_wp2
    exact hK _ _ ((KeepsOthers.alloc _ _).from _) (fun b hb _ => Below.heap_alloc _ _ _ (by omega)) ⟨⟨v, hv.alloc _, hrow.alloc _, hk⟩, hB.alloc hB.size _, by simp; omega⟩ ⟨W.heap.size, hs, heap_alloc_new W _, rfl⟩
  case body =>
    rintro l pre x a' W hl ⟨r, hr⟩ ⟨⟨v, hv, hrow, hk⟩, hB, hs⟩ ⟨Ex, hEx, hE, rfl⟩ hlt
    have hc := hv.cell
    have e0 : W.cell? ⟨Ex, 0, none⟩ = some (.string x.2.1) := (cell_of_block hE 0).trans rfl
    have hsz1 := hB.size
    gi_wp2_with (gi_at_builtin; refine Hid.out ?_)
    refine Lib.hid ?_
    refine wpListIn_append_own_at _ rfl _ _ 33 rfl w.heap.size 9 i0 (.string ⟨#[]⟩) 1 16 Try.underlying33 hi0 hz0 hz1 hz2 rfl (by decide) _ _ _ rfl (hrow.alloc _) ⟨W.heap.size, 0, none⟩ 1 1 [.string x.2.1] rfl rfl (cell_one_new _ _ _) (by simp [Value.oneCell']) (by unfold maxLen; omega) (by omega) (by simp; omega) ?_
    intro v' w1 hown' hgrow _ hblk
    obtain ⟨hv1, hv2, hr2, hk2, hb2⟩ := hv.appended (by decide) hrow hsz1 (Nat.le_refl _) hown' hgrow
    have hkb : KB (w.heap.size + 2) w.heap.size W (w1.setCell ⟨w.heap.size, 0, none⟩ v') := fun b hb hbB =>
      (Below.heap_setCell _ _ _ _ hbB).trans ((hgrow.block b (by simp; omega) (fun e => by have := hk b e.symm; omega)).trans (Below.heap_alloc _ _ _ (by omega)))
    have hk' : ∀ k, v'.ownBlock = some k → w.heap.size + 2 ≤ k := fun k e => by
      have hblk2 : v'.ownBlock = v.ownBlock ∨ _ := hblk
      rcases hblk2 with e1 | e1
      · exact hk k (by rw [← e1]; exact e)
      · rw [e1] at e; have := Option.some.inj e; simp at this; omega
    have hs' : w.heap.size + 2 ≤ (w1.setCell ⟨w.heap.size, 0, none⟩ v').heap.size := by have := hgrow.size; simp [World.setCell] at this ⊢; omega
    obtain ⟨g', cap', rfl⟩ := ownsRow_succ hown'
    have hc1 := hv1.cell
    have hf1 := hv1.frozen
    (try simp only [Act.put, List.setIfInBounds_toArray, List.set_cons_zero, List.set_cons_succ])
    gi_wp2
    exact ⟨hk2.from _, hkb, ⟨_, hv2, by rw [List.map_append, List.length_append]; exact hr2, hk'⟩, hB.trans hb2, hs'⟩
  case done =>
    rintro D ys W hD rfl ⟨⟨v, hv, hrow, hk⟩, hB, hs⟩ hK
    have hc := hv.cell
    rw [bw_all, bw_len] at hrow
    gi_wp2
    refine ⟨by simp, .inl ⟨_, _, rfl, run_takeDeferred hK, ?_⟩⟩
    exact ⟨_, results_tmp rfl _ _ _, v, rfl, ownsRow_putObj hrow _ hK rfl, hB.trans (belowK_b (w := w) (Nat.le_refl _) W D _ _ (by omega) hK rfl rfl)⟩
  case stop =>
    rintro D c pre W _ _ h _
    exact h.elim
end Go.Proofs.Ytkigdgkklninoaa

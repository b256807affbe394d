/-
  CacheFull.
-/
import Derived.Test.YtkigdgkklninoaaWj
namespace Go.Proofs.Ytkigdgkklninoaa
open Go.RowKit
set_option linter.unusedVariables false
set_option linter.unusedSimpArgs false
set_option maxRecDepth 100000 in
theorem lit63 (f : Nat → Value) : ((List.range 63).map f).toArray = (f 0 :: f 1 :: f 2 :: f 3 :: f 4 :: f 5 :: f 6 :: f 7 :: f 8 :: f 9 :: f 10 :: f 11 :: f 12 :: f 13 :: f 14 :: f 15 :: f 16 :: f 17 :: f 18 :: f 19 :: f 20 :: f 21 :: f 22 :: f 23 :: f 24 :: f 25 :: f 26 :: f 27 :: f 28 :: f 29 :: f 30 :: f 31 :: f 32 :: f 33 :: f 34 :: f 35 :: f 36 :: f 37 :: f 38 :: f 39 :: f 40 :: f 41 :: f 42 :: f 43 :: f 44 :: f 45 :: f 46 :: f 47 :: f 48 :: f 49 :: f 50 :: f 51 :: f 52 :: f 53 :: f 54 :: f 55 :: f 56 :: f 57 :: f 58 :: f 59 :: f 60 :: f 61 :: f 62 :: []).toArray := by kernel_rfl
/-- Between the rounds. -/
def Fu (w0 w : World) (cb sz : Nat) : Prop := ∃ pb cur f, CS w w0.heap.size cb pb 2 sz cur f 0 ∧ (f 0).L = [] ∧ Fr (fun _ => False) w0 w
theorem row_first {w : World} {base : Nat} {v : Value} {A : List (ByteArray × ByteArray)} {s t : ByteArray} (h : w.ownsRow base 9 1 v (A ++ [(s, t)]).length ((A ++ [(s, t)]).reverse.map fun x => Value.string x.1)) : ∃ g c gc, v = .slice (some ⟨g, 0, none⟩) (A.length + 1) c ∧ w.heap[g]? = some (.cells gc 9 (0, 0)) ∧ gc[0]? = some (.string s) := by
  have hl : (A ++ [(s, t)]).length = A.length + 1 := by simp
  rcases h.2 with ⟨_, h0⟩ | ⟨g, c, gc, rfl, _, hg, _, _, _, ht⟩
  · omega
  · refine ⟨g, c, gc, by rw [hl], hg, ?_⟩
    rw [← Array.getElem?_toList, ← List.getElem?_take_of_lt (show 0 < (A ++ [(s, t)]).length * 1 by omega), ht]
    simp
theorem row_none {w : World} {base : Nat} {v : Value} (h : w.ownsRow base 9 1 v 0 []) : ∃ a c, v = .slice a 0 c := by
  rcases h.2 with ⟨rfl, _⟩ | ⟨g, c, gc, rfl, _⟩
  · exact ⟨_, _, rfl⟩
  · exact ⟨_, _, rfl⟩
set_option maxRecDepth 100000 in
set_option maxHeartbeats 6400000 in
theorem full_round {K : Act → World → Prop} {Q : Exit → Act → World → Prop} {w0 w : World} {cb sz cap k : Nat} {a : Option Addr} {l : List ByteArray} {s : ByteArray} (hl : ∀ j x, l[j]? = some x → ∃ g o, a = some ⟨g, o, none⟩ ∧ g < w0.heap.size ∧ w0.cell? ⟨g, o + j, none⟩ = some (.string x)) (hm : l.length ≤ maxLen) (hk : l[k]? = some s) (h300 : k < 300) (S : Fu w0 w cb sz) (fr : Array Value) (hn : fr.size = 63) (p0 : fr[0]? = some (.int .i64 (sz : Int))) (p1 : fr[1]? = some (.slice a l.length cap)) (p5 : fr[5]? = some (.pointer (some ⟨cb, 0, none⟩))) (p7 : fr[7]? = some (.int .i64 (k : Int)))
    (hK : ∀ t' w', t'.size = 63 → t'[0]? = some (.int .i64 (sz : Int)) → t'[1]? = some (.slice a l.length cap) → t'[5]? = some (.pointer (some ⟨cb, 0, none⟩)) → t'[7]? = some (.int .i64 ((k + 1 : Nat) : Int)) → Fu w0 w' cb sz → K ⟨t', []⟩ w') :
    Code.wp Try.prog (loopAt Try.f4 0) (Exit.then K Q) ⟨fr, []⟩ w := by
  obtain ⟨pb, cur, ps, C, hf0, F⟩ := S
  obtain ⟨ga, oa, rfl, hga, hca⟩ := hl k s hk
  have hkl := (List.getElem?_eq_some_iff.1 hk).1
  have q1 : (k : Int) < (l.length : Int) := by omega
  have q2 : (k : Int) < 300 := by omega
  have q0 : (0 : Int) ≤ (k : Int) := Int.natCast_nonneg k
  have w1 : wrap64 ((k : Int) + 1) = ((k + 1 : Nat) : Int) := by rw [IntWalk.wrap64_in _ (by omega)]; omega
  have W1 := Lib.hid w1
  have c0 : w.cell? ⟨ga, oa + k, none⟩ = some (.string s) := F.cellSome (fun h => h) hca
  have HP := Lib.hid (C.put 1 (by decide) s ⟨#[120]⟩)
  have HC := Lib.hid C
  have HF := Lib.hid F
  have HF0 := Lib.hid hf0
  have HCA := Lib.hid hca
  have HK := Lib.hid hK
  clear C hf0 F hl hm hk h300 hkl hca w1 hK
  obtain ⟨f, hff, rfl⟩ := frame_open hn
  have e0 := hff 0 _ p0
  have e1 := hff 1 _ p1
  have e5 := hff 5 _ p5
  have e7 := hff 7 _ p7
  clear hff hn p0 p1 p5 p7
  rw [lit63, e0, e1, e5, e7]
  clear e0 e1 e5 e7
  conv => arg 2; whnf
  go_wp2_with fail
  refine HP.out.mono ?_
  rintro e w2 ⟨rfl, cur2, v2, C2, o2, F2⟩
  have hF2 := fr_up HF.out F2 (fun k hk => (HC.out.lt k (hk.elim (fun e => .inr (.inl e)) (fun e => .inr (.inr ⟨1, by decide, e⟩)))).1)
  have e0 : (upd ps 1 ⟨v2, putL sz s ⟨#[120]⟩ (ps 1).L, (ps 1).h, (ps 1).m⟩ 0).L = [] := HF0.out
  have e1 : (upd ps 1 ⟨v2, putL sz s ⟨#[120]⟩ (ps 1).L, (ps 1).h, (ps 1).m⟩ 1).L = putL sz s ⟨#[120]⟩ (ps 1).L := rfl
  generalize upd ps 1 ⟨v2, putL sz s ⟨#[120]⟩ (ps 1).L, (ps 1).h, (ps 1).m⟩ = f2 at *
  have N1 := C2.names 1 (by decide)
  have hle := C2.len 1 (by decide)
  rw [e1] at N1 hle
  obtain ⟨A, hA⟩ : ∃ A, putL sz s ⟨#[120]⟩ (ps 1).L = A ++ [(s, ⟨#[120]⟩)] := ⟨_, rfl⟩
  rw [hA] at N1 hle
  have HN1 := Lib.hid N1
  have HLE := Lib.hid hle
  have HC2 := Lib.hid C2
  have HE0 := Lib.hid e0
  have HF2 := Lib.hid hF2
  have c02 : w2.cell? ⟨ga, oa + k, none⟩ = some (.string s) := hF2.cellSome (fun h => h) HCA.out
  clear C2 F2 hF2 o2 e0 e1 N1 hle hA c0
  go_wp2_with fail
  refine HN1.out.mono ?_
  rintro e w3 ⟨v3, rfl, O3, F3⟩
  obtain ⟨g, c, gc, rfl, hg, hg0⟩ := row_first O3
  have C3 := HC2.out.fr F3 (fun _ _ h => h)
  have N0 := fun (W : World) (hx : Ex w3 W) => (C3.fr hx (fun _ _ h => h)).names 0 (by decide)
  rw [HE0.out] at N0
  have t1 : ¬ ((sz : Int) < (A.length : Int) + 1) := by
    have := HLE.out
    rw [List.length_append] at this
    simp at this
    omega
  have t1d : decide ((sz : Int) < (A.length : Int) + 1) = false := decide_eq_false t1
  have HG := Lib.hid (And.intro hg hg0)
  have HC3 := Lib.hid C3
  have HF3 := Lib.hid (HF2.out.trans F3 (fun _ h => h.elim))
  have HN0 := Lib.hid N0
  clear C3 F3 O3 N0 hg hg0 c02
  go_wp2_with fail
  refine wp_region_mono (sg 0 16 ++ ((16, true) :: (sg 17 3 ++ []))) (by kernel_rfl) (by kernel_rfl) ?_
  refine Wk.seg 0 16 (by kernel_rfl) (by kernel_rfl) ?_
  apply Exists.intro
  refine ⟨?wk0, ?fin0⟩
  case wk0 =>
    intro γ
    have hbb : (s.toList == s.toList) = true := beq_self_eq_true _
    have c8 : ∀ y : Wg γ, y.w.cell? ⟨g, 0, none⟩ = some (.string s) := fun y => y.cell HG.out.1 0 HG.out.2
    have ca : ∀ y : Wg γ, y.w.cell? ⟨ga, oa + k, none⟩ = some (.string s) := fun y => (HF3.out.trans y.h (fun _ h => h.elim)).cellSome (fun h => h) HCA.out
    simp only [List.drop_succ_cons, List.drop_zero, List.take_succ_cons, List.take_zero]
    repeat (any_goals (first | go_big_quiet_step (fail) | quiet_step (fail)))
    exact wpQuiet_nil rfl
  case fin0 =>
  (try simp only [Act.put, List.setIfInBounds_toArray, List.set_cons_zero, List.set_cons_succ, t1d])
  refine Wk.call rfl (by kernel_rfl) 12 #[.pointer (some ⟨cb, 0, none⟩), .int .i64 0] (fun W => by kernel_rfl) (fun v W => ∃ a c, v = .slice a 0 c) (fun W hx => (HN0.out W hx).mono ?_) ?_
  · rintro e W' ⟨v, rfl, O, F⟩
    exact ⟨_, rfl, F, row_none O⟩
  rintro v w4 X4 ⟨a4, c4, rfl⟩
  simp only [List.getElem_toArray, List.getElem_cons_succ, List.getElem_cons_zero, Act.put, List.setIfInBounds_toArray, List.set_cons_zero, List.set_cons_succ]
  refine Wk.seg 17 3 (by kernel_rfl) (by kernel_rfl) ?_
  apply Exists.intro
  refine ⟨?wk1, ?fin1⟩
  case wk1 =>
    intro γ
    simp only [List.drop_succ_cons, List.drop_zero, List.take_succ_cons, List.take_zero]
    repeat (any_goals (first | go_big_quiet_step (fail) | quiet_step (fail)))
    exact wpQuiet_nil rfl
  case fin1 =>
  (try simp only [Act.put, List.setIfInBounds_toArray, List.set_cons_zero, List.set_cons_succ])
  intro w5 X5
  have X35 := X4.tr X5
  have HR := Lib.hid (show Fu w0 w5 cb sz from ⟨pb, cur2, f2, HC3.out.fr X35 (fun _ _ h => h), HE0.out, HF3.out.trans X35 (fun _ h => h.elim)⟩)
  clear X4 X5 X35 t1 t1d
  go_wp2_with fail
  (try rw [W1.out])
  exact HK.out _ _ rfl rfl rfl rfl rfl HR.out
set_option maxRecDepth 100000 in
set_option maxHeartbeats 6400000 in
theorem full_loop {Q : Exit → Act → World → Prop} {w0 w : World} {cb sz cap : Nat} {a : Option Addr} {l : List ByteArray} (hl : ∀ j x, l[j]? = some x → ∃ g o, a = some ⟨g, o, none⟩ ∧ g < w0.heap.size ∧ w0.cell? ⟨g, o + j, none⟩ = some (.string x)) (hm : l.length ≤ maxLen) (S : Fu w0 w cb sz) (fr : Array Value) (hn : fr.size = 63) (p0 : fr[0]? = some (.int .i64 (sz : Int))) (p1 : fr[1]? = some (.slice a l.length cap)) (p5 : fr[5]? = some (.pointer (some ⟨cb, 0, none⟩))) (p7 : fr[7]? = some (.int .i64 (0)))
    (hexit : ∀ t' w', t'.size = 63 → Fu w0 w' cb sz → Q (.exit 0) ⟨t', []⟩ w') :
    Code.wp Try.prog (.loop (loopAt Try.f4 0)) Q ⟨fr, []⟩ w := by
  refine wp_loop_up (min l.length 300) (fun k t w' => t.size = 63 ∧ t[0]? = some (.int .i64 (sz : Int)) ∧ t[1]? = some (.slice a l.length cap) ∧ t[5]? = some (.pointer (some ⟨cb, 0, none⟩)) ∧ t[7]? = some (.int .i64 (k : Int)) ∧ Fu w0 w' cb sz) fr w ⟨hn, p0, p1, p5, p7, S⟩ ?_
  clear hn p0 p1 p5 p7 fr S
  rintro k fr w1 hk ⟨hn, p0, p1, p5, p7, S⟩ K hK
  by_cases hlt : k < min l.length 300
  · obtain ⟨s, hs⟩ : ∃ s, l[k]? = some s := ⟨_, List.getElem?_eq_getElem (by omega)⟩
    exact full_round (K := K) (Q := Q) (k := k) hl hm hs (by omega) S fr hn p0 p1 p5 p7 (fun t' w' a0 a1 a2 a3 a4 a5 => hK t' w' hlt ⟨a0, a1, a2, a3, a4, a5⟩)
  · have hor : ¬ ((k : Int) < (l.length : Int)) ∨ ((k : Int) < (l.length : Int)) ∧ ¬ ((k : Int) < 300) := by omega
    have HE := Lib.hid hexit
    have HS := Lib.hid S
    clear hexit S hK hk hlt hl hm
    obtain ⟨f, hff, rfl⟩ := frame_open hn
    have e0 := hff 0 _ p0
    have e1 := hff 1 _ p1
    have e5 := hff 5 _ p5
    have e7 := hff 7 _ p7
    clear hff hn p0 p1 p5 p7
    rw [lit63, e0, e1, e5, e7]
    clear e0 e1 e5 e7
    conv => arg 2; whnf
    rcases hor with h1 | ⟨h1, h2⟩
    · go_wp2_with fail
      exact HE.out _ _ rfl HS.out
    · go_wp2_with fail
      exact HE.out _ _ rfl HS.out
theorem spot (m : Nat) (hm : 0 < m) (s : Int) : ∃ z : Int, ∃ q : Nat, IntKind.u64.wrap s = z ∧ z.tmod (m : Int) = (q : Int) ∧ q < m := by
  obtain ⟨u, hu⟩ : ∃ u : Nat, IntKind.u64.wrap s = (u : Int) := ⟨(IntKind.u64.wrap s).toNat, by rw [IntKind.wrap_u64]; omega⟩
  refine ⟨u, u % m, hu, ?_, Nat.mod_lt _ hm⟩
  rw [Int.tmod_eq_emod_of_nonneg (by omega)]; rfl
set_option maxRecDepth 100000 in
set_option maxHeartbeats 6400000 in
theorem full_any (size : Int) (v : Value) (l : List ByteArray) (w : World) (hv : SL w v l) : Calls Try.prog 4 #[.int .i64 size, v] w fun e w' => e = .returned (.bool true) ∧ Fr (fun _ => False) w w' := by
  obtain ⟨a, cap, rfl, hm, hl⟩ := hv
  obtain ⟨z1, q1, hz1, hq1, hl1⟩ := spot 256 (by decide) size
  change z1.tmod 256 = (q1 : Int) at hq1
  have v1 : IntKind.i64.wrap (q1 : Int) = (q1 : Int) := IntWalk.i64_in _ (by omega)
  have w1' : wrap64 (1 + (q1 : Int)) = ((q1 + 1 : Nat) : Int) := by rw [IntWalk.wrap64_in _ (by omega)]; omega
  have HQ := Lib.hid hl1
  have HM := Lib.hid hm
  have HL := Lib.hid hl
  have HW := Lib.hid w1'
  have Vhz1 := congrArg (Value.int .u64) hz1
  have Vhq1 := congrArg (Value.int .u64) hq1
  have Vv1 := congrArg (Value.int .i64) v1
  clear hz1 hq1 v1 w1' hl1 hm hl
  go_enter Try.func4, Try.ntmps4
  go_wp2_with fail
  rw [HW.out]
  clear Vhq1 Vv1
  refine (new_cs 2 (q1 + 1) (by decide) (by decide) (by omega) (by have := HQ.out; omega) w).mono ?_
  rintro e w2 ⟨cb, pb, cur, rfl, C, F⟩
  have HC := Lib.hid C
  have HF := Lib.hid F
  clear C F
  go_wp2_with fail
  refine (caches_any w2).mono ?_
  rintro e w3 ⟨rfl, F3⟩
  have HS := Lib.hid (show Fu w w3 cb (q1 + 1) from ⟨pb, cur, _, HC.out.fr F3 (fun _ _ h => h), rfl, HF.out.trans F3 (fun _ h => h.elim)⟩)
  clear F3
  go_wp2_with fail
  refine full_loop (w0 := w) (cb := cb) (sz := q1 + 1) (cap := cap) HL.out HM.out HS.out _ rfl rfl rfl rfl rfl ?_
  intro t' w4 hn S
  obtain ⟨pb4, cur4, f4, _, _, F4⟩ := S
  have HF4 := Lib.hid F4
  obtain ⟨ff, hff, rfl⟩ := frame_open hn
  rw [lit63]
  clear hff hn F4
  go_wp2_with fail
  go_ret
  exact ⟨rfl, HF4.out⟩
end Go.Proofs.Ytkigdgkklninoaa

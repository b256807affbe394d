/-
  DiskLasts: the first loop: what is written at first.
-/
import Derived.Test.YtgladedjgjhlaaaTv
import Derived.Test.YtgladedjgjhlaaaOj
namespace Go.Proofs.Ytgladedjgjhlaaa
open Go.RowKit
set_option linter.unusedVariables false
set_option linter.unusedSimpArgs false
theorem neq_blk (f g : Nat → UInt8) (w : World) : (binOp .neq 30 (.agg (ub 128 f)) (.agg (ub 128 g))).run Try.prog w = .ok (.bool (!(bl128 f == bl128 g))) w := by
  have h := eql_blk f g w
  rw [run_eql_struct] at h
  rw [run_neq_struct]
  revert h
  cases (Op.equalIn 10000 30 (.agg (ub 128 f)) (.agg (ub 128 g))).run Try.prog w with
  | ok b w2 =>
    intro h
    simp only [Result.andThen_ok] at h ⊢
    injection h with h1 h2
    injection h1 with h1
    rw [h1, h2]
  | halt a b => intro h; cases h
theorem KL.kb {w0 w : World} {v : Value} {ks : List Bool} {S : Nat → Prop} (h : KL w0 v ks) (F : Fr (fun _ => False) w0 w) (hS : ∀ k, S k → w0.heap.size ≤ k) : KB w v ks S := by
  obtain ⟨a, cap, e, hl, hc⟩ := h
  refine ⟨a, cap, e, fun j b hj => ?_⟩
  obtain ⟨g, o, e1, e2, e3⟩ := hc j b hj
  exact ⟨g, o, e1, fun hs => by have := hS g hs; omega, Nat.lt_of_lt_of_le e2 F.size, by rw [cell_fr F e2 (fun h => h)]; exact e3⟩
/-- What is written at first. -/
def fws (first : List UInt8) (k : Nat) : List (Nat × (Nat → UInt8)) := (List.range k).map fun i => (i, b1 (first.getD i 0))
theorem fws_len (first : List UInt8) (k : Nat) : (fws first k).length = k := by simp [fws]
theorem fws_succ (first : List UInt8) (k : Nat) (x : UInt8) (h : first[k]? = some x) : fws first (k + 1) = fws first k ++ [(k, b1 x)] := by
  have e : first.getD k 0 = x := by rw [List.getD_eq_getElem?_getD, h]; rfl
  simp [fws, List.range_succ, h]
/-- A block that a Write leaves. -/
theorem wt_not {d bn gt : Nat} {wv : Value} (h1 : gt ≠ d) (h2 : gt ≠ bn) (h3 : wv.ownBlock ≠ some gt) : ¬ Wt d bn wv gt := by
  rintro (e | e | e)
  · exact h1 e
  · exact h2 e
  · exact h3 e
theorem own_not {w : World} {wv v' : Value} {gt : Nat} (h : v'.ownBlock = wv.ownBlock ∨ ∃ k, v'.ownBlock = some k ∧ w.heap.size ≤ k) (h3 : wv.ownBlock ≠ some gt) (hg : gt < w.heap.size) : v'.ownBlock ≠ some gt := by
  rcases h with e | ⟨k, e, hk⟩
  · rw [e]; exact h3
  · rw [e]; intro c; have : k = gt := by simpa using c
    omega
set_option maxRecDepth 100000 in
theorem lit112 (f : Nat → Value) : ((List.range 112).map f).toArray = (f 0 :: f 1 :: f 2 :: f 3 :: f 4 :: f 5 :: f 6 :: f 7 :: f 8 :: f 9 :: f 10 :: f 11 :: f 12 :: f 13 :: f 14 :: f 15 :: f 16 :: f 17 :: f 18 :: f 19 :: f 20 :: f 21 :: f 22 :: f 23 :: f 24 :: f 25 :: f 26 :: f 27 :: f 28 :: f 29 :: f 30 :: f 31 :: f 32 :: f 33 :: f 34 :: f 35 :: f 36 :: f 37 :: f 38 :: f 39 :: f 40 :: f 41 :: f 42 :: f 43 :: f 44 :: f 45 :: f 46 :: f 47 :: f 48 :: f 49 :: f 50 :: f 51 :: f 52 :: f 53 :: f 54 :: f 55 :: f 56 :: f 57 :: f 58 :: f 59 :: f 60 :: f 61 :: f 62 :: f 63 :: f 64 :: f 65 :: f 66 :: f 67 :: f 68 :: f 69 :: f 70 :: f 71 :: f 72 :: f 73 :: f 74 :: f 75 :: f 76 :: f 77 :: f 78 :: f 79 :: f 80 :: f 81 :: f 82 :: f 83 :: f 84 :: f 85 :: f 86 :: f 87 :: f 88 :: f 89 :: f 90 :: f 91 :: f 92 :: f 93 :: f 94 :: f 95 :: f 96 :: f 97 :: f 98 :: f 99 :: f 100 :: f 101 :: f 102 :: f 103 :: f 104 :: f 105 :: f 106 :: f 107 :: f 108 :: f 109 :: f 110 :: f 111 :: []).toArray := by kernel_rfl
set_option maxRecDepth 100000 in
set_option maxHeartbeats 6400000 in
theorem lasts1 {Q : Exit → Act → World → Prop} {w0 w : World} {d bn bl gt : Nat} {v0 v1 v2 : Value} {first : List UInt8} {C : Array Value} {T : TypeId} (hb : BL w0 v0 first) (D : DA w d bn bl 8 (fun _ _ => 0) (fun _ _ => 0) [] (.slice none 0 0) 0 0 false w0.heap.size) (F : Fr (fun _ => False) w0 w) (G : w.heap[gt]? = some (.cells C T (0, 0))) (hg0 : w0.heap.size ≤ gt) (hg1 : gt ≠ d) (hg2 : gt ≠ bn) (hg3 : gt ≠ bl) (t : Array Value) (hn : t.size = 112)
    (p0 : t[0]? = some v0) (p1 : t[1]? = some v1) (p2 : t[2]? = some v2) (p7 : t[7]? = some (.pointer (some ⟨d, 0, none⟩))) (p9 : t[9]? = some (.pointer (some ⟨gt, 0, none⟩))) (p10 : t[10]? = some (.int .i64 0))
    (hexit : ∀ t' w' N v', t'.size = 112 → t'[0]? = some v0 → t'[1]? = some v1 → t'[2]? = some v2 → t'[7]? = some (.pointer (some ⟨d, 0, none⟩)) → t'[9]? = some (.pointer (some ⟨gt, 0, none⟩)) → DA w' d bn bl 8 N (fun _ _ => 0) (fws first (min 8 first.length)) v' ((min 8 first.length : Nat) : Int) 0 false w0.heap.size → Fr (fun _ => False) w0 w' → w'.heap[gt]? = some (.cells C T (0, 0)) → v'.ownBlock ≠ some gt → Q (.exit 0) ⟨t', []⟩ w') :
    Code.wp Try.prog (.loop (loopAt Try.f5 0)) Q ⟨t, []⟩ w := by
  obtain ⟨a, cap, rfl, hl, hc⟩ := hb
  have hmx : first.length < 9223372036854775808 := by simp only [maxLen] at hl; omega
  refine wp_loop_up (min 8 first.length) (fun k t w' => t.size = 112 ∧ t[0]? = some (.slice a first.length cap) ∧ t[1]? = some v1 ∧ t[2]? = some v2 ∧ t[7]? = some (.pointer (some ⟨d, 0, none⟩)) ∧ t[9]? = some (.pointer (some ⟨gt, 0, none⟩)) ∧ t[10]? = some (.int .i64 (k : Int)) ∧ (∃ N v, DA w' d bn bl 8 N (fun _ _ => 0) (fws first k) v (k : Int) 0 false w0.heap.size ∧ v.ownBlock ≠ some gt) ∧ Fr (fun _ => False) w0 w' ∧ w'.heap[gt]? = some (.cells C T (0, 0))) t w ⟨hn, p0, p1, p2, p7, p9, p10, ⟨_, _, D, by simp [Value.ownBlock]⟩, F, G⟩ ?_
  clear hn p0 p1 p2 p7 p9 p10 t D F G
  rintro k t w1 hk ⟨hn, p0, p1, p2, p7, p9, p10, ⟨N, v, D, hv⟩, F1, G1⟩ K hK
  obtain ⟨f, hff, rfl⟩ := frame_open hn
  have e0 := hff 0 _ p0
  have e1 := hff 1 _ p1
  have e2 := hff 2 _ p2
  have e7 := hff 7 _ p7
  have e9 := hff 9 _ p9
  have e10 := hff 10 _ p10
  clear hff hn p0 p1 p2 p7 p9 p10
  rw [lit112, e0, e1, e2, e7, e9, e10]
  clear e0 e1 e2 e7 e9 e10
  conv => arg 2; whnf
  have HE := Lib.hid hexit
  have HK := Lib.hid hK
  have HD := Lib.hid D
  have HF := Lib.hid F1
  have HC := Lib.hid hc
  clear hexit hK D hc
  have w4 : wrap64 ((k : Int) + 1) = (k : Int) + 1 := IntWalk.wrap64_in _ (by omega)
  have v4 : IntKind.i64.wrap ((k : Int) + 1) = (k : Int) + 1 := IntWalk.i64_in _ (by omega)
  by_cases hlt : k < min 8 first.length
  · have q8 : (k : Int) < 8 := by omega
    have ql : (k : Int) < (first.length : Int) := by omega
    have q0 : (0 : Int) ≤ (k : Int) := by omega
    obtain ⟨x, hx⟩ : ∃ x, first[k]? = some x := ⟨_, List.getElem?_eq_getElem (by omega)⟩
    obtain ⟨g, o, rfl, hgl, hcell⟩ := HC.out k x hx
    have c1 : w1.cell? ⟨g, o + k, none⟩ = some (.int .u8 (x.toNat : Int)) := by rw [cell_fr F1 hgl (fun h => h)]; exact hcell
    have hs := fws_succ first k x hx
    have HS := Lib.hid hs
    clear hcell hs F1
    go_wp2_with fail
    rw [bld x]
    refine (write_any HD.out (by rw [fws_len]; omega) (by unfold In64; omega) (by unfold In64; omega) (by decide) k (by omega) (b1 x)).mono ?_
    rintro e w2 ⟨rfl, v', D2, O2, F2⟩
    have F02 := HD.out.grow HF.out F2 wt_tch
    have G2 := (F2.block gt (lt_of_block G1) (wt_not hg1 hg2 hv)).trans G1
    have hv2 := own_not O2 hv (lt_of_block G1)
    have HD2 := Lib.hid D2
    clear c1 F2 O2 D2
    go_wp2_with fail
    exact HK.out _ _ hlt ⟨rfl, rfl, rfl, rfl, rfl, rfl, by simp, ⟨_, v', by rw [HS.out]; exact HD2.out, hv2⟩, F02, G2⟩
  · have hkm : k = min 8 first.length := by omega
    have HM := Lib.hid hkm
    by_cases h8 : k < 8
    · have q8 : (k : Int) < 8 := by omega
      have ql : ¬ ((k : Int) < (first.length : Int)) := by omega
      have t2 : decide ((k : Int) < (first.length : Int)) = false := by simpa using ql
      clear hkm
      go_wp2_with fail
      exact HE.out _ _ _ v rfl rfl rfl rfl rfl rfl (by rw [← HM.out]; exact HD.out) HF.out G1 hv
    · have q8 : ¬ ((k : Int) < 8) := by omega
      have t2 : decide ((k : Int) < 8) = false := by simpa using q8
      clear hkm
      go_wp2_with fail
      exact HE.out _ _ _ v rfl rfl rfl rfl rfl rfl (by rw [← HM.out]; exact HD.out) HF.out G1 hv
end Go.Proofs.Ytgladedjgjhlaaa

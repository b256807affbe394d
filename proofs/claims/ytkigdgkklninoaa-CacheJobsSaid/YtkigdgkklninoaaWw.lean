/-
  CacheJobs: a round, for each kind of job.
-/
import Derived.Test.YtkigdgkklninoaaWv
namespace Go.Proofs.Ytkigdgkklninoaa
open Go.RowKit
set_option linter.unusedVariables false
set_option linter.unusedSimpArgs false
/-- Between the rounds. -/
def Ro (w0 w : World) (cb pw n sz k : Nat) : Prop := ∃ df dr, Jo w0 w cb pw n sz (k : Int) df dr [] ∧ Rel n df dr
set_option maxRecDepth 100000 in
set_option maxHeartbeats 6400000 in
theorem job_bad {K : Act → World → Prop} {Q : Exit → Act → World → Prop} {w0 w : World} {cb pw n sz c k : Nat} {a : Option Addr} {l : List Jb} {wh pt : Int} {nam kep : ByteArray} (hl : ∀ j x, l[j]? = some x → ∃ g o, a = some ⟨g, o, none⟩ ∧ g < w0.heap.size ∧ w0.cell? ⟨g, o + j * 4, none⟩ = some (.int .i64 x.what) ∧ w0.cell? ⟨g, o + j * 4 + 1, none⟩ = some (.int .i64 x.part) ∧ w0.cell? ⟨g, o + j * 4 + 2, none⟩ = some (.string x.name) ∧ w0.cell? ⟨g, o + j * 4 + 3, none⟩ = some (.string x.kept) ∧ In64 x.what ∧ In64 x.part) (hk : l[k]? = some ⟨wh, pt, nam, kep⟩) (hm : l.length ≤ maxLen) (h50 : k < 50) (hn8 : n ≤ 8) (S : Ro w0 w cb pw n sz k) (hbad : pt < 0 ∨ (n : Int) ≤ pt) (fr : Array Value) (hn : fr.size = 252) (p0 : fr[0]? = some (.int .i64 (n : Int))) (p1 : fr[1]? = some (.int .i64 (sz : Int))) (p2 : fr[2]? = some (.slice a l.length c)) (p11 : fr[11]? = some (.pointer (some ⟨cb, 0, none⟩))) (p12 : fr[12]? = some (.int .i64 0)) (p13 : fr[13]? = some (.pointer (some ⟨pw, 0, none⟩))) (p15 : fr[15]? = some (.int .i64 (k : Int)))
    (hK : ∀ t' w', t'.size = 252 → t'[0]? = some (.int .i64 (n : Int)) → t'[1]? = some (.int .i64 (sz : Int)) → t'[2]? = some (.slice a l.length c) → t'[11]? = some (.pointer (some ⟨cb, 0, none⟩)) → t'[12]? = some (.int .i64 0) → t'[13]? = some (.pointer (some ⟨pw, 0, none⟩)) → t'[15]? = some (.int .i64 ((k + 1 : Nat) : Int)) → Ro w0 w' cb pw n sz (k + 1) → K ⟨t', []⟩ w') :
    Code.wp Try.prog (loopAt Try.f3 1) (Exit.then K Q) ⟨fr, []⟩ w := by
  obtain ⟨df, dr, T, R⟩ := S
  obtain ⟨ga, oa, rfl, hga, z0, z1, z2, z3, in1, in2⟩ := hl k _ hk
  simp only at z0 z1 z2 z3 in1 in2
  have hkl := (List.getElem?_eq_some_iff.1 hk).1
  have q1 : (k : Int) < (l.length : Int) := by omega
  have q2 : (k : Int) < 50 := by omega
  have q0 : (0 : Int) ≤ (k : Int) := Int.natCast_nonneg k
  have w1 : wrap64 ((k : Int) + 1) = ((k + 1 : Nat) : Int) := by rw [IntWalk.wrap64_in _ (by omega)]; omega
  have W1 := Lib.hid w1
  have HQ := Lib.hid (show 0 ≤ (k : Int) ∧ (k : Int) < 50 from ⟨q0, q2⟩)
  have HT := Lib.hid T
  have HR := Lib.hid R
  have HK := Lib.hid hK
  have c0 := T.fr.cellSome (fun h => h) z0
  have c1 := T.fr.cellSome (fun h => h) z1
  have c2 := T.fr.cellSome (fun h => h) z2
  have c3 := T.fr.cellSome (fun h => h) z3
  have T1 := T.add (.cells #[.int .i64 wh, .int .i64 pt, .string nam, .string kep] 42)
  have e0 := (cell_of_block T1.job 0).trans (show _ = some (Value.int .i64 wh) from rfl)
  have e1 := (cell_of_block T1.job 1).trans (show _ = some (Value.int .i64 pt) from rfl)
  have e2 := (cell_of_block T1.job 2).trans (show _ = some (Value.string nam) from rfl)
  have e3 := (cell_of_block T1.job 3).trans (show _ = some (Value.string kep) from rfl)
  have HT1 := Lib.hid T1
  clear hl hk hm h50 T R z0 z1 z2 z3 in1 in2 hga hkl w1 hK T1
  have HPN := Lib.hid (HT1.out.part pt hbad)
  obtain ⟨f, hff, rfl⟩ := frame_open hn
  have e0 := hff 0 _ p0
  have e1 := hff 1 _ p1
  have e2 := hff 2 _ p2
  have e11 := hff 11 _ p11
  have e12 := hff 12 _ p12
  have e13 := hff 13 _ p13
  have e15 := hff 15 _ p15
  clear hff hn p0 p1 p2 p11 p12 p13 p15
  rw [lit252, e0, e1, e2, e11, e12, e13, e15]
  clear e0 e1 e2 e11 e12 e13 e15
  conv => arg 2; whnf
  by_cases hb : pt < 0
  · clear hbad
    go_wp2_with fail
    refine (get_bad _ _ nam _ HPN.out).mono ?_
    rintro e wa ⟨rfl, rfl⟩
    go_wp2_with fail
    refine (hits_bad _ _ _ HPN.out).mono ?_
    rintro e wa ⟨rfl, rfl⟩
    go_wp2_with fail
    refine (put_bad _ _ nam kep _ HPN.out).mono ?_
    rintro e wa ⟨rfl, rfl⟩
    go_wp2_with fail
    refine (drop_bad _ _ _ HPN.out).mono ?_
    rintro e wa ⟨rfl, rfl⟩
    go_wp2_with fail
    refine (names_bad _ _ _ HPN.out).mono ?_
    rintro e wa ⟨rfl, rfl⟩
    go_wp2_with fail
    (try rw [W1.out])
    exact HK.out _ _ rfl rfl rfl rfl rfl rfl rfl rfl ⟨df, dr, HT1.out.fewer.more _ (by have := HQ.out; omega), HR.out⟩
  · have hb2 : (n : Int) ≤ pt := by omega
    clear hbad
    go_wp2_with fail
    refine (get_bad _ _ nam _ HPN.out).mono ?_
    rintro e wa ⟨rfl, rfl⟩
    go_wp2_with fail
    refine (hits_bad _ _ _ HPN.out).mono ?_
    rintro e wa ⟨rfl, rfl⟩
    go_wp2_with fail
    refine (put_bad _ _ nam kep _ HPN.out).mono ?_
    rintro e wa ⟨rfl, rfl⟩
    go_wp2_with fail
    refine (drop_bad _ _ _ HPN.out).mono ?_
    rintro e wa ⟨rfl, rfl⟩
    go_wp2_with fail
    refine (names_bad _ _ _ HPN.out).mono ?_
    rintro e wa ⟨rfl, rfl⟩
    go_wp2_with fail
    (try rw [W1.out])
    exact HK.out _ _ rfl rfl rfl rfl rfl rfl rfl rfl ⟨df, dr, HT1.out.fewer.more _ (by have := HQ.out; omega), HR.out⟩
set_option maxRecDepth 100000 in
set_option maxHeartbeats 6400000 in
theorem job_none {K : Act → World → Prop} {Q : Exit → Act → World → Prop} {w0 w : World} {cb pw n sz c k : Nat} {a : Option Addr} {l : List Jb} {wh pt : Int} {nam kep : ByteArray} (hl : ∀ j x, l[j]? = some x → ∃ g o, a = some ⟨g, o, none⟩ ∧ g < w0.heap.size ∧ w0.cell? ⟨g, o + j * 4, none⟩ = some (.int .i64 x.what) ∧ w0.cell? ⟨g, o + j * 4 + 1, none⟩ = some (.int .i64 x.part) ∧ w0.cell? ⟨g, o + j * 4 + 2, none⟩ = some (.string x.name) ∧ w0.cell? ⟨g, o + j * 4 + 3, none⟩ = some (.string x.kept) ∧ In64 x.what ∧ In64 x.part) (hk : l[k]? = some ⟨wh, pt, nam, kep⟩) (hm : l.length ≤ maxLen) (h50 : k < 50) (hn8 : n ≤ 8) (S : Ro w0 w cb pw n sz k) {i : Nat} (hi : pt = (i : Int)) (hin : i < n) {z : Int} (hz : IntKind.u64.wrap wh = z) (hq : z.tmod 4 = 0) (fr : Array Value) (hn : fr.size = 252) (p0 : fr[0]? = some (.int .i64 (n : Int))) (p1 : fr[1]? = some (.int .i64 (sz : Int))) (p2 : fr[2]? = some (.slice a l.length c)) (p11 : fr[11]? = some (.pointer (some ⟨cb, 0, none⟩))) (p12 : fr[12]? = some (.int .i64 0)) (p13 : fr[13]? = some (.pointer (some ⟨pw, 0, none⟩))) (p15 : fr[15]? = some (.int .i64 (k : Int)))
    (hK : ∀ t' w', t'.size = 252 → t'[0]? = some (.int .i64 (n : Int)) → t'[1]? = some (.int .i64 (sz : Int)) → t'[2]? = some (.slice a l.length c) → t'[11]? = some (.pointer (some ⟨cb, 0, none⟩)) → t'[12]? = some (.int .i64 0) → t'[13]? = some (.pointer (some ⟨pw, 0, none⟩)) → t'[15]? = some (.int .i64 ((k + 1 : Nat) : Int)) → Ro w0 w' cb pw n sz (k + 1) → K ⟨t', []⟩ w') :
    Code.wp Try.prog (loopAt Try.f3 1) (Exit.then K Q) ⟨fr, []⟩ w := by
  subst hi
  obtain ⟨df, dr, T, R⟩ := S
  obtain ⟨ga, oa, rfl, hga, z0, z1, z2, z3, in1, in2⟩ := hl k _ hk
  simp only at z0 z1 z2 z3 in1 in2
  have hkl := (List.getElem?_eq_some_iff.1 hk).1
  have q1 : (k : Int) < (l.length : Int) := by omega
  have q2 : (k : Int) < 50 := by omega
  have q0 : (0 : Int) ≤ (k : Int) := Int.natCast_nonneg k
  have w1 : wrap64 ((k : Int) + 1) = ((k + 1 : Nat) : Int) := by rw [IntWalk.wrap64_in _ (by omega)]; omega
  have W1 := Lib.hid w1
  have HQ := Lib.hid (show 0 ≤ (k : Int) ∧ (k : Int) < 50 from ⟨q0, q2⟩)
  have HT := Lib.hid T
  have HR := Lib.hid R
  have HK := Lib.hid hK
  have c0 := T.fr.cellSome (fun h => h) z0
  have c1 := T.fr.cellSome (fun h => h) z1
  have c2 := T.fr.cellSome (fun h => h) z2
  have c3 := T.fr.cellSome (fun h => h) z3
  have T1 := T.add (.cells #[.int .i64 wh, .int .i64 (i : Int), .string nam, .string kep] 42)
  have e0 := (cell_of_block T1.job 0).trans (show _ = some (Value.int .i64 wh) from rfl)
  have e1 := (cell_of_block T1.job 1).trans (show _ = some (Value.int .i64 (i : Int)) from rfl)
  have e2 := (cell_of_block T1.job 2).trans (show _ = some (Value.string nam) from rfl)
  have e3 := (cell_of_block T1.job 3).trans (show _ = some (Value.string kep) from rfl)
  have HT1 := Lib.hid T1
  clear hl hk hm h50 T R z0 z1 z2 z3 in1 in2 hga hkl w1 hK T1
  have g0 : ¬ ((i : Int) < 0) := by omega
  have g1 : ¬ ((n : Int) ≤ (i : Int)) := by omega
  have g2 : (i : Int) < 8 := by omega
  have g3 : (0 : Int) ≤ (i : Int) := Int.natCast_nonneg i
  have HI := Lib.hid (show i < n ∧ i < 8 from ⟨hin, by omega⟩)
  have v1 : IntKind.i64.wrap 0 = 0 := IntWalk.i64_in _ (by omega)
  have Vhz := congrArg (Value.int .u64) hz
  have Vhq := congrArg (Value.int .u64) hq
  have Vv1 := congrArg (Value.int .i64) v1
  clear hz hq v1 hin
  obtain ⟨f, hff, rfl⟩ := frame_open hn
  have e0 := hff 0 _ p0
  have e1 := hff 1 _ p1
  have e2 := hff 2 _ p2
  have e11 := hff 11 _ p11
  have e12 := hff 12 _ p12
  have e13 := hff 13 _ p13
  have e15 := hff 15 _ p15
  clear hff hn p0 p1 p2 p11 p12 p13 p15
  rw [lit252, e0, e1, e2, e11, e12, e13, e15]
  clear e0 e1 e2 e11 e12 e13 e15
  conv => arg 2; whnf
  go_wp2_with fail
  have HTZ := HT1
  have HRZ := HR
  refine inner_loop (z15 := (k : Int)) HTZ.out hn8 HRZ.out _ rfl rfl rfl rfl rfl rfl rfl rfl rfl ?_
  intro t' wz hn p0 p1 p2 p11 p12 p13 p15 FZ
  have HZ := Lib.hid (HTZ.out.ext FZ)
  clear FZ
  obtain ⟨f, hff, rfl⟩ := frame_open hn
  have e0 := hff 0 _ p0
  have e1 := hff 1 _ p1
  have e2 := hff 2 _ p2
  have e11 := hff 11 _ p11
  have e12 := hff 12 _ p12
  have e13 := hff 13 _ p13
  have e15 := hff 15 _ p15
  clear hff hn p0 p1 p2 p11 p12 p13 p15
  rw [lit252, e0, e1, e2, e11, e12, e13, e15]
  clear e0 e1 e2 e11 e12 e13 e15
  go_wp2_with fail
  (try rw [W1.out])
  exact HK.out _ _ rfl rfl rfl rfl rfl rfl rfl rfl ⟨_, _, HZ.out.fewer.more _ (by have := HQ.out; omega), HRZ.out⟩
set_option maxRecDepth 100000 in
set_option maxHeartbeats 6400000 in
theorem job_get {K : Act → World → Prop} {Q : Exit → Act → World → Prop} {w0 w : World} {cb pw n sz c k : Nat} {a : Option Addr} {l : List Jb} {wh pt : Int} {nam kep : ByteArray} (hl : ∀ j x, l[j]? = some x → ∃ g o, a = some ⟨g, o, none⟩ ∧ g < w0.heap.size ∧ w0.cell? ⟨g, o + j * 4, none⟩ = some (.int .i64 x.what) ∧ w0.cell? ⟨g, o + j * 4 + 1, none⟩ = some (.int .i64 x.part) ∧ w0.cell? ⟨g, o + j * 4 + 2, none⟩ = some (.string x.name) ∧ w0.cell? ⟨g, o + j * 4 + 3, none⟩ = some (.string x.kept) ∧ In64 x.what ∧ In64 x.part) (hk : l[k]? = some ⟨wh, pt, nam, kep⟩) (hm : l.length ≤ maxLen) (h50 : k < 50) (hn8 : n ≤ 8) (S : Ro w0 w cb pw n sz k) {i : Nat} (hi : pt = (i : Int)) (hin : i < n) {z : Int} (hz : IntKind.u64.wrap wh = z) (hq : z.tmod 4 = 1) (fr : Array Value) (hn : fr.size = 252) (p0 : fr[0]? = some (.int .i64 (n : Int))) (p1 : fr[1]? = some (.int .i64 (sz : Int))) (p2 : fr[2]? = some (.slice a l.length c)) (p11 : fr[11]? = some (.pointer (some ⟨cb, 0, none⟩))) (p12 : fr[12]? = some (.int .i64 0)) (p13 : fr[13]? = some (.pointer (some ⟨pw, 0, none⟩))) (p15 : fr[15]? = some (.int .i64 (k : Int)))
    (hK : ∀ t' w', t'.size = 252 → t'[0]? = some (.int .i64 (n : Int)) → t'[1]? = some (.int .i64 (sz : Int)) → t'[2]? = some (.slice a l.length c) → t'[11]? = some (.pointer (some ⟨cb, 0, none⟩)) → t'[12]? = some (.int .i64 0) → t'[13]? = some (.pointer (some ⟨pw, 0, none⟩)) → t'[15]? = some (.int .i64 ((k + 1 : Nat) : Int)) → Ro w0 w' cb pw n sz (k + 1) → K ⟨t', []⟩ w') :
    Code.wp Try.prog (loopAt Try.f3 1) (Exit.then K Q) ⟨fr, []⟩ w := by
  subst hi
  obtain ⟨df, dr, T, R⟩ := S
  obtain ⟨ga, oa, rfl, hga, z0, z1, z2, z3, in1, in2⟩ := hl k _ hk
  simp only at z0 z1 z2 z3 in1 in2
  have hkl := (List.getElem?_eq_some_iff.1 hk).1
  have q1 : (k : Int) < (l.length : Int) := by omega
  have q2 : (k : Int) < 50 := by omega
  have q0 : (0 : Int) ≤ (k : Int) := Int.natCast_nonneg k
  have w1 : wrap64 ((k : Int) + 1) = ((k + 1 : Nat) : Int) := by rw [IntWalk.wrap64_in _ (by omega)]; omega
  have W1 := Lib.hid w1
  have HQ := Lib.hid (show 0 ≤ (k : Int) ∧ (k : Int) < 50 from ⟨q0, q2⟩)
  have HT := Lib.hid T
  have HR := Lib.hid R
  have HK := Lib.hid hK
  have c0 := T.fr.cellSome (fun h => h) z0
  have c1 := T.fr.cellSome (fun h => h) z1
  have c2 := T.fr.cellSome (fun h => h) z2
  have c3 := T.fr.cellSome (fun h => h) z3
  have T1 := T.add (.cells #[.int .i64 wh, .int .i64 (i : Int), .string nam, .string kep] 42)
  have e0 := (cell_of_block T1.job 0).trans (show _ = some (Value.int .i64 wh) from rfl)
  have e1 := (cell_of_block T1.job 1).trans (show _ = some (Value.int .i64 (i : Int)) from rfl)
  have e2 := (cell_of_block T1.job 2).trans (show _ = some (Value.string nam) from rfl)
  have e3 := (cell_of_block T1.job 3).trans (show _ = some (Value.string kep) from rfl)
  have HT1 := Lib.hid T1
  clear hl hk hm h50 T R z0 z1 z2 z3 in1 in2 hga hkl w1 hK T1
  have g0 : ¬ ((i : Int) < 0) := by omega
  have g1 : ¬ ((n : Int) ≤ (i : Int)) := by omega
  have g2 : (i : Int) < 8 := by omega
  have g3 : (0 : Int) ≤ (i : Int) := Int.natCast_nonneg i
  have HI := Lib.hid (show i < n ∧ i < 8 from ⟨hin, by omega⟩)
  have v1 : IntKind.i64.wrap 1 = 1 := IntWalk.i64_in _ (by omega)
  have Vhz := congrArg (Value.int .u64) hz
  have Vhq := congrArg (Value.int .u64) hq
  have Vv1 := congrArg (Value.int .i64) v1
  clear hz hq v1 hin
  obtain ⟨f, hff, rfl⟩ := frame_open hn
  have e0 := hff 0 _ p0
  have e1 := hff 1 _ p1
  have e2 := hff 2 _ p2
  have e11 := hff 11 _ p11
  have e12 := hff 12 _ p12
  have e13 := hff 13 _ p13
  have e15 := hff 15 _ p15
  clear hff hn p0 p1 p2 p11 p12 p13 p15
  rw [lit252, e0, e1, e2, e11, e12, e13, e15]
  clear e0 e1 e2 e11 e12 e13 e15
  conv => arg 2; whnf
  go_wp2_with fail
  obtain ⟨hi1, hi2⟩ := HI.out
  obtain ⟨s1, s2, s3⟩ := HR.out i hi1
  obtain ⟨r1, r2, r3⟩ := get_rl s1 nam
  have bd := HT1.out.bd i hi1
  refine (HT1.out.get (by have := HQ.out; omega) i hi1 nam).mono ?_
  rintro e w2 ⟨rfl, T2⟩
  have hlm := s1.len
  have DGT := T2.docget i hi2 (by rw [hlm]; omega) (by rw [← s2, ← s3]; have := HQ.out; omega) nam
  rw [← r1, ← r2] at DGT
  have HRZ := Lib.hid (HR.out.upd i (dget nam (df i)) (qget nam (dr i)) ⟨r3, by show (if getB nam (df i).L then _ else _) = if hasS nam (dr i).L then _ else _; rw [r1, s2], by show (if getB nam (df i).L then _ else _) = if hasS nam (dr i).L then _ else _; rw [r1, s3]⟩)
  have e2' := (cell_of_block T2.job 2).trans (show _ = some (Value.string nam) from rfl)
  have HDG := Lib.hid DGT
  clear DGT T2 s1 s2 s3 r1 r2 r3 bd hlm e0 e1 e2 e3 c0 c1 c2 c3
  generalize getV nam (df i).L = X at *
  generalize getB nam (df i).L = Y at *
  go_wp2_with fail
  refine HDG.out.mono ?_
  rintro e w3 ⟨rfl, T3⟩
  have HTZ := Lib.hid T3
  clear T3 e2'
  have y1 : (X.toList == X.toList) = true := beq_self_eq_true _
  have y4 : (Y == Y) = true := beq_self_eq_true _
  go_wp2_with fail
  refine inner_loop (z15 := (k : Int)) HTZ.out hn8 HRZ.out _ rfl rfl rfl rfl rfl rfl rfl rfl rfl ?_
  intro t' wz hn p0 p1 p2 p11 p12 p13 p15 FZ
  have HZ := Lib.hid (HTZ.out.ext FZ)
  clear FZ
  obtain ⟨f, hff, rfl⟩ := frame_open hn
  have e0 := hff 0 _ p0
  have e1 := hff 1 _ p1
  have e2 := hff 2 _ p2
  have e11 := hff 11 _ p11
  have e12 := hff 12 _ p12
  have e13 := hff 13 _ p13
  have e15 := hff 15 _ p15
  clear hff hn p0 p1 p2 p11 p12 p13 p15
  rw [lit252, e0, e1, e2, e11, e12, e13, e15]
  clear e0 e1 e2 e11 e12 e13 e15
  go_wp2_with fail
  (try rw [W1.out])
  exact HK.out _ _ rfl rfl rfl rfl rfl rfl rfl rfl ⟨_, _, HZ.out.fewer.more _ (by have := HQ.out; omega), HRZ.out⟩
set_option maxRecDepth 100000 in
set_option maxHeartbeats 6400000 in
theorem job_put {K : Act → World → Prop} {Q : Exit → Act → World → Prop} {w0 w : World} {cb pw n sz c k : Nat} {a : Option Addr} {l : List Jb} {wh pt : Int} {nam kep : ByteArray} (hl : ∀ j x, l[j]? = some x → ∃ g o, a = some ⟨g, o, none⟩ ∧ g < w0.heap.size ∧ w0.cell? ⟨g, o + j * 4, none⟩ = some (.int .i64 x.what) ∧ w0.cell? ⟨g, o + j * 4 + 1, none⟩ = some (.int .i64 x.part) ∧ w0.cell? ⟨g, o + j * 4 + 2, none⟩ = some (.string x.name) ∧ w0.cell? ⟨g, o + j * 4 + 3, none⟩ = some (.string x.kept) ∧ In64 x.what ∧ In64 x.part) (hk : l[k]? = some ⟨wh, pt, nam, kep⟩) (hm : l.length ≤ maxLen) (h50 : k < 50) (hn8 : n ≤ 8) (S : Ro w0 w cb pw n sz k) {i : Nat} (hi : pt = (i : Int)) (hin : i < n) {z : Int} (hz : IntKind.u64.wrap wh = z) (hq : z.tmod 4 = 2) (fr : Array Value) (hn : fr.size = 252) (p0 : fr[0]? = some (.int .i64 (n : Int))) (p1 : fr[1]? = some (.int .i64 (sz : Int))) (p2 : fr[2]? = some (.slice a l.length c)) (p11 : fr[11]? = some (.pointer (some ⟨cb, 0, none⟩))) (p12 : fr[12]? = some (.int .i64 0)) (p13 : fr[13]? = some (.pointer (some ⟨pw, 0, none⟩))) (p15 : fr[15]? = some (.int .i64 (k : Int)))
    (hK : ∀ t' w', t'.size = 252 → t'[0]? = some (.int .i64 (n : Int)) → t'[1]? = some (.int .i64 (sz : Int)) → t'[2]? = some (.slice a l.length c) → t'[11]? = some (.pointer (some ⟨cb, 0, none⟩)) → t'[12]? = some (.int .i64 0) → t'[13]? = some (.pointer (some ⟨pw, 0, none⟩)) → t'[15]? = some (.int .i64 ((k + 1 : Nat) : Int)) → Ro w0 w' cb pw n sz (k + 1) → K ⟨t', []⟩ w') :
    Code.wp Try.prog (loopAt Try.f3 1) (Exit.then K Q) ⟨fr, []⟩ w := by
  subst hi
  obtain ⟨df, dr, T, R⟩ := S
  obtain ⟨ga, oa, rfl, hga, z0, z1, z2, z3, in1, in2⟩ := hl k _ hk
  simp only at z0 z1 z2 z3 in1 in2
  have hkl := (List.getElem?_eq_some_iff.1 hk).1
  have q1 : (k : Int) < (l.length : Int) := by omega
  have q2 : (k : Int) < 50 := by omega
  have q0 : (0 : Int) ≤ (k : Int) := Int.natCast_nonneg k
  have w1 : wrap64 ((k : Int) + 1) = ((k + 1 : Nat) : Int) := by rw [IntWalk.wrap64_in _ (by omega)]; omega
  have W1 := Lib.hid w1
  have HQ := Lib.hid (show 0 ≤ (k : Int) ∧ (k : Int) < 50 from ⟨q0, q2⟩)
  have HT := Lib.hid T
  have HR := Lib.hid R
  have HK := Lib.hid hK
  have c0 := T.fr.cellSome (fun h => h) z0
  have c1 := T.fr.cellSome (fun h => h) z1
  have c2 := T.fr.cellSome (fun h => h) z2
  have c3 := T.fr.cellSome (fun h => h) z3
  have T1 := T.add (.cells #[.int .i64 wh, .int .i64 (i : Int), .string nam, .string kep] 42)
  have e0 := (cell_of_block T1.job 0).trans (show _ = some (Value.int .i64 wh) from rfl)
  have e1 := (cell_of_block T1.job 1).trans (show _ = some (Value.int .i64 (i : Int)) from rfl)
  have e2 := (cell_of_block T1.job 2).trans (show _ = some (Value.string nam) from rfl)
  have e3 := (cell_of_block T1.job 3).trans (show _ = some (Value.string kep) from rfl)
  have HT1 := Lib.hid T1
  clear hl hk hm h50 T R z0 z1 z2 z3 in1 in2 hga hkl w1 hK T1
  have g0 : ¬ ((i : Int) < 0) := by omega
  have g1 : ¬ ((n : Int) ≤ (i : Int)) := by omega
  have g2 : (i : Int) < 8 := by omega
  have g3 : (0 : Int) ≤ (i : Int) := Int.natCast_nonneg i
  have HI := Lib.hid (show i < n ∧ i < 8 from ⟨hin, by omega⟩)
  have v1 : IntKind.i64.wrap 2 = 2 := IntWalk.i64_in _ (by omega)
  have Vhz := congrArg (Value.int .u64) hz
  have Vhq := congrArg (Value.int .u64) hq
  have Vv1 := congrArg (Value.int .i64) v1
  clear hz hq v1 hin
  obtain ⟨f, hff, rfl⟩ := frame_open hn
  have e0 := hff 0 _ p0
  have e1 := hff 1 _ p1
  have e2 := hff 2 _ p2
  have e11 := hff 11 _ p11
  have e12 := hff 12 _ p12
  have e13 := hff 13 _ p13
  have e15 := hff 15 _ p15
  clear hff hn p0 p1 p2 p11 p12 p13 p15
  rw [lit252, e0, e1, e2, e11, e12, e13, e15]
  clear e0 e1 e2 e11 e12 e13 e15
  conv => arg 2; whnf
  go_wp2_with fail
  obtain ⟨hi1, hi2⟩ := HI.out
  obtain ⟨s1, s2, s3⟩ := HR.out i hi1
  have bd := HT1.out.bd i hi1
  have r3 := put_rl s1 sz bd.2.1 bd.1 nam kep
  have hlm := s1.len
  refine (HT1.out.put i hi1 nam kep).mono ?_
  rintro e w2 ⟨rfl, T2⟩
  have HDP := Lib.hid (T2.docput i hi2 (by rw [hlm]; omega) bd.2.2.1 nam kep)
  have HRZ := Lib.hid (HR.out.upd i (pput sz nam kep (df i)) (qput sz nam kep (dr i)) ⟨r3, s2, s3⟩)
  have e2' := (cell_of_block T2.job 2).trans (show _ = some (Value.string nam) from rfl)
  have e3' := (cell_of_block T2.job 3).trans (show _ = some (Value.string kep) from rfl)
  clear T2 s1 s2 s3 r3 bd hlm e0 e1 e2 e3 c0 c1 c2 c3
  go_wp2_with fail
  refine HDP.out.mono ?_
  rintro e w3 ⟨rfl, T3⟩
  have HTZ := Lib.hid T3
  clear T3 e2' e3'
  go_wp2_with fail
  refine inner_loop (z15 := (k : Int)) HTZ.out hn8 HRZ.out _ rfl rfl rfl rfl rfl rfl rfl rfl rfl ?_
  intro t' wz hn p0 p1 p2 p11 p12 p13 p15 FZ
  have HZ := Lib.hid (HTZ.out.ext FZ)
  clear FZ
  obtain ⟨f, hff, rfl⟩ := frame_open hn
  have e0 := hff 0 _ p0
  have e1 := hff 1 _ p1
  have e2 := hff 2 _ p2
  have e11 := hff 11 _ p11
  have e12 := hff 12 _ p12
  have e13 := hff 13 _ p13
  have e15 := hff 15 _ p15
  clear hff hn p0 p1 p2 p11 p12 p13 p15
  rw [lit252, e0, e1, e2, e11, e12, e13, e15]
  clear e0 e1 e2 e11 e12 e13 e15
  go_wp2_with fail
  (try rw [W1.out])
  exact HK.out _ _ rfl rfl rfl rfl rfl rfl rfl rfl ⟨_, _, HZ.out.fewer.more _ (by have := HQ.out; omega), HRZ.out⟩
set_option maxRecDepth 100000 in
set_option maxHeartbeats 6400000 in
theorem job_drop {K : Act → World → Prop} {Q : Exit → Act → World → Prop} {w0 w : World} {cb pw n sz c k : Nat} {a : Option Addr} {l : List Jb} {wh pt : Int} {nam kep : ByteArray} (hl : ∀ j x, l[j]? = some x → ∃ g o, a = some ⟨g, o, none⟩ ∧ g < w0.heap.size ∧ w0.cell? ⟨g, o + j * 4, none⟩ = some (.int .i64 x.what) ∧ w0.cell? ⟨g, o + j * 4 + 1, none⟩ = some (.int .i64 x.part) ∧ w0.cell? ⟨g, o + j * 4 + 2, none⟩ = some (.string x.name) ∧ w0.cell? ⟨g, o + j * 4 + 3, none⟩ = some (.string x.kept) ∧ In64 x.what ∧ In64 x.part) (hk : l[k]? = some ⟨wh, pt, nam, kep⟩) (hm : l.length ≤ maxLen) (h50 : k < 50) (hn8 : n ≤ 8) (S : Ro w0 w cb pw n sz k) {i : Nat} (hi : pt = (i : Int)) (hin : i < n) {z : Int} (hz : IntKind.u64.wrap wh = z) (hq : z.tmod 4 = 3) (fr : Array Value) (hn : fr.size = 252) (p0 : fr[0]? = some (.int .i64 (n : Int))) (p1 : fr[1]? = some (.int .i64 (sz : Int))) (p2 : fr[2]? = some (.slice a l.length c)) (p11 : fr[11]? = some (.pointer (some ⟨cb, 0, none⟩))) (p12 : fr[12]? = some (.int .i64 0)) (p13 : fr[13]? = some (.pointer (some ⟨pw, 0, none⟩))) (p15 : fr[15]? = some (.int .i64 (k : Int)))
    (hK : ∀ t' w', t'.size = 252 → t'[0]? = some (.int .i64 (n : Int)) → t'[1]? = some (.int .i64 (sz : Int)) → t'[2]? = some (.slice a l.length c) → t'[11]? = some (.pointer (some ⟨cb, 0, none⟩)) → t'[12]? = some (.int .i64 0) → t'[13]? = some (.pointer (some ⟨pw, 0, none⟩)) → t'[15]? = some (.int .i64 ((k + 1 : Nat) : Int)) → Ro w0 w' cb pw n sz (k + 1) → K ⟨t', []⟩ w') :
    Code.wp Try.prog (loopAt Try.f3 1) (Exit.then K Q) ⟨fr, []⟩ w := by
  subst hi
  obtain ⟨df, dr, T, R⟩ := S
  obtain ⟨ga, oa, rfl, hga, z0, z1, z2, z3, in1, in2⟩ := hl k _ hk
  simp only at z0 z1 z2 z3 in1 in2
  have hkl := (List.getElem?_eq_some_iff.1 hk).1
  have q1 : (k : Int) < (l.length : Int) := by omega
  have q2 : (k : Int) < 50 := by omega
  have q0 : (0 : Int) ≤ (k : Int) := Int.natCast_nonneg k
  have w1 : wrap64 ((k : Int) + 1) = ((k + 1 : Nat) : Int) := by rw [IntWalk.wrap64_in _ (by omega)]; omega
  have W1 := Lib.hid w1
  have HQ := Lib.hid (show 0 ≤ (k : Int) ∧ (k : Int) < 50 from ⟨q0, q2⟩)
  have HT := Lib.hid T
  have HR := Lib.hid R
  have HK := Lib.hid hK
  have c0 := T.fr.cellSome (fun h => h) z0
  have c1 := T.fr.cellSome (fun h => h) z1
  have c2 := T.fr.cellSome (fun h => h) z2
  have c3 := T.fr.cellSome (fun h => h) z3
  have T1 := T.add (.cells #[.int .i64 wh, .int .i64 (i : Int), .string nam, .string kep] 42)
  have e0 := (cell_of_block T1.job 0).trans (show _ = some (Value.int .i64 wh) from rfl)
  have e1 := (cell_of_block T1.job 1).trans (show _ = some (Value.int .i64 (i : Int)) from rfl)
  have e2 := (cell_of_block T1.job 2).trans (show _ = some (Value.string nam) from rfl)
  have e3 := (cell_of_block T1.job 3).trans (show _ = some (Value.string kep) from rfl)
  have HT1 := Lib.hid T1
  clear hl hk hm h50 T R z0 z1 z2 z3 in1 in2 hga hkl w1 hK T1
  have g0 : ¬ ((i : Int) < 0) := by omega
  have g1 : ¬ ((n : Int) ≤ (i : Int)) := by omega
  have g2 : (i : Int) < 8 := by omega
  have g3 : (0 : Int) ≤ (i : Int) := Int.natCast_nonneg i
  have HI := Lib.hid (show i < n ∧ i < 8 from ⟨hin, by omega⟩)
  have v1 : IntKind.i64.wrap 3 = 3 := IntWalk.i64_in _ (by omega)
  have Vhz := congrArg (Value.int .u64) hz
  have Vhq := congrArg (Value.int .u64) hq
  have Vv1 := congrArg (Value.int .i64) v1
  clear hz hq v1 hin
  obtain ⟨f, hff, rfl⟩ := frame_open hn
  have e0 := hff 0 _ p0
  have e1 := hff 1 _ p1
  have e2 := hff 2 _ p2
  have e11 := hff 11 _ p11
  have e12 := hff 12 _ p12
  have e13 := hff 13 _ p13
  have e15 := hff 15 _ p15
  clear hff hn p0 p1 p2 p11 p12 p13 p15
  rw [lit252, e0, e1, e2, e11, e12, e13, e15]
  clear e0 e1 e2 e11 e12 e13 e15
  conv => arg 2; whnf
  go_wp2_with fail
  obtain ⟨hi1, hi2⟩ := HI.out
  obtain ⟨s1, s2, s3⟩ := HR.out i hi1
  refine (HT1.out.drop i hi1).mono ?_
  rintro e w2 ⟨rfl, T2⟩
  obtain ⟨⟨vv, d0⟩, d1, T3⟩ := T2.docdrop i hi2
  have HRZ := Lib.hid (HR.out.upd i ⟨[], (df i).h, (df i).m⟩ ⟨[], (dr i).h, (dr i).m⟩ ⟨Rl.nil, s2, s3⟩)
  have HTZ := Lib.hid T3
  clear T2 T3 s1 s2 s3 e0 e1 e2 e3 c0 c1 c2 c3
  go_wp2_with fail
  refine inner_loop (z15 := (k : Int)) HTZ.out hn8 HRZ.out _ rfl rfl rfl rfl rfl rfl rfl rfl rfl ?_
  intro t' wz hn p0 p1 p2 p11 p12 p13 p15 FZ
  have HZ := Lib.hid (HTZ.out.ext FZ)
  clear FZ
  obtain ⟨f, hff, rfl⟩ := frame_open hn
  have e0 := hff 0 _ p0
  have e1 := hff 1 _ p1
  have e2 := hff 2 _ p2
  have e11 := hff 11 _ p11
  have e12 := hff 12 _ p12
  have e13 := hff 13 _ p13
  have e15 := hff 15 _ p15
  clear hff hn p0 p1 p2 p11 p12 p13 p15
  rw [lit252, e0, e1, e2, e11, e12, e13, e15]
  clear e0 e1 e2 e11 e12 e13 e15
  go_wp2_with fail
  (try rw [W1.out])
  exact HK.out _ _ rfl rfl rfl rfl rfl rfl rfl rfl ⟨_, _, HZ.out.fewer.more _ (by have := HQ.out; omega), HRZ.out⟩
end Go.Proofs.Ytkigdgkklninoaa

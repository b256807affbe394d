/-
  The loop of rounds of Sum of package custumalref01.
-/
import Derived.Test.YtndakfanlgilmaaDoorR4
namespace Go.Proofs.YtndakfanlgilmaaDoor
open Go.RowKit
set_option linter.unusedVariables false

def sti (s : S2.St) : Array Value := #[.int .i64 (s.a : Int), .int .i64 (s.b : Int), .int .i64 (s.c : Int), .int .i64 (s.d : Int), .int .i64 (s.e : Int), .int .i64 (s.f : Int), .int .i64 (s.g : Int), .int .i64 (s.h : Int)]
set_option maxRecDepth 100000 in
theorem sti_iu (s : S2.St) : iu 8 (swi s) = sti s := rfl
def T1n (s : S2.St) (k w : Nat) : Nat := s.h + S2.bs1 s.e + S2.ch s.e s.f s.g + k + w
def T2n (s : S2.St) : Nat := S2.bs0 s.a + S2.maj s.a s.b s.c
set_option maxRecDepth 100000 in
theorem and_lt {a b : Nat} (h : b < 4294967296) : a &&& b < 4294967296 := Nat.and_lt_two_pow (n := 32) a h
set_option maxRecDepth 100000 in
theorem ch_lt {e f g : Nat} (hf : f < 4294967296) (hg : g < 4294967296) : S2.ch e f g < 4294967296 := Nat.xor_lt_two_pow (n := 32) (and_lt hf) (and_lt hg)
set_option maxRecDepth 100000 in
theorem maj_lt {a b c : Nat} (hb : b < 4294967296) (hc : c < 4294967296) : S2.maj a b c < 4294967296 := xor3_lt (and_lt hb) (and_lt hc) (and_lt hc)
set_option maxRecDepth 100000 in
theorem T1_i64 (t : S2.St) (ok : t.ok) (k w : Nat) (hk : k < 4294967296) (hw : w < 4294967296) :
    wrap64 (wrap64 (wrap64 (wrap64 ((t.h : Int) + bits .xor .i64 (bits .xor .i64 (S2.rotr t.e 6 : Nat) (S2.rotr t.e 11 : Nat)) (S2.rotr t.e 25 : Nat)) + bits .xor .i64 (bits .and .i64 (t.e : Int) (t.f : Int)) (bits .and .i64 (bits .xor .i64 4294967295 (t.e : Int)) (t.g : Int))) + (k : Int)) + (w : Int)) = ((T1n t k w : Nat) : Int) := by
  obtain ⟨h1, h2, h3, h4, h5, h6, h7, h8⟩ := ok
  simp only [S2.M] at h1 h2 h3 h4 h5 h6 h7 h8
  have b1 := bs1_lt t.e h5
  have c1 := ch_lt (e := t.e) h6 h7
  have a1 : 4294967295 ^^^ t.e < 4294967296 := Nat.xor_lt_two_pow (n := 32) (by decide) h5
  have a2 := and_lt (a := t.e) h6
  have a3 := and_lt (a := 4294967295 ^^^ t.e) h7
  rw [xor3_i64 (rotr_lt t.e 6 h5 (by decide)) (rotr_lt t.e 11 h5 (by decide)) (rotr_lt t.e 25 h5 (by decide)), show (4294967295 : Int) = ((4294967295 : Nat) : Int) from rfl,
    (bits_i64_nat 4294967295 t.e (by omega) (by omega)).2.2, (bits_i64_nat t.e t.f (by omega) (by omega)).2.1, (bits_i64_nat _ t.g (by omega) (by omega)).2.1, (bits_i64_nat _ _ (by omega) (by omega)).2.2]
  show wrap64 (wrap64 (wrap64 (wrap64 ((t.h : Int) + (S2.bs1 t.e : Nat)) + (S2.ch t.e t.f t.g : Nat)) + (k : Int)) + (w : Int)) = _
  rw [IntWalk.wrap64_in ((t.h : Int) + (S2.bs1 t.e : Nat)) (by omega), IntWalk.wrap64_in ((t.h : Int) + (S2.bs1 t.e : Nat) + (S2.ch t.e t.f t.g : Nat)) (by omega), IntWalk.wrap64_in ((t.h : Int) + (S2.bs1 t.e : Nat) + (S2.ch t.e t.f t.g : Nat) + (k : Int)) (by omega), IntWalk.wrap64_in ((t.h : Int) + (S2.bs1 t.e : Nat) + (S2.ch t.e t.f t.g : Nat) + (k : Int) + (w : Int)) (by omega)]
  unfold T1n
  omega
set_option maxRecDepth 100000 in
theorem T2_i64 (t : S2.St) (ok : t.ok) :
    wrap64 (bits .xor .i64 (bits .xor .i64 (S2.rotr t.a 2 : Nat) (S2.rotr t.a 13 : Nat)) (S2.rotr t.a 22 : Nat) + bits .xor .i64 (bits .xor .i64 (bits .and .i64 (t.a : Int) (t.b : Int)) (bits .and .i64 (t.a : Int) (t.c : Int))) (bits .and .i64 (t.b : Int) (t.c : Int))) = ((T2n t : Nat) : Int) := by
  obtain ⟨h1, h2, h3, h4, h5, h6, h7, h8⟩ := ok
  simp only [S2.M] at h1 h2 h3 h4 h5 h6 h7 h8
  have b1 := bs0_lt t.a h1
  have c1 := maj_lt (a := t.a) h2 h3
  rw [xor3_i64 (rotr_lt t.a 2 h1 (by decide)) (rotr_lt t.a 13 h1 (by decide)) (rotr_lt t.a 22 h1 (by decide)),
    (bits_i64_nat t.a t.b (by omega) (by omega)).2.1, (bits_i64_nat t.a t.c (by omega) (by omega)).2.1, (bits_i64_nat t.b t.c (by omega) (by omega)).2.1, xor3_i64 (and_lt h2) (and_lt h3) (and_lt h3)]
  show wrap64 ((S2.bs0 t.a : Nat) + (S2.maj t.a t.b t.c : Nat)) = _
  rw [IntWalk.wrap64_in _ (by omega)]
  unfold T2n
  omega
set_option maxRecDepth 100000 in
theorem T1n_lt (t : S2.St) (ok : t.ok) (k w : Nat) (hk : k < 4294967296) (hw : w < 4294967296) : T1n t k w < 30000000000 := by
  obtain ⟨h1, h2, h3, h4, h5, h6, h7, h8⟩ := ok
  simp only [S2.M] at h1 h2 h3 h4 h5 h6 h7 h8
  have b1 := bs1_lt t.e h5
  have c1 := ch_lt (e := t.e) h6 h7
  unfold T1n; omega
set_option maxRecDepth 100000 in
theorem T2n_lt (t : S2.St) (ok : t.ok) : T2n t < 30000000000 := by
  obtain ⟨h1, h2, h3, h4, h5, h6, h7, h8⟩ := ok
  simp only [S2.M] at h1 h2 h3 h4 h5 h6 h7 h8
  have b1 := bs0_lt t.a h1
  have c1 := maj_lt (a := t.a) h2 h3
  unfold T2n; omega
set_option maxRecDepth 100000 in
theorem K_lt : ∀ k, k < 64 → S2.K k < 4294967296 := by decide +kernel
set_option maxRecDepth 100000 in
theorem rnds_ok2 (W : List Nat) (s : S2.St) (hs : s.ok) (k : Nat) : (S2.rnds W s k).ok := by
  induction k with
  | zero => exact hs
  | succ k ih =>
    have hm : ∀ n, n % S2.M < S2.M := fun n => Nat.mod_lt _ (by decide)
    obtain ⟨h1, h2, h3, h4, h5, h6, h7, h8⟩ := ih
    exact ⟨hm _, h1, h2, h3, hm _, h5, h6, h7⟩
set_option maxRecDepth 100000 in
theorem rnd_i64 (t : S2.St) (k w : Nat) (ok : t.ok) (hx : T1n t k w < 30000000000) (hy : T2n t < 30000000000) :
    #[.int .i64 (bits .and .i64 ((T1n t k w : Int) + (T2n t : Int)) 4294967295), .int .i64 (t.a : Int), .int .i64 (t.b : Int), .int .i64 (t.c : Int), .int .i64 (bits .and .i64 ((t.d : Int) + (T1n t k w : Int)) 4294967295), .int .i64 (t.e : Int), .int .i64 (t.f : Int), .int .i64 (t.g : Int)] = sti (S2.rnd t k w) := by
  have h4 := ok.2.2.2.1
  simp only [S2.M] at h4
  rw [show (T1n t k w : Int) + (T2n t : Int) = ((T1n t k w + T2n t : Nat) : Int) by omega, show (t.d : Int) + (T1n t k w : Int) = ((t.d + T1n t k w : Nat) : Int) by omega, mask_nat _ (by omega), mask_nat _ (by omega)]
  have e1 : (T1n t k w + T2n t) % 4294967296 = (S2.T1 t k w + S2.T2 t) % S2.M := by
    show (T1n t k w + T2n t) % 4294967296 = (T1n t k w % 4294967296 + T2n t % 4294967296) % 4294967296
    omega
  have e2 : (t.d + T1n t k w) % 4294967296 = (t.d + S2.T1 t k w) % S2.M := by
    show (t.d + T1n t k w) % 4294967296 = (t.d + T1n t k w % 4294967296) % 4294967296
    omega
  rw [e1, e2]
  rfl

set_option maxRecDepth 100000 in
theorem Tryd.size8s {m : S2.St} : (Tryd.prog.info? 62).map (·.size) = some (sti m).size := by
  show _ = some 8
  kernel_rfl
set_option maxRecDepth 100000 in
theorem sti_one (m : S2.St) : (sti m).all (·.oneCell') = true := by simp [sti, Value.oneCell']

set_option maxRecDepth 100000 in
set_option maxHeartbeats 1600000 in
theorem rs_loop5 {Q : Exit → Act → World → Prop} (l : List UInt8) (s : S2.St) (hs : s.ok) (g off N c B6 B8 B13 : Nat) (w : World) (hE : REnv w) (hA : ArrI w B8 64 (S2.W l)) (hB : w.heap[B13]? = some (.cells (sti s) 62 (0, 0)))
    (hd : B8 ≠ B13) (hdK : B13 ≠ 1) (t : Array Value) (hp : RPin t g N c B6 B8 off) (p13 : t[13]? = some (.pointer (some ⟨B13, 0, none⟩))) (p14 : t[14]? = some (.int .i64 0))
    (hexit : ∀ t' w', RPin t' g N c B6 B8 off → t'[13]? = some (.pointer (some ⟨B13, 0, none⟩)) → w'.heap[B13]? = some (.cells (sti (S2.rnds (S2.sch l 48) s 64)) 62 (0, 0)) → Fr (fun k => k = B13) w w' → Q (.exit 8) ⟨t', []⟩ w') :
    Code.wp Tryd.prog (.loop (loopAt Tryd.f9 4)) Q ⟨t, []⟩ w := by
  refine wp_loop_up 64 (fun k t w' => RPin t g N c B6 B8 off ∧ t[13]? = some (.pointer (some ⟨B13, 0, none⟩)) ∧ t[14]? = some (.int .i64 (k : Int)) ∧ w'.heap[B13]? = some (.cells (sti (S2.rnds (S2.sch l 48) s k)) 62 (0, 0)) ∧ Fr (fun k => k = B13) w w') t w ⟨hp, p13, p14, hB, Fr.refl _ _⟩ ?_
  clear hB hp p13 p14 t
  rintro k t wr hk ⟨hp, p13, p14, hB, hF⟩ K hK
  obtain ⟨f, hf, rfl⟩ := hp.open
  have e13 := hf 13 _ p13
  have e14 := hf 14 _ p14
  clear hf hp p13 p14
  rw [e13, e14]
  clear e13 e14
  conv => arg 2; whnf
  by_cases hk64 : k < 64
  · have cK := (hE.tabK k hk64)
    replace cK := hF.cellSome (p := ⟨1, k, none⟩) (fun h => hdK h.symm) cK
    have cW := hF.cellSome (p := ⟨B8, k, none⟩) hd (hA.cell k hk64)
    have ok := rnds_ok2 (S2.sch l 48) s hs k
    have yK := K_lt k hk64
    have yW := S2.W_lt l k hk64
    have hn : S2.rnds (S2.sch l 48) s (k + 1) = S2.rnd (S2.rnds (S2.sch l 48) s k) (S2.K k) (S2.W l k) := rfl
    generalize S2.rnds (S2.sch l 48) s k = st at hB ok hn
    generalize S2.W l k = yw at cW yW hn
    generalize S2.K k = yk at cK yK hn
    have Hn := Lib.hid hn
    have HK := Lib.hid hK
    have k0 := cell_of_block hB 0
    have k1 := cell_of_block hB 1
    have k2 := cell_of_block hB 2
    have k3 := cell_of_block hB 3
    have k4 := cell_of_block hB 4
    have k5 := cell_of_block hB 5
    have k6 := cell_of_block hB 6
    have k7 := cell_of_block hB 7
    simp [sti] at k0 k1 k2 k3 k4 k5 k6 k7
    have q0 : (0 : Int) ≤ (k : Int) := by omega
    have q1 : (k : Int) < 64 := by omega
    have Z1 := Lib.hid (T1_i64 st ok yk yw yK yW)
    have Z2 := Lib.hid (T2_i64 st ok)
    have x1 := T1n_lt st ok yk yw yK yW
    have x2 := T2n_lt st ok
    have y5 := ok.2.2.2.2.1
    have y1 := ok.1
    have y4 := ok.2.2.2.1
    simp only [S2.M] at y5 y1 y4
    have Z := Lib.hid (rnd_i64 st yk yw ok x1 x2)
    clear hn hK
    go_wp2_with fail
    go_quiet ((go_at_call 23; (first | (with_reducible exact Calls.quiet_of (turnc st.e 6 6 rfl y5 (by decide) (by decide) _)) | (with_reducible exact Calls.quiet_of (turnc st.e 11 11 rfl y5 (by decide) (by decide) _)) | (with_reducible exact Calls.quiet_of (turnc st.e 25 25 rfl y5 (by decide) (by decide) _)))))
    rw [Z1.out]
    clear Z1 cK cW k0 k1 k2 k3 k4 k5 k6 k7
    replace hB : (wr.drewN nq).heap[B13]? = some (.cells (sti st) 62 (0, 0)) := hB
    replace hF : Fr (fun k => k = B13) w (wr.drewN nq) := hF.drewN nq
    generalize wr.drewN nq = wq at *
    have k0 := cell_of_block hB 0
    have k1 := cell_of_block hB 1
    have k2 := cell_of_block hB 2
    have k3 := cell_of_block hB 3
    have k4 := cell_of_block hB 4
    have k5 := cell_of_block hB 5
    have k6 := cell_of_block hB 6
    have k7 := cell_of_block hB 7
    simp [sti] at k0 k1 k2 k3 k4 k5 k6 k7
    go_wp2_with fail
    go_quiet ((go_at_call 23; (first | (with_reducible exact Calls.quiet_of (turnc st.a 2 2 rfl y1 (by decide) (by decide) _)) | (with_reducible exact Calls.quiet_of (turnc st.a 13 13 rfl y1 (by decide) (by decide) _)) | (with_reducible exact Calls.quiet_of (turnc st.a 22 22 rfl y1 (by decide) (by decide) _)))))
    rw [Z2.out]
    clear Z2 k0 k1 k2 k3 k4 k5 k6 k7
    replace hB : (wq.drewN nq).heap[B13]? = some (.cells (sti st) 62 (0, 0)) := hB
    replace hF : Fr (fun k => k = B13) w (wq.drewN nq) := hF.drewN nq
    generalize wq.drewN nq = wx at *
    have k0 := cell_of_block hB 0
    have k1 := cell_of_block hB 1
    have k2 := cell_of_block hB 2
    have k3 := cell_of_block hB 3
    have k4 := cell_of_block hB 4
    have k5 := cell_of_block hB 5
    have k6 := cell_of_block hB 6
    have k7 := cell_of_block hB 7
    simp [sti] at k0 k1 k2 k3 k4 k5 k6 k7
    generalize T1n st yk yw = x at x1 Z ⊢
    generalize T2n st = y at x2 Z ⊢
    have hx0 : (x : Int) < 30000000000 := by omega
    have hy0 : (y : Int) < 30000000000 := by omega
    have hd0 : (st.d : Int) < 4294967296 := by omega
    have Hs1 := Lib.hid (show (Tryd.prog.info? 62).map (·.size) = some (#[.int .i64 (bits .and .i64 ((x : Int) + (y : Int)) 4294967295), .int .i64 (st.a : Int), .int .i64 (st.b : Int), .int .i64 (st.c : Int), .int .i64 (bits .and .i64 ((st.d : Int) + (x : Int)) 4294967295), .int .i64 (st.e : Int), .int .i64 (st.f : Int), .int .i64 (st.g : Int)] : Array Value).size by show _ = some 8; kernel_rfl)
    have Hs2 := Lib.hid (show (sti st).size = (#[.int .i64 (bits .and .i64 ((x : Int) + (y : Int)) 4294967295), .int .i64 (st.a : Int), .int .i64 (st.b : Int), .int .i64 (st.c : Int), .int .i64 (bits .and .i64 ((st.d : Int) + (x : Int)) 4294967295), .int .i64 (st.e : Int), .int .i64 (st.f : Int), .int .i64 (st.g : Int)] : Array Value).size from rfl)
    have Hs3 := Lib.hid (show (#[.int .i64 (bits .and .i64 ((x : Int) + (y : Int)) 4294967295), .int .i64 (st.a : Int), .int .i64 (st.b : Int), .int .i64 (st.c : Int), .int .i64 (bits .and .i64 ((st.d : Int) + (x : Int)) 4294967295), .int .i64 (st.e : Int), .int .i64 (st.f : Int), .int .i64 (st.g : Int)] : Array Value).all (·.oneCell') = true by simp [Value.oneCell'])
    clear x1 x2 y5 y1 y4
    go_wp2_with (with_reducible refine wpList_store_rowR rfl 62 (.tmp 13) (.tmp 221) rfl B13 #[.int .i64 (bits .and .i64 ((x : Int) + (y : Int)) 4294967295), .int .i64 (st.a : Int), .int .i64 (st.b : Int), .int .i64 (st.c : Int), .int .i64 (bits .and .i64 ((st.d : Int) + (x : Int)) 4294967295), .int .i64 (st.e : Int), .int .i64 (st.f : Int), .int .i64 (st.g : Int)] rfl rfl 62 (sti st) hB Hs1.out Hs2.out Hs3.out ?k)
    case k =>
    intro w5 b5 hG5
    have b6 : w5.heap[B13]? = some (.cells (sti (S2.rnds (S2.sch l 48) s (k + 1))) 62 (0, 0)) := by rw [b5, Z.out, ← Hn.out]
    have F6 : Fr (fun k => k = B13) w w5 := hF.trans hG5 (fun i hi => Or.inl hi)
    clear b5 hG5 k0 k1 k2 k3 k4 k5 k6 k7 hB hF
    go_wp2_with fail
    exact HK.out _ _ hk64 ⟨⟨rfl, rfl, rfl, rfl, rfl⟩, rfl, rfl, b6, F6⟩
  · obtain rfl : k = 64 := by omega
    have HE := Lib.hid hexit
    clear hexit
    go_wp2_with fail
    exact HE.out _ _ ⟨rfl, rfl, rfl, rfl, rfl⟩ rfl hB hF
end Go.Proofs.YtndakfanlgilmaaDoor


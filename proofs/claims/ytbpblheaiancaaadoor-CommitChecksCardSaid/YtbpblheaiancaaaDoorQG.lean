/-
  The loop of rounds of Sum of package custumalref01.
  The loop that adds of Sum of package custumalref01.
  The loop over the blocks of Sum of package custumalref01.
  The loop that lays the words out of Sum of package custumalref01.
  The contract of Sum of package custumalref01: it is SHA-256 of the string's bytes.
  The contracts of New, Fork and Len of package sha2, and of the laws' own look at a known sum.
  The walk of the law Sha2Forks: a hash that goes on from here, and the one it came from, don't know of each other.
  Plain laws of this verifier: from a walk that answers true and leaves all that was there as it was, to the post of a row.
  Plain laws of this verifier: bytes that came in as an argument; the table of words out of the row's own condition.
  Plain laws of this verifier: the document's tables of package custumalref01 out of the row's own condition; strings of sums.
-/
import Derived.Test.YtbpblheaiancaaaDoorR4
import Derived.Test.YtbpblheaiancaaaDoorQE
import Derived.Lib.SlBytesConst
import Derived.Stop.BytesEq
import Derived.Test.YtbpblheaiancaaaDoorQA
import Derived.Test.YtbpblheaiancaaaDoorRows
import Derived.ProofKit
import Derived.OpenShut
import Derived.SizedLaws
import Derived.Lib.LaidU8
import Derived.Lib.LaidTab
import Derived.LaidMore
namespace Go.Proofs.YtbpblheaiancaaaDoor
open Go.RowKit
set_option linter.unusedVariables false

def sti (s : S2.St) : Array Value := #[.int .i64 (s.a : Int), .int .i64 (s.b : Int), .int .i64 (s.c : Int), .int .i64 (s.d : Int), .int .i64 (s.e : Int), .int .i64 (s.f : Int), .int .i64 (s.g : Int), .int .i64 (s.h : Int)]
theorem sti_iu (s : S2.St) : iu 8 (swi s) = sti s := rfl
def T1n (s : S2.St) (k w : Nat) : Nat := s.h + S2.bs1 s.e + S2.ch s.e s.f s.g + k + w
def T2n (s : S2.St) : Nat := S2.bs0 s.a + S2.maj s.a s.b s.c
theorem and_lt {a b : Nat} (h : b < 4294967296) : a &&& b < 4294967296 := Nat.and_lt_two_pow (n := 32) a h
theorem ch_lt {e f g : Nat} (hf : f < 4294967296) (hg : g < 4294967296) : S2.ch e f g < 4294967296 := Nat.xor_lt_two_pow (n := 32) (and_lt hf) (and_lt hg)
theorem maj_lt {a b c : Nat} (hb : b < 4294967296) (hc : c < 4294967296) : S2.maj a b c < 4294967296 := xor3_lt (and_lt hb) (and_lt hc) (and_lt hc)
theorem T1_i64 (t : S2.St) (ok : t.ok) (k w : Nat) (hk : k < 4294967296) (hw : w < 4294967296) :
    wrap64 (wrap64 (wrap64 (wrap64 ((t.h : Int) + bits .xor .i64 (bits .xor .i64 (S2.rotr t.e 6 : Nat) (S2.rotr t.e 11 : Nat)) (S2.rotr t.e 25 : Nat)) + bits .xor .i64 (bits .and .i64 (t.e : Int) (t.f : Int)) (bits .and .i64 (bits .xor .i64 4294967295 (t.e : Int)) (t.g : Int))) + (k : Int)) + (w : Int)) = ((T1n t k w : Nat) : Int) := by
  obtain ⟨h1, h2, h3, h4, h5, h6, h7, h8⟩ := ok
  simp only [S2.M] at h1 h2 h3 h4 h5 h6 h7 h8
  have b1 := bs1_lt t.e h5
  have c1 := ch_lt (e := t.e) h6 h7
  have a1 : 4294967295 ^^^ t.e < 4294967296 := Nat.xor_lt_two_pow (n := 32) (by decide) h5
  have a2 := and_lt (a := t.e) h6
  have a3 := and_lt (a := 4294967295 ^^^ t.e) h7
  rw [xor3_i64 (rotr_lt t.e 6 h5 (by decide)) (rotr_lt t.e 11 h5 (by decide)) (rotr_lt t.e 25 h5 (by decide)), show (4294967295 : Int) = ((4294967295 : Nat) : Int) from rfl,
    (bits_i64_nat 4294967295 t.e (by omega) (by omega)).2.2, (bits_i64_nat t.e t.f (by omega) (by omega)).2.1, (bits_i64_nat _ t.g (by omega) (by omega)).2.1, (bits_i64_nat _ _ (by omega) (by omega)).2.2]
  show wrap64 (wrap64 (wrap64 (wrap64 ((t.h : Int) + (S2.bs1 t.e : Nat)) + (S2.ch t.e t.f t.g : Nat)) + (k : Int)) + (w : Int)) = _
  rw [IntWalk.wrap64_in ((t.h : Int) + (S2.bs1 t.e : Nat)) (by omega), IntWalk.wrap64_in ((t.h : Int) + (S2.bs1 t.e : Nat) + (S2.ch t.e t.f t.g : Nat)) (by omega), IntWalk.wrap64_in ((t.h : Int) + (S2.bs1 t.e : Nat) + (S2.ch t.e t.f t.g : Nat) + (k : Int)) (by omega), IntWalk.wrap64_in ((t.h : Int) + (S2.bs1 t.e : Nat) + (S2.ch t.e t.f t.g : Nat) + (k : Int) + (w : Int)) (by omega)]
  unfold T1n
  omega
theorem T2_i64 (t : S2.St) (ok : t.ok) :
    wrap64 (bits .xor .i64 (bits .xor .i64 (S2.rotr t.a 2 : Nat) (S2.rotr t.a 13 : Nat)) (S2.rotr t.a 22 : Nat) + bits .xor .i64 (bits .xor .i64 (bits .and .i64 (t.a : Int) (t.b : Int)) (bits .and .i64 (t.a : Int) (t.c : Int))) (bits .and .i64 (t.b : Int) (t.c : Int))) = ((T2n t : Nat) : Int) := by
  obtain ⟨h1, h2, h3, h4, h5, h6, h7, h8⟩ := ok
  simp only [S2.M] at h1 h2 h3 h4 h5 h6 h7 h8
  have b1 := bs0_lt t.a h1
  have c1 := maj_lt (a := t.a) h2 h3
  rw [xor3_i64 (rotr_lt t.a 2 h1 (by decide)) (rotr_lt t.a 13 h1 (by decide)) (rotr_lt t.a 22 h1 (by decide)),
    (bits_i64_nat t.a t.b (by omega) (by omega)).2.1, (bits_i64_nat t.a t.c (by omega) (by omega)).2.1, (bits_i64_nat t.b t.c (by omega) (by omega)).2.1, xor3_i64 (and_lt h2) (and_lt h3) (and_lt h3)]
  show wrap64 ((S2.bs0 t.a : Nat) + (S2.maj t.a t.b t.c : Nat)) = _
  rw [IntWalk.wrap64_in _ (by omega)]
  unfold T2n
  omega
theorem T1n_lt (t : S2.St) (ok : t.ok) (k w : Nat) (hk : k < 4294967296) (hw : w < 4294967296) : T1n t k w < 30000000000 := by
  obtain ⟨h1, h2, h3, h4, h5, h6, h7, h8⟩ := ok
  simp only [S2.M] at h1 h2 h3 h4 h5 h6 h7 h8
  have b1 := bs1_lt t.e h5
  have c1 := ch_lt (e := t.e) h6 h7
  unfold T1n; omega
theorem T2n_lt (t : S2.St) (ok : t.ok) : T2n t < 30000000000 := by
  obtain ⟨h1, h2, h3, h4, h5, h6, h7, h8⟩ := ok
  simp only [S2.M] at h1 h2 h3 h4 h5 h6 h7 h8
  have b1 := bs0_lt t.a h1
  have c1 := maj_lt (a := t.a) h2 h3
  unfold T2n; omega
theorem K_lt : ∀ k, k < 64 → S2.K k < 4294967296 := by decide +kernel
theorem rnds_ok2 (W : List Nat) (s : S2.St) (hs : s.ok) (k : Nat) : (S2.rnds W s k).ok := by
  induction k with
  | zero => exact hs
  | succ k ih =>
    have hm : ∀ n, n % S2.M < S2.M := fun n => Nat.mod_lt _ (by decide)
    obtain ⟨h1, h2, h3, h4, h5, h6, h7, h8⟩ := ih
    exact ⟨hm _, h1, h2, h3, hm _, h5, h6, h7⟩
theorem rnd_i64 (t : S2.St) (k w : Nat) (ok : t.ok) (hx : T1n t k w < 30000000000) (hy : T2n t < 30000000000) :
    #[.int .i64 (bits .and .i64 ((T1n t k w : Int) + (T2n t : Int)) 4294967295), .int .i64 (t.a : Int), .int .i64 (t.b : Int), .int .i64 (t.c : Int), .int .i64 (bits .and .i64 ((t.d : Int) + (T1n t k w : Int)) 4294967295), .int .i64 (t.e : Int), .int .i64 (t.f : Int), .int .i64 (t.g : Int)] = sti (S2.rnd t k w) := by
  have h4 := ok.2.2.2.1
  simp only [S2.M] at h4
  rw [show (T1n t k w : Int) + (T2n t : Int) = ((T1n t k w + T2n t : Nat) : Int) by omega, show (t.d : Int) + (T1n t k w : Int) = ((t.d + T1n t k w : Nat) : Int) by omega, mask_nat _ (by omega), mask_nat _ (by omega)]
  have e1 : (T1n t k w + T2n t) % 4294967296 = (S2.T1 t k w + S2.T2 t) % S2.M := by
    show (T1n t k w + T2n t) % 4294967296 = (T1n t k w % 4294967296 + T2n t % 4294967296) % 4294967296
    omega
  have e2 : (t.d + T1n t k w) % 4294967296 = (t.d + S2.T1 t k w) % S2.M := by
    show (t.d + T1n t k w) % 4294967296 = (t.d + T1n t k w % 4294967296) % 4294967296
    omega
  rw [e1, e2]
  rfl

theorem Tryd.size8s {m : S2.St} : (Tryd.prog.info? 85).map (·.size) = some (sti m).size := by
  show _ = some 8
  kernel_rfl
theorem sti_one (m : S2.St) : (sti m).all (·.oneCell') = true := by simp [sti, Value.oneCell']

set_option maxRecDepth 100000 in
set_option maxHeartbeats 1600000 in
theorem rs_loop5 {Q : Exit → Act → World → Prop} (l : List UInt8) (s : S2.St) (hs : s.ok) (g off N c B6 B8 B13 : Nat) (w : World) (hE : REnv w) (hA : ArrI w B8 64 (S2.W l)) (hB : w.heap[B13]? = some (.cells (sti s) 85 (0, 0)))
    (hd : B8 ≠ B13) (hdK : B13 ≠ 1) (t : Array Value) (hp : RPin t g N c B6 B8 off) (p13 : t[13]? = some (.pointer (some ⟨B13, 0, none⟩))) (p14 : t[14]? = some (.int .i64 0))
    (hexit : ∀ t' w', RPin t' g N c B6 B8 off → t'[13]? = some (.pointer (some ⟨B13, 0, none⟩)) → w'.heap[B13]? = some (.cells (sti (S2.rnds (S2.sch l 48) s 64)) 85 (0, 0)) → Fr (fun k => k = B13) w w' → Q (.exit 8) ⟨t', []⟩ w') :
    Code.wp Tryd.prog (.loop (loopAt Tryd.f18 4)) Q ⟨t, []⟩ w := by
  refine wp_loop_up 64 (fun k t w' => RPin t g N c B6 B8 off ∧ t[13]? = some (.pointer (some ⟨B13, 0, none⟩)) ∧ t[14]? = some (.int .i64 (k : Int)) ∧ w'.heap[B13]? = some (.cells (sti (S2.rnds (S2.sch l 48) s k)) 85 (0, 0)) ∧ Fr (fun k => k = B13) w w') t w ⟨hp, p13, p14, hB, Fr.refl _ _⟩ ?_
  clear hB hp p13 p14 t
  rintro k t wr hk ⟨hp, p13, p14, hB, hF⟩ K hK
  obtain ⟨f, hf, rfl⟩ := hp.open
  have e13 := hf 13 _ p13
  have e14 := hf 14 _ p14
  clear hf hp p13 p14
  rw [e13, e14]
  clear e13 e14
  conv => arg 2; whnf
  by_cases hk64 : k < 64
  · have cK := (hE.tabK k hk64)
    replace cK := hF.cellSome (p := ⟨1, k, none⟩) (fun h => hdK h.symm) cK
    have cW := hF.cellSome (p := ⟨B8, k, none⟩) hd (hA.cell k hk64)
    have ok := rnds_ok2 (S2.sch l 48) s hs k
    have yK := K_lt k hk64
    have yW := S2.W_lt l k hk64
    have hn : S2.rnds (S2.sch l 48) s (k + 1) = S2.rnd (S2.rnds (S2.sch l 48) s k) (S2.K k) (S2.W l k) := rfl
    generalize S2.rnds (S2.sch l 48) s k = st at hB ok hn
    generalize S2.W l k = yw at cW yW hn
    generalize S2.K k = yk at cK yK hn
    have Hn := Lib.hid hn
    have HK := Lib.hid hK
    have k0 := cell_of_block hB 0
    have k1 := cell_of_block hB 1
    have k2 := cell_of_block hB 2
    have k3 := cell_of_block hB 3
    have k4 := cell_of_block hB 4
    have k5 := cell_of_block hB 5
    have k6 := cell_of_block hB 6
    have k7 := cell_of_block hB 7
    simp [sti] at k0 k1 k2 k3 k4 k5 k6 k7
    have q0 : (0 : Int) ≤ (k : Int) := by omega
    have q1 : (k : Int) < 64 := by omega
    have Z1 := Lib.hid (T1_i64 st ok yk yw yK yW)
    have Z2 := Lib.hid (T2_i64 st ok)
    have x1 := T1n_lt st ok yk yw yK yW
    have x2 := T2n_lt st ok
    have y5 := ok.2.2.2.2.1
    have y1 := ok.1
    have y4 := ok.2.2.2.1
    simp only [S2.M] at y5 y1 y4
    have Z := Lib.hid (rnd_i64 st yk yw ok x1 x2)
    clear hn hK
    go_wp2_with fail
    go_quiet ((go_at_call 51; (first | (with_reducible exact Calls.quiet_of (turnc st.e 6 6 rfl y5 (by decide) (by decide) _)) | (with_reducible exact Calls.quiet_of (turnc st.e 11 11 rfl y5 (by decide) (by decide) _)) | (with_reducible exact Calls.quiet_of (turnc st.e 25 25 rfl y5 (by decide) (by decide) _)))))
    rw [Z1.out]
    clear Z1 cK cW k0 k1 k2 k3 k4 k5 k6 k7
    replace hB : (wr.drewN nq).heap[B13]? = some (.cells (sti st) 85 (0, 0)) := hB
    replace hF : Fr (fun k => k = B13) w (wr.drewN nq) := hF.drewN nq
    generalize wr.drewN nq = wq at *
    have k0 := cell_of_block hB 0
    have k1 := cell_of_block hB 1
    have k2 := cell_of_block hB 2
    have k3 := cell_of_block hB 3
    have k4 := cell_of_block hB 4
    have k5 := cell_of_block hB 5
    have k6 := cell_of_block hB 6
    have k7 := cell_of_block hB 7
    simp [sti] at k0 k1 k2 k3 k4 k5 k6 k7
    go_wp2_with fail
    go_quiet ((go_at_call 51; (first | (with_reducible exact Calls.quiet_of (turnc st.a 2 2 rfl y1 (by decide) (by decide) _)) | (with_reducible exact Calls.quiet_of (turnc st.a 13 13 rfl y1 (by decide) (by decide) _)) | (with_reducible exact Calls.quiet_of (turnc st.a 22 22 rfl y1 (by decide) (by decide) _)))))
    rw [Z2.out]
    clear Z2 k0 k1 k2 k3 k4 k5 k6 k7
    replace hB : (wq.drewN nq).heap[B13]? = some (.cells (sti st) 85 (0, 0)) := hB
    replace hF : Fr (fun k => k = B13) w (wq.drewN nq) := hF.drewN nq
    generalize wq.drewN nq = wx at *
    have k0 := cell_of_block hB 0
    have k1 := cell_of_block hB 1
    have k2 := cell_of_block hB 2
    have k3 := cell_of_block hB 3
    have k4 := cell_of_block hB 4
    have k5 := cell_of_block hB 5
    have k6 := cell_of_block hB 6
    have k7 := cell_of_block hB 7
    simp [sti] at k0 k1 k2 k3 k4 k5 k6 k7
    generalize T1n st yk yw = x at x1 Z ⊢
    generalize T2n st = y at x2 Z ⊢
    have hx0 : (x : Int) < 30000000000 := by omega
    have hy0 : (y : Int) < 30000000000 := by omega
    have hd0 : (st.d : Int) < 4294967296 := by omega
    have Hs1 := Lib.hid (show (Tryd.prog.info? 85).map (·.size) = some (#[.int .i64 (bits .and .i64 ((x : Int) + (y : Int)) 4294967295), .int .i64 (st.a : Int), .int .i64 (st.b : Int), .int .i64 (st.c : Int), .int .i64 (bits .and .i64 ((st.d : Int) + (x : Int)) 4294967295), .int .i64 (st.e : Int), .int .i64 (st.f : Int), .int .i64 (st.g : Int)] : Array Value).size by show _ = some 8; kernel_rfl)
    have Hs2 := Lib.hid (show (sti st).size = (#[.int .i64 (bits .and .i64 ((x : Int) + (y : Int)) 4294967295), .int .i64 (st.a : Int), .int .i64 (st.b : Int), .int .i64 (st.c : Int), .int .i64 (bits .and .i64 ((st.d : Int) + (x : Int)) 4294967295), .int .i64 (st.e : Int), .int .i64 (st.f : Int), .int .i64 (st.g : Int)] : Array Value).size from rfl)
    have Hs3 := Lib.hid (show (#[.int .i64 (bits .and .i64 ((x : Int) + (y : Int)) 4294967295), .int .i64 (st.a : Int), .int .i64 (st.b : Int), .int .i64 (st.c : Int), .int .i64 (bits .and .i64 ((st.d : Int) + (x : Int)) 4294967295), .int .i64 (st.e : Int), .int .i64 (st.f : Int), .int .i64 (st.g : Int)] : Array Value).all (·.oneCell') = true by simp [Value.oneCell'])
    clear x1 x2 y5 y1 y4
    go_wp2_with (with_reducible refine wpList_store_rowR rfl 85 (.tmp 13) (.tmp 221) rfl B13 #[.int .i64 (bits .and .i64 ((x : Int) + (y : Int)) 4294967295), .int .i64 (st.a : Int), .int .i64 (st.b : Int), .int .i64 (st.c : Int), .int .i64 (bits .and .i64 ((st.d : Int) + (x : Int)) 4294967295), .int .i64 (st.e : Int), .int .i64 (st.f : Int), .int .i64 (st.g : Int)] rfl rfl 85 (sti st) hB Hs1.out Hs2.out Hs3.out ?k)
    case k =>
    intro w5 b5 hG5
    have b6 : w5.heap[B13]? = some (.cells (sti (S2.rnds (S2.sch l 48) s (k + 1))) 85 (0, 0)) := by rw [b5, Z.out, ← Hn.out]
    have F6 : Fr (fun k => k = B13) w w5 := hF.trans hG5 (fun i hi => Or.inl hi)
    clear b5 hG5 k0 k1 k2 k3 k4 k5 k6 k7 hB hF
    go_wp2_with fail
    exact HK.out _ _ hk64 ⟨⟨rfl, rfl, rfl, rfl, rfl⟩, rfl, rfl, b6, F6⟩
  · obtain rfl : k = 64 := by omega
    have HE := Lib.hid hexit
    clear hexit
    go_wp2_with fail
    exact HE.out _ _ ⟨rfl, rfl, rfl, rfl, rfl⟩ rfl hB hF
end Go.Proofs.YtbpblheaiancaaaDoor
namespace Go.Proofs.YtbpblheaiancaaaDoor
open Go.RowKit
set_option linter.unusedVariables false

/-- The first k words are added. -/
def addf (s u : S2.St) (k j : Nat) : Nat := if j < k then (swi s j + swi u j) % S2.M else swi s j
theorem swi_lt (s : S2.St) (h : s.ok) : ∀ j, j < 8 → swi s j < 4294967296 := by
  obtain ⟨h1, h2, h3, h4, h5, h6, h7, h8⟩ := h
  intro j hj
  match j, hj with
  | 0, _ => exact h1
  | 1, _ => exact h2
  | 2, _ => exact h3
  | 3, _ => exact h4
  | 4, _ => exact h5
  | 5, _ => exact h6
  | 6, _ => exact h7
  | 7, _ => exact h8
theorem addf_8 (s u : S2.St) : iu 8 (addf s u 8) = sti (s.add u) := rfl
theorem addf_0 (s u : S2.St) : iu 8 (addf s u 0) = sti s := rfl
theorem addf_step {w : World} {b : Nat} (s u : S2.St) (k : Nat) (hk : k < 8) (h : w.heap[b]? = some (.cells (iu 8 (addf s u k)) 85 (0, 0))) (v : Int) (hv : v = (((swi s k + swi u k) % 4294967296 : Nat) : Int)) :
    (w.setCell ⟨b, k, none⟩ (.int .i64 v)).heap[b]? = some (.cells (iu 8 (addf s u (k + 1))) 85 (0, 0)) := by
  rw [block_setCell h k, hv, iu_set 8 _ k _ hk]
  congr 3
  funext j
  unfold addf S2.M
  by_cases h1 : j = k
  · subst h1; simp
  · rw [if_neg h1]
    by_cases h2 : j < k
    · rw [if_pos h2, if_pos (by omega)]
    · rw [if_neg h2, if_neg (by omega)]

set_option maxRecDepth 100000 in
set_option maxHeartbeats 1600000 in
theorem rs_loop6 {Q : Exit → Act → World → Prop} (s u : S2.St) (hs : s.ok) (hu : u.ok) (g off N c B6 B8 B13 : Nat) (w : World) (hB6 : w.heap[B6]? = some (.cells (sti s) 85 (0, 0))) (hB : w.heap[B13]? = some (.cells (sti u) 85 (0, 0)))
    (hd : B6 ≠ B13) (t : Array Value) (hp : RPin t g N c B6 B8 off) (p13 : t[13]? = some (.pointer (some ⟨B13, 0, none⟩))) (p17 : t[17]? = some (.int .i64 0))
    (hexit : ∀ t' w', RPin t' g N c B6 B8 off → w'.heap[B6]? = some (.cells (sti (s.add u)) 85 (0, 0)) → Fr (fun k => k = B6) w w' → Q (.exit 10) ⟨t', []⟩ w') :
    Code.wp Tryd.prog (.loop (loopAt Tryd.f18 5)) Q ⟨t, []⟩ w := by
  refine wp_loop_up 8 (fun k t w' => RPin t g N c B6 B8 off ∧ t[13]? = some (.pointer (some ⟨B13, 0, none⟩)) ∧ t[17]? = some (.int .i64 (k : Int)) ∧ w'.heap[B6]? = some (.cells (iu 8 (addf s u k)) 85 (0, 0)) ∧ Fr (fun k => k = B6) w w') t w ⟨hp, p13, p17, hB6, Fr.refl _ _⟩ ?_
  clear hB6 hp p13 p17 t
  rintro k t wr hk ⟨hp, p13, p17, hA, hF⟩ K hK
  obtain ⟨f, hf, rfl⟩ := hp.open
  have e13 := hf 13 _ p13
  have e17 := hf 17 _ p17
  clear hf hp p13 p17
  rw [e13, e17]
  clear e13 e17
  conv => arg 2; whnf
  by_cases hk8 : k < 8
  · have hBr := (hF.block _ (lt_of_block hB) (fun h => hd h.symm)).trans hB
    have c0 := cell_of_block hA k
    rw [iu_get 8 _ k hk8, show addf s u k k = swi s k by simp [addf]] at c0
    have c1 := cell_of_block hBr k
    rw [← sti_iu, iu_get 8 _ k hk8] at c1
    have hfo := free_of_block hA k
    have y0 := swi_lt s hs k hk8
    have y1 := swi_lt u hu k hk8
    have hst := addf_step s u k hk8 hA
    generalize swi s k = z0 at c0 y0 hst
    generalize swi u k = z1 at c1 y1 hst
    have b0 : (z0 : Int) < 4294967296 := by omega
    have b1 : (z1 : Int) < 4294967296 := by omega
    have b2 : (0 : Int) ≤ (z0 : Int) + (z1 : Int) := by omega
    have m := mask_nat (z0 + z1) (by omega)
    have q0 : (0 : Int) ≤ (k : Int) := by omega
    have q1 : (k : Int) < 8 := by omega
    have HK := Lib.hid hK
    have HS := Lib.hid hst
    have HM := Lib.hid m
    clear hst hK m
    have ws : IntKind.i64.wrap ((z0 : Int) + (z1 : Int)) = (z0 : Int) + (z1 : Int) := IntWalk.i64_in _ (by omega)
    go_wp2_with fail
    go_still_tail 10, (by kernel_rfl)
    change wpList _ _ _ _ _ wr.drew
    have E1 := HS.out (bits .and .i64 ((z0 : Int) + (z1 : Int)) 4294967295) (by rw [← HM.out]; simp)
    have E2 : Fr (fun k => k = B6) w (wr.setCell ⟨B6, k, none⟩ (.int .i64 (bits .and .i64 ((z0 : Int) + (z1 : Int)) 4294967295))).drew := (hF.setCell (Or.inl rfl) _).drew
    have E3 : (wr.setCell ⟨B6, k, none⟩ (.int .i64 (bits .and .i64 ((z0 : Int) + (z1 : Int)) 4294967295))).drew.heap[B6]? = _ := E1
    have H3 := Lib.hid E3
    clear E1 E3 hA hF hBr HS HM ws
    go_wp2_with fail
    exact HK.out _ _ hk8 ⟨⟨rfl, rfl, rfl, rfl, rfl⟩, rfl, rfl, H3.out, E2⟩
  · obtain rfl : k = 8 := by omega
    rw [addf_8] at hA
    have HE := Lib.hid hexit
    clear hexit
    go_wp2_with fail
    exact HE.out _ _ ⟨rfl, rfl, rfl, rfl, rfl⟩ hA hF
end Go.Proofs.YtbpblheaiancaaaDoor
namespace Go.Proofs.YtbpblheaiancaaaDoor
open Go.RowKit
set_option linter.unusedVariables false

structure OPin (t : Array Value) (g N c B6 off : Nat) : Prop where
  n : t.size = 265
  p4 : t[4]? = some (.slice (some ⟨g, 0, none⟩) N c)
  p6 : t[6]? = some (.pointer (some ⟨B6, 0, none⟩))
  p7 : t[7]? = some (.int .i64 (off : Int))
set_option maxRecDepth 100000 in
theorem OPin.open {t : Array Value} {g N c B6 off : Nat} (h : OPin t g N c B6 off) : ∃ f : Nat → Value, (∀ i v, t[i]? = some v → f i = v) ∧ t = #[f 0, f 1, f 2, f 3, .slice (some ⟨g, 0, none⟩) N c, f 5, .pointer (some ⟨B6, 0, none⟩), .int .i64 (off : Int), f 8, f 9, f 10, f 11, f 12, f 13, f 14, f 15, f 16, f 17, f 18, f 19, f 20, f 21, f 22, f 23, f 24, f 25, f 26, f 27, f 28, f 29, f 30, f 31, f 32, f 33, f 34, f 35, f 36, f 37, f 38, f 39, f 40, f 41, f 42, f 43, f 44, f 45, f 46, f 47, f 48, f 49, f 50, f 51, f 52, f 53, f 54, f 55, f 56, f 57, f 58, f 59, f 60, f 61, f 62, f 63, f 64, f 65, f 66, f 67, f 68, f 69, f 70, f 71, f 72, f 73, f 74, f 75, f 76, f 77, f 78, f 79, f 80, f 81, f 82, f 83, f 84, f 85, f 86, f 87, f 88, f 89, f 90, f 91, f 92, f 93, f 94, f 95, f 96, f 97, f 98, f 99, f 100, f 101, f 102, f 103, f 104, f 105, f 106, f 107, f 108, f 109, f 110, f 111, f 112, f 113, f 114, f 115, f 116, f 117, f 118, f 119, f 120, f 121, f 122, f 123, f 124, f 125, f 126, f 127, f 128, f 129, f 130, f 131, f 132, f 133, f 134, f 135, f 136, f 137, f 138, f 139, f 140, f 141, f 142, f 143, f 144, f 145, f 146, f 147, f 148, f 149, f 150, f 151, f 152, f 153, f 154, f 155, f 156, f 157, f 158, f 159, f 160, f 161, f 162, f 163, f 164, f 165, f 166, f 167, f 168, f 169, f 170, f 171, f 172, f 173, f 174, f 175, f 176, f 177, f 178, f 179, f 180, f 181, f 182, f 183, f 184, f 185, f 186, f 187, f 188, f 189, f 190, f 191, f 192, f 193, f 194, f 195, f 196, f 197, f 198, f 199, f 200, f 201, f 202, f 203, f 204, f 205, f 206, f 207, f 208, f 209, f 210, f 211, f 212, f 213, f 214, f 215, f 216, f 217, f 218, f 219, f 220, f 221, f 222, f 223, f 224, f 225, f 226, f 227, f 228, f 229, f 230, f 231, f 232, f 233, f 234, f 235, f 236, f 237, f 238, f 239, f 240, f 241, f 242, f 243, f 244, f 245, f 246, f 247, f 248, f 249, f 250, f 251, f 252, f 253, f 254, f 255, f 256, f 257, f 258, f 259, f 260, f 261, f 262, f 263, f 264] := by
  obtain ⟨f, hf, ht⟩ := frame_open h.n
  rw [lit265] at ht
  refine ⟨f, hf, ?_⟩
  rw [ht, hf 4 _ h.p4, hf 6 _ h.p6, hf 7 _ h.p7]
theorem getD_blk (F : List UInt8) (k j : Nat) (hj : j < 64) : ((F.drop (64 * k)).take 64).getD j 0 = F.getD (64 * k + j) 0 := by
  simp [List.getD_eq_getElem?_getD, hj, List.getElem?_drop]
/-- The bytes of a text, from the start of a block on. -/
def Txt (w : World) (g : Nat) (F : List UInt8) : Prop := ∀ j, j < F.length → w.cell? ⟨g, j, none⟩ = some (.int .u8 ((F.getD j 0).toNat : Int))
theorem Txt.fr {w w2 : World} {g : Nat} {F : List UInt8} {S : Nat → Prop} (h : Txt w g F) (hF : Fr S w w2) (hs : ¬ S g) : Txt w2 g F := fun j hj => hF.cellSome (p := ⟨g, j, none⟩) hs (h j hj)
theorem Txt.blk {w : World} {g k : Nat} {F : List UInt8} (h : Txt w g F) (hk : 64 * k + 64 ≤ F.length) : Blk w g (64 * k) ((F.drop (64 * k)).take 64) := by
  intro j hj
  rw [getD_blk F k j hj]
  exact h (64 * k + j) (by omega)

set_option maxRecDepth 100000 in
theorem zero64i : (#[.int .i64 0, .int .i64 0, .int .i64 0, .int .i64 0, .int .i64 0, .int .i64 0, .int .i64 0, .int .i64 0, .int .i64 0, .int .i64 0, .int .i64 0, .int .i64 0, .int .i64 0, .int .i64 0, .int .i64 0, .int .i64 0, .int .i64 0, .int .i64 0, .int .i64 0, .int .i64 0, .int .i64 0, .int .i64 0, .int .i64 0, .int .i64 0, .int .i64 0, .int .i64 0, .int .i64 0, .int .i64 0, .int .i64 0, .int .i64 0, .int .i64 0, .int .i64 0, .int .i64 0, .int .i64 0, .int .i64 0, .int .i64 0, .int .i64 0, .int .i64 0, .int .i64 0, .int .i64 0, .int .i64 0, .int .i64 0, .int .i64 0, .int .i64 0, .int .i64 0, .int .i64 0, .int .i64 0, .int .i64 0, .int .i64 0, .int .i64 0, .int .i64 0, .int .i64 0, .int .i64 0, .int .i64 0, .int .i64 0, .int .i64 0, .int .i64 0, .int .i64 0, .int .i64 0, .int .i64 0, .int .i64 0, .int .i64 0, .int .i64 0, .int .i64 0] : Array Value).size = 64 := by kernel_rfl

set_option maxRecDepth 100000 in
set_option maxHeartbeats 1600000 in
theorem rs_loop3 {Q : Exit → Act → World → Prop} (F : List UInt8) (g N c B6 nb : Nat) (hFl : F.length = N) (hN : N = 64 * nb) (hN2 : N ≤ 1000000000100) (w : World) (hT : Txt w g F) (hg : g < w.heap.size) (hE : REnv w) (hB6 : w.heap[B6]? = some (.cells (sti S2.H0) 85 (0, 0)))
    (hd : g ≠ B6) (hdK : B6 ≠ 1) (hdH : B6 ≠ 0) (t : Array Value) (hp : OPin t g N c B6 0)
    (hexit : ∀ t' w', OPin t' g N c B6 N → w'.heap[B6]? = some (.cells (sti (S2.hwN F nb)) 85 (0, 0)) → Fr (fun k => k = B6) w w' → Q (.exit 4) ⟨t', []⟩ w') :
    Code.wp Tryd.prog (.loop (loopAt Tryd.f18 2)) Q ⟨t, []⟩ w := by
  refine wp_loop_up nb (fun k t w' => OPin t g N c B6 (64 * k) ∧ w'.heap[B6]? = some (.cells (sti (S2.hwN F k)) 85 (0, 0)) ∧ Fr (fun k => k = B6) w w') t w ⟨hp, hB6, Fr.refl _ _⟩ ?_
  clear hB6 hp t
  rintro k t wr hk ⟨hp, hB6, hF⟩ K hK
  obtain ⟨f, hf, rfl⟩ := hp.open
  clear hf hp
  conv => arg 2; whnf
  have hTr := hT.fr hF hd
  have hEr := hE.fr hF (fun h => hdH h.symm) (fun h => hdK h.symm)
  have z0 := hF.size
  have z6 := lt_of_block hB6
  by_cases hlt : k < nb
  · have hblk := hTr.blk (k := k) (by omega)
    have hok := S2.hwN_ok F k
    have hnext : S2.hwN F (k + 1) = (S2.hwN F k).add (S2.rnds (S2.sch ((F.drop (64 * k)).take 64) 48) (S2.hwN F k) 64) := rfl
    have hrok := rnds_ok2 (S2.sch ((F.drop (64 * k)).take 64) 48) (S2.hwN F k) hok 64
    generalize (F.drop (64 * k)).take 64 = l at hblk hnext hrok
    generalize S2.hwN F k = s at hB6 hok hnext hrok
    have ht : ((64 * k : Nat) : Int) < (N : Int) := by omega
    have ht2 : ((64 * k : Nat) : Int) ≤ 2000000000000 := by omega
    obtain ⟨off, hoff⟩ : ∃ off, off = 64 * k := ⟨_, rfl⟩
    rw [← hoff] at ht ht2 hblk ⊢
    have hoN : off + 64 ≤ N := by omega
    have Hoff := Lib.hid hoff
    have Hnext := Lib.hid hnext
    have HK := Lib.hid hK
    have HB6 := Lib.hid hB6
    have HN := Lib.hid hN
    have HFl := Lib.hid hFl
    clear hoff hnext hK hB6 hN hFl hTr
    go_wp2_with fail
    refine rs_loop4 l g off N c B6 wr.heap.size hoN hN2 _ (hblk.fr ((Fr.refl (fun _ => False) wr).alloc _) (fun h => h)) ⟨_, heap_alloc_new wr _, zero64i, fun j hj => by omega⟩ (by omega) _ ⟨rfl, rfl, rfl, rfl, rfl⟩ rfl ?_
    intro t1 w1 hp1 hA1 hF1
    have G1 : Fr (fun k => k = B6) w w1 := (hF.alloc _).trans hF1 (fun i hi => Or.inr (by omega))
    have HB1 : w1.heap[B6]? = some (.cells (sti s) 85 (0, 0)) := by
      rw [hF1.block B6 (by simp; omega) (by omega), Below.heap_alloc _ _ _ z6]; exact HB6.out
    have hE1 := hE.fr G1 (fun h => hdH h.symm) (fun h => hdK h.symm)
    have z1 : wr.heap.size < w1.heap.size := hA1.lt
    clear hF1 HB6 hblk hEr
    generalize wr.heap.size = B8 at hA1 hp1 z1 z0 z6
    obtain ⟨f1, hf1, rfl⟩ := hp1.open
    clear hf1 hp1
    have hsz : (#[.int .i64 0, .int .i64 0, .int .i64 0, .int .i64 0, .int .i64 0, .int .i64 0, .int .i64 0, .int .i64 0] : Array Value).size = (sti s).size := rfl
    have Hsz := Lib.hid hsz
    have HB1' := Lib.hid HB1
    have Hk := Lib.hid hlt
    clear hsz HB1 hlt
    go_wp2_with (first
      | (with_reducible refine wpList_load_row rfl 85 (.tmp 6) rfl B6 rfl 85 (sti s) (0, 0) _ HB1'.out Tryd.underlying85 rfl Tryd.size8s ?_)
      | (with_reducible refine wpList_store_rowR rfl 85 (.tmp 13) (.tmp 131) rfl w1.heap.size (sti s) rfl rfl 85 _ (heap_alloc_new w1 _) Tryd.size8s Hsz.out (sti_one s) ?k))
    case k =>
    intro w2 hB2 hG2
    have HB1 := HB1'.out
    have L12 : Fr (fun _ => False) w1 w2 := ((Fr.refl (fun _ => False) w1).alloc _).trans hG2 (fun i hi => Or.inr (by omega))
    have z2 := lt_of_block hB2
    have hA2 := hA1.fr L12 (fun h => h)
    have hE2 := hE1.fr L12 (fun h => h) (fun h => h)
    have HB2 : w2.heap[B6]? = some (.cells (sti s) 85 (0, 0)) := (L12.block B6 (by omega) (fun h => h)).trans HB1
    have G2 : Fr (fun k => k = B6) w w2 := G1.trans L12 (fun _ h => h.elim)
    have d13 : B6 ≠ w1.heap.size := by omega
    have d8 : B8 ≠ w1.heap.size := by omega
    have dK : w1.heap.size ≠ 1 := fun e => by
      have := hE.tabK 0 (by decide)
      have := World.block_lt_of_cell? _ _ this
      simp at this; omega
    clear HB1 HB1' Hsz hG2 L12 hA1 hE1
    generalize w1.heap.size = B13 at *
    have hB2' := Lib.hid hB2
    have HB2' := Lib.hid HB2
    clear hB2 HB2
    go_wp2_with fail
    refine rs_loop5 l s hok g off N c B6 B8 B13 w2 hE2 hA2 hB2'.out d8 dK _ ⟨rfl, rfl, rfl, rfl, rfl⟩ rfl rfl ?_
    intro t3 w3 hp3 p13 hB3 hF3
    have HB3 : w3.heap[B6]? = some (.cells (sti s) 85 (0, 0)) := (hF3.block B6 (lt_of_block HB2'.out) d13).trans HB2'.out
    have G3 : Fr (fun k => k = B6) w w3 := G2.trans hF3 (fun i hi => Or.inr (by subst hi; omega))
    clear hB2' HB2' hF3 hA2 hE2
    obtain ⟨f3, hf3, rfl⟩ := hp3.open
    have e13 := hf3 13 _ p13
    clear hf3 hp3 p13
    rw [e13]
    clear e13
    have hB3' := Lib.hid hB3
    have HB3' := Lib.hid HB3
    clear hB3 HB3
    go_wp2_with fail
    refine rs_loop6 s _ hok hrok g off N c B6 B8 B13 w3 HB3'.out hB3'.out d13 _ ⟨rfl, rfl, rfl, rfl, rfl⟩ rfl rfl ?_
    intro t4 w4 hp4 HB4 hF4
    have G4 : Fr (fun k => k = B6) w w4 := G3.trans hF4 (fun i hi => Or.inl hi)
    rw [← Hnext.out] at HB4
    clear hB3' HB3' hF4 G3 G2 G1
    obtain ⟨f4, hf4, rfl⟩ := hp4.open
    clear hf4 hp4
    have HB4' := Lib.hid HB4
    have ws : (off : Int) + 64 ≤ 3000000000000 := by omega
    have p7' : (some (Value.int .i64 ((off : Int) + 64))) = some (Value.int .i64 ((64 * (k + 1) : Nat) : Int)) := by rw [Hoff.out]; rfl
    have P7 := Lib.hid p7'
    clear HB4 p7'
    go_wp2_with fail
    exact HK.out _ _ Hk.out ⟨⟨rfl, rfl, rfl, P7.out⟩, HB4'.out, G4⟩
  · obtain rfl : k = nb := by omega
    rw [← hN]
    have ht : ¬ (N : Int) < (N : Int) := by omega
    have HE := Lib.hid hexit
    have HN := Lib.hid hN
    have HFl := Lib.hid hFl
    clear hexit hN hFl
    go_wp2_with fail
    exact HE.out _ _ ⟨rfl, rfl, rfl, rfl⟩ hB6 hF
end Go.Proofs.YtbpblheaiancaaaDoor
namespace Go.Proofs.YtbpblheaiancaaaDoor
open Go.RowKit
set_option linter.unusedVariables false

theorem src_b4 {w : World} {k : Nat} (l : List UInt8) (hl : l.length = 4) {cs : Array Value} {t : TypeId} {fr : Nat × Nat} (h : w.heap[k]? = some (.cells cs t fr)) (hv : cs = (bv l).toArray) : Src Tryd.prog 1 23 (.slice (some ⟨k, 0, none⟩) 4 4) l.length (bv l) w := by
  have hL : Lies w (some ⟨k, 0, none⟩) l := Or.inr ⟨k, 0, rfl, fun j hj => by rw [Nat.zero_add, cell_of_block h, hv]; simpa using bv_get' l j hj⟩
  have := hL.src 4
  rw [hl] at this ⊢
  exact this
theorem byte_div (x d : Nat) : ((x : Int) / (d : Int)) % 256 = ((UInt8.ofNat (x / d)).toNat : Int) := by
  rw [UInt8.toNat_ofNat']; simp
theorem flat_take (s : S2.St) (k : Nat) (hk : k < 8) : (s.list.take (k + 1)).flatMap S2.be4 = (s.list.take k).flatMap S2.be4 ++ S2.be4 (swi s k) := by
  have hl : k < s.list.length := hk
  rw [List.take_succ_eq_append_getElem hl, List.flatMap_append]
  congr 1
  simp [swi, List.getD, List.getElem?_eq_getElem hl]
theorem be4_len (x : Nat) : (S2.be4 x).length = 4 := rfl
theorem flat_len (s : S2.St) (k : Nat) (hk : k ≤ 8) : ((s.list.take k).flatMap S2.be4).length = 4 * k := by
  match k, hk with
  | 0, _ => rfl
  | 1, _ => rfl
  | 2, _ => rfl
  | 3, _ => rfl
  | 4, _ => rfl
  | 5, _ => rfl
  | 6, _ => rfl
  | 7, _ => rfl
  | 8, _ => rfl

set_option maxRecDepth 100000 in
set_option maxHeartbeats 1600000 in
theorem rs_loop7 {Q : Exit → Act → World → Prop} (s : S2.St) (hs : s.ok) (B B6 : Nat) (w : World) (hB6 : w.heap[B6]? = some (.cells (sti s) 85 (0, 0))) (hBw : B ≤ w.heap.size) (v0 : Value) (hO : Own w B v0 []) (hne : ∀ b, v0.ownBlock = some b → b ≠ B6)
    (t : Array Value) (hn : t.size = 265) (p6 : t[6]? = some (.pointer (some ⟨B6, 0, none⟩))) (p18 : t[18]? = some v0) (p19 : t[19]? = some (.int .i64 0))
    (hexit : ∀ t' w' v, t'.size = 265 → t'[18]? = some v → Own w' B v (S2.out s) → Fr (fun k => B ≤ k) w w' → Q (.exit 12) ⟨t', []⟩ w') :
    Code.wp Tryd.prog (.loop (loopAt Tryd.f18 6)) Q ⟨t, []⟩ w := by
  refine wp_loop_up 8 (fun k t w' => t.size = 265 ∧ t[6]? = some (.pointer (some ⟨B6, 0, none⟩)) ∧ t[19]? = some (.int .i64 (k : Int)) ∧ ∃ v, t[18]? = some v ∧ Own w' B v ((s.list.take k).flatMap S2.be4) ∧ (∀ b, v.ownBlock = some b → b ≠ B6) ∧ w'.heap[B6]? = some (.cells (sti s) 85 (0, 0)) ∧ Fr (fun k => B ≤ k) w w') t w ⟨hn, p6, p19, v0, p18, hO, hne, hB6, Fr.refl _ _⟩ ?_
  clear hB6 hO hne hn p6 p18 p19 t v0
  rintro k t wr hk ⟨hn, p6, p19, v, p18, hO, hne, hB6, hF⟩ K hK
  obtain ⟨f, hf, rfl⟩ := frame_open hn
  have e6 := hf 6 _ p6
  have e18 := hf 18 _ p18
  have e19 := hf 19 _ p19
  clear hf hn p6 p18 p19
  rw [lit265, e6, e18, e19]
  clear e6 e18 e19
  conv => arg 2; whnf
  by_cases hk8 : k < 8
  · have c0 := cell_of_block hB6 k
    rw [← sti_iu, iu_get 8 _ k hk8] at c0
    have y0 := swi_lt s hs k hk8
    have hft := flat_take s k hk8
    have hfl := flat_len s k (by omega)
    generalize swi s k = z at c0 y0 hft
    have b0 : (z : Int) < 4294967296 := by omega
    have q0 : (0 : Int) ≤ (k : Int) := by omega
    have q1 : (k : Int) < 8 := by omega
    have HK := Lib.hid hK
    have HT := Lib.hid hft
    obtain ⟨a, c, rfl⟩ := hO.slice
    rw [hfl] at hO hne ⊢
    clear hK hft
    have hne2 : ¬ (Value.ownBlock (.slice a (4 * k) c) = some B6) := fun e => hne _ e rfl
    have hy : #[.int .u8 ((z : Int) / 16777216 % 256), .int .u8 ((z : Int) / 65536 % 256), .int .u8 ((z : Int) / 256 % 256), .int .u8 ((z : Int) % 256)] = (bv (S2.be4 z)).toArray := by
      show _ = #[Value.int .u8 ((UInt8.ofNat (z / 16777216)).toNat : Int), .int .u8 ((UInt8.ofNat (z / 65536)).toNat : Int), .int .u8 ((UInt8.ofNat (z / 256)).toNat : Int), .int .u8 ((UInt8.ofNat z).toNat : Int)]
      have e1 : (z : Int) / 16777216 % 256 = ((UInt8.ofNat (z / 16777216)).toNat : Int) := by rw [UInt8.toNat_ofNat']; omega
      have e2 : (z : Int) / 65536 % 256 = ((UInt8.ofNat (z / 65536)).toNat : Int) := by rw [UInt8.toNat_ofNat']; omega
      have e3 : (z : Int) / 256 % 256 = ((UInt8.ofNat (z / 256)).toNat : Int) := by rw [UInt8.toNat_ofNat']; omega
      have e4 : (z : Int) % 256 = ((UInt8.ofNat z).toNat : Int) := by rw [UInt8.toNat_ofNat']; omega
      rw [e1, e2, e3, e4]
    have own1 : ∀ o : Obj, Own (wr.drew.alloc o) B (.slice a (4 * k) c) ((s.list.take k).flatMap S2.be4) := fun o => hO.fr (((Fr.refl (fun _ => False) wr).drew).alloc o) (fun _ _ h => h)
    have hsrc : ∀ cs : Array Value, cs = (bv (S2.be4 z)).toArray → Src Tryd.prog 1 23 (.slice (some ⟨wr.heap.size, 0, none⟩) 4 4) (S2.be4 z).length (bv (S2.be4 z)) (wr.drew.alloc (.cells cs 5)) := fun cs h => src_b4 (S2.be4 z) rfl (heap_alloc_new wr.drew _) h
    have hb1 : ((s.list.take k).flatMap S2.be4).length + (S2.be4 z).length ≤ 140737488355328 := by rw [hfl, be4_len]; omega
    have hz1 : ∀ o : Obj, B ≤ (wr.drew.alloc o).heap.size := fun o => by have := hF.size; simp; omega
    have z6 := lt_of_block hB6
    have cA : ∀ o : Obj, (wr.drew.alloc o).cell? ⟨B6, k, none⟩ = some (.int .i64 z) := fun o => (((Fr.refl (fun _ => False) wr).drew).alloc o).cellSome (p := ⟨B6, k, none⟩) (fun h => h) c0
    have HY := Lib.hid hy
    have HFl := Lib.hid hfl
    clear hy hfl
    generalize (s.list.take k).flatMap S2.be4 = x0 at *
    generalize S2.be4 z = y4 at *
    go_wp2_with fail
    go_region_held3 (fun w' => w'.cell? ⟨B6, k, none⟩ = some (.int .i64 z))
      (first | go_keep | (exact (Fr.ofGrown hg2).cellSome (p := ⟨B6, k, none⟩) hne2 (cA _)))
      ((refine wp_own _ (.tmp 241) (.tmp 261) 23 rfl B (.slice a (4 * k) c) x0 y4 rfl (own1 _) (.slice (some ⟨wr.heap.size, 0, none⟩) 4 4) rfl (hsrc _ HY.out) hb1 (hz1 _) ?_; intro v2 w2 own2 hg2 hb2))
    have hB7 := ((Fr.ofGrown hg2).block B6 (by simp; omega) hne2).trans ((Below.heap_alloc wr.drew _ B6 z6).trans hB6)
    have hF7 : Fr (fun k => B ≤ k) w w2 := ((hF.drew).alloc _).trans (Fr.ofGrown hg2) (fun i hi => Or.inl (hO.lt i hi).1)
    have hne7 : ∀ b, v2.ownBlock = some b → b ≠ B6 := by
      intro b hb e
      rcases hb2 with h | h
      · exact hne b (h.symm.trans hb) e
      · rw [h] at hb
        have := Option.some.inj hb
        simp at this
        omega
    have own7 : Own w2 B v2 ((s.list.take (k + 1)).flatMap S2.be4) := by rw [HT.out]; exact own2
    clear own2 hg2 hb2 hO hne hB6 hF c0 cA hsrc own1 hz1 hb1
    have H7 := Lib.hid hB7
    clear hB7
    go_wp2_with fail
    exact HK.out _ _ hk8 ⟨rfl, rfl, rfl, v2, rfl, own7, hne7, H7.out, hF7⟩
  · obtain rfl : k = 8 := by omega
    have HE := Lib.hid hexit
    clear hexit
    go_wp2_with fail
    exact HE.out _ _ _ rfl rfl hO hF
end Go.Proofs.YtbpblheaiancaaaDoor
namespace Go.Proofs.YtbpblheaiancaaaDoor
open Go.RowKit
set_option linter.unusedVariables false

set_option maxRecDepth 100000 in
set_option maxHeartbeats 1600000 in
theorem rsum_any (s : ByteArray) (hs : s.size ≤ 1000000000000) (w : World) (hE : REnv w) :
    Calls Tryd.prog 18 #[.string s] w fun e w' => e = .returned (.string ⟨(S2.sum (sb s)).toArray⟩) ∧ Fr (fun _ => False) w w' := by
  have kc := fun w : World => Lib.run_convert_string_bytes (P := Tryd.prog) w 9 23 5 s Tryd.underlying9 Tryd.underlying23 Tryd.underlying5
  have hl : (sb s).length = s.size := sb_length s
  go_enter Tryd.func18, Tryd.ntmps18
  have own0 := own_str w s w.heap.size (Nat.le_refl _) (by omega)
  have F0 := own_str_fr w s
  have z0 : (Lib.bytesWorld w 5 s).heap.size = w.heap.size + 1 := Lib.bytesWorld_size _ _ _
  have hn0 := heap_alloc_new (Lib.bytesWorld w 5 s) (.cells #[.int .u8 128] 5)
  rw [z0] at hn0
  have hsrc := src_b1 (0x80 : UInt8) hn0 rfl
  have own1 := own0.fr ((Fr.refl (fun _ => False) (Lib.bytesWorld w 5 s)).alloc (.cells #[.int .u8 128] 5)) (fun _ _ h => h)
  have F1 := F0.alloc (.cells #[.int .u8 128] 5)
  have hz1 : w.heap.size ≤ ((Lib.bytesWorld w 5 s).alloc (.cells #[.int .u8 128] 5)).heap.size := F1.size
  have hb1 : (sb s).length + [(0x80 : UInt8)].length ≤ 140737488355328 := by simp; omega
  go_wp2_with (at_builtin; refine wpList_own _ rfl (.tmp 23) (.tmp 24) 23 rfl w.heap.size (.slice (some ⟨w.heap.size, 0, none⟩) s.size (grownCap w s.size 0 5)) (sb s) [0x80] rfl own1 (.slice (some ⟨w.heap.size + 1, 0, none⟩) 1 1) rfl hsrc hb1 hz1 ?k)
  case k =>
  intro v2 w2 own2 hg2 hb2
  have F2 : Fr (fun _ => False) w w2 := F1.trans (Fr.ofGrown hg2) (fun k hk => Or.inr (by
    have : w.heap.size = k := by simpa [Value.ownBlock] using hk
    omega))
  clear own0 F0 z0 hn0 hsrc own1 F1 hg2 hb2 kc
  obtain ⟨l, hsl⟩ : ∃ l, l = sb s := ⟨_, rfl⟩
  rw [← hsl] at own2 hl
  have Hsl := Lib.hid hsl
  clear hsl
  obtain ⟨p1, p2, p3⟩ := pad_mod s.size
  obtain ⟨K, hK⟩ : ∃ K, K = S2.padLen s.size := ⟨_, rfl⟩
  rw [← hK] at p1 p2 p3
  have HK := Lib.hid hK
  clear hK
  go_wp2_with fail
  go_loopw [4] (fun v wr => ∃ q : Nat, q ≤ K - 9 ∧ Own wr w.heap.size v (l ++ 0x80 :: List.replicate q 0) ∧ Fr (fun _ => False) w wr) (fun v _ => s.size + 100 - lenR v)
  case atStart => exact ⟨0, by omega, own2, F2⟩
  case round =>
    clear own2 F2
    obtain ⟨q, hq, own, F⟩ := hrel
    obtain ⟨a, c, rfl⟩ := own.slice
    have hL : (l ++ 0x80 :: List.replicate q 0).length = s.size + 1 + q := by simp [hl]; omega
    rw [hL] at own ⊢
    have hm : (((s.size + 1 + q : Nat) : Int)).tmod 64 = ((s.size + 1 + q : Nat) : Int) % 64 := Int.tmod_eq_emod_of_nonneg (by omega)
    generalize hLL : s.size + 1 + q = L at *
    have hL2 : (L : Int) ≤ 9223372036854775807 := by omega
    by_cases hlt : q < K - 9
    · have ht : ((L : Int) % 64 != 56) = true := by simp; omega
      have hsrc := src_b1 (0 : UInt8) (heap_alloc_new wr (.cells #[.int .u8 0] 5)) rfl
      have own1 := own.fr ((Fr.refl (fun _ => False) wr).alloc (.cells #[.int .u8 0] 5)) (fun _ _ h => h)
      have F1 := F.alloc (.cells #[.int .u8 0] 5)
      have hz1 : w.heap.size ≤ (wr.alloc (.cells #[.int .u8 0] 5)).heap.size := F1.size
      have hb1 : (l ++ 0x80 :: List.replicate q 0).length + [(0 : UInt8)].length ≤ 140737488355328 := by rw [hL]; simp; omega
      generalize hx0 : (l ++ 0x80 :: List.replicate q 0) = x0 at *
      go_wp2_with (at_builtin; refine wpList_own _ rfl (.tmp 30) (.tmp 31) 23 rfl w.heap.size (.slice a L c) x0 [0] rfl own1 (.slice (some ⟨wr.heap.size, 0, none⟩) 1 1) rfl hsrc hb1 hz1 ?k)
      case k =>
      intro v3 w3 own3 hg3 hb3
      have F3 : Fr (fun _ => False) w w3 := F1.trans (Fr.ofGrown hg3) (fun k hk => Or.inr (own1.lt k hk).1)
      have hx1 : x0 ++ [0] = l ++ 0x80 :: List.replicate (q + 1) 0 := by rw [← hx0, List.replicate_succ']; simp
      rw [hx1] at own3
      obtain ⟨a3, c3, rfl⟩ := own3.slice
      have hL3 : (l ++ 0x80 :: List.replicate (q + 1) 0).length = L + 1 := by simp [hl]; omega
      rw [hL3] at own3 ⊢
      clear hsrc own own1 F1 hz1 hb1 hg3 hb3 hx1 hx0 hm ht
      go_wp2
      go_roundw
      case rel => exact ⟨q + 1, by omega, own3, F3⟩
      case measure => simp [lenR]; omega
    · obtain rfl : q = K - 9 := by omega
      have ht : ((L : Int) % 64 != 56) = false := by simp; omega
      have hP : (l ++ 0x80 :: List.replicate (K - 9) 0) ++ S2.be8 (8 * s.size) = S2.full l := by
        have := HK.out
        unfold S2.full S2.pad
        rw [hl, ← this]
        simp
      generalize hPP : l ++ 0x80 :: List.replicate (K - 9) 0 = P at *
      have HP := Lib.hid hP
      clear hP
      go_wp2_with fail
      go_loopw [4, 5] (fun v i wx => ∃ j : Nat, j ≤ 8 ∧ i = .int .i64 (56 - 8 * (j : Int)) ∧ Own wx w.heap.size v (P ++ (S2.be8 (8 * s.size)).take j) ∧ Fr (fun _ => False) w wx) (fun _ i _ => (intOf i + 8).toNat)
      case atStart => exact ⟨0, by omega, by simp, by simpa using own, F⟩
      case round =>
        clear own F hm ht
        obtain ⟨j, hj, rfl, own, F⟩ := hrel
        by_cases hlt : j < 8
        · have q1 : (0 : Int) ≤ 56 - 8 * (j : Int) := by omega
          have hbt := be8_take (8 * s.size) j hlt
          have hv : (8 * (s.size : Int) / 2 ^ (56 - 8 * j) % 256) = ((UInt8.ofNat (8 * s.size / 2 ^ (56 - 8 * j))).toNat : Int) := by
            have := byte_shift (8 * s.size) j hlt
            rw [← this]
            simp
          generalize UInt8.ofNat (8 * s.size / 2 ^ (56 - 8 * j)) = y at hbt hv
          obtain ⟨a2, c2, rfl⟩ := own.slice
          have hPl : P.length = s.size + K - 8 := by rw [← hPP]; simp [hl]; omega
          have hL2 : (P ++ (S2.be8 (8 * s.size)).take j).length = s.size + K - 8 + j := by rw [List.length_append, hPl]; simp [S2.be8]; omega
          rw [hL2] at own ⊢
          have hsrc := src_b1 y (heap_alloc_new wr (.cells #[.int .u8 (y.toNat : Int)] 5)) rfl
          have own1 := own.fr ((Fr.refl (fun _ => False) wr).alloc (.cells #[.int .u8 (y.toNat : Int)] 5)) (fun _ _ h => h)
          have F1 := F.alloc (.cells #[.int .u8 (y.toNat : Int)] 5)
          have hz1 : w.heap.size ≤ (wr.alloc (.cells #[.int .u8 (y.toNat : Int)] 5)).heap.size := F1.size
          have hb1 : (P ++ (S2.be8 (8 * s.size)).take j).length + [y].length ≤ 140737488355328 := by rw [hL2]; simp; omega
          have hnext : (P ++ (S2.be8 (8 * s.size)).take j) ++ [y] = P ++ (S2.be8 (8 * s.size)).take (j + 1) := by rw [hbt, List.append_assoc]
          clear hbt
          generalize hx0 : P ++ (S2.be8 (8 * s.size)).take j = x0 at *
          generalize hLx : s.size + K - 8 + j = Lx at *
          have hLb : (Lx : Int) ≤ 9223372036854775807 := by omega
          go_wp2_with (at_builtin; refine wpList_own _ rfl (.tmp 37) (.tmp 43) 23 rfl w.heap.size (.slice a2 Lx c2) x0 [y] rfl own1 (.slice (some ⟨wr.heap.size, 0, none⟩) 1 1) rfl hsrc hb1 hz1 ?k)
          case k =>
          intro v3 w3 own3 hg3 hb3
          have F3 : Fr (fun _ => False) w w3 := F1.trans (Fr.ofGrown hg3) (fun k hk => Or.inr (own1.lt k hk).1)
          clear hsrc own own1 F1 hz1 hb1 hg3 hb3 hnext hx0 hv
          go_wp2
          go_roundw
          case rel => exact ⟨j + 1, by omega, by go_num, own3, F3⟩
          case measure => simp [intOf]; omega
        · obtain rfl : j = 8 := by omega
          have hfull : P ++ (S2.be8 (8 * s.size)).take 8 = S2.full l := by rw [← HP.out]; rfl
          rw [hfull] at own
          have hF1 := hE.fr F (fun h => h) (fun h => h)
          obtain ⟨tH, frH, hbH⟩ := hF1.tabH
          obtain ⟨a4, c4, rfl⟩ := own.slice
          have hN : (S2.full l).length = s.size + K := by have := HK.out; unfold S2.full S2.pad; rw [hl]; simp [S2.be8]; omega
          rw [hN] at own ⊢
          obtain ⟨nb, hnb⟩ : ∃ nb, s.size + K = 64 * nb := ⟨(s.size + K) / 64, by omega⟩
          rw [hnb] at own hN ⊢
          have hnbb : (nb : Int) ≤ 100000000000 := by omega
          have hnew := heap_alloc_new wr (.cells (iu 8 (fun _ => 0)) 85)
          have hsz : (iu 8 (fun _ => 0)).size = (iu 8 (swi S2.H0)).size := (iu_size _ _).trans (iu_size _ _).symm
          have hone : (iu 8 (swi S2.H0)).all (·.oneCell') = true := iu_one _ _
          rw [← zero8i] at hnew hsz
          clear hfull HP hPP
          go_wp2_with (first
            | (with_reducible refine wpList_load_row rfl 85 (.global 0) rfl 0 rfl tH (iu 8 (swi S2.H0)) frH _ hbH Tryd.underlying85 rfl Tryd.size8i ?_)
            | (with_reducible refine wpList_store_rowR rfl 85 (.tmp 6) (.tmp 45) rfl wr.heap.size (iu 8 (swi S2.H0)) rfl rfl 85 _ hnew Tryd.size8i hsz hone ?k))
          case k =>
          intro w5 b5 hG5
          have F5 : Fr (fun _ => False) w w5 := (F.alloc _).trans hG5 (fun i hi => Or.inr (by have := F.size; omega))
          have own5 : Own w5 w.heap.size (.slice a4 (64 * nb) c4) (S2.full l) := own.fr (((Fr.refl (fun _ => False) wr).alloc _).trans hG5 (fun i hi => Or.inr (by omega))) (fun _ _ h => h)
          have hB6 := F.size
          have hgB := fun k (hk : (Value.slice a4 (64 * nb) c4).ownBlock = some k) => (own.lt k hk).2
          generalize hB6e : wr.heap.size = B6 at *
          clear own F hF1 hbH hnew hsz hone hG5 hB6e
          obtain ⟨g, hg4, rfl⟩ : ∃ g, w.heap.size ≤ g ∧ a4 = some ⟨g, 0, none⟩ := by
            rcases own5 with ⟨e, h0⟩ | ⟨g, cap, cur, fz, e, h1, _⟩
            · rw [h0] at hN; simp at hN; omega
            · injection e with e1 e2 e3; exact ⟨g, h1, e1⟩
          have hT5 : Txt w5 g (S2.full l) := by
            obtain ⟨_, _, _, hl5⟩ := own5.lies
            intro j hj
            rcases hl5 with e | ⟨g2, off2, e, hc⟩
            · rw [e] at hj; simp at hj
            · cases e
              have := hc j hj
              rw [Nat.zero_add] at this
              rw [this, List.getD_eq_getElem?_getD, List.getElem?_eq_getElem hj]; rfl
          have hgl := own5.lt g rfl
          have hd5 : g ≠ B6 := by have := hgB g rfl; omega
          have z5 : B6 < w5.heap.size := lt_of_block b5
          have hE5 := hE.fr F5 (fun h => h) (fun h => h)
          have hg0 : 0 < w.heap.size := by obtain ⟨_, _, h⟩ := hE.tabH; exact lt_of_block h
          have hg1 : 1 < w.heap.size := World.block_lt_of_cell? _ _ (hE.tabK 0 (by decide))
          have hNN : 64 * nb ≤ 1000000000100 := by omega
          have B5 := Lib.hid b5
          have HN := Lib.hid hN
          have HnB := Lib.hid hnb
          clear own5 hgB b5 hN hnb
          go_wp2_with fail
          refine rs_loop3 (S2.full l) g (64 * nb) c4 B6 nb HN.out rfl hNN w5 hT5 hgl.2 hE5 B5.out hd5 (by omega) (by omega) _ ⟨rfl, rfl, rfl, rfl⟩ ?_
          intro t6 w6 hp6 hB6' hF6
          obtain ⟨f, hf, rfl⟩ := hp6.open
          clear hf hp6
          have H6 := Lib.hid hB6'
          have G6 : Fr (fun _ => False) w w6 := F5.trans hF6 (fun i hi => Or.inr (by omega))
          clear hB6' hF6 hT5
          go_wp2_with fail
          have hsz6 := G6.size
          have n6 := heap_alloc_new w6 (.cells #[] 5)
          have O6 : Own (w6.alloc (.cells #[] 5)) w.heap.size (.slice (some ⟨w6.heap.size, 0, none⟩) 0 0) [] :=
            Or.inr ⟨w6.heap.size, 0, #[], (0, 0), rfl, hsz6, n6, Or.inl rfl, Nat.le_refl _, Nat.zero_le _, rfl, rfl⟩
          have z66 := lt_of_block H6.out
          have B6' := Lib.hid ((Below.heap_alloc w6 (.cells #[] 5) B6 z66).trans H6.out)
          clear n6
          refine rs_loop7 (S2.hwN (S2.full l) nb) (S2.hwN_ok _ _) w.heap.size B6 _ B6'.out (by simp; omega) _ O6 (fun b hb => by have := Option.some.inj hb; simp at this; omega) _ rfl rfl rfl rfl ?_
          intro t7 w7 v7 hn7 p18 O7 F7
          obtain ⟨f7, hf7, rfl⟩ := frame_open hn7
          have e18 := hf7 18 _ p18
          clear hf7 hn7 p18
          rw [lit265, e18]
          clear e18
          have G7 : Fr (fun _ => False) w w7 := (G6.alloc _).trans F7 (fun i hi => Or.inr hi)
          obtain ⟨a7, c7, rfl⟩ := O7.slice
          obtain ⟨_, _, _, hl7⟩ := O7.lies
          have hs7 := run_str hl7 c7 9 Tryd.underlying9
          have hfin : S2.out (S2.hwN (S2.full l) nb) = S2.sum (sb s) := by
            rw [← Hsl.out]
            unfold S2.sum S2.hw
            have := HN.out
            rw [show (l ++ S2.pad l.length) = S2.full l from rfl, this, Nat.mul_div_cancel_left _ (by decide)]
          have Hfin := Lib.hid hfin
          clear hfin
          generalize S2.out (S2.hwN (S2.full l) nb) = x7 at *
          go_wp2_with fail
          go_ret
          exact ⟨by rw [Hfin.out]; rfl, G7⟩
end Go.Proofs.YtbpblheaiancaaaDoor
namespace Go.Proofs.YtbpblheaiancaaaDoor
open Go.RowKit
set_option linter.unusedVariables false

theorem sumc_get (l : List UInt8) (j : Nat) (hj : j < 32) : (sumc l)[j]? = some (.int .u8 (((S2.sum l).getD j 0).toNat : Int)) := ub_get 32 _ j hj

set_option maxRecDepth 100000 in
set_option maxHeartbeats 400000 in
theorem new_any (w : World) : Calls Tryd.prog 66 #[] w fun e w' => e = .returned (.pointer (some ⟨w.heap.size, 0, none⟩)) ∧ HIs w' w.heap.size [] ∧ Fr (fun _ => False) w w' := by
  go_enter Tryd.func66, Tryd.ntmps66
  go_wp2
  go_ret
  exact ⟨rfl, HIs.zero (heap_alloc_new w _), (Fr.refl _ w).alloc _⟩

end Go.Proofs.YtbpblheaiancaaaDoor
namespace Go.Proofs.YtbpblheaiancaaaDoor
open Go.RowKit
set_option linter.unusedVariables false

/-- Bytes that came in as a slice. -/
structure Came (w : World) (a : Option Addr) (n c : Nat) (l : List UInt8) : Prop where
  len : l.length = n
  le : n ≤ c
  mx : c ≤ maxLen
  lies : Lies w a l
  nil : a = none → n = 0 ∧ c = 0

theorem sum_length (l : List UInt8) : (S2.sum l).length = 32 := rfl
theorem sumc_map (l : List UInt8) : sumc l = ((S2.sum l).map Extern.Stop.cell).toArray := by
  refine (ub_ext (by simp [sum_length]) (fun j hj => ?_)).symm
  have hl := sum_length l
  rw [List.getElem?_toArray, List.getElem?_map, List.getElem?_eq_getElem (by omega)]
  have e : S2.out (S2.hw (l ++ S2.pad l.length)) = S2.sum l := rfl
  simp only [Option.map_some, Extern.Stop.cell, e, List.getD, List.getElem?_eq_getElem (show j < (S2.sum l).length by omega), Option.getD_some]
  rfl
theorem eql_sumc (x y : List UInt8) (w : World) : (binOp .eql 22 (.agg (sumc x)) (.agg (sumc y))).run Tryd.prog w = .ok (.bool (S2.sum x == S2.sum y)) w := by
  rw [sumc_map, sumc_map]
  refine run_eql_bytes w 22 5 32 Tryd.underlying22 Tryd.underlying5 ?_ _ _ (sum_length x) (sum_length y)
  intro w2
  obtain ⟨i0, hi, hz⟩ := Option.map_eq_some_iff.1 Tryd.sizeB
  simp [sizeOf, typeInfo, hi, hz]
theorem Tryd.guard32 : Tryd.prog.eqGuardType Tryd.prog.depth 22 = false := by kernel_rfl
theorem min300 (n : Nat) : (if (300 : Int) < (n : Int) then (300 : Int) else (n : Int)).toNat = min n 300 := by
  split <;> omega
theorem Came.cut {w w2 : World} {a : Option Addr} {n c : Nat} {l : List UInt8} (h : Came w a n c l) (m : Nat) (hm : m ≤ n) (hF : Fr (fun _ => False) w w2) : Came w2 a m c (l.take m) :=
  ⟨by rw [List.length_take, h.len]; omega, by have := h.le; omega, h.mx, (h.lies.grow hF).take m, fun e => by have := h.nil e; omega⟩
theorem Came.grow {w w2 : World} {a : Option Addr} {n c : Nat} {l : List UInt8} (h : Came w a n c l) {S : Nat → Prop} (hF : Fr S w w2) (hS : ∀ k, k < w.heap.size → ¬ S k) : Came w2 a n c l := by
  refine ⟨h.len, h.le, h.mx, ?_, h.nil⟩
  by_cases e : l = []
  · exact Or.inl e
  · exact h.lies.fr hF (fun k hk => hS k (h.lies.lt e k hk))
theorem Came.apart {w : World} {a : Option Addr} {n c b : Nat} {l : List UInt8} (h : Came w a n c l) (hb : w.heap.size ≤ b) : l = [] ∨ ¬ inBlk a b := by
  by_cases e : l = []
  · exact Or.inl e
  · exact Or.inr fun hk => by have := h.lies.lt e b hk; omega

theorem parts2 {w : World} {b : Nat} {a a2 : Option Addr} {n n2 c c2 : Nat} {x y : List UInt8} {t : TypeId} {fr : Nat × Nat} (h : w.heap[b]? = some (.cells #[.slice a n c, .slice a2 n2 c2] t fr)) (hx : Came w a n c x) (hy : Came w a2 n2 c2 y) : Parts w (some ⟨b, 0, none⟩) [x, y] := by
  refine Or.inr ⟨b, 0, rfl, fun j hj => ?_⟩
  match j, hj with
  | 0, _ => exact ⟨a, c, by rw [cell_of_block h]; simp [hx.len], hx.lies, by have := hx.le; have := hx.len; simp; omega, hx.mx⟩
  | 1, _ => exact ⟨a2, c2, by rw [cell_of_block h]; simp [hy.len], hy.lies, by have := hy.le; have := hy.len; simp; omega, hy.mx⟩

end Go.Proofs.YtbpblheaiancaaaDoor
namespace Go.Proofs.YtbpblheaiancaaaDoor
open Go.ChangeShapes Go.WideShapes Go.ChangeAt Go.RowKit
set_option linter.unusedVariables false

theorem Tryd.own : ownKnob Tryd.prog.godebug = none := by kernel_rfl
theorem Tryd.laidOut : laidOutB Tryd.prog = true := by kernel_rfl

section
variable {H : Type} {enc : TypeId × Value → H}

theorem trodAll_below {P : Program} (hl : laidOutB P = true) {W W2 : World} (hb : Below W.heap.size W W2) (ts : List TypeId) : ∀ (vs : List Value) (ds : List (DataW H)) (ps : List MemPlace),
    (ts.all fun t => P.readableRec t && decide (t < P.types.size)) = true → DataW.TrodAll enc P W 0 (fun _ => true) true ts vs ds ps → (∀ x ∈ ps, x.block < W.heap.size) →
    DataW.TrodAll enc P W2 0 (fun b => decide (b < W.heap.size)) true ts vs ds ps := by
  induction ts with
  | nil =>
    intro vs ds ps _ h _
    obtain ⟨rfl, rfl, rfl⟩ := trodAll_nil h
    exact trodAll_mk0
  | cons t ts ih =>
    intro vs ds ps hr h hlt
    obtain ⟨v, vs2, d, ds2, p, q, rfl, rfl, rfl, hd, hq⟩ := trodAll_cons h
    simp only [List.all_cons, Bool.and_eq_true, decide_eq_true_eq] at hr
    exact trodAll_cons_mk (Below.trod hl hr.1.1 hr.1.2 hd hb (fun x hx => hlt x (by simp [hx]))) (ih _ _ _ hr.2 hq (fun x hx => hlt x (by simp [hx])))

/-- The law's post: it answered true, and nothing that was there has turned. -/
theorem law_post {f : Func} {s : ChangeSpec} {W W2 : World} {args : Array Value} {ds gs : List (DataW H)} {before : List MemPlace} (hvars : s.vars = []) (hres : f.resultTypes.toList = [4])
    (hread : (f.params.toList.all fun t => Tryd.prog.readableRec t && decide (t < Tryd.prog.types.size)) = true)
    (hW : DataW.Whole enc Tryd.prog f.params.toList s.vars false W args.toList ds gs before) (hfn : (s.fn H (ds ++ gs)) = { results := [.lit (.bool true)], args := ds, vars := [] }) (hb : Below W.heap.size W W2) :
    s.post enc Tryd.prog f false true false false W args (.bool true) W2 := by
  obtain ⟨p, q, hA, hV, hp, hfz, hnd⟩ := hW
  rw [hvars] at hV
  obtain ⟨rfl, rfl⟩ := trodVars_none hV
  rw [List.append_nil] at hp
  subst hp
  have hlt : ∀ x ∈ before, x.block < W.heap.size := fun x hx => by
    have hW' : DataW.Whole enc Tryd.prog f.params.toList s.vars false W args.toList ds [] before := ⟨before, [], hA, by rw [hvars]; rfl, by simp, hfz, hnd⟩
    exact hW'.lt x hx
  refine ⟨ds, [], before, [], before, [], ⟨before, [], hA, by rw [hvars]; rfl, by simp, hfz, hnd⟩, ?_, ?_, ?_, hb.frame _, fun h => by cases h⟩
  · rw [hfn, hres, show f.resultTypes.size = 1 by rw [← Array.length_toList, hres]; rfl]
    exact trodAll_mk1 (shut_bool Tryd.underlying4 _)
  · rw [hfn]
    exact trodAll_below Tryd.laidOut hb _ _ _ _ hread hA hlt
  · rw [hfn, hvars]
    rfl
end
end Go.Proofs.YtbpblheaiancaaaDoor
namespace Go.Proofs.YtbpblheaiancaaaDoor
open Go.ChangeShapes Go.WideShapes Go.ChangeAt Go.RowKit
set_option linter.unusedVariables false

set_option maxRecDepth 100000 in
theorem came_of {H : Type} {enc : TypeId × Value → H} {W : World} {base : Nat} {v1 : Value} {d1 : DataW H} {p1 : List MemPlace} (hval : Value.okWide Tryd.prog W .any base 23 v1) (h1 : DataW.Trod enc Tryd.prog W 0 (fun _ => true) true 23 v1 d1 p1) :
    ∃ a n c l, v1 = .slice a n c ∧ Came W a n c l := by
  obtain ⟨a1, len, cap, rfl⟩ := okWide_slice Tryd.underlying23 hval
  obtain ⟨fuel, hf⟩ := h1
  rcases open_ints Tryd.underlying23 Tryd.underlying5 (by kernel_rfl) hf with ⟨hcs, hx⟩ | ⟨a, len', cap', zs, hcs, _, hl, hm, hz, hx, hcell, hwz⟩
  · simp [Value.cells] at hcs
    obtain ⟨rfl, rfl, rfl⟩ := hcs
    exact ⟨none, 0, 0, [], rfl, ⟨rfl, Nat.le_refl _, Nat.zero_le _, Or.inl rfl, fun _ => ⟨rfl, rfl⟩⟩⟩
  · simp [Value.cells] at hcs
    obtain ⟨rfl, rfl, rfl⟩ := hcs
    simp only [if_true] at hz
    have hlen : ((zs.take len).map fun n => UInt8.ofNat n.toNat).length = len := by simp; omega
    refine ⟨some a, len, cap, (zs.take len).map fun n => UInt8.ofNat n.toNat, rfl, ⟨hlen, hl, hm, ?_, fun h => by cases h⟩⟩
    by_cases h0 : len = 0
    · exact Or.inl (List.eq_nil_of_length_eq_zero (by rw [hlen, h0]))
    · refine Or.inr ?_
      obtain ⟨ab, ao, spot⟩ := a
      have hspot : spot = none := by simpa [Addr.add] using World.cell?_spot (hcell 0 (by omega))
      subst hspot
      refine ⟨ab, ao, rfl, fun j hj => ?_⟩
      rw [hlen] at hj
      have hc := hcell j (by omega)
      have hmem : zs.getD j 0 ∈ zs := by rw [List.getD_eq_getElem?_getD, List.getElem?_eq_getElem (by omega), Option.getD_some]; exact List.getElem_mem _
      have hb := bounds_u8 (hwz _ hmem)
      have he : zs.getD j 0 = zs[j]'(by omega) := by rw [List.getD_eq_getElem?_getD, List.getElem?_eq_getElem (by omega), Option.getD_some]
      have hc2 : W.cell? ⟨ab, ao + j, none⟩ = some (.int .u8 (zs.getD j 0)) := by rcases j with _ | j <;> simpa [Addr.add] using hc
      rw [hc2]
      simp only [List.getElem_map, List.getElem_take]
      rw [he] at hb ⊢
      generalize zs[j]'(by omega) = z at hb ⊢
      congr 2
      have : (UInt8.ofNat z.toNat).toNat = z.toNat % 256 := rfl
      omega

set_option maxRecDepth 100000 in
theorem words_tab {H : Type} : (Rows.laid_custumal_sha2_roundWords : DataW H) = Lib.tabData .u32 ((List.range 64).map fun j => (S2.K j : Int)) := by rfl
theorem name_words : Tryd.prog.globalNamed "custumal/sha2.roundWords" = some 2 := by kernel_rfl
theorem type_words : (Tryd.prog.globals[2]?).map (·.type) = some 122 := by kernel_rfl
set_option maxRecDepth 100000 in
theorem env_of {W : World} {l : List (String × DataW Unit)} (hp : (l.all fun x => x.2.handleName?.isNone) = true) (h : laidMetH Tryd.prog l W) (hm : ("custumal/sha2.roundWords", Rows.laid_custumal_sha2_roundWords) ∈ l) : Env W := by
  rw [MakeChecks.laidMetH_plain _ _ _ hp] at h
  obtain ⟨g, t, cs, fuel, p, hg, ht, hv, hd⟩ := Lib.laidMet.reads h hm
  obtain rfl := Option.some.inj (name_words.symm.trans hg)
  obtain rfl := Option.some.inj (type_words.symm.trans ht)
  rw [words_tab] at hd
  have hcs := Lib.cells_of_tab Tryd.underlying122 Tryd.underlying90 (by kernel_rfl) (by kernel_rfl) hd
  have hcell : ∀ j, W.cell? ⟨2, j, none⟩ = cs.toList[j]? := fun j => by
    rw [World.var?_cell name_words hv j, Array.getElem?_toList]
  have htab : Tab W := fun j hj => by
    rw [hcell j, hcs, List.map_map, List.getElem?_map, List.getElem?_range hj]
    rfl
  refine ⟨htab, ?_⟩
  have h0 := htab 0 (by decide)
  simp only [World.cell?] at h0
  cases hb : W.heap[2]? with
  | none => rw [hb] at h0; simp at h0
  | some b => exact (Array.getElem?_eq_some_iff.1 hb).1
end Go.Proofs.YtbpblheaiancaaaDoor
namespace Go.Proofs.YtbpblheaiancaaaDoor
open Go.ChangeShapes Go.WideShapes Go.ChangeAt Go.RowKit
set_option linter.unusedVariables false

set_option maxRecDepth 100000 in
theorem block_of_var {P : Program} {w : World} {n : String} {g : Nat} {cs : Array Value} (hg : P.globalNamed n = some g) (h : w.var? P n = some cs) : ∃ t fr, w.heap[g]? = some (.cells cs t fr) := by
  simp only [World.var?, hg, Option.bind_some] at h
  split at h
  · rename_i cs2 t fr e
    obtain rfl := Option.some.inj h
    exact ⟨t, fr, e⟩
  · cases h
set_option maxRecDepth 100000 in
theorem tabH_data {H : Type} : (Rows.laid_custumal_custumalref01_H : DataW H) = Lib.tabData .i64 ((List.range 8).map fun j => (swi S2.H0 j : Int)) := by rfl
theorem tabK_data {H : Type} : (Rows.laid_custumal_custumalref01_K : DataW H) = Lib.tabData .i64 ((List.range 64).map fun j => (S2.K j : Int)) := by rfl
theorem name_H : Tryd.prog.globalNamed "custumal/custumalref01.H" = some 0 := by kernel_rfl
set_option maxRecDepth 100000 in
theorem type_H : (Tryd.prog.globals[0]?).map (·.type) = some 85 := by kernel_rfl
theorem name_K : Tryd.prog.globalNamed "custumal/custumalref01.K" = some 1 := by kernel_rfl
theorem type_K : (Tryd.prog.globals[1]?).map (·.type) = some 86 := by kernel_rfl
set_option maxRecDepth 100000 in
theorem renv_of {W : World} {l : List (String × DataW Unit)} (hp : (l.all fun x => x.2.handleName?.isNone) = true) (h : laidMetH Tryd.prog l W) (hmK : ("custumal/custumalref01.K", Rows.laid_custumal_custumalref01_K) ∈ l) (hmH : ("custumal/custumalref01.H", Rows.laid_custumal_custumalref01_H) ∈ l) : REnv W := by
  rw [MakeChecks.laidMetH_plain _ _ _ hp] at h
  constructor
  · obtain ⟨g, t, cs, fuel, p, hg, ht, hv, hd⟩ := Lib.laidMet.reads h hmH
    obtain rfl := Option.some.inj (name_H.symm.trans hg)
    obtain rfl := Option.some.inj (type_H.symm.trans ht)
    rw [tabH_data] at hd
    have hcs := Lib.cells_of_tab Tryd.underlying85 Tryd.underlying3 (by kernel_rfl) (by kernel_rfl) hd
    obtain ⟨t2, fr, hb⟩ := block_of_var name_H hv
    refine ⟨t2, fr, ?_⟩
    rw [hb]
    congr 2
    apply Array.toList_inj.1
    rw [hcs, List.map_map]
    rfl
  · obtain ⟨g, t, cs, fuel, p, hg, ht, hv, hd⟩ := Lib.laidMet.reads h hmK
    obtain rfl := Option.some.inj (name_K.symm.trans hg)
    obtain rfl := Option.some.inj (type_K.symm.trans ht)
    rw [tabK_data] at hd
    have hcs := Lib.cells_of_tab Tryd.underlying86 Tryd.underlying3 (by kernel_rfl) (by kernel_rfl) hd
    intro j hj
    rw [World.var?_cell name_K hv j, ← Array.getElem?_toList, hcs, List.map_map, List.getElem?_map, List.getElem?_range hj]
    rfl
set_option maxRecDepth 100000 in
/-- The string of a sum that lies in a block of its own. -/
theorem sumc_lies {w : World} {b : Nat} {l : List UInt8} {t : TypeId} {fr : Nat × Nat} (h : w.heap[b]? = some (.cells (sumc l) t fr)) : Lies w (some ⟨b, 0, none⟩) (S2.sum l) := by
  refine Or.inr ⟨b, 0, rfl, fun j hj => ?_⟩
  have hl : (S2.sum l).length = 32 := rfl
  rw [Nat.zero_add, cell_of_block h, sumc_get l j (by omega), List.getD_eq_getElem?_getD, List.getElem?_eq_getElem hj]
  rfl
set_option maxRecDepth 100000 in
theorem sum_len (l : List UInt8) : (S2.sum l).length = 32 := rfl
end Go.Proofs.YtbpblheaiancaaaDoor

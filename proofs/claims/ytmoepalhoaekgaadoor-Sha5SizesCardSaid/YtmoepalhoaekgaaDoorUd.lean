/-
  The loop of rounds of Sum of package custumalref02.
-/
import Derived.Test.YtmoepalhoaekgaaDoorUc
namespace Go.Proofs.YtmoepalhoaekgaaDoor
open Go.RowKit
set_option linter.unusedVariables false

/-- The tables of the document's answer. -/
structure UEnv (w : World) : Prop where
  tabH : ∃ t fr, w.heap[2]? = some (.cells (stv5 S5.H0) t fr)
  tabK : ∀ j, j < 80 → w.cell? ⟨3, j, none⟩ = some (.int .u64 (S5.K j : Int))
theorem UEnv.fr {w w2 : World} {S : Nat → Prop} (h : UEnv w) (hF : Fr S w w2) (h1 : ¬ S 2) (h2 : ¬ S 3) : UEnv w2 := by
  obtain ⟨t, fr, hb⟩ := h.tabH
  exact ⟨⟨t, fr, (hF.block _ (lt_of_block hb) h1).trans hb⟩, fun j hj => hF.cellSome (p := ⟨3, j, none⟩) h2 (h.tabK j hj)⟩
theorem T1_u64 (t : S5.St) (ok : t.ok) (k w : Nat) :
    IntKind.u64.wrap (IntKind.u64.wrap (IntKind.u64.wrap (IntKind.u64.wrap (↑t.h + bits .xor .u64 (bits .xor .u64 (S5.rotr t.e 14 : Nat) (S5.rotr t.e 18 : Nat)) (S5.rotr t.e 41 : Nat)) + bits .xor .u64 (bits .and .u64 ↑t.e ↑t.f) (bits .and .u64 (bits .xor .u64 (if IntKind.u64.signed = true then -1 else IntKind.u64.max) ↑t.e) ↑t.g)) + ↑k) + ↑w) = ((S5.T1 t k w : Nat) : Int) := by
  have h5 := ok.2.2.2.2.1
  simp only [S5.M] at h5
  rw [xor35 (rotr_lt5 t.e 14 h5 (by decide)) (rotr_lt5 t.e 18 h5 (by decide)) (rotr_lt5 t.e 41 h5 (by decide))]
  exact T1_eq5 t ok k w
theorem T2_u64 (t : S5.St) (ok : t.ok) :
    IntKind.u64.wrap (bits .xor .u64 (bits .xor .u64 (S5.rotr t.a 28 : Nat) (S5.rotr t.a 34 : Nat)) (S5.rotr t.a 39 : Nat) + bits .xor .u64 (bits .xor .u64 (bits .and .u64 ↑t.a ↑t.b) (bits .and .u64 ↑t.a ↑t.c)) (bits .and .u64 ↑t.b ↑t.c)) = ((S5.T2 t : Nat) : Int) := by
  have h1 := ok.1
  simp only [S5.M] at h1
  rw [xor35 (rotr_lt5 t.a 28 h1 (by decide)) (rotr_lt5 t.a 34 h1 (by decide)) (rotr_lt5 t.a 39 h1 (by decide))]
  exact T2_eq5 t ok
theorem rnd_u64 (t : S5.St) (k w : Nat) : #[.int .u64 (IntKind.u64.wrap (↑(S5.T1 t k w) + ↑(S5.T2 t))), .int .u64 (t.a : Int), .int .u64 (t.b : Int), .int .u64 (t.c : Int), .int .u64 (IntKind.u64.wrap (↑t.d + ↑(S5.T1 t k w))), .int .u64 (t.e : Int), .int .u64 (t.f : Int), .int .u64 (t.g : Int)] = stv5 (S5.rnd t k w) := by
  obtain ⟨h1, h2, h3, h4, h5, h6, h7, h8⟩ := rst_of5 t k w
  rw [h1, h5]
  rfl
theorem T1_lt (t : S5.St) (k w : Nat) : S5.T1 t k w < 18446744073709551616 := Nat.mod_lt _ (by decide)
theorem T2_lt (t : S5.St) : S5.T2 t < 18446744073709551616 := Nat.mod_lt _ (by decide)

set_option maxRecDepth 100000 in
set_option maxHeartbeats 1600000 in
theorem us_loop5 {Q : Exit → Act → World → Prop} (l : List UInt8) (s : S5.St) (hs : s.ok) (g off N c B6 B8 B13 : Nat) (w : World) (hE : UEnv w) (hA : Wd5 w B8 l 80 0) (hB : w.heap[B13]? = some (.cells (stv5 s) 65 (0, 0)))
    (hd : B8 ≠ B13) (hdK : B13 ≠ 3) (t : Array Value) (hp : UPin t g N c B6 B8 off) (p13 : t[13]? = some (.pointer (some ⟨B13, 0, none⟩))) (p14 : t[14]? = some (.int .i64 0))
    (hexit : ∀ t' w', UPin t' g N c B6 B8 off → t'[13]? = some (.pointer (some ⟨B13, 0, none⟩)) → w'.heap[B13]? = some (.cells (stv5 (S5.rnds (S5.sch l 64) s 80)) 65 (0, 0)) → Fr (fun k => k = B13) w w' → Q (.exit 10) ⟨t', []⟩ w') :
    Code.wp Tryd.prog (.loop (loopAt Tryd.f16 5)) Q ⟨t, []⟩ w := by
  refine wp_loop_up 80 (fun k t w' => UPin t g N c B6 B8 off ∧ t[13]? = some (.pointer (some ⟨B13, 0, none⟩)) ∧ t[14]? = some (.int .i64 (k : Int)) ∧ w'.heap[B13]? = some (.cells (stv5 (S5.rnds (S5.sch l 64) s k)) 65 (0, 0)) ∧ Fr (fun k => k = B13) w w') t w ⟨hp, p13, p14, hB, Fr.refl _ _⟩ ?_
  clear hB hp p13 p14 t
  rintro k t wr hk ⟨hp, p13, p14, hB, hF⟩ K hK
  obtain ⟨f, hf, rfl⟩ := hp.open
  have e13 := hf 13 _ p13
  have e14 := hf 14 _ p14
  clear hf hp p13 p14
  rw [e13, e14]
  clear e13 e14
  conv => arg 2; whnf
  by_cases hk64 : k < 80
  · have cK := (hE.tabK k hk64)
    replace cK := hF.cellSome (p := ⟨3, k, none⟩) (fun h => hdK h.symm) cK
    have cW := hF.cellSome (p := ⟨B8, k, none⟩) hd (hA.cell k hk64 (by omega))
    have ok := rnds_ok5 (S5.sch l 64) s hs k
    have hn : S5.rnds (S5.sch l 64) s (k + 1) = S5.rnd (S5.rnds (S5.sch l 64) s k) (S5.K k) (S5.W l k) := rfl
    generalize S5.rnds (S5.sch l 64) s k = st at hB ok hn
    generalize S5.W l k = yw at cW hn
    generalize S5.K k = yk at cK hn
    have Hn := Lib.hid hn
    have HK := Lib.hid hK
    have k0 := cell_of_block hB 0
    have k1 := cell_of_block hB 1
    have k2 := cell_of_block hB 2
    have k3 := cell_of_block hB 3
    have k4 := cell_of_block hB 4
    have k5 := cell_of_block hB 5
    have k6 := cell_of_block hB 6
    have k7 := cell_of_block hB 7
    simp [stv5] at k0 k1 k2 k3 k4 k5 k6 k7
    have q0 : (0 : Int) ≤ (k : Int) := by omega
    have q1 : (k : Int) < 80 := by omega
    have Z1 := Lib.hid (T1_u64 st ok yk yw)
    have Z2 := Lib.hid (T2_u64 st ok)
    have x1 := T1_lt st yk yw
    have x2 := T2_lt st
    have y5 := ok.2.2.2.2.1
    have y1 := ok.1
    simp only [S5.M] at y5 y1
    have Z := Lib.hid (rnd_u64 st yk yw)
    clear hn hK
    go_wp2_with fail
    go_quiet ((go_at_call 37; (first | (with_reducible exact Calls.quiet_of (turn5_any st.e 14 14 rfl y5 (by decide) (by decide) _)) | (with_reducible exact Calls.quiet_of (turn5_any st.e 18 18 rfl y5 (by decide) (by decide) _)) | (with_reducible exact Calls.quiet_of (turn5_any st.e 41 41 rfl y5 (by decide) (by decide) _)))))
    rw [Z1.out]
    clear Z1 cK cW k0 k1 k2 k3 k4 k5 k6 k7
    replace hB : (wr.drewN nq).heap[B13]? = some (.cells (stv5 st) 65 (0, 0)) := hB
    replace hF : Fr (fun k => k = B13) w (wr.drewN nq) := hF.drewN nq
    generalize wr.drewN nq = wq at *
    have k0 := cell_of_block hB 0
    have k1 := cell_of_block hB 1
    have k2 := cell_of_block hB 2
    have k3 := cell_of_block hB 3
    have k4 := cell_of_block hB 4
    have k5 := cell_of_block hB 5
    have k6 := cell_of_block hB 6
    have k7 := cell_of_block hB 7
    simp [stv5] at k0 k1 k2 k3 k4 k5 k6 k7
    go_wp2_with fail
    go_quiet ((go_at_call 37; (first | (with_reducible exact Calls.quiet_of (turn5_any st.a 28 28 rfl y1 (by decide) (by decide) _)) | (with_reducible exact Calls.quiet_of (turn5_any st.a 34 34 rfl y1 (by decide) (by decide) _)) | (with_reducible exact Calls.quiet_of (turn5_any st.a 39 39 rfl y1 (by decide) (by decide) _)))))
    rw [Z2.out]
    clear Z2 k0 k1 k2 k3 k4 k5 k6 k7
    replace hB : (wq.drewN nq).heap[B13]? = some (.cells (stv5 st) 65 (0, 0)) := hB
    replace hF : Fr (fun k => k = B13) w (wq.drewN nq) := hF.drewN nq
    generalize wq.drewN nq = wx at *
    have k0 := cell_of_block hB 0
    have k1 := cell_of_block hB 1
    have k2 := cell_of_block hB 2
    have k3 := cell_of_block hB 3
    have k4 := cell_of_block hB 4
    have k5 := cell_of_block hB 5
    have k6 := cell_of_block hB 6
    have k7 := cell_of_block hB 7
    simp [stv5] at k0 k1 k2 k3 k4 k5 k6 k7
    generalize S5.T1 st yk yw = x at x1 Z ⊢
    generalize S5.T2 st = y at x2 Z ⊢
    have Hs1 := Lib.hid (show ∀ a0 a1 a2 a3 a4 a5 a6 a7 : Value, (Tryd.prog.info? 65).map (·.size) = some (#[a0, a1, a2, a3, a4, a5, a6, a7] : Array Value).size by intros; show _ = some 8; kernel_rfl)
    have Hs2 := Lib.hid (show ∀ a0 a1 a2 a3 a4 a5 a6 a7 : Value, (stv5 st).size = (#[a0, a1, a2, a3, a4, a5, a6, a7] : Array Value).size from fun _ _ _ _ _ _ _ _ => rfl)
    have Hs3 := Lib.hid (show ∀ a0 a1 a2 a3 a4 a5 a6 a7 : Int, (#[.int .u64 a0, .int .u64 a1, .int .u64 a2, .int .u64 a3, .int .u64 a4, .int .u64 a5, .int .u64 a6, .int .u64 a7] : Array Value).all (·.oneCell') = true by intros; simp [Value.oneCell'])
    clear x1 x2 y5 y1
    go_wp2_with ((with_reducible refine wpList_store_rowR rfl 65 (.tmp 13) (.tmp 210) rfl B13 _ rfl rfl 65 (stv5 st) hB ?h1 ?h2 ?h3 ?k); (case h1 => exact Hs1.out _ _ _ _ _ _ _ _); (case h2 => exact Hs2.out _ _ _ _ _ _ _ _); (case h3 => exact Hs3.out _ _ _ _ _ _ _ _))
    intro w5 b5 hG5
    have b6 : w5.heap[B13]? = some (.cells (stv5 (S5.rnds (S5.sch l 64) s (k + 1))) 65 (0, 0)) := by rw [b5, Z.out, ← Hn.out]
    have F6 : Fr (fun k => k = B13) w w5 := hF.trans hG5 (fun i hi => Or.inl hi)
    clear b5 hG5 k0 k1 k2 k3 k4 k5 k6 k7 hB hF
    go_wp2_with fail
    exact HK.out _ _ hk64 ⟨⟨rfl, rfl, rfl, rfl, rfl⟩, rfl, rfl, b6, F6⟩
  · obtain rfl : k = 80 := by omega
    have HE := Lib.hid hexit
    clear hexit
    go_wp2_with fail
    exact HE.out _ _ ⟨rfl, rfl, rfl, rfl, rfl⟩ rfl hB hF
end Go.Proofs.YtmoepalhoaekgaaDoor

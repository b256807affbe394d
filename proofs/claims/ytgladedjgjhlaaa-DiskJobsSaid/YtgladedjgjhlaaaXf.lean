/-
  DiskJobs: its loops.
-/
import Derived.Test.YtgladedjgjhlaaaXd
import Derived.Test.YtgladedjgjhlaaaXe
namespace Go.Proofs.Ytgladedjgjhlaaa
open Go.RowKit
set_option linter.unusedVariables false
set_option linter.unusedSimpArgs false
theorem spot6 (s : Int) : ∃ z : Int, ∃ q : Nat, IntKind.u64.wrap s = z ∧ z.tmod 6 = (q : Int) ∧ q < 6 := by
  have e : IntKind.u64.wrap s = s % 18446744073709551616 := by
    unfold IntKind.wrap
    first | rfl | simp
  refine ⟨s % 18446744073709551616, ((s % 18446744073709551616) % 6).toNat, e, ?_, ?_⟩
  · rw [Int.tmod_eq_emod_of_nonneg (by omega)]; omega
  · omega
set_option maxRecDepth 100000 in
set_option maxHeartbeats 6400000 in
theorem jobs_loop {Q : Exit → Act → World → Prop} {w0 w : World} {d bn bl e fl m : Nat} {v1 : Value} {js : List Jb} (hj : JL w0 v1 js) (S : Sx w d bn bl e fl m 0 w0.heap.size) (F : Fr (fun _ => False) w0 w) (t : Array Value) (hn : t.size = 179)
    (p0 : t[0]? = some (.int .i64 (m : Int))) (p1 : t[1]? = some v1) (p5 : t[5]? = some (.pointer (some ⟨d, 0, none⟩))) (p7 : t[7]? = some (.pointer (some ⟨e, 0, none⟩))) (p8 : t[8]? = some (.int .i64 0))
    (hexit : ∀ t' w', t'.size = 179 → t'[0]? = some (.int .i64 (m : Int)) → t'[5]? = some (.pointer (some ⟨d, 0, none⟩)) → t'[7]? = some (.pointer (some ⟨e, 0, none⟩)) → Sx w' d bn bl e fl m 60 w0.heap.size → Fr (fun _ => False) w0 w' → Q (.exit 0) ⟨t', []⟩ w') :
    Code.wp Try.prog (.loop (loopAt Try.f4 0)) Q ⟨t, []⟩ w := by
  refine wp_loop_up (min js.length 60) (fun k t w' => t.size = 179 ∧ t[0]? = some (.int .i64 (m : Int)) ∧ t[1]? = some v1 ∧ t[5]? = some (.pointer (some ⟨d, 0, none⟩)) ∧ t[7]? = some (.pointer (some ⟨e, 0, none⟩)) ∧ t[8]? = some (.int .i64 (k : Int)) ∧ Sx w' d bn bl e fl m k w0.heap.size ∧ Fr (fun _ => False) w0 w') t w ⟨hn, p0, p1, p5, p7, p8, S, F⟩ ?_
  clear hn p0 p1 p5 p7 p8 t S F
  rintro k t w1 hk ⟨hn, p0, p1, p5, p7, p8, S, F1⟩ K hK
  by_cases hlt : k < min js.length 60
  · obtain ⟨x, hx⟩ : ∃ x, js[k]? = some x := ⟨_, List.getElem?_eq_getElem (by omega)⟩
    obtain ⟨N, L, ws, wv, wv', wr, ar, dn, D, E, DJ, hN, hws, hr0, hr1, ha, ha0⟩ := S
    obtain ⟨z, q, hz, hq, hq6⟩ := spot6 x.what
    have h60 : k < 60 := by omega
    have hK2 : ∀ t' w', t'.size = 179 → t'[0]? = some (.int .i64 (m : Int)) → t'[1]? = some v1 → t'[5]? = some (.pointer (some ⟨d, 0, none⟩)) → t'[7]? = some (.pointer (some ⟨e, 0, none⟩)) → t'[8]? = some (.int .i64 ((k + 1 : Nat) : Int)) → Sx w' d bn bl e fl m (k + 1) w0.heap.size → Fr (fun _ => False) w0 w' → K ⟨t', []⟩ w' := fun t' w' a0 a1 a2 a3 a4 a5 a6 a7 => hK t' w' hlt ⟨a0, a1, a2, a3, a4, a5, a6, a7⟩
    match q, hq6, hq with
    | 0, _, hq => exact job_none D E DJ hN hws hr0 hr1 ha ha0 F1 hj hx h60 hz hq t hn p0 p1 p5 p7 p8 K Q hK2
    | 1, _, hq => exact job_read D E DJ hN hws hr0 hr1 ha ha0 F1 hj hx h60 hz hq t hn p0 p1 p5 p7 p8 K Q hK2
    | 2, _, hq =>
      by_cases hrc : rcode m dn x.spot = 0
      · obtain ⟨hdn, h0, h1⟩ := rcode_in hrc
        exact job_write D E DJ hN hws hr0 hr1 ha ha0 F1 hj hx h60 hz hq t hn p0 p1 p5 p7 p8 K Q hK2 x.spot.toNat (Int.toNat_of_nonneg h0).symm ((Int.toNat_lt h0).2 h1) hdn
      · exact job_writebad D E DJ hN hws hr0 hr1 ha ha0 F1 hj hx h60 hz hq t hn p0 p1 p5 p7 p8 K Q hK2 hrc
    | 3, _, hq =>
      by_cases hdn : dn = true
      · exact job_syncdown D E DJ hN hws hr0 hr1 ha ha0 F1 hj hx h60 hz hq t hn p0 p1 p5 p7 p8 K Q hK2 hdn
      · exact job_sync D E DJ hN hws hr0 hr1 ha ha0 F1 hj hx h60 hz hq t hn p0 p1 p5 p7 p8 K Q hK2 (by simpa using hdn)
    | 4, _, hq =>
      by_cases hsp : x.spot < 0
      · exact job_armneg D E DJ hN hws hr0 hr1 ha ha0 F1 hj hx h60 hz hq t hn p0 p1 p5 p7 p8 K Q hK2 hsp
      · exact job_arm D E DJ hN hws hr0 hr1 ha ha0 F1 hj hx h60 hz hq t hn p0 p1 p5 p7 p8 K Q hK2 (Int.not_lt.1 hsp)
    | 5, _, hq => exact job_crash D E DJ hN hws hr0 hr1 ha ha0 F1 hj hx h60 hz hq t hn p0 p1 p5 p7 p8 K Q hK2
    | q + 6, h6, _ => exact absurd h6 (by omega)
  · obtain ⟨a, cap, rfl, hl, hc⟩ := hj
    have hkm : k = min js.length 60 := by omega
    have h60 : k ≤ 60 := by omega
    have S60 : Sx w1 d bn bl e fl m 60 w0.heap.size := by
      obtain ⟨N, L, ws, wv, wv', wr, ar, dn, D, E, DJ, hN, hws, hr0, hr1, ha, ha0⟩ := S
      exact ⟨N, L, ws, wv, wv', wr, ar, dn, D, E, DJ, hN, by omega, hr0, by omega, ha, ha0⟩
    obtain ⟨f, hff, rfl⟩ := frame_open hn
    have e0 := hff 0 _ p0
    have e1 := hff 1 _ p1
    have e5 := hff 5 _ p5
    have e7 := hff 7 _ p7
    have e8 := hff 8 _ p8
    clear hff hn p0 p1 p5 p7 p8
    rw [lit179, e0, e1, e5, e7, e8]
    clear e0 e1 e5 e7 e8
    conv => arg 2; whnf
    have HE := Lib.hid hexit
    have HS := Lib.hid S60
    clear hexit hK S S60 hc hl
    by_cases h8 : k < js.length
    · have ql : (k : Int) < (js.length : Int) := by omega
      have q8 : ¬ ((k : Int) < 60) := by omega
      have t2 : decide ((k : Int) < 60) = false := by simpa using q8
      clear hkm
      go_wp2_with fail
      exact HE.out _ _ rfl rfl rfl rfl HS.out F1
    · have ql : ¬ ((k : Int) < (js.length : Int)) := by omega
      have t2 : decide ((k : Int) < (js.length : Int)) = false := by simpa using ql
      clear hkm
      go_wp2_with fail
      exact HE.out _ _ rfl rfl rfl rfl HS.out F1
set_option maxRecDepth 100000 in
set_option maxHeartbeats 6400000 in
theorem jobs_reads {Q : Exit → Act → World → Prop} {w0 w : World} {d bn bl e fl m : Nat} (hm : m ≤ 6) (S : Sx w d bn bl e fl m 60 w0.heap.size) (F : Fr (fun _ => False) w0 w) (t : Array Value) (hn : t.size = 179)
    (p0 : t[0]? = some (.int .i64 (m : Int))) (p5 : t[5]? = some (.pointer (some ⟨d, 0, none⟩))) (p7 : t[7]? = some (.pointer (some ⟨e, 0, none⟩))) (p15 : t[15]? = some (.int .i64 0))
    (hexit : ∀ t' w', t'.size = 179 → Fr (fun _ => False) w0 w' → Q (.exit 3) ⟨t', []⟩ w') :
    Code.wp Try.prog (.loop (loopAt Try.f4 1)) Q ⟨t, []⟩ w := by
  obtain ⟨N, L, ws, wv, wv', wr, ar, dn, D, E, DJ, hN, hws, hr0, hr1, ha, ha0⟩ := S
  have hl2 : ws.length < 1000000000000 := by omega
  refine wp_loop_up m (fun k t w' => t.size = 179 ∧ t[0]? = some (.int .i64 (m : Int)) ∧ t[5]? = some (.pointer (some ⟨d, 0, none⟩)) ∧ t[7]? = some (.pointer (some ⟨e, 0, none⟩)) ∧ t[15]? = some (.int .i64 (k : Int)) ∧ Fr (fun _ => False) w w') t w ⟨hn, p0, p5, p7, p15, Fr.refl _ _⟩ ?_
  clear hn p0 p5 p7 p15 t hr0 hr1 ha ha0 hws
  rintro k t w1 hk ⟨hn, p0, p5, p7, p15, F1⟩ K hK
  obtain ⟨f, hff, rfl⟩ := frame_open hn
  have e0 := hff 0 _ p0
  have e5 := hff 5 _ p5
  have e7 := hff 7 _ p7
  have e15 := hff 15 _ p15
  clear hff hn p0 p5 p7 p15
  rw [lit179, e0, e5, e7, e15]
  clear e0 e5 e7 e15
  conv => arg 2; whnf
  have HE := Lib.hid hexit
  have HK := Lib.hid hK
  have HDD := Lib.hid (D.fr F1 (fun _ _ h => h))
  have HEE := Lib.hid (E.fr F1 (fun _ _ h => h))
  have HN := Lib.hid hN
  have HF := Lib.hid F
  clear hexit hK D E DJ hN F
  have w4 : wrap64 ((k : Int) + 1) = (k : Int) + 1 := IntWalk.wrap64_in _ (by omega)
  have v4 : IntKind.i64.wrap ((k : Int) + 1) = (k : Int) + 1 := IntWalk.i64_in _ (by omega)
  have sZ : Sz 128 Try.zeroCells30 := by rw [Try.zBk]; exact ⟨ub_size _ _, ub_one _ _⟩
  have sZ9 := sZ29
  by_cases hlt : k < m
  · have q3 : (k : Int) < (m : Int) := by omega
    go_wp2_with fail
    refine (read_any HDD.out (k : Int)).mono ?_
    rintro e w2 ⟨rfl, F2⟩
    have K2 := ((Kn.start w1).call F2).new (w2.heap.size) 128 Try.zeroCells30 30 rfl sZ.1
    have hAB : (if rcode m dn (k : Int) = 0 then N (k : Int).toNat else fun _ => 0) = (if rcode m dn (k : Int) = 0 then lay L ws (k : Int).toNat else fun _ => 0) := by
      by_cases hc : rcode m dn (k : Int) = 0
      · rw [if_pos hc, if_pos hc]
        exact HN.out _ (by rw [Int.toNat_natCast]; exact hlt)
      · rw [if_neg hc, if_neg hc]
    have sA : Sz 128 (ub 128 (if rcode m dn (k : Int) = 0 then N (k : Int).toNat else fun _ => 0)) := ⟨ub_size _ _, ub_one _ _⟩
    have hne : ∀ W : World, (binOp .neq 29 (.agg (ub 128 (if rcode m dn (k : Int) = 0 then N (k : Int).toNat else fun _ => 0))) (.agg (ub 128 (if rcode m dn (k : Int) = 0 then N (k : Int).toNat else fun _ => 0)))).run Try.prog W = .ok (.bool false) W := fun W => by rw [neq_rb, beq_self_eq_true]; rfl
    have HAB := Lib.hid hAB
    clear hAB F2
    generalize hAA : ub 128 (if rcode m dn (k : Int) = 0 then N (k : Int).toNat else fun _ => 0) = A at sA hne ⊢
    have HAA := Lib.hid hAA
    clear hAA
    go_wp2_with (focus (((with_reducible refine' wpList_store_kn K2 rfl 30 (.tmp 16) _ rfl 0 _ _ _ _ _ rfl rfl Try.szBk _ _ _); rotate_left 2; (focus exact rfl)); (focus (with_reducible assumption)); intro wz Kz; clear K2; have K2 := Kz; clear Kz; simp only [List.set_cons_zero, List.set_cons_succ] at K2; try (simp only [Act.put, List.setIfInBounds_toArray, List.set_cons_zero, List.set_cons_succ])))
    have HH := Lib.hid (rread_any (HEE.out.fr K2.fr (fun _ _ h => h)) hl2 (k : Int))
    refine HH.out.mono ?_
    rintro e w3 ⟨rfl, F3⟩
    rw [← HAB.out, HAA.out]
    have cc : (rcode m dn (k : Int) == rcode m dn (k : Int)) = true := beq_self_eq_true _
    generalize rcode m dn (k : Int) = c at cc ⊢
    have K3 := (K2.call F3).new (w3.heap.size) 128 Try.zeroCells29 29 rfl sZ9.1
    clear K2 F3 HH
    go_wp2_with (first | (focus (((with_reducible refine' wpList_store_kn K3 rfl 29 (.tmp 18) _ rfl 0 _ _ _ _ _ rfl rfl Try.szRb _ _ _); rotate_left 2; (focus exact rfl)); (focus (with_reducible assumption)); intro wz Kz; clear K3; have K3 := Kz; clear Kz; simp only [List.set_cons_zero, List.set_cons_succ] at K3; try (simp only [Act.put, List.setIfInBounds_toArray, List.set_cons_zero, List.set_cons_succ]))) | ((with_reducible refine' wpList_load_kn K3 rfl 30 (.tmp 16) rfl 1 _ _ _ _ rfl _ Try.underlying30 rfl Try.szBk _ _); rotate_left 2; (focus exact rfl)) | ((with_reducible refine' wpList_load_kn K3 rfl 29 (.tmp 18) rfl 0 _ _ _ _ rfl _ Try.underlying29 rfl Try.szRb _ _); rotate_left 2; (focus exact rfl)))
    exact HK.out _ _ hlt ⟨rfl, rfl, rfl, rfl, by simp, F1.trans K3.fr (fun _ h => h.elim)⟩
  · obtain rfl : k = m := by omega
    go_wp2_with fail
    exact HE.out _ _ rfl (HF.out.trans F1 (fun _ h => h.elim))
end Go.Proofs.Ytgladedjgjhlaaa

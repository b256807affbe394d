/-
  DiskJobs.
-/
import Derived.Test.YtgladedjgjhlaaaXf
namespace Go.Proofs.Ytgladedjgjhlaaa
open Go.RowKit
set_option linter.unusedVariables false
set_option linter.unusedSimpArgs false
theorem DB.lower {w : World} {d bl n : Nat} {L : Nat → Nat → UInt8} {ws : List (Nat × (Nat → UInt8))} {wv : Value} {wr ar : Int} {dn : Bool} {base b2 : Nat} (h : DB w d bl n L ws wv wr ar dn base) (hb : b2 ≤ base) : DB w d bl n L ws wv wr ar dn b2 := by
  refine ⟨h.blk, h.las, ⟨h.own.1, ?_⟩, h.d2, h.o1, h.o3, by have := h.b1; omega, by have := h.b3; omega, h.hn, h.hw⟩
  rcases h.own.2 with e | ⟨g, cap, cur, e, hb2, rest⟩
  · exact .inl e
  · exact .inr ⟨g, cap, cur, e, by omega, rest⟩
set_option maxRecDepth 100000 in
set_option maxHeartbeats 6400000 in
theorem jobs_any {w : World} {v1 : Value} (n0 : Int) {js : List Jb} (hj : JL w v1 js) :
    Calls Try.prog 4 #[.int .i64 n0, v1] w fun e w' => e = .returned (.bool true) ∧ Fr (fun _ => False) w w' := by
  obtain ⟨z, q, hz, hq, hq6⟩ := spot6 n0
  obtain ⟨m, hm⟩ : ∃ m : Nat, m = 1 + q := ⟨_, rfl⟩
  have hm1 : 1 ≤ m := by omega
  have hm6 : m ≤ 6 := by omega
  have r1 : IntKind.u64.wrap (q : Int) = (q : Int) := IntWalk.u64_in _ (by omega)
  have r2 : IntKind.i64.wrap (q : Int) = (q : Int) := IntWalk.i64_in _ (by omega)
  have r3 : wrap64 (q : Int) = (q : Int) := IntWalk.wrap64_in _ (by omega)
  have r4 : IntKind.i64.wrap (1 + (q : Int)) = (m : Int) := by rw [IntWalk.i64_in _ (by omega)]; omega
  have r5 : wrap64 (1 + (q : Int)) = (m : Int) := by rw [IntWalk.wrap64_in _ (by omega)]; omega
  have HJ := Lib.hid hj
  have HM := Lib.hid hm
  clear hj hm hq6
  go_enter Try.func4, Try.ntmps4
  go_wp2_with fail
  refine (dnew_da m hm1 (by omega) w).mono ?_
  rintro e1 w1 ⟨d, bn, bl, rfl, D, F1⟩
  have HD := Lib.hid D
  clear D
  go_wp2_with fail
  refine (rnew_any m (by omega) w1).mono ?_
  rintro e2 w2 ⟨e, fl, rfl, E, F2⟩
  have HE := Lib.hid E
  clear E
  go_wp2_with fail
  refine (disks_any w2).mono ?_
  rintro e3 w3 ⟨rfl, F3⟩
  have D3 := (HD.out.fr F2 (fun _ _ h => h)).fr F3 (fun _ _ h => h)
  have E3 := (HE.out.fr F3 (fun _ _ h => h)).lower F1.size
  have S3 : Sx w3 d bn bl e fl m 0 w.heap.size := by
    refine ⟨_, _, _, _, _, _, _, _, D3, E3, ?_, fun i _ => rfl, Nat.zero_le _, by decide, by decide, by unfold In64; omega, by decide⟩
    intro j h1 h2
    have a1 := (da_up HD.out j h1).2
    have a2 := (HE.out.up j h2).1
    omega
  have G3 := (F1.trans F2 (fun _ h => h.elim)).trans F3 (fun _ h => h.elim)
  have HS := Lib.hid S3
  clear D3 E3 S3 HD HE F1 F2 F3
  go_wp2_with fail
  refine jobs_loop HJ.out HS.out G3 _ rfl rfl rfl rfl rfl rfl ?_
  intro t w4 hn p0 p5 p7 S4 F4
  obtain ⟨f, hff, rfl⟩ := frame_open hn
  have e0 := hff 0 _ p0
  have e5 := hff 5 _ p5
  have e7 := hff 7 _ p7
  clear hff hn p0 p5 p7
  rw [lit179, e0, e5, e7]
  clear e0 e5 e7
  have HS4 := Lib.hid S4
  clear S4 HS G3
  go_wp2_with fail
  refine jobs_reads hm6 HS4.out F4 _ rfl rfl rfl rfl rfl ?_
  intro t w5 hn F5
  obtain ⟨f, hff, rfl⟩ := frame_open hn
  clear hff hn
  rw [lit179]
  go_wp2_with fail
  go_ret
  exact ⟨rfl, F5⟩
end Go.Proofs.Ytgladedjgjhlaaa

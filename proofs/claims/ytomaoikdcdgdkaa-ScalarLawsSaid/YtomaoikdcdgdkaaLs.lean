/-
  The walk of the law ScalarLaws.
-/
import Derived.Test.YtomaoikdcdgdkaaLo
import Derived.Test.YtomaoikdcdgdkaaMu
namespace Go.Proofs.Ytomaoikdcdgdkaa
open Go.RowKit
set_option linter.unusedVariables false

theorem zero_lit : nc 0 = #[.int .u64 0, .int .u64 0, .int .u64 0, .int .u64 0] := rfl
theorem tm0 (A Y : Nat) : tm A Y 0 = A * Y % LL := by unfold tm; rw [Nat.pow_zero, Nat.div_one]
theorem law_dist (A B C : Nat) : (tm (A % LL) B 0 + tm (A % LL) C 0) % LL = tm (A % LL) ((B + C) % LL) 0 := by
  rw [tm0, tm0, tm0, ← Nat.add_mod, ← Nat.mul_add, Nat.mul_mod (A % LL) ((B + C) % LL), Nat.mod_mod, Nat.mod_mod, ← Nat.mul_mod]
  rw [Nat.mul_mod (A % LL), Nat.mod_mod, ← Nat.mul_mod]
theorem law_opp (A : Nat) : (A + (LL - A % LL) % LL) % LL = 0 := by
  have h := mod_LL A
  have e := Nat.mod_add_div A LL
  rw [Nat.add_mod_mod, show A + (LL - A % LL) = LL * (A / LL + 1) by rw [Nat.mul_add, Nat.mul_one]; omega, Nat.mul_mod_right]
set_option maxRecDepth 100000 in
set_option maxHeartbeats 16000000 in
theorem slaws_any (A B C : Nat) (hA : A < 115792089237316195423570985008687907853269984665640564039457584007913129639936) (hB : B < 115792089237316195423570985008687907853269984665640564039457584007913129639936) (hC : C < 115792089237316195423570985008687907853269984665640564039457584007913129639936) (w : World) :
    Calls Try.prog 11 #[.agg (nc A), .agg (nc B), .agg (nc C)] w fun e w' => e = .returned (.bool true) ∧ Fr (fun _ => False) w w' := by
  have ORD := fun (W : World) => orders_any W
  have AD1 := fun (W : World) => sadd_any B C hB hC W
  have MU1 := fun (W : World) => smul_any A ((B + C) % LL) hA (mod_LP _) W
  have MU2 := fun (W : World) => smul_any A B hA hB W
  have MU3 := fun (W : World) => smul_any A C hA hC W
  have AD2 := fun (W : World) => sadd_any (tm (A % LL) B 0) (tm (A % LL) C 0) (mod_LP _) (mod_LP _) W
  rw [law_dist] at AD2
  have NE := fun (W : World) => sneg_any A hA W
  have AD3 := fun (W : World) => sadd_any A ((LL - A % LL) % LL) hA (mod_LP _) W
  rw [law_opp, zero_lit] at AD3
  have MU4 := fun (W : World) => smul_any A 1 hA (by decide) W
  rw [tm0, Nat.mul_one, Nat.mod_mod, one_lit] at MU4
  have AD4 := fun (W : World) => sadd_any A 0 hA (by decide) W
  rw [Nat.add_zero, zero_lit] at AD4
  obtain ⟨a0, a1, a2, a3, _, _, _, _, _, ea⟩ := nc_open (A) (hA)
  rw [ea] at MU1 MU2 MU3 NE AD3 MU4 AD4 ⊢
  clear ea
  obtain ⟨b0, b1, b2, b3, _, _, _, _, _, eb⟩ := nc_open (B) (hB)
  rw [eb] at AD1 MU2 ⊢
  clear eb
  obtain ⟨c0, c1, c2, c3, _, _, _, _, _, ec⟩ := nc_open (C) (hC)
  rw [ec] at AD1 MU3 ⊢
  clear ec
  obtain ⟨d0, d1, d2, d3, _, _, _, _, _, ed⟩ := nc_open ((B + C) % LL) (mod_LP _)
  rw [ed] at AD1 MU1
  clear ed
  obtain ⟨s0, s1, s2, s3, _, _, _, _, _, es⟩ := nc_open (tm (A % LL) ((B + C) % LL) 0) (mod_LP _)
  rw [es] at MU1 AD2
  clear es
  obtain ⟨f0, f1, f2, f3, _, _, _, _, _, ef⟩ := nc_open (tm (A % LL) B 0) (mod_LP _)
  rw [ef] at MU2 AD2
  clear ef
  obtain ⟨g0, g1, g2, g3, _, _, _, _, _, eg⟩ := nc_open (tm (A % LL) C 0) (mod_LP _)
  rw [eg] at MU3 AD2
  clear eg
  obtain ⟨n0, n1, n2, n3, _, _, _, _, _, en⟩ := nc_open ((LL - A % LL) % LL) (mod_LP _)
  rw [en] at NE AD3
  clear en
  obtain ⟨p0, p1, p2, p3, _, _, _, _, _, ep⟩ := nc_open (A % LL) (mod_LP _)
  rw [ep] at MU4 AD4
  clear ep
  have EQ1 := fun (W : World) => eql_num_same s0 s1 s2 s3 W
  have EQ2 := fun (W : World) => eql_num_same 0 0 0 0 W
  have EQ3 := fun (W : World) => eql_num_same p0 p1 p2 p3 W
  have EG := Try.guardNum
  clear hA hB hC
  go_enter Try.func11, Try.ntmps11
  go_wp2_with fail
  have E0 : Fr (fun _ => False) w (((w.alloc (.cells #[.int .u64 (a0 : Int), .int .u64 (a1 : Int), .int .u64 (a2 : Int), .int .u64 (a3 : Int)] 52)).alloc (.cells #[.int .u64 (b0 : Int), .int .u64 (b1 : Int), .int .u64 (b2 : Int), .int .u64 (b3 : Int)] 52)).alloc (.cells #[.int .u64 (c0 : Int), .int .u64 (c1 : Int), .int .u64 (c2 : Int), .int .u64 (c3 : Int)] 52)) := ((Fr.refl _ w).alloc _).alloc _ |>.alloc _
  have A1 : (((w.alloc (.cells #[.int .u64 (a0 : Int), .int .u64 (a1 : Int), .int .u64 (a2 : Int), .int .u64 (a3 : Int)] 52)).alloc (.cells #[.int .u64 (b0 : Int), .int .u64 (b1 : Int), .int .u64 (b2 : Int), .int .u64 (b3 : Int)] 52)).alloc (.cells #[.int .u64 (c0 : Int), .int .u64 (c1 : Int), .int .u64 (c2 : Int), .int .u64 (c3 : Int)] 52)).heap[w.heap.size]? = some (.cells #[.int .u64 (a0 : Int), .int .u64 (a1 : Int), .int .u64 (a2 : Int), .int .u64 (a3 : Int)] 52 (0, 0)) := by
    rw [Below.heap_alloc _ _ _ (by simp; omega), Below.heap_alloc _ _ _ (by simp)]; exact heap_alloc_new w _
  have B1 : (((w.alloc (.cells #[.int .u64 (a0 : Int), .int .u64 (a1 : Int), .int .u64 (a2 : Int), .int .u64 (a3 : Int)] 52)).alloc (.cells #[.int .u64 (b0 : Int), .int .u64 (b1 : Int), .int .u64 (b2 : Int), .int .u64 (b3 : Int)] 52)).alloc (.cells #[.int .u64 (c0 : Int), .int .u64 (c1 : Int), .int .u64 (c2 : Int), .int .u64 (c3 : Int)] 52)).heap[w.heap.size + 1]? = some (.cells #[.int .u64 (b0 : Int), .int .u64 (b1 : Int), .int .u64 (b2 : Int), .int .u64 (b3 : Int)] 52 (0, 0)) := by
    rw [Below.heap_alloc _ _ _ (by simp)]; exact heap_at _ _ _ _ (by simp)
  have C1 : (((w.alloc (.cells #[.int .u64 (a0 : Int), .int .u64 (a1 : Int), .int .u64 (a2 : Int), .int .u64 (a3 : Int)] 52)).alloc (.cells #[.int .u64 (b0 : Int), .int .u64 (b1 : Int), .int .u64 (b2 : Int), .int .u64 (b3 : Int)] 52)).alloc (.cells #[.int .u64 (c0 : Int), .int .u64 (c1 : Int), .int .u64 (c2 : Int), .int .u64 (c3 : Int)] 52)).heap[w.heap.size + 1 + 1]? = some (.cells #[.int .u64 (c0 : Int), .int .u64 (c1 : Int), .int .u64 (c2 : Int), .int .u64 (c3 : Int)] 52 (0, 0)) := heap_at _ _ _ _ (by simp)
  generalize ((w.alloc (.cells #[.int .u64 (a0 : Int), .int .u64 (a1 : Int), .int .u64 (a2 : Int), .int .u64 (a3 : Int)] 52)).alloc (.cells #[.int .u64 (b0 : Int), .int .u64 (b1 : Int), .int .u64 (b2 : Int), .int .u64 (b3 : Int)] 52)).alloc (.cells #[.int .u64 (c0 : Int), .int .u64 (c1 : Int), .int .u64 (c2 : Int), .int .u64 (c3 : Int)] 52) = W0 at *
  have HA := Lib.hid A1
  have HB := Lib.hid B1
  have HC := Lib.hid C1
  have HE := Lib.hid E0
  have hS : ∀ w' : World, Fr (fun _ => False) W0 w' → (Fr (fun _ => False) W0 w' ∧ w'.cell? ⟨w.heap.size, 0, none⟩ = some (.int .u64 (a0 : Int)) ∧ w'.cell? ⟨w.heap.size, 1, none⟩ = some (.int .u64 (a1 : Int)) ∧ w'.cell? ⟨w.heap.size, 2, none⟩ = some (.int .u64 (a2 : Int)) ∧ w'.cell? ⟨w.heap.size, 3, none⟩ = some (.int .u64 (a3 : Int)) ∧ w'.cell? ⟨w.heap.size + 1, 0, none⟩ = some (.int .u64 (b0 : Int)) ∧ w'.cell? ⟨w.heap.size + 1, 1, none⟩ = some (.int .u64 (b1 : Int)) ∧ w'.cell? ⟨w.heap.size + 1, 2, none⟩ = some (.int .u64 (b2 : Int)) ∧ w'.cell? ⟨w.heap.size + 1, 3, none⟩ = some (.int .u64 (b3 : Int)) ∧ w'.cell? ⟨w.heap.size + 1 + 1, 0, none⟩ = some (.int .u64 (c0 : Int)) ∧ w'.cell? ⟨w.heap.size + 1 + 1, 1, none⟩ = some (.int .u64 (c1 : Int)) ∧ w'.cell? ⟨w.heap.size + 1 + 1, 2, none⟩ = some (.int .u64 (c2 : Int)) ∧ w'.cell? ⟨w.heap.size + 1 + 1, 3, none⟩ = some (.int .u64 (c3 : Int))) := fun w' F => by
    obtain ⟨i0, i1, i2, i3, i4, i5, i6, i7⟩ := blk4 (F.keepM HA.out)
    obtain ⟨j0, j1, j2, j3, j4, j5, j6, j7⟩ := blk4 (F.keepM HB.out)
    obtain ⟨k0, k1, k2, k3, k4, k5, k6, k7⟩ := blk4 (F.keepM HC.out)
    exact ⟨F, i0, i1, i2, i3, j0, j1, j2, j3, k0, k1, k2, k3⟩
  obtain ⟨i0, i1, i2, i3, i4, i5, i6, i7⟩ := blk4 A1
  obtain ⟨j0, j1, j2, j3, j4, j5, j6, j7⟩ := blk4 B1
  obtain ⟨k0, k1, k2, k3, k4, k5, k6, k7⟩ := blk4 C1
  clear A1 B1 C1 E0
  go_region_held3 (fun w' => Fr (fun _ => False) W0 w' ∧ w'.cell? ⟨w.heap.size, 0, none⟩ = some (.int .u64 (a0 : Int)) ∧ w'.cell? ⟨w.heap.size, 1, none⟩ = some (.int .u64 (a1 : Int)) ∧ w'.cell? ⟨w.heap.size, 2, none⟩ = some (.int .u64 (a2 : Int)) ∧ w'.cell? ⟨w.heap.size, 3, none⟩ = some (.int .u64 (a3 : Int)) ∧ w'.cell? ⟨w.heap.size + 1, 0, none⟩ = some (.int .u64 (b0 : Int)) ∧ w'.cell? ⟨w.heap.size + 1, 1, none⟩ = some (.int .u64 (b1 : Int)) ∧ w'.cell? ⟨w.heap.size + 1, 2, none⟩ = some (.int .u64 (b2 : Int)) ∧ w'.cell? ⟨w.heap.size + 1, 3, none⟩ = some (.int .u64 (b3 : Int)) ∧ w'.cell? ⟨w.heap.size + 1 + 1, 0, none⟩ = some (.int .u64 (c0 : Int)) ∧ w'.cell? ⟨w.heap.size + 1 + 1, 1, none⟩ = some (.int .u64 (c1 : Int)) ∧ w'.cell? ⟨w.heap.size + 1 + 1, 2, none⟩ = some (.int .u64 (c2 : Int)) ∧ w'.cell? ⟨w.heap.size + 1 + 1, 3, none⟩ = some (.int .u64 (c3 : Int)))
    ((first | (exact hS _ (by assumption)) | (exact hS _ (Fr.refl _ W0).drew) | (exact hS _ (Fr.refl _ W0)) | (exact hS _ (‹Fr (fun _ => False) W0 _ ∧ _›).1) | (exact hS _ (‹Fr (fun _ => False) W0 _ ∧ _›).1.drew)))
    ((first
      | (go_at_call 42
         with_reducible refine (ORD _).mono ?_
         rintro e w1 ⟨rfl, F1⟩
         have S1 : Fr (fun _ => False) W0 w1 := (‹Fr (fun _ => False) W0 _ ∧ _›).1.trans F1 (fun _ h => h.elim)
         clear F1)
      | (go_at_call 44
         with_reducible refine (AD1 _).mono ?_
         rintro e w2 ⟨rfl, F2⟩
         have S2 : Fr (fun _ => False) W0 w2 := (‹Fr (fun _ => False) W0 _ ∧ _›).1.trans F2 (fun _ h => h.elim)
         clear F2)
      | (go_at_call 46
         with_reducible refine (MU1 _).mono ?_
         rintro e w3 ⟨rfl, F3⟩
         have S3 : Fr (fun _ => False) W0 w3 := (‹Fr (fun _ => False) W0 _ ∧ _›).1.trans F3 (fun _ h => h.elim)
         clear F3)
      | (go_at_call 46
         with_reducible refine (MU2 _).mono ?_
         rintro e w4 ⟨rfl, F4⟩
         have S4 : Fr (fun _ => False) W0 w4 := (‹Fr (fun _ => False) W0 _ ∧ _›).1.trans F4 (fun _ h => h.elim)
         clear F4)
      | (go_at_call 46
         with_reducible refine (MU3 _).mono ?_
         rintro e w5 ⟨rfl, F5⟩
         have S5 : Fr (fun _ => False) W0 w5 := (‹Fr (fun _ => False) W0 _ ∧ _›).1.trans F5 (fun _ h => h.elim)
         clear F5)
      | (go_at_call 44
         with_reducible refine (AD2 _).mono ?_
         rintro e w6 ⟨rfl, F6⟩
         have S6 : Fr (fun _ => False) W0 w6 := (‹Fr (fun _ => False) W0 _ ∧ _›).1.trans F6 (fun _ h => h.elim)
         clear F6)
      | (go_at_call 48
         with_reducible refine (NE _).mono ?_
         rintro e w7 ⟨rfl, F7⟩
         have S7 : Fr (fun _ => False) W0 w7 := (‹Fr (fun _ => False) W0 _ ∧ _›).1.trans F7 (fun _ h => h.elim)
         clear F7)
      | (go_at_call 44
         with_reducible refine (AD3 _).mono ?_
         rintro e w8 ⟨rfl, F8⟩
         have S8 : Fr (fun _ => False) W0 w8 := (‹Fr (fun _ => False) W0 _ ∧ _›).1.trans F8 (fun _ h => h.elim)
         clear F8)
      | (go_at_call 46
         with_reducible refine (MU4 _).mono ?_
         rintro e w9 ⟨rfl, F9⟩
         have S9 : Fr (fun _ => False) W0 w9 := (‹Fr (fun _ => False) W0 _ ∧ _›).1.trans F9 (fun _ h => h.elim)
         clear F9)
      | (go_at_call 44
         with_reducible refine (AD4 _).mono ?_
         rintro e w10 ⟨rfl, F10⟩
         have S10 : Fr (fun _ => False) W0 w10 := (‹Fr (fun _ => False) W0 _ ∧ _›).1.trans F10 (fun _ h => h.elim)
         clear F10)))
  all_goals
    go_wp2
    go_ret
    refine ⟨rfl, HE.out.trans (T := fun _ => False) ?_ (fun _ h => False.elim h)⟩
    first | assumption | (exact (‹Fr (fun _ => False) W0 _ ∧ _›).1)
end Go.Proofs.Ytomaoikdcdgdkaa

/-
  The contract of tidy of package custumalref05.
-/
import Derived.Test.YtnobobdgoccmcaaVa
import Derived.Test.YtnobobdgoccmcaaMl
import Derived.Test.YtnobobdgoccmcaaMu
import Derived.Test.YtnobobdgoccmcaaSc
namespace Go.Proofs.Ytnobobdgoccmcaa
open Go.RowKit Pri
set_option linter.unusedVariables false

/-- The first n values of f, which may be below nought. -/
def zq (n : Nat) (f : Nat → Int) : Array Value := ((List.range n).map fun j => Value.int .i64 (f j)).toArray
theorem zq_size (n : Nat) (f : Nat → Int) : (zq n f).size = n := by simp [zq]
theorem zq_get (n : Nat) (f : Nat → Int) (j : Nat) (hj : j < n) : (zq n f)[j]? = some (.int .i64 (f j)) := by simp [zq, hj]
theorem zq_ext {cs : Array Value} {n : Nat} {f : Nat → Int} (h : cs.size = n) (h2 : ∀ j, j < n → cs[j]? = some (.int .i64 (f j))) : cs = zq n f := by
  apply Array.ext
  · rw [h, zq_size]
  · intro i h3 h4
    have a := h2 i (by omega)
    have b := zq_get n f i (by omega)
    rw [Array.getElem?_eq_getElem h3] at a
    rw [Array.getElem?_eq_getElem h4] at b
    exact (Option.some.inj a).trans (Option.some.inj b).symm
theorem zq_set (n : Nat) (f : Nat → Int) (i : Nat) (b : Int) (hi : i < n) : (zq n f).setIfInBounds i (.int .i64 b) = zq n (fun j => if j = i then b else f j) := by
  refine zq_ext (by simp [zq_size]) (fun j hj => ?_)
  rw [Array.getElem?_setIfInBounds]
  by_cases h : i = j
  · subst h; simp [zq_size, hj]
  · rw [if_neg h, zq_get n f j hj, if_neg (fun e => h e.symm)]
theorem zq_congr {n : Nat} {f g : Nat → Int} (h : ∀ j, j < n → f j = g j) : zq n f = zq n g := zq_ext (zq_size n f) (fun j hj => by rw [zq_get n f j hj, h j hj])
theorem iq_zq (n : Nat) (f : Nat → Nat) : iq n f = zq n (fun j => (f j : Int)) := rfl

/-- p's digits. -/
def pdg (k : Nat) : Nat := if k = 0 then 65517 else if k = 15 then 32767 else 65535
theorem pdg_dig (k : Nat) (hk : k < 16) : dig 65536 p25519 k = pdg k := by
  have h : ∀ k : Fin 16, dig 65536 p25519 k.val = pdg k.val := by decide +kernel
  exact h ⟨k, hk⟩
theorem p_b16 : p25519 < 65536 ^ 16 := by decide +kernel
/-- What stands in the difference's parts behind k steps. -/
def tpart (X k j : Nat) : Int := if j < k then (dig 65536 (X + 65536 ^ 16 - p25519) j : Int) else if j = 0 then (dig 65536 X 0 : Int) - 65517 else (dig 65536 X j : Int)
theorem tpart_start (X : Nat) : (zq 16 (fun j => (dig 65536 X j : Int))).setIfInBounds 0 (.int .i64 ((dig 65536 X 0 : Int) - 65517)) = zq 16 (tpart X 0) := by
  rw [zq_set 16 _ 0 _ (by omega)]
  refine zq_congr (fun j hj => ?_)
  unfold tpart
  rw [if_neg (show ¬ j < 0 by omega)]
theorem tpart_step (X k : Nat) (hk : k < 16) (z : Int) (hz : z = (dig 65536 (X + 65536 ^ 16 - p25519) k : Int)) : (zq 16 (tpart X k)).setIfInBounds k (.int .i64 z) = zq 16 (tpart X (k + 1)) := by
  rw [zq_set 16 _ k _ hk]
  refine zq_congr (fun j hj => ?_)
  unfold tpart
  by_cases e : j = k
  · subst e; rw [if_pos rfl, if_pos (show j < j + 1 by omega), hz]
  · rw [if_neg e]
    by_cases e2 : j < k
    · rw [if_pos e2, if_pos (show j < k + 1 by omega)]
    · rw [if_neg e2, if_neg (show ¬ j < k + 1 by omega)]
/-- One digit of the difference. -/
theorem tstep (X k : Nat) (hk : k < 16) : ∃ x l : Nat, x < 65536 ∧ l ≤ 1 ∧ x = dig 65536 X k ∧ l = lck 65536 X p25519 k ∧
    (((x : Int) - pdg k - l < 0 ∧ lck 65536 X p25519 (k + 1) = 1 ∧ (dig 65536 (X + 65536 ^ 16 - p25519) k : Int) = (x : Int) - pdg k - l + 65536) ∨
     (¬ (x : Int) - pdg k - l < 0 ∧ lck 65536 X p25519 (k + 1) = 0 ∧ (dig 65536 (X + 65536 ^ 16 - p25519) k : Int) = (x : Int) - pdg k - l)) := by
  have h1 := dig_sub 65536 X p25519 16 k (by decide) hk (Nat.le_trans (Nat.le_of_lt p_b16) (Nat.le_add_left _ _))
  have h2 := lck_succ 65536 X p25519 k (by decide)
  have h3 := dig_lt 65536 X k (by decide)
  have h4 := lck_le 65536 X p25519 k
  rw [pdg_dig k hk] at h1 h2
  have h5 : pdg k < 65536 := by unfold pdg; split; omega; split <;> omega
  refine ⟨_, _, h3, h4, rfl, rfl, ?_⟩
  generalize dig 65536 X k = x at *
  generalize lck 65536 X p25519 k = l at *
  generalize pdg k = q at *
  rw [h1, h2]
  by_cases c : x < q + l
  · rw [if_pos c]; left; refine ⟨by omega, rfl, by omega⟩
  · rw [if_neg c]; right; refine ⟨by omega, rfl, by omega⟩

theorem tpart_end (X : Nat) (h : p25519 ≤ X) (hX : X < 65536 ^ 16) : zq 16 (tpart X 16) = nd (X - p25519) := by
  refine zq_congr (fun j hj => ?_)
  unfold tpart
  rw [if_pos hj, show X + 65536 ^ 16 - p25519 = (X - p25519) + 65536 ^ 16 by omega, ← dig_of_mod 65536 _ 16 j hj, Nat.add_mod_right, dig_of_mod 65536 _ 16 j hj]
theorem mod_of (X n V : Nat) (h : X + n * p25519 = V) (hX : X < p25519) : V % p25519 = X := by
  rw [← h, Nat.add_mul_mod_self_right, Nat.mod_eq_of_lt hX]
theorem n_le (X n V : Nat) (h : X + n * p25519 = V) (hX : p25519 ≤ X) (hV : V < 115792089237316195423570985008687907853269984665640564039457584007913129639936) (hn : n ≤ 2) : n + 1 ≤ 2 := by
  rw [p_val] at *
  omega
theorem next_of (X n V : Nat) (h : X + n * p25519 = V) (hX : p25519 ≤ X) : X - p25519 + (n + 1) * p25519 = V := by
  rw [Nat.add_mul, Nat.one_mul]
  omega
set_option maxRecDepth 100000 in
set_option maxHeartbeats 6400000 in
theorem tidy_any (g : Nat → Nat) (h : ∀ j, j < 16 → g j < 70368744177664) (w : World) :
    Calls Try.prog 81 #[.agg (iq 16 g)] w fun e w' => e = .returned (.agg (nd (val 65536 g 16 % p25519))) ∧ Fr (fun _ => False) w w' := by
  have hv := val_le g 70368744177664 h
  have CA := fun W : World => carry_any g h W
  have hm : val 65536 g 16 % p25519 = rnd (rnd (rnd (val 65536 g 16))) % p25519 := by rw [rnd_mod, rnd_mod, rnd_mod]
  have hlt := (rnd3_lt (val 65536 g 16) (by omega)).1
  rw [hm]
  clear hm hv h
  generalize rnd (rnd (rnd (val 65536 g 16))) = V at *
  have A0 := heap_alloc2_old w (.cells (iq 16 g) 26) (.cells #[.int .i64 0, .int .i64 0, .int .i64 0, .int .i64 0, .int .i64 0, .int .i64 0, .int .i64 0, .int .i64 0, .int .i64 0, .int .i64 0, .int .i64 0, .int .i64 0, .int .i64 0, .int .i64 0, .int .i64 0, .int .i64 0] 26)
  have B0 := heap_alloc2_new w (.cells (iq 16 g) 26) (.cells #[.int .i64 0, .int .i64 0, .int .i64 0, .int .i64 0, .int .i64 0, .int .i64 0, .int .i64 0, .int .i64 0, .int .i64 0, .int .i64 0, .int .i64 0, .int .i64 0, .int .i64 0, .int .i64 0, .int .i64 0, .int .i64 0] 26)
  have F0 : Fr (fun _ => False) w ((w.alloc (.cells (iq 16 g) 26)).alloc (.cells #[.int .i64 0, .int .i64 0, .int .i64 0, .int .i64 0, .int .i64 0, .int .i64 0, .int .i64 0, .int .i64 0, .int .i64 0, .int .i64 0, .int .i64 0, .int .i64 0, .int .i64 0, .int .i64 0, .int .i64 0, .int .i64 0] 26)) := ((Fr.refl _ w).alloc _).alloc _
  have s0 := Try.sizeV (f := g)
  have s1 : (iq 16 g).size = (nd V).size := by unfold nd; rw [iq_size, iq_size]
  have s2 : (nd V).all (·.oneCell') = true := iq_one 16 _
  have s3 : (Try.prog.info? 26).map (·.size) = some (nd V).size := Try.sizeV
  generalize iq 16 g = G0 at *
  go_enter Try.func81, Try.ntmps81
  go_wp2_with (with_reducible refine wpList_load_row rfl 26 (.tmp 1) rfl w.heap.size rfl 26 G0 (0, 0) _ A0 Try.underlying26 rfl s0 ?_)
  refine (CA _).mono ?_
  rintro e w1 ⟨rfl, F1⟩
  have A1 := F1.keepM A0
  have B1 := F1.keepM B0
  have G1 := F0.trans F1 (fun _ h => h.elim)
  clear F1 A0 B0 F0 CA
  have F2 : Fr (fun _ => False) w (w1.setRow w.heap.size (nd V)) := G1.trans (Fr.setRow (S := fun k => k = w.heap.size) (Fr.refl _ _) rfl _) (fun i hi => Or.inr (by omega))
  have A2 := setRow_heap _ _ _ (nd V) _ _ A1
  have B2 := (setRow_other w1 w.heap.size (w.heap.size + 1) (nd V) (by omega)).trans B1
  go_wp2_with (with_reducible refine wpList_store_row rfl 26 (.tmp 1) (.tmp 8) rfl w.heap.size (nd V) rfl rfl 26 G0 A1 s3 s1 s2 ?_)
  clear A1 B1 G1 s0 s1 s2 s3
  generalize w1.setRow w.heap.size (nd V) = w2 at *
  have Hlt := Lib.hid hlt
  clear hlt
  go_loopw [3, 4, 5, 6] (fun k _ _ _ wr => ∃ n X : Nat, n ≤ 2 ∧ k = .int .i64 n ∧ X + n * p25519 = V ∧ wr.heap[w.heap.size]? = some (.cells (nd X) 26 (0, 0)) ∧ wr.heap[w.heap.size + 1]? = some (.cells #[.int .i64 0, .int .i64 0, .int .i64 0, .int .i64 0, .int .i64 0, .int .i64 0, .int .i64 0, .int .i64 0, .int .i64 0, .int .i64 0, .int .i64 0, .int .i64 0, .int .i64 0, .int .i64 0, .int .i64 0, .int .i64 0] 26 (0, 0)) ∧ Fr (fun _ => False) w wr) (fun k _ _ _ _ => 3 - (intOf k).toNat)
  case atStart => exact ⟨0, V, by omega, by simp, by omega, A2, B2, F2⟩
  case round =>
    clear A2 B2 F2
    obtain ⟨n, X, hn, rfl, hX, hA, hB, hF⟩ := hrel
    have HX := Lib.hid hX
    have hXlt : X < 115792089237316195423570985008687907853269984665640564039457584007913129639936 := by have := Hlt.out; omega
    clear hX
    have HXlt := Lib.hid hXlt
    clear hXlt
    have hn3 : decide ((n : Int) < 3) = true := by simp; omega
    have M0 := heap_alloc_new wr (.cells #[.int .i64 0, .int .i64 0, .int .i64 0, .int .i64 0, .int .i64 0, .int .i64 0, .int .i64 0, .int .i64 0, .int .i64 0, .int .i64 0, .int .i64 0, .int .i64 0, .int .i64 0, .int .i64 0, .int .i64 0, .int .i64 0] 26)
    have s1 : (#[.int .i64 0, .int .i64 0, .int .i64 0, .int .i64 0, .int .i64 0, .int .i64 0, .int .i64 0, .int .i64 0, .int .i64 0, .int .i64 0, .int .i64 0, .int .i64 0, .int .i64 0, .int .i64 0, .int .i64 0, .int .i64 0] : Array Value).size = (nd X).size := by unfold nd; rw [iq_size]; rfl
    have s2 : (nd X).all (·.oneCell') = true := iq_one 16 _
    have s3 : (Try.prog.info? 26).map (·.size) = some (nd X).size := Try.sizeV
    have hlb := lt_of_block hB
    go_wp2_with (first
      | (with_reducible refine wpList_load_row rfl 26 (.tmp 1) rfl w.heap.size rfl 26 (nd X) (0, 0) _ hA Try.underlying26 rfl s3 ?_)
      | (with_reducible refine wpList_store_rowR rfl 26 (.tmp 4) (.tmp 13) rfl wr.heap.size (nd X) rfl rfl 26 _ M0 s3 s1 s2 ?k))
    case k =>
    intro w5 M1 hG
    have E1 : Fr (fun _ => False) wr w5 := ((Fr.refl _ wr).alloc _).trans hG (fun i hi => Or.inr (by omega))
    have c0 := cell_of_block M1 0
    unfold nd at c0
    rw [iq_get 16 _ 0 (by omega)] at c0
    have f0 := free_of_block M1 0
    have hx0 := dig_lt 65536 X 0 (by decide)
    have hst := block_setCell M1 0 (.int .i64 ((dig 65536 X 0 : Int) - 65517))
    rw [show nd X = zq 16 (fun j => (dig 65536 X j : Int)) from rfl, tpart_start] at hst
    have E0 : Fr (fun _ => False) wr (w5.setCell ⟨wr.heap.size, 0, none⟩ (.int .i64 ((dig 65536 X 0 : Int) - 65517))) := E1.setCell (Or.inr (Nat.le_refl _)) _
    have W1 : IntKind.i64.wrap ((dig 65536 X 0 : Int) - 65517) = (dig 65536 X 0 : Int) - 65517 := IntWalk.i64_in _ (by omega)
    have HST := Lib.hid hst
    have HA5 := Lib.hid (E0.keepM hA)
    have HB5 := Lib.hid (E0.keepM hB)
    have HF5 := Lib.hid (hF.trans E0 (fun _ h => h.elim))
    have hx9 : (dig 65536 X 0 : Int) < 65536 := by omega
    clear hst E0 E1 hG M1 hB hF hn3 hA M0 s1 s2 s3
    generalize dig 65536 X 0 = x0 at *
    go_wp2_with fail
    clear W1 c0 f0 hx0 hx9
    generalize wr.heap.size = bm at *
    go_loopw [5, 6] (fun u i wi => ∃ k : Nat, k ≤ 16 ∧ i = .int .i64 k ∧ u = .int .i64 (lck 65536 X p25519 k : Nat) ∧ wi.heap[bm]? = some (.cells (zq 16 (tpart X k)) 26 (0, 0)) ∧ wi.heap[w.heap.size]? = some (.cells (nd X) 26 (0, 0)) ∧ wi.heap[w.heap.size + 1]? = some (.cells #[.int .i64 0, .int .i64 0, .int .i64 0, .int .i64 0, .int .i64 0, .int .i64 0, .int .i64 0, .int .i64 0, .int .i64 0, .int .i64 0, .int .i64 0, .int .i64 0, .int .i64 0, .int .i64 0, .int .i64 0, .int .i64 0] 26 (0, 0)) ∧ Fr (fun _ => False) w wi) (fun _ i _ => 16 - (intOf i).toNat)
    case atStart => exact ⟨0, by omega, by simp, by simp [lck_zero], HST.out, HA5.out, HB5.out, HF5.out⟩
    case round =>
      clear HST HA5 HB5 HF5
      obtain ⟨k, hk, rfl, rfl, hM, hA, hB, hF⟩ := hrel
      by_cases h16 : k < 16
      · as_aux_lemma =>
        obtain ⟨x, l, hx, hl, ex, el, hz⟩ := tstep X k h16
        have c0 := cell_of_block hM k
        rw [zq_get 16 _ k h16] at c0
        have f0 := free_of_block hM k
        have q0 : (0 : Int) ≤ (k : Int) := by omega
        have q1 : (k : Int) < 16 := by omega
        have x9 : (x : Int) < 65536 := by omega
        have l9 : (l : Int) ≤ 1 := by omega
        rw [← el]
        rcases hz with ⟨h1, h2, h3⟩ | ⟨h1, h2, h3⟩
        · have HL := Lib.hid h2
          have HD := Lib.hid h3
          have HX1 := Lib.hid ex
          have HM := Lib.hid hM
          have HA := Lib.hid hA
          have HB := Lib.hid hB
          have HF := Lib.hid hF
          clear h2 h3 el ex hM hA hB hF
          by_cases k0 : k = 0
          · subst k0
            have hv : tpart X 0 0 = (x : Int) - 65517 := by rw [HX1.out]; rfl
            have hp : pdg 0 = 65517 := rfl
            rw [hp] at h1
            rw [hv] at c0
            have hz2 : ((x : Int) - 65517 - (l : Int)) + 65536 = (dig 65536 (X + 65536 ^ 16 - p25519) 0 : Int) := by rw [HD.out, hp]; omega
            clear hp hv
            have w2 : IntKind.i64.wrap ((x : Int) - 65517 - (l : Int)) = ((x : Int) - 65517 - (l : Int)) := IntWalk.i64_in _ (by omega)
            have w3 : IntKind.i64.wrap (((x : Int) - 65517 - (l : Int)) + 65536) = ((x : Int) - 65517 - (l : Int)) + 65536 := IntWalk.i64_in _ (by omega)
            have d1 : decide (((x : Int) - 65517 - (l : Int)) < 0) = true := decide_eq_true h1
            have hst : ∀ w9 : World, w9.heap[bm]? = some (.cells ((zq 16 (tpart X 0)).setIfInBounds 0 (.int .i64 (((x : Int) - 65517 - (l : Int)) + 65536))) 26 (0, 0)) → w9.heap[bm]? = some (.cells (zq 16 (tpart X (0 + 1))) 26 (0, 0)) := fun w9 h9 => by rw [tpart_step X 0 (by omega) _ hz2] at h9; exact h9
            have HST := Lib.hid hst
            clear hst hz2 HD HX1 h1
            rw [show ((0 : Nat) : Int) = 0 from rfl] at *
            clear f0
            have i3 : (Try.prog.info? 3).map (·.size) = some 1 := by kernel_rfl
            have hsz : 0 < (zq 16 (tpart X 0)).size := by rw [zq_size]; omega
            go_wp2_with (with_reducible refine wpList_store_int rfl 3 (.tmp 48) (.tmp 47) rfl bm 0 rfl .i64 (((x : Int) - 65517 - (l : Int))) rfl i3 26 _ HM.out hsz ?k0)
            case k0 =>
            intro wa M0 F0
            have c1 : wa.cell? ⟨bm, 0, none⟩ = some (Value.int .i64 (((x : Int) - 65517 - (l : Int)))) := by rw [cell_of_block M0, Array.getElem?_setIfInBounds_self_of_lt]; exact hsz
            have g1 := free_of_block M0 0
            have HM0 := Lib.hid M0
            have HF0 := Lib.hid F0
            clear M0 F0 c0 g1
            have hsz0 : 0 < ((zq 16 (tpart X 0)).setIfInBounds 0 (Value.int .i64 (((x : Int) - 65517 - (l : Int))))).size := by simp only [Array.size_setIfInBounds]; exact hsz
            go_wp2_with (with_reducible refine wpList_store_int rfl 3 (.tmp 58) (.tmp 57) rfl bm 0 rfl .i64 (((x : Int) - 65517 - (l : Int)) + 65536) rfl i3 26 _ HM0.out (by first | exact hsz | (simp only [Array.size_setIfInBounds]; exact hsz) | (simp only [zq_size, Array.size_setIfInBounds]; omega)) ?k1)
            case k1 =>
            intro wb M1 F1
            have c2 : wb.cell? ⟨bm, 0, none⟩ = some (Value.int .i64 (((x : Int) - 65517 - (l : Int)) + 65536)) := by rw [cell_of_block M1, Array.getElem?_setIfInBounds_self_of_lt]; first | exact hsz0 | exact hsz
            have g2 := free_of_block M1 0
            have HM1 := Lib.hid M1
            have HF1 := Lib.hid F1
            clear M1 F1 c1 g2
            have hsz1 : 0 < (((zq 16 (tpart X 0)).setIfInBounds 0 (Value.int .i64 (((x : Int) - 65517 - (l : Int))))).setIfInBounds 0 (Value.int .i64 (((x : Int) - 65517 - (l : Int)) + 65536))).size := by simp only [Array.size_setIfInBounds]; exact hsz
            clear c2
            go_wp2_with fail
            go_roundw
            case rel => exact ⟨0 + 1, by omega, by first | go_num | rfl, by rw [HL.out]; rfl, HST.out _ (by have := HM1.out; (try simp only [Array.setIfInBounds_setIfInBounds] at this); exact this), ((HF1.out.block _ (lt_of_block ((HF0.out.block _ (lt_of_block HA.out) (by omega)).trans HA.out)) (by omega)).trans ((HF0.out.block _ (lt_of_block HA.out) (by omega)).trans HA.out)), ((HF1.out.block _ (lt_of_block ((HF0.out.block _ (lt_of_block HB.out) (by omega)).trans HB.out)) (by omega)).trans ((HF0.out.block _ (lt_of_block HB.out) (by omega)).trans HB.out)), ((HF.out.trans HF0.out (fun i hi => Or.inr (by omega))).trans HF1.out (fun i hi => Or.inr (by omega)))⟩
            case measure => simp [intOf] <;> omega
          · by_cases k15 : k = 15
            · subst k15
              have hv : tpart X 15 15 = (x : Int) := by unfold tpart; rw [if_neg (show ¬ 15 < 15 by omega), if_neg (by omega), HX1.out]
              have hp : pdg 15 = 32767 := by rfl
              have w1 : IntKind.i64.wrap ((x : Int) - 32767) = (x : Int) - 32767 := IntWalk.i64_in _ (by omega)
              rw [hp] at h1
              rw [hv] at c0
              have hz2 : ((x : Int) - 32767 - (l : Int)) + 65536 = (dig 65536 (X + 65536 ^ 16 - p25519) 15 : Int) := by rw [HD.out, hp]; omega
              clear hp hv
              have w2 : IntKind.i64.wrap ((x : Int) - 32767 - (l : Int)) = ((x : Int) - 32767 - (l : Int)) := IntWalk.i64_in _ (by omega)
              have w3 : IntKind.i64.wrap (((x : Int) - 32767 - (l : Int)) + 65536) = ((x : Int) - 32767 - (l : Int)) + 65536 := IntWalk.i64_in _ (by omega)
              have d1 : decide (((x : Int) - 32767 - (l : Int)) < 0) = true := decide_eq_true h1
              have hst : ∀ w9 : World, w9.heap[bm]? = some (.cells ((zq 16 (tpart X 15)).setIfInBounds 15 (.int .i64 (((x : Int) - 32767 - (l : Int)) + 65536))) 26 (0, 0)) → w9.heap[bm]? = some (.cells (zq 16 (tpart X (15 + 1))) 26 (0, 0)) := fun w9 h9 => by rw [tpart_step X 15 (by omega) _ hz2] at h9; exact h9
              have HST := Lib.hid hst
              clear hst hz2 HD HX1 h1
              rw [show ((15 : Nat) : Int) = 15 from rfl] at *
              clear f0
              have i3 : (Try.prog.info? 3).map (·.size) = some 1 := by kernel_rfl
              have hsz : 15 < (zq 16 (tpart X 15)).size := by rw [zq_size]; omega
              go_wp2_with (with_reducible refine wpList_store_int rfl 3 (.tmp 41) (.tmp 40) rfl bm 15 rfl .i64 (((x : Int) - 32767)) rfl i3 26 _ HM.out hsz ?k0)
              case k0 =>
              intro wa M0 F0
              have c1 : wa.cell? ⟨bm, 15, none⟩ = some (Value.int .i64 (((x : Int) - 32767))) := by rw [cell_of_block M0, Array.getElem?_setIfInBounds_self_of_lt]; exact hsz
              have g1 := free_of_block M0 15
              have HM0 := Lib.hid M0
              have HF0 := Lib.hid F0
              clear M0 F0 c0 g1
              have hsz0 : 15 < ((zq 16 (tpart X 15)).setIfInBounds 15 (Value.int .i64 (((x : Int) - 32767)))).size := by simp only [Array.size_setIfInBounds]; exact hsz
              go_wp2_with (with_reducible refine wpList_store_int rfl 3 (.tmp 48) (.tmp 47) rfl bm 15 rfl .i64 (((x : Int) - 32767 - (l : Int))) rfl i3 26 _ HM0.out (by first | exact hsz | (simp only [Array.size_setIfInBounds]; exact hsz) | (simp only [zq_size, Array.size_setIfInBounds]; omega)) ?k1)
              case k1 =>
              intro wb M1 F1
              have c2 : wb.cell? ⟨bm, 15, none⟩ = some (Value.int .i64 (((x : Int) - 32767 - (l : Int)))) := by rw [cell_of_block M1, Array.getElem?_setIfInBounds_self_of_lt]; first | exact hsz0 | exact hsz
              have g2 := free_of_block M1 15
              have HM1 := Lib.hid M1
              have HF1 := Lib.hid F1
              clear M1 F1 c1 g2
              have hsz1 : 15 < (((zq 16 (tpart X 15)).setIfInBounds 15 (Value.int .i64 (((x : Int) - 32767)))).setIfInBounds 15 (Value.int .i64 (((x : Int) - 32767 - (l : Int))))).size := by simp only [Array.size_setIfInBounds]; exact hsz
              go_wp2_with (with_reducible refine wpList_store_int rfl 3 (.tmp 58) (.tmp 57) rfl bm 15 rfl .i64 (((x : Int) - 32767 - (l : Int)) + 65536) rfl i3 26 _ HM1.out (by first | exact hsz | (simp only [Array.size_setIfInBounds]; exact hsz) | (simp only [zq_size, Array.size_setIfInBounds]; omega)) ?k2)
              case k2 =>
              intro wc M2 F2
              have c3 : wc.cell? ⟨bm, 15, none⟩ = some (Value.int .i64 (((x : Int) - 32767 - (l : Int)) + 65536)) := by rw [cell_of_block M2, Array.getElem?_setIfInBounds_self_of_lt]; first | exact hsz1 | exact hsz
              have g3 := free_of_block M2 15
              have HM2 := Lib.hid M2
              have HF2 := Lib.hid F2
              clear M2 F2 c2 g3
              have hsz2 : 15 < ((((zq 16 (tpart X 15)).setIfInBounds 15 (Value.int .i64 (((x : Int) - 32767)))).setIfInBounds 15 (Value.int .i64 (((x : Int) - 32767 - (l : Int))))).setIfInBounds 15 (Value.int .i64 (((x : Int) - 32767 - (l : Int)) + 65536))).size := by simp only [Array.size_setIfInBounds]; exact hsz
              clear c3
              go_wp2_with fail
              go_roundw
              case rel => exact ⟨15 + 1, by omega, by first | go_num | rfl, by rw [HL.out]; rfl, HST.out _ (by have := HM2.out; (try simp only [Array.setIfInBounds_setIfInBounds] at this); exact this), ((HF2.out.block _ (lt_of_block ((HF1.out.block _ (lt_of_block ((HF0.out.block _ (lt_of_block HA.out) (by omega)).trans HA.out)) (by omega)).trans ((HF0.out.block _ (lt_of_block HA.out) (by omega)).trans HA.out))) (by omega)).trans ((HF1.out.block _ (lt_of_block ((HF0.out.block _ (lt_of_block HA.out) (by omega)).trans HA.out)) (by omega)).trans ((HF0.out.block _ (lt_of_block HA.out) (by omega)).trans HA.out))), ((HF2.out.block _ (lt_of_block ((HF1.out.block _ (lt_of_block ((HF0.out.block _ (lt_of_block HB.out) (by omega)).trans HB.out)) (by omega)).trans ((HF0.out.block _ (lt_of_block HB.out) (by omega)).trans HB.out))) (by omega)).trans ((HF1.out.block _ (lt_of_block ((HF0.out.block _ (lt_of_block HB.out) (by omega)).trans HB.out)) (by omega)).trans ((HF0.out.block _ (lt_of_block HB.out) (by omega)).trans HB.out))), (((HF.out.trans HF0.out (fun i hi => Or.inr (by omega))).trans HF1.out (fun i hi => Or.inr (by omega))).trans HF2.out (fun i hi => Or.inr (by omega)))⟩
              case measure => simp [intOf] <;> omega
            · have hv : tpart X k k = (x : Int) := by unfold tpart; rw [if_neg (show ¬ k < k by omega), if_neg k0, HX1.out]
              have hp : pdg k = 65535 := by unfold pdg; rw [if_neg k0, if_neg k15]
              have w1 : IntKind.i64.wrap ((x : Int) - 65535) = (x : Int) - 65535 := IntWalk.i64_in _ (by omega)
              have t1 : decide ((0 : Int) < (k : Int)) = true := by simp; omega
              have p0 : 0 < k := by omega
              have t1' : decide (0 < k) = true := by simpa using p0
              have t2 : decide ((k : Int) < 15) = true := by simp; omega
              have t3 : ((k : Int) == 15) = false := by rw [beq_eq_false_iff_ne]; omega
              have t3' : (k == 15) = false := by rw [beq_eq_false_iff_ne]; exact k15
              rw [hp] at h1
              rw [hv] at c0
              have hz2 : ((x : Int) - 65535 - (l : Int)) + 65536 = (dig 65536 (X + 65536 ^ 16 - p25519) k : Int) := by rw [HD.out, hp]; omega
              clear hp hv
              have w2 : IntKind.i64.wrap ((x : Int) - 65535 - (l : Int)) = ((x : Int) - 65535 - (l : Int)) := IntWalk.i64_in _ (by omega)
              have w3 : IntKind.i64.wrap (((x : Int) - 65535 - (l : Int)) + 65536) = ((x : Int) - 65535 - (l : Int)) + 65536 := IntWalk.i64_in _ (by omega)
              have d1 : decide (((x : Int) - 65535 - (l : Int)) < 0) = true := decide_eq_true h1
              have hst : ∀ w9 : World, w9.heap[bm]? = some (.cells ((zq 16 (tpart X k)).setIfInBounds k (.int .i64 (((x : Int) - 65535 - (l : Int)) + 65536))) 26 (0, 0)) → w9.heap[bm]? = some (.cells (zq 16 (tpart X (k + 1))) 26 (0, 0)) := fun w9 h9 => by rw [tpart_step X k (by omega) _ hz2] at h9; exact h9
              have HST := Lib.hid hst
              clear hst hz2 HD HX1 h1
              clear f0 k0
              have i3 : (Try.prog.info? 3).map (·.size) = some 1 := by kernel_rfl
              have hsz : k < (zq 16 (tpart X k)).size := by rw [zq_size]; omega
              go_wp2_with (with_reducible refine wpList_store_int rfl 3 (.tmp 33) (.tmp 32) rfl bm k rfl .i64 (((x : Int) - 65535)) rfl i3 26 _ HM.out hsz ?k0)
              case k0 =>
              intro wa M0 F0
              have c1 : wa.cell? ⟨bm, k, none⟩ = some (Value.int .i64 (((x : Int) - 65535))) := by rw [cell_of_block M0, Array.getElem?_setIfInBounds_self_of_lt]; exact hsz
              have g1 := free_of_block M0 k
              have HM0 := Lib.hid M0
              have HF0 := Lib.hid F0
              clear M0 F0 c0 g1
              have hsz0 : k < ((zq 16 (tpart X k)).setIfInBounds k (Value.int .i64 (((x : Int) - 65535)))).size := by simp only [Array.size_setIfInBounds]; exact hsz
              go_wp2_with (with_reducible refine wpList_store_int rfl 3 (.tmp 48) (.tmp 47) rfl bm k rfl .i64 (((x : Int) - 65535 - (l : Int))) rfl i3 26 _ HM0.out (by first | exact hsz | (simp only [Array.size_setIfInBounds]; exact hsz) | (simp only [zq_size, Array.size_setIfInBounds]; omega)) ?k1)
              case k1 =>
              intro wb M1 F1
              have c2 : wb.cell? ⟨bm, k, none⟩ = some (Value.int .i64 (((x : Int) - 65535 - (l : Int)))) := by rw [cell_of_block M1, Array.getElem?_setIfInBounds_self_of_lt]; first | exact hsz0 | exact hsz
              have g2 := free_of_block M1 k
              have HM1 := Lib.hid M1
              have HF1 := Lib.hid F1
              clear M1 F1 c1 g2
              have hsz1 : k < (((zq 16 (tpart X k)).setIfInBounds k (Value.int .i64 (((x : Int) - 65535)))).setIfInBounds k (Value.int .i64 (((x : Int) - 65535 - (l : Int))))).size := by simp only [Array.size_setIfInBounds]; exact hsz
              go_wp2_with (with_reducible refine wpList_store_int rfl 3 (.tmp 58) (.tmp 57) rfl bm k rfl .i64 (((x : Int) - 65535 - (l : Int)) + 65536) rfl i3 26 _ HM1.out (by first | exact hsz | (simp only [Array.size_setIfInBounds]; exact hsz) | (simp only [zq_size, Array.size_setIfInBounds]; omega)) ?k2)
              case k2 =>
              intro wc M2 F2
              have c3 : wc.cell? ⟨bm, k, none⟩ = some (Value.int .i64 (((x : Int) - 65535 - (l : Int)) + 65536)) := by rw [cell_of_block M2, Array.getElem?_setIfInBounds_self_of_lt]; first | exact hsz1 | exact hsz
              have g3 := free_of_block M2 k
              have HM2 := Lib.hid M2
              have HF2 := Lib.hid F2
              clear M2 F2 c2 g3
              have hsz2 : k < ((((zq 16 (tpart X k)).setIfInBounds k (Value.int .i64 (((x : Int) - 65535)))).setIfInBounds k (Value.int .i64 (((x : Int) - 65535 - (l : Int))))).setIfInBounds k (Value.int .i64 (((x : Int) - 65535 - (l : Int)) + 65536))).size := by simp only [Array.size_setIfInBounds]; exact hsz
              clear c3
              go_wp2_with fail
              go_roundw
              case rel => exact ⟨k + 1, by omega, by first | go_num | rfl, by rw [HL.out]; rfl, HST.out _ (by have := HM2.out; (try simp only [Array.setIfInBounds_setIfInBounds] at this); exact this), ((HF2.out.block _ (lt_of_block ((HF1.out.block _ (lt_of_block ((HF0.out.block _ (lt_of_block HA.out) (by omega)).trans HA.out)) (by omega)).trans ((HF0.out.block _ (lt_of_block HA.out) (by omega)).trans HA.out))) (by omega)).trans ((HF1.out.block _ (lt_of_block ((HF0.out.block _ (lt_of_block HA.out) (by omega)).trans HA.out)) (by omega)).trans ((HF0.out.block _ (lt_of_block HA.out) (by omega)).trans HA.out))), ((HF2.out.block _ (lt_of_block ((HF1.out.block _ (lt_of_block ((HF0.out.block _ (lt_of_block HB.out) (by omega)).trans HB.out)) (by omega)).trans ((HF0.out.block _ (lt_of_block HB.out) (by omega)).trans HB.out))) (by omega)).trans ((HF1.out.block _ (lt_of_block ((HF0.out.block _ (lt_of_block HB.out) (by omega)).trans HB.out)) (by omega)).trans ((HF0.out.block _ (lt_of_block HB.out) (by omega)).trans HB.out))), (((HF.out.trans HF0.out (fun i hi => Or.inr (by omega))).trans HF1.out (fun i hi => Or.inr (by omega))).trans HF2.out (fun i hi => Or.inr (by omega)))⟩
              case measure => simp [intOf] <;> omega
        · have HL := Lib.hid h2
          have HD := Lib.hid h3
          have HX1 := Lib.hid ex
          have HM := Lib.hid hM
          have HA := Lib.hid hA
          have HB := Lib.hid hB
          have HF := Lib.hid hF
          clear h2 h3 el ex hM hA hB hF
          by_cases k0 : k = 0
          · subst k0
            have hv : tpart X 0 0 = (x : Int) - 65517 := by rw [HX1.out]; rfl
            have hp : pdg 0 = 65517 := rfl
            rw [hp] at h1
            rw [hv] at c0
            have hz2 : ((x : Int) - 65517 - (l : Int)) = (dig 65536 (X + 65536 ^ 16 - p25519) 0 : Int) := by rw [HD.out, hp]; omega
            clear hp hv
            have w2 : IntKind.i64.wrap ((x : Int) - 65517 - (l : Int)) = ((x : Int) - 65517 - (l : Int)) := IntWalk.i64_in _ (by omega)
            have d1 : decide (((x : Int) - 65517 - (l : Int)) < 0) = false := decide_eq_false h1
            have hst : ∀ w9 : World, w9.heap[bm]? = some (.cells ((zq 16 (tpart X 0)).setIfInBounds 0 (.int .i64 (((x : Int) - 65517 - (l : Int))))) 26 (0, 0)) → w9.heap[bm]? = some (.cells (zq 16 (tpart X (0 + 1))) 26 (0, 0)) := fun w9 h9 => by rw [tpart_step X 0 (by omega) _ hz2] at h9; exact h9
            have HST := Lib.hid hst
            clear hst hz2 HD HX1 h1
            rw [show ((0 : Nat) : Int) = 0 from rfl] at *
            clear f0
            have i3 : (Try.prog.info? 3).map (·.size) = some 1 := by kernel_rfl
            have hsz : 0 < (zq 16 (tpart X 0)).size := by rw [zq_size]; omega
            go_wp2_with (with_reducible refine wpList_store_int rfl 3 (.tmp 48) (.tmp 47) rfl bm 0 rfl .i64 (((x : Int) - 65517 - (l : Int))) rfl i3 26 _ HM.out hsz ?k0)
            case k0 =>
            intro wa M0 F0
            have c1 : wa.cell? ⟨bm, 0, none⟩ = some (Value.int .i64 (((x : Int) - 65517 - (l : Int)))) := by rw [cell_of_block M0, Array.getElem?_setIfInBounds_self_of_lt]; exact hsz
            have g1 := free_of_block M0 0
            have HM0 := Lib.hid M0
            have HF0 := Lib.hid F0
            clear M0 F0 c0 g1
            have hsz0 : 0 < ((zq 16 (tpart X 0)).setIfInBounds 0 (Value.int .i64 (((x : Int) - 65517 - (l : Int))))).size := by simp only [Array.size_setIfInBounds]; exact hsz
            go_wp2_with fail
            go_roundw
            case rel => exact ⟨0 + 1, by omega, by first | go_num | rfl, by rw [HL.out]; rfl, HST.out _ HM0.out, ((HF0.out.block _ (lt_of_block HA.out) (by omega)).trans HA.out), ((HF0.out.block _ (lt_of_block HB.out) (by omega)).trans HB.out), (HF.out.trans HF0.out (fun i hi => Or.inr (by omega)))⟩
            case measure => simp [intOf] <;> omega
          · by_cases k15 : k = 15
            · subst k15
              have hv : tpart X 15 15 = (x : Int) := by unfold tpart; rw [if_neg (show ¬ 15 < 15 by omega), if_neg (by omega), HX1.out]
              have hp : pdg 15 = 32767 := by rfl
              have w1 : IntKind.i64.wrap ((x : Int) - 32767) = (x : Int) - 32767 := IntWalk.i64_in _ (by omega)
              rw [hp] at h1
              rw [hv] at c0
              have hz2 : ((x : Int) - 32767 - (l : Int)) = (dig 65536 (X + 65536 ^ 16 - p25519) 15 : Int) := by rw [HD.out, hp]; omega
              clear hp hv
              have w2 : IntKind.i64.wrap ((x : Int) - 32767 - (l : Int)) = ((x : Int) - 32767 - (l : Int)) := IntWalk.i64_in _ (by omega)
              have d1 : decide (((x : Int) - 32767 - (l : Int)) < 0) = false := decide_eq_false h1
              have hst : ∀ w9 : World, w9.heap[bm]? = some (.cells ((zq 16 (tpart X 15)).setIfInBounds 15 (.int .i64 (((x : Int) - 32767 - (l : Int))))) 26 (0, 0)) → w9.heap[bm]? = some (.cells (zq 16 (tpart X (15 + 1))) 26 (0, 0)) := fun w9 h9 => by rw [tpart_step X 15 (by omega) _ hz2] at h9; exact h9
              have HST := Lib.hid hst
              clear hst hz2 HD HX1 h1
              rw [show ((15 : Nat) : Int) = 15 from rfl] at *
              clear f0
              have i3 : (Try.prog.info? 3).map (·.size) = some 1 := by kernel_rfl
              have hsz : 15 < (zq 16 (tpart X 15)).size := by rw [zq_size]; omega
              go_wp2_with (with_reducible refine wpList_store_int rfl 3 (.tmp 41) (.tmp 40) rfl bm 15 rfl .i64 (((x : Int) - 32767)) rfl i3 26 _ HM.out hsz ?k0)
              case k0 =>
              intro wa M0 F0
              have c1 : wa.cell? ⟨bm, 15, none⟩ = some (Value.int .i64 (((x : Int) - 32767))) := by rw [cell_of_block M0, Array.getElem?_setIfInBounds_self_of_lt]; exact hsz
              have g1 := free_of_block M0 15
              have HM0 := Lib.hid M0
              have HF0 := Lib.hid F0
              clear M0 F0 c0 g1
              have hsz0 : 15 < ((zq 16 (tpart X 15)).setIfInBounds 15 (Value.int .i64 (((x : Int) - 32767)))).size := by simp only [Array.size_setIfInBounds]; exact hsz
              go_wp2_with (with_reducible refine wpList_store_int rfl 3 (.tmp 48) (.tmp 47) rfl bm 15 rfl .i64 (((x : Int) - 32767 - (l : Int))) rfl i3 26 _ HM0.out (by first | exact hsz | (simp only [Array.size_setIfInBounds]; exact hsz) | (simp only [zq_size, Array.size_setIfInBounds]; omega)) ?k1)
              case k1 =>
              intro wb M1 F1
              have c2 : wb.cell? ⟨bm, 15, none⟩ = some (Value.int .i64 (((x : Int) - 32767 - (l : Int)))) := by rw [cell_of_block M1, Array.getElem?_setIfInBounds_self_of_lt]; first | exact hsz0 | exact hsz
              have g2 := free_of_block M1 15
              have HM1 := Lib.hid M1
              have HF1 := Lib.hid F1
              clear M1 F1 c1 g2
              have hsz1 : 15 < (((zq 16 (tpart X 15)).setIfInBounds 15 (Value.int .i64 (((x : Int) - 32767)))).setIfInBounds 15 (Value.int .i64 (((x : Int) - 32767 - (l : Int))))).size := by simp only [Array.size_setIfInBounds]; exact hsz
              go_wp2_with fail
              go_roundw
              case rel => exact ⟨15 + 1, by omega, by first | go_num | rfl, by rw [HL.out]; rfl, HST.out _ (by have := HM1.out; (try simp only [Array.setIfInBounds_setIfInBounds] at this); exact this), ((HF1.out.block _ (lt_of_block ((HF0.out.block _ (lt_of_block HA.out) (by omega)).trans HA.out)) (by omega)).trans ((HF0.out.block _ (lt_of_block HA.out) (by omega)).trans HA.out)), ((HF1.out.block _ (lt_of_block ((HF0.out.block _ (lt_of_block HB.out) (by omega)).trans HB.out)) (by omega)).trans ((HF0.out.block _ (lt_of_block HB.out) (by omega)).trans HB.out)), ((HF.out.trans HF0.out (fun i hi => Or.inr (by omega))).trans HF1.out (fun i hi => Or.inr (by omega)))⟩
              case measure => simp [intOf] <;> omega
            · have hv : tpart X k k = (x : Int) := by unfold tpart; rw [if_neg (show ¬ k < k by omega), if_neg k0, HX1.out]
              have hp : pdg k = 65535 := by unfold pdg; rw [if_neg k0, if_neg k15]
              have w1 : IntKind.i64.wrap ((x : Int) - 65535) = (x : Int) - 65535 := IntWalk.i64_in _ (by omega)
              have t1 : decide ((0 : Int) < (k : Int)) = true := by simp; omega
              have p0 : 0 < k := by omega
              have t1' : decide (0 < k) = true := by simpa using p0
              have t2 : decide ((k : Int) < 15) = true := by simp; omega
              have t3 : ((k : Int) == 15) = false := by rw [beq_eq_false_iff_ne]; omega
              have t3' : (k == 15) = false := by rw [beq_eq_false_iff_ne]; exact k15
              rw [hp] at h1
              rw [hv] at c0
              have hz2 : ((x : Int) - 65535 - (l : Int)) = (dig 65536 (X + 65536 ^ 16 - p25519) k : Int) := by rw [HD.out, hp]; omega
              clear hp hv
              have w2 : IntKind.i64.wrap ((x : Int) - 65535 - (l : Int)) = ((x : Int) - 65535 - (l : Int)) := IntWalk.i64_in _ (by omega)
              have d1 : decide (((x : Int) - 65535 - (l : Int)) < 0) = false := decide_eq_false h1
              have hst : ∀ w9 : World, w9.heap[bm]? = some (.cells ((zq 16 (tpart X k)).setIfInBounds k (.int .i64 (((x : Int) - 65535 - (l : Int))))) 26 (0, 0)) → w9.heap[bm]? = some (.cells (zq 16 (tpart X (k + 1))) 26 (0, 0)) := fun w9 h9 => by rw [tpart_step X k (by omega) _ hz2] at h9; exact h9
              have HST := Lib.hid hst
              clear hst hz2 HD HX1 h1
              clear f0 k0
              have i3 : (Try.prog.info? 3).map (·.size) = some 1 := by kernel_rfl
              have hsz : k < (zq 16 (tpart X k)).size := by rw [zq_size]; omega
              go_wp2_with (with_reducible refine wpList_store_int rfl 3 (.tmp 33) (.tmp 32) rfl bm k rfl .i64 (((x : Int) - 65535)) rfl i3 26 _ HM.out hsz ?k0)
              case k0 =>
              intro wa M0 F0
              have c1 : wa.cell? ⟨bm, k, none⟩ = some (Value.int .i64 (((x : Int) - 65535))) := by rw [cell_of_block M0, Array.getElem?_setIfInBounds_self_of_lt]; exact hsz
              have g1 := free_of_block M0 k
              have HM0 := Lib.hid M0
              have HF0 := Lib.hid F0
              clear M0 F0 c0 g1
              have hsz0 : k < ((zq 16 (tpart X k)).setIfInBounds k (Value.int .i64 (((x : Int) - 65535)))).size := by simp only [Array.size_setIfInBounds]; exact hsz
              go_wp2_with (with_reducible refine wpList_store_int rfl 3 (.tmp 48) (.tmp 47) rfl bm k rfl .i64 (((x : Int) - 65535 - (l : Int))) rfl i3 26 _ HM0.out (by first | exact hsz | (simp only [Array.size_setIfInBounds]; exact hsz) | (simp only [zq_size, Array.size_setIfInBounds]; omega)) ?k1)
              case k1 =>
              intro wb M1 F1
              have c2 : wb.cell? ⟨bm, k, none⟩ = some (Value.int .i64 (((x : Int) - 65535 - (l : Int)))) := by rw [cell_of_block M1, Array.getElem?_setIfInBounds_self_of_lt]; first | exact hsz0 | exact hsz
              have g2 := free_of_block M1 k
              have HM1 := Lib.hid M1
              have HF1 := Lib.hid F1
              clear M1 F1 c1 g2
              have hsz1 : k < (((zq 16 (tpart X k)).setIfInBounds k (Value.int .i64 (((x : Int) - 65535)))).setIfInBounds k (Value.int .i64 (((x : Int) - 65535 - (l : Int))))).size := by simp only [Array.size_setIfInBounds]; exact hsz
              go_wp2_with fail
              go_roundw
              case rel => exact ⟨k + 1, by omega, by first | go_num | rfl, by rw [HL.out]; rfl, HST.out _ (by have := HM1.out; (try simp only [Array.setIfInBounds_setIfInBounds] at this); exact this), ((HF1.out.block _ (lt_of_block ((HF0.out.block _ (lt_of_block HA.out) (by omega)).trans HA.out)) (by omega)).trans ((HF0.out.block _ (lt_of_block HA.out) (by omega)).trans HA.out)), ((HF1.out.block _ (lt_of_block ((HF0.out.block _ (lt_of_block HB.out) (by omega)).trans HB.out)) (by omega)).trans ((HF0.out.block _ (lt_of_block HB.out) (by omega)).trans HB.out)), ((HF.out.trans HF0.out (fun i hi => Or.inr (by omega))).trans HF1.out (fun i hi => Or.inr (by omega)))⟩
              case measure => simp [intOf] <;> omega
      · as_aux_lemma =>
        obtain rfl : k = 16 := by omega
        have hXl := HXlt.out
        have e := lck_of_lt 65536 X p25519 16 (by rw [b16]; exact hXl) p_b16
        rw [e]
        clear e
        have sX : (Try.prog.info? 26).map (·.size) = some (nd X).size := Try.sizeV
        have oX : (nd X).all (·.oneCell') = true := iq_one 16 _
        have zX : (#[.int .i64 0, .int .i64 0, .int .i64 0, .int .i64 0, .int .i64 0, .int .i64 0, .int .i64 0, .int .i64 0, .int .i64 0, .int .i64 0, .int .i64 0, .int .i64 0, .int .i64 0, .int .i64 0, .int .i64 0, .int .i64 0] : Array Value).size = (nd X).size := by unfold nd; rw [iq_size]; rfl
        rw [show ((16 : Nat) : Int) = 16 from rfl]
        by_cases hp : X < p25519
        · have hr := mod_of X n V HX.out hp
          have HR := Lib.hid hr
          have HXl := Lib.hid hXl
          rw [if_pos hp]
          have HF := Lib.hid hF
          have HP := Lib.hid hp
          have bnd := Lib.hid hr
          rw [show ((1 : Nat) : Int) = 1 from rfl]
          clear hr hXl hp hF hM
          go_wp2_with (first
            | (with_reducible refine wpList_load_row rfl 26 (.tmp 1) rfl w.heap.size rfl 26 (nd X) (0, 0) _ hA Try.underlying26 rfl sX ?_)
            | (with_reducible refine wpList_store_row rfl 26 (.tmp 2) (.tmp 61) rfl (w.heap.size + 1) (nd X) rfl rfl 26 _ hB sX zX oX ?_))
          refine bodyPost_ret (results_cell_row rfl _ _ (w.heap.size + 1) 26 (nd X) (0, 0) _ rfl (setRow_heap _ _ _ _ _ _ hB) Try.underlying26 rfl sX) rfl ?_
          exact ⟨by rw [HR.out], HF.out.trans (Fr.setRow (S := fun k => k = w.heap.size + 1) (Fr.refl _ _) rfl _) (fun i hi => Or.inr (by omega))⟩
        · have hp : p25519 ≤ X := by omega
          rw [if_neg (by omega)]
          rw [tpart_end X hp (by rw [b16]; exact hXl)] at hM
          have sY : (Try.prog.info? 26).map (·.size) = some (nd (X - p25519)).size := Try.sizeV
          have oY : (nd (X - p25519)).all (·.oneCell') = true := iq_one 16 _
          have zY : (nd X).size = (nd (X - p25519)).size := by unfold nd; rw [iq_size, iq_size]
          have HN := Lib.hid (n_le X n V HX.out hp Hlt.out hn)
          have HY := Lib.hid (next_of X n V HX.out hp)
          have A9 := Lib.hid (setRow_heap _ _ _ (nd (X - p25519)) _ _ hA)
          have B9 := Lib.hid ((setRow_other wr w.heap.size (w.heap.size + 1) (nd (X - p25519)) (by omega)).trans hB)
          have F9 := Lib.hid (hF.trans (Fr.setRow (S := fun k => k = w.heap.size) (Fr.refl _ wr) rfl (nd (X - p25519))) (fun i hi => Or.inr (by omega)))
          clear hp hXl hF hB
          rw [show ((0 : Nat) : Int) = 0 from rfl]
          generalize X - p25519 = Y at *
          go_wp2_with (first
            | (with_reducible refine wpList_load_row rfl 26 (.tmp 4) rfl bm rfl 26 (nd Y) (0, 0) _ hM Try.underlying26 rfl sY ?_)
            | (with_reducible refine wpList_store_row rfl 26 (.tmp 1) (.tmp 62) rfl w.heap.size (nd Y) rfl rfl 26 _ hA sY zY oY ?_))
          go_roundw
          case rel => exact ⟨n + 1, Y, HN.out, by go_num, HY.out, A9.out, B9.out, F9.out⟩
          case measure => simp [intOf]; omega
end Go.Proofs.Ytnobobdgoccmcaa


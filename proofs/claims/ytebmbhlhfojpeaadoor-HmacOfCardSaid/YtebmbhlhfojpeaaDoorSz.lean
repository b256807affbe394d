/-
  The walk of the law Sha2Sizes: of noughts of each count the sum is told.
-/
import Derived.Test.YtebmbhlhfojpeaaDoorEn
namespace Go.Proofs.YtebmbhlhfojpeaaDoor
open Go.RowKit
set_option linter.unusedVariables false

theorem Came.str2 {w : World} {a : Option Addr} {n c : Nat} {l : List UInt8} (h : Came w a n c l) : (convert 28 9 (.slice a n c)).run Tryd.prog w = .ok (.string ⟨l.toArray⟩) w := by
  have := run_str h.lies c 9 Tryd.underlying9
  rw [h.len] at this
  exact this
def noughts2 (n : Nat) : List UInt8 := List.replicate n 0
theorem made_noughts2 (n : Nat) : (madeCells #[Value.int .u8 0] n).toList = bv (noughts2 n) := by
  apply List.ext_getElem
  · simp [madeCells, noughts2, bv]
  · intro i h1 h2
    simp [madeCells, noughts2, bv, Nat.mod_one]
theorem parts1 {w : World} {b : Nat} {a : Option Addr} {n c : Nat} {x : List UInt8} {t : TypeId} {fr : Nat × Nat} (h : w.heap[b]? = some (.cells #[.slice a n c] t fr)) (hx : Came w a n c x) : Parts w (some ⟨b, 0, none⟩) [x] := by
  refine Or.inr ⟨b, 0, rfl, fun j hj => ?_⟩
  match j, hj with
  | 0, _ => exact ⟨a, c, by rw [cell_of_block h]; simp [hx.len], hx.lies, by have := hx.le; have := hx.len; simp; omega, hx.mx⟩
theorem came_own2 {w : World} {B n : Nat} {a : Option Addr} {c : Nat} {l : List UInt8} (h : w.ownsRow B 5 1 (.slice a n c) n (bv l)) : Came w a n c l := by
  obtain ⟨h1, h2, h3, h4⟩ := lies_own h
  refine ⟨h1.symm, h2, h3, h4, fun e => ?_⟩
  rcases h.2 with ⟨e2, h0⟩ | ⟨g, cap, cur, e2, _⟩
  · subst e; injection e2 with _ e3 e4; exact ⟨e3, e4⟩
  · subst e; cases e2
set_option maxRecDepth 100000 in
set_option maxHeartbeats 1600000 in
theorem sizes_any (z : Int) (w : World) (hE : Env w) (hR : REnv w) :
    Calls Tryd.prog 6 #[.int .i64 z] w fun e w' => e = .returned (.bool true) ∧ Fr (fun _ => False) w w' := by
  obtain ⟨i0, hi, hz0, hz1, hz2⟩ := info_parts Tryd.infoB
  obtain ⟨q, hq, hqm⟩ : ∃ q : Nat, (IntKind.u64.wrap z).tmod 400 = (q : Int) ∧ q < 400 := by
    rw [IntKind.wrap_u64]
    have h1 : 0 ≤ z % 18446744073709551616 := Int.emod_nonneg _ (by decide)
    refine ⟨((z % 18446744073709551616) % 400).toNat, ?_, by omega⟩
    rw [Int.tmod_eq_emod_of_nonneg h1]
    omega
  have q0 : (0 : Int) ≤ (q : Int) := by omega
  have q1 : (q : Int) < 400 := by omega
  go_enter Tryd.func6, Tryd.ntmps6
  go_wp2_with (at_make; refine wpList_make_full _ rfl (.tmp 9) (.tmp 9) 28 rfl w.heap.size 5 i0 (.int .u8 0) 1 Tryd.underlying28 hi hz0 hz1 .i64 .i64 _ _ q rfl rfl (by omega) (by omega) (by rw [hz2]; omega) (by unfold maxLen; omega) (by simp) ?k)
  case k =>
  intro w1 hown hgrow
  rw [made_noughts2] at hown
  have F1 : Fr (fun _ => False) w w1 := (Fr.ofGrown hgrow).mono (fun i _ hi => by cases hi)
  have C1 := came_own2 hown
  generalize noughts2 q = l at hown C1
  have E1 := hE.fr F1 (fun h => h)
  have R1 := hR.fr F1 (fun h => h) (fun h => h)
  clear hown hgrow hq hE hR
  go_wp2_with fail
  refine (psum_any _ [l] 1 1 rfl _ (parts1 (heap_alloc_new w1 _) (C1.grow ((Fr.refl (fun _ => False) w1).alloc _) (fun _ _ h => h))) (by unfold maxLen; omega) (by have := C1.len; simp; omega) (E1.fr ((Fr.refl (fun _ => False) w1).alloc _) (fun h => h))).mono ?_
  rintro e w2 ⟨rfl, F2⟩
  rw [show [l].flatten = l by simp]
  have F12 : Fr (fun _ => False) w1 w2 := ((Fr.refl (fun _ => False) w1).alloc _).trans F2 (fun _ h => h.elim)
  have hone : (sumc l).all (·.oneCell') = true := sumv_one _
  have hsz : (#[.int .u8 0, .int .u8 0, .int .u8 0, .int .u8 0, .int .u8 0, .int .u8 0, .int .u8 0, .int .u8 0, .int .u8 0, .int .u8 0, .int .u8 0, .int .u8 0, .int .u8 0, .int .u8 0, .int .u8 0, .int .u8 0, .int .u8 0, .int .u8 0, .int .u8 0, .int .u8 0, .int .u8 0, .int .u8 0, .int .u8 0, .int .u8 0, .int .u8 0, .int .u8 0, .int .u8 0, .int .u8 0, .int .u8 0, .int .u8 0, .int .u8 0, .int .u8 0] : Array Value).size = (sumc l).size := (sumv_size _).symm
  go_wp2_with (with_reducible refine wpList_store_rowA rfl 25 (.tmp 4) (.tmp 13) rfl w2.heap.size (sumc l) rfl rfl 25 _ (heap_alloc_new w2 _) Tryd.sizeC hsz hone ?k)
  case k =>
  intro w3 h3 hG3
  have F13 : Fr (fun _ => False) w1 w3 := (F12.alloc _).trans hG3 (fun i hi => Or.inr (by have := F12.size; omega))
  have C3 := C1.grow F13 (fun _ _ h => h)
  have E3 := E1.fr F13 (fun h => h)
  have R3 := R1.fr F13 (fun h => h) (fun h => h)
  have L3 := sumc_lies h3
  have F03 : Fr (fun _ => False) w w3 := F1.trans F13 (fun _ h => h.elim)
  have hlb : (sb ⟨l.toArray⟩) = l := by simp [sb]
  have hls : (⟨l.toArray⟩ : ByteArray).size ≤ 1000000000000 := by have := C1.len; show l.toArray.size ≤ _; simp; omega
  clear hone hsz hG3 F13 F12 F2 F1 C1 E1 R1 h3
  generalize w2.heap.size = b3 at *
  have hS : ∀ w' : World, Fr (fun _ => False) w3 w' → (Fr (fun _ => False) w3 w' ∧ (convert 28 9 (.slice (some ⟨b3, 0, none⟩) 32 32)).run Tryd.prog w' = .ok (.string ⟨(S2.sum l).toArray⟩) w' ∧ (convert 28 9 (.slice (some ⟨w.heap.size, 0, none⟩) q q)).run Tryd.prog w' = .ok (.string ⟨l.toArray⟩) w') :=
    fun w' hF => ⟨hF, run_str (L3.grow hF) 32 9 Tryd.underlying9, (C3.grow hF (fun _ _ h => h)).str2⟩
  have HL := Lib.hid hlb
  clear hlb
  go_wp2_with fail
  go_region_held3 (fun w' => Fr (fun _ => False) w3 w' ∧ (convert 28 9 (.slice (some ⟨b3, 0, none⟩) 32 32)).run Tryd.prog w' = .ok (.string ⟨(S2.sum l).toArray⟩) w' ∧ (convert 28 9 (.slice (some ⟨w.heap.size, 0, none⟩) q q)).run Tryd.prog w' = .ok (.string ⟨l.toArray⟩) w')
    (first
      | (exact hS _ (by assumption))
      | (exact hS _ (Fr.refl _ w3).drew))
    (first
      | (go_at_call 18; refine (sums_any _ (E3.fr (‹Fr (fun _ => False) w3 _ ∧ _›).1 (fun h => h))).mono ?_; rintro e w5 ⟨rfl, F5⟩; have F55 := (‹Fr (fun _ => False) w3 _ ∧ _›).1.trans F5 (fun _ h => h.elim))
      | (go_at_call 19; refine (rsum_any ⟨l.toArray⟩ hls _ (R3.fr (‹Fr (fun _ => False) w3 _ ∧ _›).1 (fun h => h) (fun h => h))).mono ?_; rw [HL.out]; rintro e w6 ⟨rfl, F6⟩; have F66 := (‹Fr (fun _ => False) w3 _ ∧ _›).1.trans F6 (fun _ h => h.elim)))
  all_goals
    go_wp2
    go_ret
    exact ⟨rfl, F03.trans F66 (fun _ h => h.elim)⟩
end Go.Proofs.YtebmbhlhfojpeaaDoor

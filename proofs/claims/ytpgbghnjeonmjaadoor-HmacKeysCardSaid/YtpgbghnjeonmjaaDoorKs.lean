/-
  The walk of the law HmacKeys.
-/
import Derived.Test.YtpgbghnjeonmjaaDoorRk
import Derived.Test.YtpgbghnjeonmjaaDoorKy
import Derived.Test.YtpgbghnjeonmjaaDoorOk
import Derived.Test.YtpgbghnjeonmjaaDoorMarks
namespace Go.Proofs.YtpgbghnjeonmjaaDoor
open Go.RowKit
set_option linter.unusedVariables false

set_option maxRecDepth 100000 in
theorem came_blk2 {W : World} {b n : Nat} {l : List UInt8} {cs : Array Value} {t : TypeId} {fr : Nat × Nat} (h : W.heap[b]? = some (.cells cs t fr)) (hcs : cs = (bv l).toArray) (hn : l.length = n) (hm : n ≤ 1000) : Lies W (some ⟨b, 0, none⟩) l := by
  refine Or.inr ⟨b, 0, rfl, fun j hj => ?_⟩
  rw [Nat.zero_add, cell_of_block h, hcs]
  simpa using bv_get' l j hj
set_option maxRecDepth 100000 in
theorem ub_bv2 (n : Nat) (f : Nat → UInt8) : ub n f = (bv ((List.range n).map f)).toArray := by
  rw [← ub_toList]
theorem extract_take (x : ByteArray) (q : Nat) (h : q ≤ x.size) : x.extract 0 q = ⟨((sb x).take q).toArray⟩ := by
  apply ByteArray.ext
  rw [ByteArray.data_extract]
  apply Array.toList_inj.1
  rw [Array.toList_extract]
  simp [sb]
set_option maxRecDepth 100000 in
set_option maxHeartbeats 1600000 in
theorem keys_any (f : Nat → UInt8) (x : ByteArray) (z : Int) (w : World) (hx : x.size ≤ maxLen) (hE : Env w) (hR : REnv w) :
    Calls Tryd.prog 6 #[.agg (ub 32 f), .string x, .int .i64 z] w fun e w' => e = .returned (.bool true) ∧ Fr (fun _ => False) w w' := by
  have k1 : x.size ≤ 9223372036854775807 := by unfold maxLen at hx; omega
  obtain ⟨q, hq⟩ : ∃ q, q = min x.size 200 := ⟨_, rfl⟩
  have hq1 : (if (200 : Int) < (x.size : Int) then (200 : Int) else (x.size : Int)) = (q : Int) := by split <;> omega
  have hq2 : min (x.size : Int) 200 = (q : Int) := by omega
  have hq0 : (0 : Int) ≤ (q : Int) := by omega
  have hqc : (q : Int) ≤ (x.size : Int) := by omega
  have hq3 : q ≤ 200 := by omega
  have hext := extract_take x q (by omega)
  have hsl : ((sb x).take q).length ≤ 1000 := by rw [List.length_take]; omega
  generalize (sb x).take q = s at hext hsl
  obtain ⟨u, hu⟩ := wrap_u64_nat z
  obtain ⟨kl, hkl⟩ : ∃ kl, kl = (List.range 32).map f := ⟨_, rfl⟩
  have hk32 : kl.length = 32 := by rw [hkl]; simp
  have hkey := fun (W : World) (hE : Env W) => hkey_any f s z u hu hsl W hE
  rw [← hkl] at hkey
  have hL0 : Lies (w.alloc (.cells (ub 32 f) 34)) (some ⟨w.heap.size, 0, none⟩) kl := by
    have := (came_blk2 (heap_alloc_new w (.cells (ub 32 f) 34)) (ub_bv2 32 f) (by simp) (by omega : 32 ≤ 1000))
    rw [hkl]; exact this
  have F0 := (Fr.refl (fun _ => False) w).alloc (.cells (ub 32 f) 34)
  have B0 := heap_alloc_new w (.cells (ub 32 f) 34)
  have s32 : (Tryd.prog.info? 34).map (·.size) = some (ub 32 f).size := by rw [ub_size]; kernel_rfl
  have HU := Lib.hid hu
  have HK32 := Lib.hid hk32
  clear hq hu hkl hk32
  go_enter Tryd.func6, Tryd.ntmps6
  go_wp2_with (with_reducible refine wpList_load_row rfl 34 (.tmp 3) rfl w.heap.size rfl 34 (ub 32 f) (0, 0) _ B0 Tryd.underlying34 rfl s32 ?_)
  refine (hkey _ (hE.fr F0 (fun h => h))).mono ?_
  rintro e w1 ⟨rfl, F1⟩
  have G1 : Fr (fun _ => False) w w1 := F0.trans F1 (fun _ h => h.elim)
  have hone : (sumc (HM.out kl (s ++ 0 :: S2.be8 u))).all (·.oneCell') = true := sumv_one _
  have hsz : (#[.int .u8 0, .int .u8 0, .int .u8 0, .int .u8 0, .int .u8 0, .int .u8 0, .int .u8 0, .int .u8 0, .int .u8 0, .int .u8 0, .int .u8 0, .int .u8 0, .int .u8 0, .int .u8 0, .int .u8 0, .int .u8 0, .int .u8 0, .int .u8 0, .int .u8 0, .int .u8 0, .int .u8 0, .int .u8 0, .int .u8 0, .int .u8 0, .int .u8 0, .int .u8 0, .int .u8 0, .int .u8 0, .int .u8 0, .int .u8 0, .int .u8 0, .int .u8 0] : Array Value).size = (sumc (HM.out kl (s ++ 0 :: S2.be8 u))).size := (sumv_size _).symm
  clear B0 s32
  go_wp2_with (with_reducible refine wpList_store_rowA rfl 34 (.tmp 7) (.tmp 16) rfl w1.heap.size (sumc (HM.out kl (s ++ 0 :: S2.be8 u))) rfl rfl 34 _ (heap_alloc_new w1 _) Tryd.sizeC hsz hone ?k2)
  case k2 =>
  intro w2 h2 hG2
  have F12 : Fr (fun _ => False) w1 w2 := ((Fr.refl (fun _ => False) w1).alloc _).trans hG2 (fun i hi => Or.inr (by omega))
  have G2 : Fr (fun _ => False) w w2 := G1.trans F12 (fun _ h => h.elim)
  have L2 := sumc_lies h2
  have K2 := (hL0.grow F1).grow F12
  have E2 := hE.fr G2 (fun h => h)
  have R2 := hR.fr G2 (fun h => h) (fun h => h)
  have Hof := Lib.hid (show S2.sum (HM.out kl (s ++ 0 :: S2.be8 u)) = HM.of kl (s ++ 0 :: S2.be8 u) from rfl)
  have hrk := fun (W : World) (hR : REnv W) => rkey_any kl s z u HU.out (by have := HK32.out; omega) hsl W hR
  generalize w1.heap.size = b1 at *
  generalize HM.of kl (s ++ 0 :: S2.be8 u) = X at Hof hrk
  clear hone hsz hG2 F12 G1 h2 F1 F0 hL0 hkey
  have hS : ∀ w' : World, Fr (fun _ => False) w2 w' → (Fr (fun _ => False) w2 w' ∧ (convert 22 9 (.slice (some ⟨b1, 0, none⟩) 32 32)).run Tryd.prog w' = .ok (.string ⟨X.toArray⟩) w' ∧ (convert 22 9 (.slice (some ⟨w.heap.size, 0, none⟩) 32 32)).run Tryd.prog w' = .ok (.string ⟨kl.toArray⟩) w') :=
    fun w' hF => ⟨hF, by rw [← Hof.out]; exact run_str (L2.grow hF) 32 9 Tryd.underlying9, by have := run_str (K2.grow hF) 32 9 Tryd.underlying9; rw [HK32.out] at this; exact this⟩
  go_wp2_with fail
  go_region_held3 (fun w' => Fr (fun _ => False) w2 w' ∧ (convert 22 9 (.slice (some ⟨b1, 0, none⟩) 32 32)).run Tryd.prog w' = .ok (.string ⟨X.toArray⟩) w' ∧ (convert 22 9 (.slice (some ⟨w.heap.size, 0, none⟩) 32 32)).run Tryd.prog w' = .ok (.string ⟨kl.toArray⟩) w')
    (first
      | (exact hS _ (by assumption))
      | (exact hS _ (Fr.refl _ w2).drew))
    (first
      | (go_at_call 17; refine (marks_any _ (E2.fr (‹Fr (fun _ => False) w2 _ ∧ _›).1 (fun h => h))).mono ?_; rintro e w5 ⟨rfl, F5⟩; have F55 := (‹Fr (fun _ => False) w2 _ ∧ _›).1.trans F5 (fun _ h => h.elim))
      | (go_at_call 18; refine (hrk _ (R2.fr (‹Fr (fun _ => False) w2 _ ∧ _›).1 (fun h => h) (fun h => h))).mono ?_; rintro e w6 ⟨rfl, F6⟩; have F66 := (‹Fr (fun _ => False) w2 _ ∧ _›).1.trans F6 (fun _ h => h.elim)))
  all_goals
    go_wp2
    go_ret
    exact ⟨rfl, G2.trans F66 (fun _ h => h.elim)⟩
end Go.Proofs.YtpgbghnjeonmjaaDoor


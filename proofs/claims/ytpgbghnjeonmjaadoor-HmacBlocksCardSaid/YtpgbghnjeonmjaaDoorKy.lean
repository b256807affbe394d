/-
  The contract of Key of package hmac.
-/
import Derived.Test.YtpgbghnjeonmjaaDoorNu
import Derived.Deep.RegionWith
namespace Go.Proofs.YtpgbghnjeonmjaaDoor
open Go.RowKit
set_option linter.unusedVariables false

@[simp] theorem bw_size (w : World) (s : ByteArray) : (Lib.bytesWorld w 5 s).heap.size = w.heap.size + 1 := Lib.bytesWorld_size _ _ _
set_option maxRecDepth 100000 in
theorem parts3 {w : World} {b : Nat} {a a2 a3 : Option Addr} {n n2 n3 c c2 c3 : Nat} {x y z : List UInt8} {t : TypeId} {fr : Nat × Nat} (h : w.heap[b]? = some (.cells #[.slice a n c, .slice a2 n2 c2, .slice a3 n3 c3] t fr)) (hx : Came w a n c x) (hy : Came w a2 n2 c2 y) (hz : Came w a3 n3 c3 z) : Parts w (some ⟨b, 0, none⟩) [x, y, z] := by
  refine Or.inr ⟨b, 0, rfl, fun j hj => ?_⟩
  match j, hj with
  | 0, _ => exact ⟨a, c, by rw [cell_of_block h]; simp [hx.len], hx.lies, by have := hx.le; have := hx.len; simp; omega, hx.mx⟩
  | 1, _ => exact ⟨a2, c2, by rw [cell_of_block h]; simp [hy.len], hy.lies, by have := hy.le; have := hy.len; simp; omega, hy.mx⟩
  | 2, _ => exact ⟨a3, c3, by rw [cell_of_block h]; simp [hz.len], hz.lies, by have := hz.le; have := hz.len; simp; omega, hz.mx⟩
set_option maxRecDepth 100000 in
theorem came_conv (s : List UInt8) (hs : s.length ≤ 1000) (w : World) (b : Nat) (hb : b = w.heap.size) {W : World} (hF : Fr (fun _ => False) (Lib.bytesWorld w 5 ⟨s.toArray⟩) W) : Came W (some ⟨b, 0, none⟩) s.length (grownCap w s.length 0 5) s := by
  subst hb
  have hsz : (⟨s.toArray⟩ : ByteArray).size = s.length := by show s.toArray.size = _; simp
  have h := own_str w ⟨s.toArray⟩ w.heap.size (Nat.le_refl _) (by rw [hsz]; omega)
  rw [hsz] at h
  have e : sb ⟨s.toArray⟩ = s := by simp [sb]
  rw [e] at h
  obtain ⟨_, h1, h2, h3⟩ := h.lies
  exact (show Came (Lib.bytesWorld w 5 ⟨s.toArray⟩) _ _ _ s from ⟨rfl, h1, h2, h3, fun e => by cases e⟩).grow hF (fun _ _ h => h)
set_option maxRecDepth 100000 in
theorem came_blk {W : World} {b n : Nat} {l : List UInt8} {cs : Array Value} {t : TypeId} {fr : Nat × Nat} (h : W.heap[b]? = some (.cells cs t fr)) (hcs : cs = (bv l).toArray) (hn : l.length = n) (hm : n ≤ 1000) : Came W (some ⟨b, 0, none⟩) n n l := by
  refine ⟨hn, Nat.le_refl _, by unfold maxLen; omega, Or.inr ⟨b, 0, rfl, fun j hj => ?_⟩, fun e => by cases e⟩
  rw [Nat.zero_add, cell_of_block h, hcs]
  simpa using bv_get' l j hj
set_option maxRecDepth 100000 in
theorem heap_alloc_at (V : World) (cs : Array Value) (t : TypeId) (b : Nat) (hb : b = V.heap.size) : (V.alloc (.cells cs t)).heap[b]? = some (.cells cs t (0, 0)) := by
  subst hb; exact heap_alloc_new V _
theorem ub_bv (n : Nat) (f : Nat → UInt8) : ub n f = (bv ((List.range n).map f)).toArray := by
  rw [← ub_toList]
set_option maxRecDepth 100000 in
set_option maxHeartbeats 16000000 in
theorem hkey_any (f : Nat → UInt8) (s : List UInt8) (z : Int) (u : Nat) (hu : IntKind.u64.wrap z = (u : Int)) (hs : s.length ≤ 1000) (w : World) (hE : Env w) :
    Calls Tryd.prog 16 #[.agg (ub 32 f), .string ⟨s.toArray⟩, .int .i64 z] w fun e w' => e = .returned (.agg (sumc (HM.out ((List.range 32).map f) (s ++ 0 :: S2.be8 u)))) ∧ Fr (fun _ => False) w w' := by
  obtain ⟨kl, hkl⟩ : ∃ kl, kl = (List.range 32).map f := ⟨_, rfl⟩
  rw [← hkl]
  have kc := fun w : World => Lib.run_convert_string_bytes (P := Tryd.prog) w 9 22 5 ⟨s.toArray⟩ Tryd.underlying9 Tryd.underlying22 Tryd.underlying5
  have hfl : [s, [0], S2.be8 u].flatten = s ++ 0 :: S2.be8 u := by simp
  have hl2 : [s, [0], S2.be8 u].flatten.length ≤ 1000000000000000000 := by rw [hfl]; simp [S2.be8]; omega
  have HFL := Lib.hid hfl
  have HL2 := Lib.hid hl2
  clear hfl hl2
  have HKL := Lib.hid hkl
  clear hkl
  go_enter Tryd.func16, Tryd.ntmps16
  go_wp2_with fail
  have E0 := ((Fr.refl (fun _ => False) w).alloc (.cells (ub 32 f) 34)).alloc (.cells #[.int .u8 0, .int .u8 0, .int .u8 0, .int .u8 0, .int .u8 0, .int .u8 0, .int .u8 0, .int .u8 0, .int .u8 0, .int .u8 0, .int .u8 0, .int .u8 0, .int .u8 0, .int .u8 0, .int .u8 0, .int .u8 0, .int .u8 0, .int .u8 0, .int .u8 0, .int .u8 0, .int .u8 0, .int .u8 0, .int .u8 0, .int .u8 0, .int .u8 0, .int .u8 0, .int .u8 0, .int .u8 0, .int .u8 0, .int .u8 0, .int .u8 0, .int .u8 0] 34)
  have K0 := heap_alloc2_old w (.cells (ub 32 f) 34) (.cells #[.int .u8 0, .int .u8 0, .int .u8 0, .int .u8 0, .int .u8 0, .int .u8 0, .int .u8 0, .int .u8 0, .int .u8 0, .int .u8 0, .int .u8 0, .int .u8 0, .int .u8 0, .int .u8 0, .int .u8 0, .int .u8 0, .int .u8 0, .int .u8 0, .int .u8 0, .int .u8 0, .int .u8 0, .int .u8 0, .int .u8 0, .int .u8 0, .int .u8 0, .int .u8 0, .int .u8 0, .int .u8 0, .int .u8 0, .int .u8 0, .int .u8 0, .int .u8 0] 34)
  have R0 := heap_alloc2_new w (.cells (ub 32 f) 34) (.cells #[.int .u8 0, .int .u8 0, .int .u8 0, .int .u8 0, .int .u8 0, .int .u8 0, .int .u8 0, .int .u8 0, .int .u8 0, .int .u8 0, .int .u8 0, .int .u8 0, .int .u8 0, .int .u8 0, .int .u8 0, .int .u8 0, .int .u8 0, .int .u8 0, .int .u8 0, .int .u8 0, .int .u8 0, .int .u8 0, .int .u8 0, .int .u8 0, .int .u8 0, .int .u8 0, .int .u8 0, .int .u8 0, .int .u8 0, .int .u8 0, .int .u8 0, .int .u8 0] 34)
  have hsz0 : (#[.int .u8 0, .int .u8 0, .int .u8 0, .int .u8 0, .int .u8 0, .int .u8 0, .int .u8 0, .int .u8 0, .int .u8 0, .int .u8 0, .int .u8 0, .int .u8 0, .int .u8 0, .int .u8 0, .int .u8 0, .int .u8 0, .int .u8 0, .int .u8 0, .int .u8 0, .int .u8 0, .int .u8 0, .int .u8 0, .int .u8 0, .int .u8 0, .int .u8 0, .int .u8 0, .int .u8 0, .int .u8 0, .int .u8 0, .int .u8 0, .int .u8 0, .int .u8 0] : Array Value).size = 32 := rfl
  have zz : ((w.alloc (.cells (ub 32 f) 34)).alloc (.cells #[.int .u8 0, .int .u8 0, .int .u8 0, .int .u8 0, .int .u8 0, .int .u8 0, .int .u8 0, .int .u8 0, .int .u8 0, .int .u8 0, .int .u8 0, .int .u8 0, .int .u8 0, .int .u8 0, .int .u8 0, .int .u8 0, .int .u8 0, .int .u8 0, .int .u8 0, .int .u8 0, .int .u8 0, .int .u8 0, .int .u8 0, .int .u8 0, .int .u8 0, .int .u8 0, .int .u8 0, .int .u8 0, .int .u8 0, .int .u8 0, .int .u8 0, .int .u8 0] 34)).heap.size = w.heap.size + 2 := by simp
  generalize (#[.int .u8 0, .int .u8 0, .int .u8 0, .int .u8 0, .int .u8 0, .int .u8 0, .int .u8 0, .int .u8 0, .int .u8 0, .int .u8 0, .int .u8 0, .int .u8 0, .int .u8 0, .int .u8 0, .int .u8 0, .int .u8 0, .int .u8 0, .int .u8 0, .int .u8 0, .int .u8 0, .int .u8 0, .int .u8 0, .int .u8 0, .int .u8 0, .int .u8 0, .int .u8 0, .int .u8 0, .int .u8 0, .int .u8 0, .int .u8 0, .int .u8 0, .int .u8 0] : Array Value) = rs at E0 K0 R0 hsz0 zz ⊢
  generalize (w.alloc (.cells (ub 32 f) 34)).alloc (.cells rs 34) = w2 at E0 K0 R0 zz ⊢
  have hE2 := hE.fr E0 (fun h => h)
  have hks : ∀ W : World, Fr (fun _ => False) w2 W → Came W (some ⟨w.heap.size, 0, none⟩) 32 32 kl := fun W hF => came_blk ((hF.block _ (by omega) (fun h => h)).trans K0) (by rw [HKL.out]; exact ub_bv 32 f) (by rw [HKL.out]; simp) (by omega)
  have HR0 := Lib.hid R0
  have HK0 := Lib.hid K0
  have HS0 := Lib.hid hsz0
  have HZ := Lib.hid zz
  have hz2 : w.heap.size + 2 ≤ w2.heap.size := by omega
  have hz3 : w2.heap.size ≤ w.heap.size + 2 := by omega
  clear R0 K0 hsz0 zz
  have HOf := Lib.hid (show ∀ (W : World) (b1 b2 b3 bs cc : Nat), W.heap[bs]? = some (.cells #[.slice (some ⟨b1, 0, none⟩) s.length cc, .slice (some ⟨b2, 0, none⟩) 1 1, .slice (some ⟨b3, 0, none⟩) 8 8] 22 (0, 0)) → Came W (some ⟨b1, 0, none⟩) s.length cc s → W.heap[b2]? = some (.cells #[.int .u8 0] 5 (0, 0)) → W.heap[b3]? = some (.cells (ub 8 (b8 u)) 5 (0, 0)) → Fr (fun _ => False) w2 W →
      Calls Tryd.prog 20 #[.slice (some ⟨w.heap.size, 0, none⟩) 32 32, .slice (some ⟨bs, 0, none⟩) 3 3] W fun e W' => e = .returned (.agg (sumc (HM.out kl (s ++ 0 :: S2.be8 u)))) ∧ Fr (fun _ => False) w2 W' ∧ W'.heap[w.heap.size + 1]? = some (.cells rs 34 (0, 0)) from fun W b1 b2 b3 bs cc hbs hc h2 h3 hF => by
    refine (hof_any _ _ kl 32 32 [s, [0], S2.be8 u] 3 3 _ (hks _ hF) (by omega) (parts3 hbs hc (came_blk (n := 1) (cs := #[.int .u8 0]) (t := 5) (fr := (0, 0)) h2 rfl rfl (by omega)) (came_blk (n := 8) (cs := ub 8 (b8 u)) (t := 5) (fr := (0, 0)) h3 (ub_bv 8 (b8 u)) (by simp [S2.be8]) (by omega))) rfl (by unfold maxLen; omega) HL2.out (hE2.fr (S := fun _ => False) hF (fun h => h))).mono ?_
    rw [HFL.out]
    rintro e w6 ⟨rfl, F6⟩
    have G6 : Fr (fun _ => False) w2 w6 := hF.trans F6 (fun _ h => h.elim)
    exact ⟨rfl, G6, (G6.block (w.heap.size + 1) (by omega) (fun h => h)).trans HR0.out⟩)
  have HNU := Lib.hid (fun W : World => number_any z u hu W)
  have HST := Lib.hid (fun (W : World) (h : W.heap[w.heap.size + 1]? = some (.cells rs 34 (0, 0))) => run_store32 (l := HM.out kl (s ++ 0 :: S2.be8 u)) h HS0.out)
  have HC := Lib.hid (fun (V : World) (b : Nat) (hb : b = V.heap.size) (W : World) (hF : Fr (fun _ => False) (Lib.bytesWorld V 5 ⟨s.toArray⟩) W) => came_conv s hs V b hb hF)
  have HE0 := Lib.hid E0
  clear hE hE2 hks E0
  go_region_with ((first
    | (go_at_call 39
       with_reducible refine (HNU.out _).mono ?_
       rintro e w5 ⟨rfl, h5, F5⟩
       have z5 := lt_of_block h5
       (try simp at z5))
    | (go_at_call 20
       with_reducible refine (HOf.out _ _ _ _ _ _ (heap_alloc_at _ _ _ _ ?_) ?_ ?_ ?_ ?_).mono ?_
       · first | rfl | simp
       · refine HC.out _ _ ?_ _ ?_
         · first | rfl | simp
         · (repeat (first | (with_reducible exact Fr.refl _ _) | (with_reducible refine Fr.alloc ?_ _) | (with_reducible refine Fr.drew ?_) | (with_reducible refine Fr.trans ?_ F5 (fun _ h => h.elim)) | (with_reducible refine Fr.trans ?_ (own_str_fr _ _) (fun _ h => h.elim))))
       · (repeat (first | (refine heap_alloc_at _ _ _ _ ?_; (focus (first | rfl | (simp; done) | omega))) | exact h5 | (simpa using h5) | (refine (Below.heap_alloc _ _ _ ?_).trans ?_; (focus (first | omega | (simp; done) | (simp <;> omega)))) | (refine (F5.block _ ?_ (fun h => h)).trans ?_; (focus (first | omega | (simp; done) | (simp <;> omega)))) | (refine ((own_str_fr _ _).block _ ?_ (fun h => h)).trans ?_; (focus (first | omega | (simp; done) | (simp <;> omega))))))
       · (repeat (first | (refine heap_alloc_at _ _ _ _ ?_; (focus (first | rfl | (simp; done) | omega))) | exact h5 | (simpa using h5) | (refine (Below.heap_alloc _ _ _ ?_).trans ?_; (focus (first | omega | (simp; done) | (simp <;> omega)))) | (refine (F5.block _ ?_ (fun h => h)).trans ?_; (focus (first | omega | (simp; done) | (simp <;> omega)))) | (refine ((own_str_fr _ _).block _ ?_ (fun h => h)).trans ?_; (focus (first | omega | (simp; done) | (simp <;> omega))))))
       · (repeat (first | (with_reducible exact Fr.refl _ _) | (with_reducible refine Fr.alloc ?_ _) | (with_reducible refine Fr.drew ?_) | (with_reducible refine Fr.trans ?_ F5 (fun _ h => h.elim)) | (with_reducible refine Fr.trans ?_ (own_str_fr _ _) (fun _ h => h.elim))))
       rintro e w6 ⟨rfl, G6, B6⟩
       have hst := HST.out _ B6
       have HB6 := Lib.hid B6
       clear B6)))
  all_goals
    have B6 := HB6.out
    go_wp2_with fail
    refine bodyPost_ret (results_cell_row rfl _ _ (w.heap.size + 1) 34 (sumc (HM.out kl (s ++ 0 :: S2.be8 u))) (0, 0) _ rfl (setRow_heap _ _ _ _ _ _ B6) Tryd.underlying34 rfl Tryd.sizeC) rfl ?_
    exact ⟨rfl, (HE0.out.trans G6 (fun _ h => h.elim)).trans (Fr.setRow (S := fun k => k = w.heap.size + 1) (Fr.refl _ _) rfl _) (fun i hi => Or.inr (by omega))⟩
end Go.Proofs.YtpgbghnjeonmjaaDoor


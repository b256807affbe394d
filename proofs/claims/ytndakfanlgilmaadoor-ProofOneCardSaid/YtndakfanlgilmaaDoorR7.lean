/-
  The loop that lays the words out of Sum of package custumalref01.
-/
import Derived.Test.YtndakfanlgilmaaDoorR3
namespace Go.Proofs.YtndakfanlgilmaaDoor
open Go.RowKit
set_option linter.unusedVariables false

set_option maxRecDepth 100000 in
theorem src_b4 {w : World} {k : Nat} (l : List UInt8) (hl : l.length = 4) {cs : Array Value} {t : TypeId} {fr : Nat × Nat} (h : w.heap[k]? = some (.cells cs t fr)) (hv : cs = (bv l).toArray) : Src Tryd.prog 1 39 (.slice (some ⟨k, 0, none⟩) 4 4) l.length (bv l) w := by
  have hL : Lies w (some ⟨k, 0, none⟩) l := Or.inr ⟨k, 0, rfl, fun j hj => by rw [Nat.zero_add, cell_of_block h, hv]; simpa using bv_get' l j hj⟩
  have := hL.src 4
  rw [hl] at this ⊢
  exact this
set_option maxRecDepth 100000 in
theorem byte_div (x d : Nat) : ((x : Int) / (d : Int)) % 256 = ((UInt8.ofNat (x / d)).toNat : Int) := by
  rw [UInt8.toNat_ofNat']; simp
set_option maxRecDepth 100000 in
theorem flat_take (s : S2.St) (k : Nat) (hk : k < 8) : (s.list.take (k + 1)).flatMap S2.be4 = (s.list.take k).flatMap S2.be4 ++ S2.be4 (swi s k) := by
  have hl : k < s.list.length := hk
  rw [List.take_succ_eq_append_getElem hl, List.flatMap_append]
  congr 1
  simp [swi, List.getD, List.getElem?_eq_getElem hl]
set_option maxRecDepth 100000 in
theorem be4_len (x : Nat) : (S2.be4 x).length = 4 := rfl
set_option maxRecDepth 100000 in
theorem flat_len (s : S2.St) (k : Nat) (hk : k ≤ 8) : ((s.list.take k).flatMap S2.be4).length = 4 * k := by
  match k, hk with
  | 0, _ => rfl
  | 1, _ => rfl
  | 2, _ => rfl
  | 3, _ => rfl
  | 4, _ => rfl
  | 5, _ => rfl
  | 6, _ => rfl
  | 7, _ => rfl
  | 8, _ => rfl

set_option maxRecDepth 100000 in
set_option maxHeartbeats 1600000 in
theorem rs_loop7 {Q : Exit → Act → World → Prop} (s : S2.St) (hs : s.ok) (B B6 : Nat) (w : World) (hB6 : w.heap[B6]? = some (.cells (sti s) 62 (0, 0))) (hBw : B ≤ w.heap.size) (v0 : Value) (hO : Own w B v0 []) (hne : ∀ b, v0.ownBlock = some b → b ≠ B6)
    (t : Array Value) (hn : t.size = 265) (p6 : t[6]? = some (.pointer (some ⟨B6, 0, none⟩))) (p18 : t[18]? = some v0) (p19 : t[19]? = some (.int .i64 0))
    (hexit : ∀ t' w' v, t'.size = 265 → t'[18]? = some v → Own w' B v (S2.out s) → Fr (fun k => B ≤ k) w w' → Q (.exit 12) ⟨t', []⟩ w') :
    Code.wp Tryd.prog (.loop (loopAt Tryd.f9 6)) Q ⟨t, []⟩ w := by
  refine wp_loop_up 8 (fun k t w' => t.size = 265 ∧ t[6]? = some (.pointer (some ⟨B6, 0, none⟩)) ∧ t[19]? = some (.int .i64 (k : Int)) ∧ ∃ v, t[18]? = some v ∧ Own w' B v ((s.list.take k).flatMap S2.be4) ∧ (∀ b, v.ownBlock = some b → b ≠ B6) ∧ w'.heap[B6]? = some (.cells (sti s) 62 (0, 0)) ∧ Fr (fun k => B ≤ k) w w') t w ⟨hn, p6, p19, v0, p18, hO, hne, hB6, Fr.refl _ _⟩ ?_
  clear hB6 hO hne hn p6 p18 p19 t v0
  rintro k t wr hk ⟨hn, p6, p19, v, p18, hO, hne, hB6, hF⟩ K hK
  obtain ⟨f, hf, rfl⟩ := frame_open hn
  have e6 := hf 6 _ p6
  have e18 := hf 18 _ p18
  have e19 := hf 19 _ p19
  clear hf hn p6 p18 p19
  rw [lit265, e6, e18, e19]
  clear e6 e18 e19
  conv => arg 2; whnf
  by_cases hk8 : k < 8
  · have c0 := cell_of_block hB6 k
    rw [← sti_iu, iu_get 8 _ k hk8] at c0
    have y0 := swi_lt s hs k hk8
    have hft := flat_take s k hk8
    have hfl := flat_len s k (by omega)
    generalize swi s k = z at c0 y0 hft
    have b0 : (z : Int) < 4294967296 := by omega
    have q0 : (0 : Int) ≤ (k : Int) := by omega
    have q1 : (k : Int) < 8 := by omega
    have HK := Lib.hid hK
    have HT := Lib.hid hft
    obtain ⟨a, c, rfl⟩ := hO.slice
    rw [hfl] at hO hne ⊢
    clear hK hft
    have hne2 : ¬ (Value.ownBlock (.slice a (4 * k) c) = some B6) := fun e => hne _ e rfl
    have hy : #[.int .u8 ((z : Int) / 16777216 % 256), .int .u8 ((z : Int) / 65536 % 256), .int .u8 ((z : Int) / 256 % 256), .int .u8 ((z : Int) % 256)] = (bv (S2.be4 z)).toArray := by
      show _ = #[Value.int .u8 ((UInt8.ofNat (z / 16777216)).toNat : Int), .int .u8 ((UInt8.ofNat (z / 65536)).toNat : Int), .int .u8 ((UInt8.ofNat (z / 256)).toNat : Int), .int .u8 ((UInt8.ofNat z).toNat : Int)]
      have e1 : (z : Int) / 16777216 % 256 = ((UInt8.ofNat (z / 16777216)).toNat : Int) := by rw [UInt8.toNat_ofNat']; omega
      have e2 : (z : Int) / 65536 % 256 = ((UInt8.ofNat (z / 65536)).toNat : Int) := by rw [UInt8.toNat_ofNat']; omega
      have e3 : (z : Int) / 256 % 256 = ((UInt8.ofNat (z / 256)).toNat : Int) := by rw [UInt8.toNat_ofNat']; omega
      have e4 : (z : Int) % 256 = ((UInt8.ofNat z).toNat : Int) := by rw [UInt8.toNat_ofNat']; omega
      rw [e1, e2, e3, e4]
    have own1 : ∀ o : Obj, Own (wr.drew.alloc o) B (.slice a (4 * k) c) ((s.list.take k).flatMap S2.be4) := fun o => hO.fr (((Fr.refl (fun _ => False) wr).drew).alloc o) (fun _ _ h => h)
    have hsrc : ∀ cs : Array Value, cs = (bv (S2.be4 z)).toArray → Src Tryd.prog 1 39 (.slice (some ⟨wr.heap.size, 0, none⟩) 4 4) (S2.be4 z).length (bv (S2.be4 z)) (wr.drew.alloc (.cells cs 5)) := fun cs h => src_b4 (S2.be4 z) rfl (heap_alloc_new wr.drew _) h
    have hb1 : ((s.list.take k).flatMap S2.be4).length + (S2.be4 z).length ≤ 140737488355328 := by rw [hfl, be4_len]; omega
    have hz1 : ∀ o : Obj, B ≤ (wr.drew.alloc o).heap.size := fun o => by have := hF.size; simp; omega
    have z6 := lt_of_block hB6
    have cA : ∀ o : Obj, (wr.drew.alloc o).cell? ⟨B6, k, none⟩ = some (.int .i64 z) := fun o => (((Fr.refl (fun _ => False) wr).drew).alloc o).cellSome (p := ⟨B6, k, none⟩) (fun h => h) c0
    have HY := Lib.hid hy
    have HFl := Lib.hid hfl
    clear hy hfl
    generalize (s.list.take k).flatMap S2.be4 = x0 at *
    generalize S2.be4 z = y4 at *
    go_wp2_with fail
    go_region_held3 (fun w' => w'.cell? ⟨B6, k, none⟩ = some (.int .i64 z))
      (first | go_keep | (exact (Fr.ofGrown hg2).cellSome (p := ⟨B6, k, none⟩) hne2 (cA _)))
      ((refine wp_own _ (.tmp 241) (.tmp 261) 39 rfl B (.slice a (4 * k) c) x0 y4 rfl (own1 _) (.slice (some ⟨wr.heap.size, 0, none⟩) 4 4) rfl (hsrc _ HY.out) hb1 (hz1 _) ?_; intro v2 w2 own2 hg2 hb2))
    have hB7 := ((Fr.ofGrown hg2).block B6 (by simp; omega) hne2).trans ((Below.heap_alloc wr.drew _ B6 z6).trans hB6)
    have hF7 : Fr (fun k => B ≤ k) w w2 := ((hF.drew).alloc _).trans (Fr.ofGrown hg2) (fun i hi => Or.inl (hO.lt i hi).1)
    have hne7 : ∀ b, v2.ownBlock = some b → b ≠ B6 := by
      intro b hb e
      rcases hb2 with h | h
      · exact hne b (h.symm.trans hb) e
      · rw [h] at hb
        have := Option.some.inj hb
        simp at this
        omega
    have own7 : Own w2 B v2 ((s.list.take (k + 1)).flatMap S2.be4) := by rw [HT.out]; exact own2
    clear own2 hg2 hb2 hO hne hB6 hF c0 cA hsrc own1 hz1 hb1
    have H7 := Lib.hid hB7
    clear hB7
    go_wp2_with fail
    exact HK.out _ _ hk8 ⟨rfl, rfl, rfl, v2, rfl, own7, hne7, H7.out, hF7⟩
  · obtain rfl : k = 8 := by omega
    have HE := Lib.hid hexit
    clear hexit
    go_wp2_with fail
    exact HE.out _ _ _ rfl rfl hO hF
end Go.Proofs.YtndakfanlgilmaaDoor


/-
  The loop over the blocks of Sum of package custumalref01.
-/
import Derived.Test.YtndakfanlgilmaaDoorR6
namespace Go.Proofs.YtndakfanlgilmaaDoor
open Go.RowKit
set_option linter.unusedVariables false

structure OPin (t : Array Value) (g N c B6 off : Nat) : Prop where
  n : t.size = 265
  p4 : t[4]? = some (.slice (some ⟨g, 0, none⟩) N c)
  p6 : t[6]? = some (.pointer (some ⟨B6, 0, none⟩))
  p7 : t[7]? = some (.int .i64 (off : Int))
set_option maxRecDepth 100000 in
theorem OPin.open {t : Array Value} {g N c B6 off : Nat} (h : OPin t g N c B6 off) : ∃ f : Nat → Value, (∀ i v, t[i]? = some v → f i = v) ∧ t = #[f 0, f 1, f 2, f 3, .slice (some ⟨g, 0, none⟩) N c, f 5, .pointer (some ⟨B6, 0, none⟩), .int .i64 (off : Int), f 8, f 9, f 10, f 11, f 12, f 13, f 14, f 15, f 16, f 17, f 18, f 19, f 20, f 21, f 22, f 23, f 24, f 25, f 26, f 27, f 28, f 29, f 30, f 31, f 32, f 33, f 34, f 35, f 36, f 37, f 38, f 39, f 40, f 41, f 42, f 43, f 44, f 45, f 46, f 47, f 48, f 49, f 50, f 51, f 52, f 53, f 54, f 55, f 56, f 57, f 58, f 59, f 60, f 61, f 62, f 63, f 64, f 65, f 66, f 67, f 68, f 69, f 70, f 71, f 72, f 73, f 74, f 75, f 76, f 77, f 78, f 79, f 80, f 81, f 82, f 83, f 84, f 85, f 86, f 87, f 88, f 89, f 90, f 91, f 92, f 93, f 94, f 95, f 96, f 97, f 98, f 99, f 100, f 101, f 102, f 103, f 104, f 105, f 106, f 107, f 108, f 109, f 110, f 111, f 112, f 113, f 114, f 115, f 116, f 117, f 118, f 119, f 120, f 121, f 122, f 123, f 124, f 125, f 126, f 127, f 128, f 129, f 130, f 131, f 132, f 133, f 134, f 135, f 136, f 137, f 138, f 139, f 140, f 141, f 142, f 143, f 144, f 145, f 146, f 147, f 148, f 149, f 150, f 151, f 152, f 153, f 154, f 155, f 156, f 157, f 158, f 159, f 160, f 161, f 162, f 163, f 164, f 165, f 166, f 167, f 168, f 169, f 170, f 171, f 172, f 173, f 174, f 175, f 176, f 177, f 178, f 179, f 180, f 181, f 182, f 183, f 184, f 185, f 186, f 187, f 188, f 189, f 190, f 191, f 192, f 193, f 194, f 195, f 196, f 197, f 198, f 199, f 200, f 201, f 202, f 203, f 204, f 205, f 206, f 207, f 208, f 209, f 210, f 211, f 212, f 213, f 214, f 215, f 216, f 217, f 218, f 219, f 220, f 221, f 222, f 223, f 224, f 225, f 226, f 227, f 228, f 229, f 230, f 231, f 232, f 233, f 234, f 235, f 236, f 237, f 238, f 239, f 240, f 241, f 242, f 243, f 244, f 245, f 246, f 247, f 248, f 249, f 250, f 251, f 252, f 253, f 254, f 255, f 256, f 257, f 258, f 259, f 260, f 261, f 262, f 263, f 264] := by
  obtain ⟨f, hf, ht⟩ := frame_open h.n
  rw [lit265] at ht
  refine ⟨f, hf, ?_⟩
  rw [ht, hf 4 _ h.p4, hf 6 _ h.p6, hf 7 _ h.p7]
set_option maxRecDepth 100000 in
theorem getD_blk (F : List UInt8) (k j : Nat) (hj : j < 64) : ((F.drop (64 * k)).take 64).getD j 0 = F.getD (64 * k + j) 0 := by
  simp [List.getD_eq_getElem?_getD, hj, List.getElem?_drop]
/-- The bytes of a text, from the start of a block on. -/
def Txt (w : World) (g : Nat) (F : List UInt8) : Prop := ∀ j, j < F.length → w.cell? ⟨g, j, none⟩ = some (.int .u8 ((F.getD j 0).toNat : Int))
set_option maxRecDepth 100000 in
theorem Txt.fr {w w2 : World} {g : Nat} {F : List UInt8} {S : Nat → Prop} (h : Txt w g F) (hF : Fr S w w2) (hs : ¬ S g) : Txt w2 g F := fun j hj => hF.cellSome (p := ⟨g, j, none⟩) hs (h j hj)
set_option maxRecDepth 100000 in
theorem Txt.blk {w : World} {g k : Nat} {F : List UInt8} (h : Txt w g F) (hk : 64 * k + 64 ≤ F.length) : Blk w g (64 * k) ((F.drop (64 * k)).take 64) := by
  intro j hj
  rw [getD_blk F k j hj]
  exact h (64 * k + j) (by omega)

set_option maxRecDepth 100000 in
theorem zero64i : (#[.int .i64 0, .int .i64 0, .int .i64 0, .int .i64 0, .int .i64 0, .int .i64 0, .int .i64 0, .int .i64 0, .int .i64 0, .int .i64 0, .int .i64 0, .int .i64 0, .int .i64 0, .int .i64 0, .int .i64 0, .int .i64 0, .int .i64 0, .int .i64 0, .int .i64 0, .int .i64 0, .int .i64 0, .int .i64 0, .int .i64 0, .int .i64 0, .int .i64 0, .int .i64 0, .int .i64 0, .int .i64 0, .int .i64 0, .int .i64 0, .int .i64 0, .int .i64 0, .int .i64 0, .int .i64 0, .int .i64 0, .int .i64 0, .int .i64 0, .int .i64 0, .int .i64 0, .int .i64 0, .int .i64 0, .int .i64 0, .int .i64 0, .int .i64 0, .int .i64 0, .int .i64 0, .int .i64 0, .int .i64 0, .int .i64 0, .int .i64 0, .int .i64 0, .int .i64 0, .int .i64 0, .int .i64 0, .int .i64 0, .int .i64 0, .int .i64 0, .int .i64 0, .int .i64 0, .int .i64 0, .int .i64 0, .int .i64 0, .int .i64 0, .int .i64 0] : Array Value).size = 64 := by kernel_rfl

set_option maxRecDepth 100000 in
set_option maxHeartbeats 1600000 in
theorem rs_loop3 {Q : Exit → Act → World → Prop} (F : List UInt8) (g N c B6 nb : Nat) (hFl : F.length = N) (hN : N = 64 * nb) (hN2 : N ≤ 1000000000100) (w : World) (hT : Txt w g F) (hg : g < w.heap.size) (hE : REnv w) (hB6 : w.heap[B6]? = some (.cells (sti S2.H0) 62 (0, 0)))
    (hd : g ≠ B6) (hdK : B6 ≠ 1) (hdH : B6 ≠ 0) (t : Array Value) (hp : OPin t g N c B6 0)
    (hexit : ∀ t' w', OPin t' g N c B6 N → w'.heap[B6]? = some (.cells (sti (S2.hwN F nb)) 62 (0, 0)) → Fr (fun k => k = B6) w w' → Q (.exit 4) ⟨t', []⟩ w') :
    Code.wp Tryd.prog (.loop (loopAt Tryd.f9 2)) Q ⟨t, []⟩ w := by
  refine wp_loop_up nb (fun k t w' => OPin t g N c B6 (64 * k) ∧ w'.heap[B6]? = some (.cells (sti (S2.hwN F k)) 62 (0, 0)) ∧ Fr (fun k => k = B6) w w') t w ⟨hp, hB6, Fr.refl _ _⟩ ?_
  clear hB6 hp t
  rintro k t wr hk ⟨hp, hB6, hF⟩ K hK
  obtain ⟨f, hf, rfl⟩ := hp.open
  clear hf hp
  conv => arg 2; whnf
  have hTr := hT.fr hF hd
  have hEr := hE.fr hF (fun h => hdH h.symm) (fun h => hdK h.symm)
  have z0 := hF.size
  have z6 := lt_of_block hB6
  by_cases hlt : k < nb
  · have hblk := hTr.blk (k := k) (by omega)
    have hok := S2.hwN_ok F k
    have hnext : S2.hwN F (k + 1) = (S2.hwN F k).add (S2.rnds (S2.sch ((F.drop (64 * k)).take 64) 48) (S2.hwN F k) 64) := rfl
    have hrok := rnds_ok2 (S2.sch ((F.drop (64 * k)).take 64) 48) (S2.hwN F k) hok 64
    generalize (F.drop (64 * k)).take 64 = l at hblk hnext hrok
    generalize S2.hwN F k = s at hB6 hok hnext hrok
    have ht : ((64 * k : Nat) : Int) < (N : Int) := by omega
    have ht2 : ((64 * k : Nat) : Int) ≤ 2000000000000 := by omega
    obtain ⟨off, hoff⟩ : ∃ off, off = 64 * k := ⟨_, rfl⟩
    rw [← hoff] at ht ht2 hblk ⊢
    have hoN : off + 64 ≤ N := by omega
    have Hoff := Lib.hid hoff
    have Hnext := Lib.hid hnext
    have HK := Lib.hid hK
    have HB6 := Lib.hid hB6
    have HN := Lib.hid hN
    have HFl := Lib.hid hFl
    clear hoff hnext hK hB6 hN hFl hTr
    go_wp2_with fail
    refine rs_loop4 l g off N c B6 wr.heap.size hoN hN2 _ (hblk.fr ((Fr.refl (fun _ => False) wr).alloc _) (fun h => h)) ⟨_, heap_alloc_new wr _, zero64i, fun j hj => by omega⟩ (by omega) _ ⟨rfl, rfl, rfl, rfl, rfl⟩ rfl ?_
    intro t1 w1 hp1 hA1 hF1
    have G1 : Fr (fun k => k = B6) w w1 := (hF.alloc _).trans hF1 (fun i hi => Or.inr (by omega))
    have HB1 : w1.heap[B6]? = some (.cells (sti s) 62 (0, 0)) := by
      rw [hF1.block B6 (by simp; omega) (by omega), Below.heap_alloc _ _ _ z6]; exact HB6.out
    have hE1 := hE.fr G1 (fun h => hdH h.symm) (fun h => hdK h.symm)
    have z1 : wr.heap.size < w1.heap.size := hA1.lt
    clear hF1 HB6 hblk hEr
    generalize wr.heap.size = B8 at hA1 hp1 z1 z0 z6
    obtain ⟨f1, hf1, rfl⟩ := hp1.open
    clear hf1 hp1
    have hsz : (#[.int .i64 0, .int .i64 0, .int .i64 0, .int .i64 0, .int .i64 0, .int .i64 0, .int .i64 0, .int .i64 0] : Array Value).size = (sti s).size := rfl
    have Hsz := Lib.hid hsz
    have HB1' := Lib.hid HB1
    have Hk := Lib.hid hlt
    clear hsz HB1 hlt
    go_wp2_with (first
      | (with_reducible refine wpList_load_row rfl 62 (.tmp 6) rfl B6 rfl 62 (sti s) (0, 0) _ HB1'.out Tryd.underlying62 rfl Tryd.size8s ?_)
      | (with_reducible refine wpList_store_rowR rfl 62 (.tmp 13) (.tmp 131) rfl w1.heap.size (sti s) rfl rfl 62 _ (heap_alloc_new w1 _) Tryd.size8s Hsz.out (sti_one s) ?k))
    case k =>
    intro w2 hB2 hG2
    have HB1 := HB1'.out
    have L12 : Fr (fun _ => False) w1 w2 := ((Fr.refl (fun _ => False) w1).alloc _).trans hG2 (fun i hi => Or.inr (by omega))
    have z2 := lt_of_block hB2
    have hA2 := hA1.fr L12 (fun h => h)
    have hE2 := hE1.fr L12 (fun h => h) (fun h => h)
    have HB2 : w2.heap[B6]? = some (.cells (sti s) 62 (0, 0)) := (L12.block B6 (by omega) (fun h => h)).trans HB1
    have G2 : Fr (fun k => k = B6) w w2 := G1.trans L12 (fun _ h => h.elim)
    have d13 : B6 ≠ w1.heap.size := by omega
    have d8 : B8 ≠ w1.heap.size := by omega
    have dK : w1.heap.size ≠ 1 := fun e => by
      have := hE.tabK 0 (by decide)
      have := World.block_lt_of_cell? _ _ this
      simp at this; omega
    clear HB1 HB1' Hsz hG2 L12 hA1 hE1
    generalize w1.heap.size = B13 at *
    have hB2' := Lib.hid hB2
    have HB2' := Lib.hid HB2
    clear hB2 HB2
    go_wp2_with fail
    refine rs_loop5 l s hok g off N c B6 B8 B13 w2 hE2 hA2 hB2'.out d8 dK _ ⟨rfl, rfl, rfl, rfl, rfl⟩ rfl rfl ?_
    intro t3 w3 hp3 p13 hB3 hF3
    have HB3 : w3.heap[B6]? = some (.cells (sti s) 62 (0, 0)) := (hF3.block B6 (lt_of_block HB2'.out) d13).trans HB2'.out
    have G3 : Fr (fun k => k = B6) w w3 := G2.trans hF3 (fun i hi => Or.inr (by subst hi; omega))
    clear hB2' HB2' hF3 hA2 hE2
    obtain ⟨f3, hf3, rfl⟩ := hp3.open
    have e13 := hf3 13 _ p13
    clear hf3 hp3 p13
    rw [e13]
    clear e13
    have hB3' := Lib.hid hB3
    have HB3' := Lib.hid HB3
    clear hB3 HB3
    go_wp2_with fail
    refine rs_loop6 s _ hok hrok g off N c B6 B8 B13 w3 HB3'.out hB3'.out d13 _ ⟨rfl, rfl, rfl, rfl, rfl⟩ rfl rfl ?_
    intro t4 w4 hp4 HB4 hF4
    have G4 : Fr (fun k => k = B6) w w4 := G3.trans hF4 (fun i hi => Or.inl hi)
    rw [← Hnext.out] at HB4
    clear hB3' HB3' hF4 G3 G2 G1
    obtain ⟨f4, hf4, rfl⟩ := hp4.open
    clear hf4 hp4
    have HB4' := Lib.hid HB4
    have ws : (off : Int) + 64 ≤ 3000000000000 := by omega
    have p7' : (some (Value.int .i64 ((off : Int) + 64))) = some (Value.int .i64 ((64 * (k + 1) : Nat) : Int)) := by rw [Hoff.out]; rfl
    have P7 := Lib.hid p7'
    clear HB4 p7'
    go_wp2_with fail
    exact HK.out _ _ Hk.out ⟨⟨rfl, rfl, rfl, P7.out⟩, HB4'.out, G4⟩
  · obtain rfl : k = nb := by omega
    rw [← hN]
    have ht : ¬ (N : Int) < (N : Int) := by omega
    have HE := Lib.hid hexit
    have HN := Lib.hid hN
    have HFl := Lib.hid hFl
    clear hexit hN hFl
    go_wp2_with fail
    exact HE.out _ _ ⟨rfl, rfl, rfl, rfl⟩ hB6 hF
end Go.Proofs.YtndakfanlgilmaaDoor


/-
  The contract of Sum of package sha5, of any parts.
-/
import Derived.Test.YtmoepalhoaekgaaDoorJoin5
import Derived.Test.YtmoepalhoaekgaaDoorPsum
import Derived.Test.YtmoepalhoaekgaaDoorPa
namespace Go.Proofs.YtmoepalhoaekgaaDoor
open Go.RowKit
set_option linter.unusedVariables false

def sumc5 (l : List UInt8) : Array Value := sumv5 (S5.hw (l ++ S5.pad l.length))
structure Env5 (w : World) : Prop where
  tab : Tab5 w
  lt : 5 < w.heap.size
set_option maxRecDepth 100000 in
theorem Env5.fr {w w2 : World} {S : Nat → Prop} (h : Env5 w) (hF : Fr S w w2) (hs : ¬ S 5) : Env5 w2 := ⟨h.tab.fr hF hs, Nat.lt_of_lt_of_le h.lt hF.size⟩
def HIs5 (w : World) (bh : Nat) (l : List UInt8) : Prop := ∃ tl, HInv5 w bh l tl
theorem HIs5.fr {w w2 : World} {bh : Nat} {l : List UInt8} {S : Nat → Prop} (h : HIs5 w bh l) (hF : Fr S w w2) (hs : ¬ S bh) : HIs5 w2 bh l := by
  obtain ⟨tl, h⟩ := h
  exact ⟨tl, h.hb.fr hF hs, h.tail⟩
set_option maxRecDepth 100000 in
theorem HIs5.lt {w : World} {bh : Nat} {l : List UInt8} (h : HIs5 w bh l) : bh < w.heap.size := by
  obtain ⟨tl, h⟩ := h
  exact lt_of_block h.hb.blk
set_option maxRecDepth 100000 in
theorem add_any5' (bh : Nat) (l m : List UInt8) (a : Option Addr) (c n : Nat) (hn : m.length = n) (w : World) (h : HIs5 w bh l) (hm : Lies w a m) (hc : n ≤ c) (hc2 : c ≤ maxLen) (hne : m = [] ∨ ¬ inBlk a bh) (hsum : l.length + n ≤ 9223372036854775807) (hT : Tab5 w) (hTs : 5 < w.heap.size) (hTb : bh ≠ 5) :
    Calls Tryd.prog 34 #[.pointer (some ⟨bh, 0, none⟩), .slice a n c] w fun e w' => e = .returned (.tuple #[]) ∧ HIs5 w' bh (l ++ m) ∧ Fr (fun k => k = bh) w w' := by
  subst hn
  exact add_any5 bh l m a c w h hm hc hc2 hne hsum hT hTs hTb
set_option maxRecDepth 100000 in
theorem fold137 : Array.foldl (fun (cs : Array Value) (x : Value × Nat) => cs.setIfInBounds x.snd x.fst) Tryd.zeroCells69 (stv5 S5.H0).zipIdx 0 (stv5 S5.H0).size = (hcells5 (stv5 S5.H0).toList (List.replicate 128 0) 0).toArray := by kernel_rfl
theorem Tryd.size137 : (Tryd.prog.info? 69).map (·.size) = some (hcells5 (stv5 S5.H0).toList (List.replicate 128 0) 0).toArray.size := by kernel_rfl
theorem Tryd.z144 : Tryd.zeroCells70.size = 144 := by kernel_rfl
set_option maxRecDepth 100000 in
theorem Tryd.z137 : Tryd.zeroCells69.size = (hcells5 (stv5 S5.H0).toList (List.replicate 128 0) 0).toArray.size := by kernel_rfl
theorem hcells_one5 {wl : List Value} {tl : List UInt8} {n : Nat} (h : ∀ v ∈ wl, v.oneCell' = true) : (hcells5 wl tl n).toArray.all (·.oneCell') = true := by
  rw [Array.all_eq_true_iff_forall_mem]
  intro v hv
  simp only [List.mem_toArray, hcells5, List.mem_append, List.mem_singleton] at hv
  rcases hv with hv | hv | rfl
  · exact h v hv
  · exact bv_one tl v hv
  · rfl
set_option maxRecDepth 100000 in
theorem h0_one : ∀ v ∈ (stv5 S5.H0).toList, v.oneCell' = true := fun v hv => (Array.all_eq_true_iff_forall_mem.1 (stv_one5 S5.H0)) v (by simpa using hv)
theorem HIs5.zero {w : World} {b : Nat} (h : w.heap[b]? = some (.cells (hcells5 (stv5 S5.H0).toList (List.replicate 128 0) 0).toArray 69 (0, 0))) : HIs5 w b [] :=
  ⟨_, ⟨h, rfl, by simp, h0_one⟩, rfl⟩
set_option maxRecDepth 100000 in
theorem pad_lies5 {w : World} {b c : Nat} {t : TypeId} {fr : Nat × Nat} (h : w.heap[b]? = some (.cells (ub 144 (pf5 c 8)) t fr)) : Lies w (some ⟨b, 0, none⟩) (S5.pad c) := by
  have hp : S5.padLen c = 128 - (c % 128 + 16) % 128 + 16 := rfl
  refine Or.inr ⟨b, 0, rfl, fun j hj => ?_⟩
  rw [Nat.zero_add, cell_of_block h]
  have hl : (S5.pad c).length = S5.padLen c := by rw [← pf_pad5 c]; simp
  rw [ub_get 144 _ j (by omega)]
  simp only [← pf_pad5 c, List.getElem_map, List.getElem_range]
set_option maxRecDepth 100000 in
theorem Tryd.size8L5 {m : S5.St} : (Tryd.prog.info? 65).map (·.size) = some (stv5 m).toList.length := by
  show _ = some 8
  kernel_rfl

set_option maxRecDepth 100000 in
set_option maxHeartbeats 3200000 in
theorem psum_any5 (a : Option Addr) (L : List (List UInt8)) (n c : Nat) (hn : L.length = n) (w : World) (hPp : Parts w a L) (hn2 : n ≤ maxLen) (hl : L.flatten.length ≤ 1000000000000) (hE : Env5 w) :
    Calls Tryd.prog 14 #[.slice a n c] w fun e w' => e = .returned (.agg (sumc5 L.flatten)) ∧ Fr (fun _ => False) w w' := by
  have hn3 : n ≤ 9223372036854775807 := by unfold maxLen at hn2; omega
  have hrr : (#[.int .u8 0, .int .u8 0, .int .u8 0, .int .u8 0, .int .u8 0, .int .u8 0, .int .u8 0, .int .u8 0, .int .u8 0, .int .u8 0, .int .u8 0, .int .u8 0, .int .u8 0, .int .u8 0, .int .u8 0, .int .u8 0, .int .u8 0, .int .u8 0, .int .u8 0, .int .u8 0, .int .u8 0, .int .u8 0, .int .u8 0, .int .u8 0, .int .u8 0, .int .u8 0, .int .u8 0, .int .u8 0, .int .u8 0, .int .u8 0, .int .u8 0, .int .u8 0, .int .u8 0, .int .u8 0, .int .u8 0, .int .u8 0, .int .u8 0, .int .u8 0, .int .u8 0, .int .u8 0, .int .u8 0, .int .u8 0, .int .u8 0, .int .u8 0, .int .u8 0, .int .u8 0, .int .u8 0, .int .u8 0, .int .u8 0, .int .u8 0, .int .u8 0, .int .u8 0, .int .u8 0, .int .u8 0, .int .u8 0, .int .u8 0, .int .u8 0, .int .u8 0, .int .u8 0, .int .u8 0, .int .u8 0, .int .u8 0, .int .u8 0, .int .u8 0] : Array Value).size = 64 := rfl
  go_enter Tryd.func14, Tryd.ntmps14
  go_wp2_with fail
  refine (first_any5 _).mono ?_
  rintro e w1 ⟨rfl, F1⟩
  have R1 := (F1.block _ (by simp) (fun h => h)).trans (heap_alloc_new w (.cells #[.int .u8 0, .int .u8 0, .int .u8 0, .int .u8 0, .int .u8 0, .int .u8 0, .int .u8 0, .int .u8 0, .int .u8 0, .int .u8 0, .int .u8 0, .int .u8 0, .int .u8 0, .int .u8 0, .int .u8 0, .int .u8 0, .int .u8 0, .int .u8 0, .int .u8 0, .int .u8 0, .int .u8 0, .int .u8 0, .int .u8 0, .int .u8 0, .int .u8 0, .int .u8 0, .int .u8 0, .int .u8 0, .int .u8 0, .int .u8 0, .int .u8 0, .int .u8 0, .int .u8 0, .int .u8 0, .int .u8 0, .int .u8 0, .int .u8 0, .int .u8 0, .int .u8 0, .int .u8 0, .int .u8 0, .int .u8 0, .int .u8 0, .int .u8 0, .int .u8 0, .int .u8 0, .int .u8 0, .int .u8 0, .int .u8 0, .int .u8 0, .int .u8 0, .int .u8 0, .int .u8 0, .int .u8 0, .int .u8 0, .int .u8 0, .int .u8 0, .int .u8 0, .int .u8 0, .int .u8 0, .int .u8 0, .int .u8 0, .int .u8 0, .int .u8 0] 31))
  have G1 : Fr (fun _ => False) w w1 := ((Fr.refl (fun _ => False) w).alloc _).trans F1 (fun _ h => h.elim)
  have z1 : w.heap.size < w1.heap.size := lt_of_block R1
  generalize (#[.int .u8 0, .int .u8 0, .int .u8 0, .int .u8 0, .int .u8 0, .int .u8 0, .int .u8 0, .int .u8 0, .int .u8 0, .int .u8 0, .int .u8 0, .int .u8 0, .int .u8 0, .int .u8 0, .int .u8 0, .int .u8 0, .int .u8 0, .int .u8 0, .int .u8 0, .int .u8 0, .int .u8 0, .int .u8 0, .int .u8 0, .int .u8 0, .int .u8 0, .int .u8 0, .int .u8 0, .int .u8 0, .int .u8 0, .int .u8 0, .int .u8 0, .int .u8 0, .int .u8 0, .int .u8 0, .int .u8 0, .int .u8 0, .int .u8 0, .int .u8 0, .int .u8 0, .int .u8 0, .int .u8 0, .int .u8 0, .int .u8 0, .int .u8 0, .int .u8 0, .int .u8 0, .int .u8 0, .int .u8 0, .int .u8 0, .int .u8 0, .int .u8 0, .int .u8 0, .int .u8 0, .int .u8 0, .int .u8 0, .int .u8 0, .int .u8 0, .int .u8 0, .int .u8 0, .int .u8 0, .int .u8 0, .int .u8 0, .int .u8 0, .int .u8 0] : Array Value) = rs at hrr R1
  clear F1
  go_upto_region 2 with (with_reducible refine wpList_store_rowA rfl 69 (.tmp 3) (.tmp 9) rfl w1.heap.size (Array.foldl (fun (cs : Array Value) (x : Value × Nat) => cs.setIfInBounds x.snd x.fst) Tryd.zeroCells69 (stv5 S5.H0).zipIdx 0 (stv5 S5.H0).size) rfl rfl 69 _ (heap_alloc_new w1 _) (by rw [fold137]; exact Tryd.size137) (by rw [fold137]; exact Tryd.z137) (by rw [fold137]; exact hcells_one5 h0_one) ?k)
  case k =>
  intro w2 h2 hG2
  rw [fold137] at h2 ⊢
  have H2 := HIs5.zero h2
  have F12 : Fr (fun _ => False) w1 w2 := ((Fr.refl (fun _ => False) w1).alloc _).trans hG2 (fun i hi => Or.inr (by omega))
  have G2 : Fr (fun _ => False) w w2 := G1.trans F12 (fun _ h => h.elim)
  have R2 := (F12.block _ z1 (fun h => h)).trans R1
  have z2 := H2.lt
  have HP := hPp.grow G2
  generalize (hcells5 (stv5 S5.H0).toList (List.replicate 128 0) 0).toArray = ag
  generalize w1.heap.size = B1 at *
  clear h2 hG2 F12 G1 R1
  go_wp2_with fail
  go_loopw [12] (fun i wr => ∃ k : Nat, k ≤ n ∧ i = .int .i64 k ∧ HIs5 wr B1 (L.take k).flatten ∧ wr.heap[w.heap.size]? = some (.cells rs 31 (0, 0)) ∧ Fr (fun _ => False) w wr) (fun i _ => n - (intOf i).toNat)
  case atStart => exact ⟨0, by omega, by simp, H2, R2, G2⟩
  case round =>
    clear H2 R2 G2 HP
    obtain ⟨k, hk, rfl, hI, hR, hF⟩ := hrel
    have hE1 := hE.fr hF (fun h => h)
    have hz := hE.lt
    by_cases hlt : k < n
    · have hkL : k < L.length := by omega
      obtain ⟨p, hp⟩ : ∃ p, p = L[k]'hkL := ⟨_, rfl⟩
      have e2 : L.take (k + 1) = L.take k ++ [p] := by rw [hp, List.take_succ_eq_append_getElem hkL]
      have e5 : (L.take (k + 1)).flatten = (L.take k).flatten ++ p := by rw [e2, List.flatten_append]; simp
      have hsub : ((L.take k).flatten).length + p.length ≤ 1000000000000 := by
        have e3 : L.flatten = (L.take (k + 1)).flatten ++ (L.drop (k + 1)).flatten := by rw [← List.flatten_append, List.take_append_drop]
        rw [e3, e5, List.length_append, List.length_append] at hl
        omega
      obtain ⟨g, o, ha, hc⟩ := hPp.resolve_left (fun e => by rw [e] at hn; simp at hn; omega)
      obtain ⟨aj, cj, h1, h2, h3, h4⟩ := hc k hkL
      rw [← hp] at h1 h2 h3
      clear hp
      subst ha
      have h1' := hF.cellSome (p := ⟨g, o + k, none⟩) (fun h => h) h1
      have hnb : p = [] ∨ ¬ inBlk aj B1 := by
        by_cases e : p = []
        · exact Or.inl e
        · exact Or.inr fun hb => by have := h2.lt e _ hb; omega
      have q0 : (0 : Int) ≤ (k : Int) := by omega
      have q1 : (k : Int) < (n : Int) := by omega
      have HE5 := Lib.hid e5
      have h2g := h2.grow hF
      generalize (L.take k).flatten = x0 at *
      clear e2 e5 hl
      go_wp2_with fail
      refine (add_any5' B1 x0 p aj cj p.length rfl wr hI h2g h3 h4 hnb (by omega) hE1.tab hE1.lt (by omega)).mono ?_
      rintro e w3 ⟨rfl, hI2, hG3⟩
      have hF2 : Fr (fun _ => False) w w3 := hF.trans hG3 (fun i hi => Or.inr (by omega))
      rw [← HE5.out] at hI2
      have hR2 := (hG3.block _ (lt_of_block hR) (by omega)).trans hR
      have HI2 := Lib.hid hI2
      have HR2 := Lib.hid hR2
      clear hI hR hF hG3 h1 h1' hE1 HE5 hI2 hR2 h2g
      go_wp2
      go_roundw
      case rel => exact ⟨k + 1, by omega, by go_num, HI2.out, HR2.out, hF2⟩
      case measure => simp [intOf]; omega
    · have e1 : L.take k = L := List.take_of_length_le (by omega)
      rw [e1] at hI
      clear e1
      obtain ⟨l, hll⟩ : ∃ l, l = L.flatten := ⟨_, rfl⟩
      rw [← hll] at hI hl
      have HLL := Lib.hid hll
      have ht : decide ((k : Int) < (n : Int)) = false := by simp; omega
      have hcnt : wr.cell? ⟨B1, 136, none⟩ = some (.int .i64 (l.length : Int)) := by
        obtain ⟨tl, hb1⟩ := hI
        exact hb1.hb.count
      have HR := Lib.hid hR
      have hllb : (l.length : Int) ≤ 9223372036854775807 := by omega
      clear hll hR
      go_wp2_with fail
      refine (padding_any5 l.length (by omega) wr).mono ?_
      rintro e w3 ⟨rfl, F3⟩
      have hpl : S5.padLen l.length = 128 - (l.length % 128 + 16) % 128 + 16 := rfl
      have hplen : (S5.pad l.length).length = S5.padLen l.length := by rw [← pf_pad5]; simp
      have hp144 : S5.padLen l.length ≤ 144 := by omega
      have hp0 : (0 : Int) ≤ (S5.padLen l.length : Int) := by omega
      have hp1 : (S5.padLen l.length : Int) ≤ 144 := by omega
      have Hplen := Lib.hid hplen
      clear hpl hplen hcnt ht
      go_wp2_with (with_reducible refine wpList_store_rowA rfl 70 (.tmp 6) (.tmp 23) rfl w3.heap.size (ub 144 (pf5 l.length 8)) rfl rfl 70 _ (heap_alloc_new w3 _) Tryd.size144 (Tryd.z144.trans (ub_size _ _).symm) (ub_one _ _) ?k2)
      case k2 =>
      intro w4 h4 hG4
      have F34 : Fr (fun _ => False) wr w4 := (F3.alloc _).trans hG4 (fun i hi => Or.inr (by have := F3.size; omega))
      have I4 := hI.fr F34 (fun h => h)
      have R4 := (F34.block _ (lt_of_block HR.out) (fun h => h)).trans HR.out
      have G4 : Fr (fun _ => False) w w4 := hF.trans F34 (fun _ h => h.elim)
      have E4 := hE.fr G4 (fun h => h)
      have L4 := pad_lies5 h4
      have zB : B1 < w3.heap.size := Nat.lt_of_lt_of_le hI.lt F3.size
      have HR4 := Lib.hid R4
      clear hG4 F34 hI h4 R4 F3
      go_wp2_with fail
      refine (add_any5' B1 l (S5.pad l.length) _ 144 _ Hplen.out w4 I4 L4 hp144 (by unfold maxLen; omega) (Or.inr (fun ⟨ad, e, hb⟩ => by cases e; simp at hb; omega)) (by omega) E4.tab E4.lt (by omega)).mono ?_
      rintro e w5 ⟨rfl, ⟨tl5, I5⟩, hG5⟩
      have hwords := I5.hb.words
      have R5 := (hG5.block _ (lt_of_block HR4.out) (by omega)).trans HR4.out
      have G5 : Fr (fun _ => False) w w5 := G4.trans hG5 (fun i hi => Or.inr (by omega))
      have HR5 := Lib.hid R5
      clear R5 L4 hG5 I4
      go_wp2_with (with_reducible refine wpList_load_mid rfl 65 (.tmp 28) rfl B1 0 rfl (stv5 (S5.hw (l ++ S5.pad l.length))).toList _ hwords Tryd.underlying65 rfl Tryd.size8L5 ?_)
      refine (joined_any5 _ (S5.hw_ok _) _).mono ?_
      rintro e w6 ⟨rfl, F6⟩
      have R6 := (F6.block _ (lt_of_block HR5.out) (fun h => h)).trans HR5.out
      have G6 : Fr (fun _ => False) w w6 := G5.trans F6 (fun _ h => h.elim)
      have hs2 : rs.size = (sumv5 (S5.hw (l ++ S5.pad l.length))).size := hrr.trans (sumv_size5 _).symm
      have HS2 := Lib.hid hs2
      clear hs2 hwords
      go_wp2_with (with_reducible refine wpList_store_row rfl 31 (.tmp 2) (.tmp 30) rfl w.heap.size (sumv5 (S5.hw (l ++ S5.pad l.length))) rfl rfl 31 rs R6 Tryd.sizeS5 HS2.out (sumv_one5 _) ?_)
      refine bodyPost_ret (results_cell_row rfl _ _ w.heap.size 31 (sumv5 (S5.hw (l ++ S5.pad l.length))) (0, 0) _ rfl (setRow_heap _ _ _ _ _ _ R6) Tryd.underlying31 rfl Tryd.sizeS5) rfl ?_
      exact ⟨by rw [← HLL.out]; rfl, G6.trans (Fr.setRow (S := fun k => k = w.heap.size) (Fr.refl _ _) rfl _) (fun i hi => Or.inr (by omega))⟩
end Go.Proofs.YtmoepalhoaekgaaDoor



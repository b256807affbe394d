/-
  The contract of Sum of package sha5, of any parts.
  The contract of the look at a known sum of package custumallaw02.
  The environment of sha5's laws out of the row's own condition.
  The contracts of the methods of a nil Hash of package sha2; a part of owned parts is written.
  The loops of the law Sha2Goes.
  The walk of the law Sha2Goes.
  The contract of Of of package custumalref03.
  The contract of Of of package custumalref03: the rest; the walk of the law HmacOf.
  The contracts of number of package hmac, and of Eight of package custumalref03.
  The contract of Key of package hmac.
  Plain laws of this verifier: 32 bytes by value that came in as an argument.
  Plain laws of this verifier: so many noughts appended onto owned bytes (append of make).
-/
import Derived.Test.YtbpblheaiancaaaDoorQH
import Derived.Test.YtbpblheaiancaaaDoorQE
import Derived.Lib.SlBytesConst
import Derived.Test.YtbpblheaiancaaaDoorQG
import Derived.Deep.RegionWith
import Derived.WideKeyArr2
import Derived.Lib.AppendZerosOnto
namespace Go.Proofs.YtbpblheaiancaaaDoor
open Go.RowKit
set_option linter.unusedVariables false

def sumc5 (l : List UInt8) : Array Value := sumv5 (S5.hw (l ++ S5.pad l.length))
structure Env5 (w : World) : Prop where
  tab : Tab5 w
  lt : 3 < w.heap.size
set_option maxRecDepth 100000 in
theorem Env5.fr {w w2 : World} {S : Nat → Prop} (h : Env5 w) (hF : Fr S w w2) (hs : ¬ S 3) : Env5 w2 := ⟨h.tab.fr hF hs, Nat.lt_of_lt_of_le h.lt hF.size⟩
def HIs5 (w : World) (bh : Nat) (l : List UInt8) : Prop := ∃ tl, HInv5 w bh l tl
theorem HIs5.fr {w w2 : World} {bh : Nat} {l : List UInt8} {S : Nat → Prop} (h : HIs5 w bh l) (hF : Fr S w w2) (hs : ¬ S bh) : HIs5 w2 bh l := by
  obtain ⟨tl, h⟩ := h
  exact ⟨tl, h.hb.fr hF hs, h.tail⟩
set_option maxRecDepth 100000 in
theorem HIs5.lt {w : World} {bh : Nat} {l : List UInt8} (h : HIs5 w bh l) : bh < w.heap.size := by
  obtain ⟨tl, h⟩ := h
  exact lt_of_block h.hb.blk
set_option maxRecDepth 100000 in
theorem add_any5' (bh : Nat) (l m : List UInt8) (a : Option Addr) (c n : Nat) (hn : m.length = n) (w : World) (h : HIs5 w bh l) (hm : Lies w a m) (hc : n ≤ c) (hc2 : c ≤ maxLen) (hne : m = [] ∨ ¬ inBlk a bh) (hsum : l.length + n ≤ 9223372036854775807) (hT : Tab5 w) (hTs : 3 < w.heap.size) (hTb : bh ≠ 3) :
    Calls Tryd.prog 62 #[.pointer (some ⟨bh, 0, none⟩), .slice a n c] w fun e w' => e = .returned (.tuple #[]) ∧ HIs5 w' bh (l ++ m) ∧ Fr (fun k => k = bh) w w' := by
  subst hn
  exact add_any5 bh l m a c w h hm hc hc2 hne hsum hT hTs hTb
set_option maxRecDepth 100000 in
theorem fold137 : Array.foldl (fun (cs : Array Value) (x : Value × Nat) => cs.setIfInBounds x.snd x.fst) Tryd.zeroCells102 (stv5 S5.H0).zipIdx 0 (stv5 S5.H0).size = (hcells5 (stv5 S5.H0).toList (List.replicate 128 0) 0).toArray := by kernel_rfl
theorem Tryd.size137 : (Tryd.prog.info? 102).map (·.size) = some (hcells5 (stv5 S5.H0).toList (List.replicate 128 0) 0).toArray.size := by kernel_rfl
theorem Tryd.z144 : Tryd.zeroCells103.size = 144 := by kernel_rfl
set_option maxRecDepth 100000 in
theorem Tryd.z137 : Tryd.zeroCells102.size = (hcells5 (stv5 S5.H0).toList (List.replicate 128 0) 0).toArray.size := by kernel_rfl
theorem hcells_one5 {wl : List Value} {tl : List UInt8} {n : Nat} (h : ∀ v ∈ wl, v.oneCell' = true) : (hcells5 wl tl n).toArray.all (·.oneCell') = true := by
  rw [Array.all_eq_true_iff_forall_mem]
  intro v hv
  simp only [List.mem_toArray, hcells5, List.mem_append, List.mem_singleton] at hv
  rcases hv with hv | hv | rfl
  · exact h v hv
  · exact bv_one tl v hv
  · rfl
set_option maxRecDepth 100000 in
theorem h0_one : ∀ v ∈ (stv5 S5.H0).toList, v.oneCell' = true := fun v hv => (Array.all_eq_true_iff_forall_mem.1 (stv_one5 S5.H0)) v (by simpa using hv)
theorem HIs5.zero {w : World} {b : Nat} (h : w.heap[b]? = some (.cells (hcells5 (stv5 S5.H0).toList (List.replicate 128 0) 0).toArray 102 (0, 0))) : HIs5 w b [] :=
  ⟨_, ⟨h, rfl, by simp, h0_one⟩, rfl⟩
set_option maxRecDepth 100000 in
theorem pad_lies5 {w : World} {b c : Nat} {t : TypeId} {fr : Nat × Nat} (h : w.heap[b]? = some (.cells (ub 144 (pf5 c 8)) t fr)) : Lies w (some ⟨b, 0, none⟩) (S5.pad c) := by
  have hp : S5.padLen c = 128 - (c % 128 + 16) % 128 + 16 := rfl
  refine Or.inr ⟨b, 0, rfl, fun j hj => ?_⟩
  rw [Nat.zero_add, cell_of_block h]
  have hl : (S5.pad c).length = S5.padLen c := by rw [← pf_pad5 c]; simp
  rw [ub_get 144 _ j (by omega)]
  simp only [← pf_pad5 c, List.getElem_map, List.getElem_range]
set_option maxRecDepth 100000 in
theorem Tryd.size8L5 {m : S5.St} : (Tryd.prog.info? 98).map (·.size) = some (stv5 m).toList.length := by
  show _ = some 8
  kernel_rfl

set_option maxRecDepth 100000 in
set_option maxHeartbeats 3200000 in
theorem psum_any5 (a : Option Addr) (L : List (List UInt8)) (n c : Nat) (hn : L.length = n) (w : World) (hPp : Parts w a L) (hn2 : n ≤ maxLen) (hl : L.flatten.length ≤ 1000000000000) (hE : Env5 w) :
    Calls Tryd.prog 40 #[.slice a n c] w fun e w' => e = .returned (.agg (sumc5 L.flatten)) ∧ Fr (fun _ => False) w w' := by
  have hn3 : n ≤ 9223372036854775807 := by unfold maxLen at hn2; omega
  have hrr : (#[.int .u8 0, .int .u8 0, .int .u8 0, .int .u8 0, .int .u8 0, .int .u8 0, .int .u8 0, .int .u8 0, .int .u8 0, .int .u8 0, .int .u8 0, .int .u8 0, .int .u8 0, .int .u8 0, .int .u8 0, .int .u8 0, .int .u8 0, .int .u8 0, .int .u8 0, .int .u8 0, .int .u8 0, .int .u8 0, .int .u8 0, .int .u8 0, .int .u8 0, .int .u8 0, .int .u8 0, .int .u8 0, .int .u8 0, .int .u8 0, .int .u8 0, .int .u8 0, .int .u8 0, .int .u8 0, .int .u8 0, .int .u8 0, .int .u8 0, .int .u8 0, .int .u8 0, .int .u8 0, .int .u8 0, .int .u8 0, .int .u8 0, .int .u8 0, .int .u8 0, .int .u8 0, .int .u8 0, .int .u8 0, .int .u8 0, .int .u8 0, .int .u8 0, .int .u8 0, .int .u8 0, .int .u8 0, .int .u8 0, .int .u8 0, .int .u8 0, .int .u8 0, .int .u8 0, .int .u8 0, .int .u8 0, .int .u8 0, .int .u8 0, .int .u8 0] : Array Value).size = 64 := rfl
  go_enter Tryd.func40, Tryd.ntmps40
  go_wp2_with fail
  refine (first_any5 _).mono ?_
  rintro e w1 ⟨rfl, F1⟩
  have R1 := (F1.block _ (by simp) (fun h => h)).trans (heap_alloc_new w (.cells #[.int .u8 0, .int .u8 0, .int .u8 0, .int .u8 0, .int .u8 0, .int .u8 0, .int .u8 0, .int .u8 0, .int .u8 0, .int .u8 0, .int .u8 0, .int .u8 0, .int .u8 0, .int .u8 0, .int .u8 0, .int .u8 0, .int .u8 0, .int .u8 0, .int .u8 0, .int .u8 0, .int .u8 0, .int .u8 0, .int .u8 0, .int .u8 0, .int .u8 0, .int .u8 0, .int .u8 0, .int .u8 0, .int .u8 0, .int .u8 0, .int .u8 0, .int .u8 0, .int .u8 0, .int .u8 0, .int .u8 0, .int .u8 0, .int .u8 0, .int .u8 0, .int .u8 0, .int .u8 0, .int .u8 0, .int .u8 0, .int .u8 0, .int .u8 0, .int .u8 0, .int .u8 0, .int .u8 0, .int .u8 0, .int .u8 0, .int .u8 0, .int .u8 0, .int .u8 0, .int .u8 0, .int .u8 0, .int .u8 0, .int .u8 0, .int .u8 0, .int .u8 0, .int .u8 0, .int .u8 0, .int .u8 0, .int .u8 0, .int .u8 0, .int .u8 0] 74))
  have G1 : Fr (fun _ => False) w w1 := ((Fr.refl (fun _ => False) w).alloc _).trans F1 (fun _ h => h.elim)
  have z1 : w.heap.size < w1.heap.size := lt_of_block R1
  generalize (#[.int .u8 0, .int .u8 0, .int .u8 0, .int .u8 0, .int .u8 0, .int .u8 0, .int .u8 0, .int .u8 0, .int .u8 0, .int .u8 0, .int .u8 0, .int .u8 0, .int .u8 0, .int .u8 0, .int .u8 0, .int .u8 0, .int .u8 0, .int .u8 0, .int .u8 0, .int .u8 0, .int .u8 0, .int .u8 0, .int .u8 0, .int .u8 0, .int .u8 0, .int .u8 0, .int .u8 0, .int .u8 0, .int .u8 0, .int .u8 0, .int .u8 0, .int .u8 0, .int .u8 0, .int .u8 0, .int .u8 0, .int .u8 0, .int .u8 0, .int .u8 0, .int .u8 0, .int .u8 0, .int .u8 0, .int .u8 0, .int .u8 0, .int .u8 0, .int .u8 0, .int .u8 0, .int .u8 0, .int .u8 0, .int .u8 0, .int .u8 0, .int .u8 0, .int .u8 0, .int .u8 0, .int .u8 0, .int .u8 0, .int .u8 0, .int .u8 0, .int .u8 0, .int .u8 0, .int .u8 0, .int .u8 0, .int .u8 0, .int .u8 0, .int .u8 0] : Array Value) = rs at hrr R1
  clear F1
  go_upto_region 2 with (with_reducible refine wpList_store_rowA rfl 102 (.tmp 3) (.tmp 9) rfl w1.heap.size (Array.foldl (fun (cs : Array Value) (x : Value × Nat) => cs.setIfInBounds x.snd x.fst) Tryd.zeroCells102 (stv5 S5.H0).zipIdx 0 (stv5 S5.H0).size) rfl rfl 102 _ (heap_alloc_new w1 _) (by rw [fold137]; exact Tryd.size137) (by rw [fold137]; exact Tryd.z137) (by rw [fold137]; exact hcells_one5 h0_one) ?k)
  case k =>
  intro w2 h2 hG2
  rw [fold137] at h2 ⊢
  have H2 := HIs5.zero h2
  have F12 : Fr (fun _ => False) w1 w2 := ((Fr.refl (fun _ => False) w1).alloc _).trans hG2 (fun i hi => Or.inr (by omega))
  have G2 : Fr (fun _ => False) w w2 := G1.trans F12 (fun _ h => h.elim)
  have R2 := (F12.block _ z1 (fun h => h)).trans R1
  have z2 := H2.lt
  have HP := hPp.grow G2
  generalize (hcells5 (stv5 S5.H0).toList (List.replicate 128 0) 0).toArray = ag
  generalize w1.heap.size = B1 at *
  clear h2 hG2 F12 G1 R1
  go_wp2_with fail
  go_loopw [12] (fun i wr => ∃ k : Nat, k ≤ n ∧ i = .int .i64 k ∧ HIs5 wr B1 (L.take k).flatten ∧ wr.heap[w.heap.size]? = some (.cells rs 74 (0, 0)) ∧ Fr (fun _ => False) w wr) (fun i _ => n - (intOf i).toNat)
  case atStart => exact ⟨0, by omega, by simp, H2, R2, G2⟩
  case round =>
    clear H2 R2 G2 HP
    obtain ⟨k, hk, rfl, hI, hR, hF⟩ := hrel
    have hE1 := hE.fr hF (fun h => h)
    have hz := hE.lt
    by_cases hlt : k < n
    · have hkL : k < L.length := by omega
      obtain ⟨p, hp⟩ : ∃ p, p = L[k]'hkL := ⟨_, rfl⟩
      have e2 : L.take (k + 1) = L.take k ++ [p] := by rw [hp, List.take_succ_eq_append_getElem hkL]
      have e5 : (L.take (k + 1)).flatten = (L.take k).flatten ++ p := by rw [e2, List.flatten_append]; simp
      have hsub : ((L.take k).flatten).length + p.length ≤ 1000000000000 := by
        have e3 : L.flatten = (L.take (k + 1)).flatten ++ (L.drop (k + 1)).flatten := by rw [← List.flatten_append, List.take_append_drop]
        rw [e3, e5, List.length_append, List.length_append] at hl
        omega
      obtain ⟨g, o, ha, hc⟩ := hPp.resolve_left (fun e => by rw [e] at hn; simp at hn; omega)
      obtain ⟨aj, cj, h1, h2, h3, h4⟩ := hc k hkL
      rw [← hp] at h1 h2 h3
      clear hp
      subst ha
      have h1' := hF.cellSome (p := ⟨g, o + k, none⟩) (fun h => h) h1
      have hnb : p = [] ∨ ¬ inBlk aj B1 := by
        by_cases e : p = []
        · exact Or.inl e
        · exact Or.inr fun hb => by have := h2.lt e _ hb; omega
      have q0 : (0 : Int) ≤ (k : Int) := by omega
      have q1 : (k : Int) < (n : Int) := by omega
      have HE5 := Lib.hid e5
      have h2g := h2.grow hF
      generalize (L.take k).flatten = x0 at *
      clear e2 e5 hl
      go_wp2_with fail
      refine (add_any5' B1 x0 p aj cj p.length rfl wr hI h2g h3 h4 hnb (by omega) hE1.tab hE1.lt (by omega)).mono ?_
      rintro e w3 ⟨rfl, hI2, hG3⟩
      have hF2 : Fr (fun _ => False) w w3 := hF.trans hG3 (fun i hi => Or.inr (by omega))
      rw [← HE5.out] at hI2
      have hR2 := (hG3.block _ (lt_of_block hR) (by omega)).trans hR
      have HI2 := Lib.hid hI2
      have HR2 := Lib.hid hR2
      clear hI hR hF hG3 h1 h1' hE1 HE5 hI2 hR2 h2g
      go_wp2
      go_roundw
      case rel => exact ⟨k + 1, by omega, by go_num, HI2.out, HR2.out, hF2⟩
      case measure => simp [intOf]; omega
    · have e1 : L.take k = L := List.take_of_length_le (by omega)
      rw [e1] at hI
      clear e1
      obtain ⟨l, hll⟩ : ∃ l, l = L.flatten := ⟨_, rfl⟩
      rw [← hll] at hI hl
      have HLL := Lib.hid hll
      have ht : decide ((k : Int) < (n : Int)) = false := by simp; omega
      have hcnt : wr.cell? ⟨B1, 136, none⟩ = some (.int .i64 (l.length : Int)) := by
        obtain ⟨tl, hb1⟩ := hI
        exact hb1.hb.count
      have HR := Lib.hid hR
      have hllb : (l.length : Int) ≤ 9223372036854775807 := by omega
      clear hll hR
      go_wp2_with fail
      refine (padding_any5 l.length (by omega) wr).mono ?_
      rintro e w3 ⟨rfl, F3⟩
      have hpl : S5.padLen l.length = 128 - (l.length % 128 + 16) % 128 + 16 := rfl
      have hplen : (S5.pad l.length).length = S5.padLen l.length := by rw [← pf_pad5]; simp
      have hp144 : S5.padLen l.length ≤ 144 := by omega
      have hp0 : (0 : Int) ≤ (S5.padLen l.length : Int) := by omega
      have hp1 : (S5.padLen l.length : Int) ≤ 144 := by omega
      have Hplen := Lib.hid hplen
      clear hpl hplen hcnt ht
      go_wp2_with (with_reducible refine wpList_store_rowA rfl 103 (.tmp 6) (.tmp 23) rfl w3.heap.size (ub 144 (pf5 l.length 8)) rfl rfl 103 _ (heap_alloc_new w3 _) Tryd.size144 (Tryd.z144.trans (ub_size _ _).symm) (ub_one _ _) ?k2)
      case k2 =>
      intro w4 h4 hG4
      have F34 : Fr (fun _ => False) wr w4 := (F3.alloc _).trans hG4 (fun i hi => Or.inr (by have := F3.size; omega))
      have I4 := hI.fr F34 (fun h => h)
      have R4 := (F34.block _ (lt_of_block HR.out) (fun h => h)).trans HR.out
      have G4 : Fr (fun _ => False) w w4 := hF.trans F34 (fun _ h => h.elim)
      have E4 := hE.fr G4 (fun h => h)
      have L4 := pad_lies5 h4
      have zB : B1 < w3.heap.size := Nat.lt_of_lt_of_le hI.lt F3.size
      have HR4 := Lib.hid R4
      clear hG4 F34 hI h4 R4 F3
      go_wp2_with fail
      refine (add_any5' B1 l (S5.pad l.length) _ 144 _ Hplen.out w4 I4 L4 hp144 (by unfold maxLen; omega) (Or.inr (fun ⟨ad, e, hb⟩ => by cases e; simp at hb; omega)) (by omega) E4.tab E4.lt (by omega)).mono ?_
      rintro e w5 ⟨rfl, ⟨tl5, I5⟩, hG5⟩
      have hwords := I5.hb.words
      have R5 := (hG5.block _ (lt_of_block HR4.out) (by omega)).trans HR4.out
      have G5 : Fr (fun _ => False) w w5 := G4.trans hG5 (fun i hi => Or.inr (by omega))
      have HR5 := Lib.hid R5
      clear R5 L4 hG5 I4
      go_wp2_with (with_reducible refine wpList_load_mid rfl 98 (.tmp 28) rfl B1 0 rfl (stv5 (S5.hw (l ++ S5.pad l.length))).toList _ hwords Tryd.underlying98 rfl Tryd.size8L5 ?_)
      refine (joined_any5 _ (S5.hw_ok _) _).mono ?_
      rintro e w6 ⟨rfl, F6⟩
      have R6 := (F6.block _ (lt_of_block HR5.out) (fun h => h)).trans HR5.out
      have G6 : Fr (fun _ => False) w w6 := G5.trans F6 (fun _ h => h.elim)
      have hs2 : rs.size = (sumv5 (S5.hw (l ++ S5.pad l.length))).size := hrr.trans (sumv_size5 _).symm
      have HS2 := Lib.hid hs2
      clear hs2 hwords
      go_wp2_with (with_reducible refine wpList_store_row rfl 74 (.tmp 2) (.tmp 30) rfl w.heap.size (sumv5 (S5.hw (l ++ S5.pad l.length))) rfl rfl 74 rs R6 Tryd.sizeS5 HS2.out (sumv_one5 _) ?_)
      refine bodyPost_ret (results_cell_row rfl _ _ w.heap.size 74 (sumv5 (S5.hw (l ++ S5.pad l.length))) (0, 0) _ rfl (setRow_heap _ _ _ _ _ _ R6) Tryd.underlying74 rfl Tryd.sizeS5) rfl ?_
      exact ⟨by rw [← HLL.out]; rfl, G6.trans (Fr.setRow (S := fun k => k = w.heap.size) (Fr.refl _ _) rfl _) (fun i hi => Or.inr (by omega))⟩
end Go.Proofs.YtbpblheaiancaaaDoor
namespace Go.Proofs.YtbpblheaiancaaaDoor
open Go.RowKit
set_option linter.unusedVariables false

set_option maxRecDepth 100000 in
theorem sumc_get5 (l : List UInt8) (j : Nat) (hj : j < 64) : (sumc5 l)[j]? = some (.int .u8 (((S5.sum l).getD j 0).toNat : Int)) := ub_get 64 _ j hj
theorem Tryd.sizeC5 {l : List UInt8} : (Tryd.prog.info? 74).map (·.size) = some (sumc5 l).size := Tryd.sizeS5
end Go.Proofs.YtbpblheaiancaaaDoor
namespace Go.Proofs.YtbpblheaiancaaaDoor
open Go.ChangeShapes Go.WideShapes Go.ChangeAt Go.RowKit
set_option linter.unusedVariables false

set_option maxRecDepth 100000 in
theorem words_tab5 {H : Type} : (Rows.laid_custumal_sha5_roundWords : DataW H) = Lib.tabData .u64 ((List.range 80).map fun j => (S5.K j : Int)) := by rfl
theorem name_words5 : Tryd.prog.globalNamed "custumal/sha5.roundWords" = some 3 := by kernel_rfl
theorem type_words5 : (Tryd.prog.globals[3]?).map (·.type) = some 125 := by kernel_rfl
set_option maxRecDepth 100000 in
theorem env5_of {W : World} {l : List (String × DataW Unit)} (hp : (l.all fun x => x.2.handleName?.isNone) = true) (h : laidMetH Tryd.prog l W) (hm : ("custumal/sha5.roundWords", Rows.laid_custumal_sha5_roundWords) ∈ l) : Env5 W := by
  rw [MakeChecks.laidMetH_plain _ _ _ hp] at h
  obtain ⟨g, t, cs, fuel, p, hg, ht, hv, hd⟩ := Lib.laidMet.reads h hm
  obtain rfl := Option.some.inj (name_words5.symm.trans hg)
  obtain rfl := Option.some.inj (type_words5.symm.trans ht)
  rw [words_tab5] at hd
  have hcs := Lib.cells_of_tab Tryd.underlying125 Tryd.underlying55 (by kernel_rfl) (by kernel_rfl) hd
  have hcell : ∀ j, W.cell? ⟨3, j, none⟩ = cs.toList[j]? := fun j => by
    rw [World.var?_cell name_words5 hv j, Array.getElem?_toList]
  have htab : Tab5 W := fun j hj => by
    rw [hcell j, hcs, List.map_map, List.getElem?_map, List.getElem?_range hj]
    rfl
  refine ⟨htab, ?_⟩
  have h0 := htab 0 (by decide)
  simp only [World.cell?] at h0
  cases hb : W.heap[3]? with
  | none => rw [hb] at h0; simp at h0
  | some b => exact (Array.getElem?_eq_some_iff.1 hb).1
end Go.Proofs.YtbpblheaiancaaaDoor
namespace Go.Proofs.YtbpblheaiancaaaDoor
open Go.RowKit
set_option linter.unusedVariables false

theorem neq_sumc (x y : List UInt8) (w : World) : (binOp .neq 22 (.agg (sumc x)) (.agg (sumc y))).run Tryd.prog w = .ok (.bool (!(S2.sum x == S2.sum y))) w := by
  have h := eql_sumc x y w
  rw [run_eql_struct] at h
  rw [run_neq_struct]
  revert h
  cases (Op.equalIn 10000 22 (.agg (sumc x)) (.agg (sumc y))).run Tryd.prog w with
  | ok b w2 =>
    intro h
    simp only [Result.andThen_ok] at h ⊢
    injection h with h1 h2
    injection h1 with h1
    rw [h1, h2]
  | halt a b => intro h; simp [Result.andThen] at h
set_option maxRecDepth 100000 in
set_option maxHeartbeats 400000 in
theorem write_nil (v : Value) (w : World) : Calls Tryd.prog 57 #[.pointer none, v] w fun e w' => e = .returned (.tuple #[]) ∧ w' = w := by
  go_enter Tryd.func57, Tryd.ntmps57
  go_wp2
  exact bodyPost_ret (results_none rfl _ _ _) rfl ⟨rfl, rfl⟩
set_option maxRecDepth 100000 in
set_option maxHeartbeats 1600000 in
theorem hsum_nil (w : World) (hE : Env w) :
    Calls Tryd.prog 58 #[.pointer none] w fun e w' => e = .returned (.agg (sumc [])) ∧ Fr (fun _ => False) w w' := by
  obtain ⟨l, hl0⟩ : ∃ l : List UInt8, l = [] := ⟨_, rfl⟩
  have hl : l.length ≤ 1152921504606846976 := by rw [hl0]; simp
  have L0 := Lib.hid hl0
  go_enter Tryd.func58, Tryd.ntmps58
  go_wp2_with fail
  generalize hw1 : World.alloc (World.alloc w _) _ = w1
  have hF1 : Fr (fun _ => False) w w1 := by rw [← hw1]; exact ((Fr.refl (fun _ => False) w).alloc _).alloc _
  have hr1 : ∃ rs, w1.heap[w.heap.size]? = some (.cells rs 22 (0, 0)) ∧ rs.size = 32 := ⟨_, by rw [← hw1]; exact heap_alloc2_old w _ _, rfl⟩
  have hh1 : HIs w1 (w.heap.size + 1) l := by rw [← hw1, hl0]; exact HIs.zero (heap_alloc2_new w _ _)
  have hE1 := hE.fr hF1 (fun h => h)
  have hz1 : w.heap.size + 1 < w1.heap.size := hh1.lt
  clear hw1 hl0
  have hcnt : w1.cell? ⟨w.heap.size + 1, 72, none⟩ = some (.int .i64 (l.length : Int)) := by
    obtain ⟨_, _, hb1, _⟩ := hh1.cells
    exact hb1.count
  have hcz : ((l.length : Nat) : Int) = 0 := by rw [L0.out]; rfl
  have hpad := padding_any l.length hl w1
  rw [hcz] at hpad
  have HC := Lib.hid hcz
  clear hcz
  refine hpad.mono ?_
  clear hpad
  rintro e w2 ⟨rfl, F2⟩
  go_wp2_with (with_reducible refine wpList_store_rowA rfl 115 (.tmp 4) (.tmp 15) rfl w2.heap.size (ub 72 (pf l.length 8)) rfl rfl 115 _ (heap_alloc_new w2 _) Tryd.size72 (Tryd.z72.trans (ub_size _ _).symm) (ub_one _ _) ?k2)
  case k2 =>
  intro w3 hp3 hG3
  have hG : Fr (fun k => k = w2.heap.size) w1 w3 := ((F2.mono (T := fun k => k = w2.heap.size) (fun _ _ h => h.elim)).alloc _).trans hG3 (fun i hi => Or.inl hi)
  have hF3 : Fr (fun _ => False) w w3 := hF1.trans hG (fun i hi => Or.inr (by have := hF1.size; have := F2.size; omega))
  have hh3 : HIs w3 (w.heap.size + 1) l := hh1.fr hG (by have := F2.size; omega)
  have hE3 := hE.fr hF3 (fun h => h)
  have hlies := pad_lies hp3
  have hplen : (S2.pad l.length).length = S2.padLen l.length := by rw [← pf_pad]; simp
  have hpl : S2.padLen l.length = 64 - (l.length % 64 + 8) % 64 + 8 := rfl
  have hp72 : S2.padLen l.length ≤ 72 := by omega
  have hp0 : (0 : Int) ≤ (S2.padLen l.length : Int) := by omega
  have hp1 : (S2.padLen l.length : Int) ≤ 72 := by omega
  have hne : S2.pad l.length ≠ [] := by intro e; rw [e] at hplen; simp at hplen; omega
  clear hpl hG3
  have Hplen := Lib.hid hplen
  clear hplen
  go_wp2_with fail
  refine (write_any' (w.heap.size + 1) l (S2.pad l.length) _ 72 _ Hplen.out w3 hh3 hlies hp72 (by unfold maxLen; omega) (Or.inr (fun ⟨ad, e, hb⟩ => by cases e; simp at hb; have := F2.size; omega)) (by have := Hplen.out; omega) hE3.tab hE3.lt (by have := hE.lt; omega)).mono ?_
  rintro e w4 ⟨rfl, hh4, hG4⟩
  obtain ⟨wl4, tl4, hb4, hi4⟩ := hh4.cells
  have hI4 := hi4 (by simp [hne])
  have hwords := hI4.hb.words
  go_wp2_with (with_reducible refine wpList_load_mid rfl 91 (.tmp 20) rfl (w.heap.size + 1) 0 rfl (stv (S2.hw (l ++ S2.pad l.length))).toList _ hwords Tryd.underlying91 rfl Tryd.size8L ?_)
  refine (joined_any _ (S2.hw_ok _) _).mono ?_
  rintro e w5 ⟨rfl, F5⟩
  have hF4 : Fr (fun _ => False) w w4 := hF3.trans hG4 (fun i hi => Or.inr (by omega))
  have hF5 : Fr (fun _ => False) w w5 := hF4.trans F5 (fun _ h => h.elim)
  have hr5 : ∃ rs, w5.heap[w.heap.size]? = some (.cells rs 22 (0, 0)) ∧ rs.size = 32 := by
    obtain ⟨rs, h1, h2⟩ := hr1
    have hz := lt_of_block h1
    refine ⟨rs, ?_, h2⟩
    rw [F5.block _ (by have := hG4.size; have := hF3.size; have := hh3.lt; omega) (fun h => h), hG4.block _ (by have := hh3.lt; omega) (by omega), hG.block _ (by omega) (by have := F2.size; omega), h1]
  obtain ⟨rs, hr5, hrs⟩ := hr5
  go_wp2_with (with_reducible refine wpList_store_row rfl 22 (.tmp 2) (.tmp 22) rfl w.heap.size (sumv (S2.hw (l ++ S2.pad l.length))) rfl rfl 22 rs hr5 Tryd.sizeS (hrs.trans (sumv_size _).symm) (sumv_one _) ?_)
  refine bodyPost_ret (results_cell_row rfl _ _ w.heap.size 22 (sumv (S2.hw (l ++ S2.pad l.length))) (0, 0) _ rfl (setRow_heap _ _ _ _ _ _ hr5) Tryd.underlying22 rfl Tryd.sizeS) rfl ?_
  rw [← L0.out]
  exact ⟨rfl, hF5.trans (Fr.setRow (S := fun k => k = w.heap.size) (Fr.refl _ _) rfl _) (fun i hi => Or.inr (by omega))⟩
end Go.Proofs.YtbpblheaiancaaaDoor
namespace Go.Proofs.YtbpblheaiancaaaDoor
open Go.RowKit
set_option linter.unusedVariables false

set_option maxRecDepth 100000 in
theorem lit87 (f : Nat → Value) : ((List.range 87).map f).toArray = #[f 0, f 1, f 2, f 3, f 4, f 5, f 6, f 7, f 8, f 9, f 10, f 11, f 12, f 13, f 14, f 15, f 16, f 17, f 18, f 19, f 20, f 21, f 22, f 23, f 24, f 25, f 26, f 27, f 28, f 29, f 30, f 31, f 32, f 33, f 34, f 35, f 36, f 37, f 38, f 39, f 40, f 41, f 42, f 43, f 44, f 45, f 46, f 47, f 48, f 49, f 50, f 51, f 52, f 53, f 54, f 55, f 56, f 57, f 58, f 59, f 60, f 61, f 62, f 63, f 64, f 65, f 66, f 67, f 68, f 69, f 70, f 71, f 72, f 73, f 74, f 75, f 76, f 77, f 78, f 79, f 80, f 81, f 82, f 83, f 84, f 85, f 86] := by kernel_rfl

theorem Own.set {w : World} {B c g : Nat} {l : List UInt8} (h : Own w B (.slice (some ⟨g, 0, none⟩) l.length c) l) (i : Nat) (hi : i < l.length) (b : UInt8) :
    Own (w.setCell ⟨g, i, none⟩ (.int .u8 (b.toNat : Int))) B (.slice (some ⟨g, 0, none⟩) l.length c) (l.set i b) ∧ w.cell? ⟨g, i, none⟩ = some (.int .u8 (l[i].toNat : Int)) ∧ w.frozen? ⟨g, i, none⟩ = false := by
  have hL := h.lies.2.2.2
  rcases h with ⟨e, rfl⟩ | ⟨g2, cap, cur, fz, e, h1, h2, h3, h4, h5, h6, h7⟩
  · simp at hi
  · obtain ⟨rfl, rfl⟩ : g = g2 ∧ c = cap := by injection e with e1 e2 e3; injection e1 with e1; injection e1 with e1 e4; exact ⟨e1, e3⟩
    refine ⟨Or.inr ⟨g, c, _, fz, by rw [List.length_set], h1, block_setCellF h2 i _, ?_, by rw [List.length_set]; exact h4, h5, by simpa using h6, ?_⟩, ?_, ?_⟩
    · rcases h3 with h3 | h3
      · exact Or.inl h3
      · exact Or.inr (by simpa using h3)
    · rw [List.length_set]
      have : (cur.setIfInBounds i (.int .u8 (b.toNat : Int))).toList = cur.toList.set i (.int .u8 (b.toNat : Int)) := by simp
      rw [this, List.take_set, h7]
      simp [bv, List.map_set]
    · rcases hL with e | ⟨g3, off, e, hc⟩
      · rw [e] at hi; simp at hi
      · injection e with e; injection e with e1 e2
        subst e1; subst e2
        have := hc i hi
        rwa [Nat.zero_add] at this
    · rcases h3 with e | e
      · subst e; simp [World.frozen?, h2]
      · simp [World.frozen?, h2]; omega
/-- A byte of a part is written. -/
theorem FewR.set {w : World} {B k n g : Nat} {v : Value} {A : Nat → Option Addr} {C : Nat → Nat} {L : List (List UInt8)} (h : FewR w B v A C L n) (hL : L.length = n) (hk : k < n) (hA : A k = some ⟨g, 0, none⟩) (i : Nat) (hi : i < (L.getD k []).length) (b : UInt8) :
    FewR (w.setCell ⟨g, i, none⟩ (.int .u8 (b.toNat : Int))) B v A C (L.set k ((L.getD k []).set i b)) n := by
  have hlen : ∀ j, ((L.set k ((L.getD k []).set i b)).getD j []).length = (L.getD j []).length := by
    intro j
    simp only [List.getD_eq_getElem?_getD, List.getElem?_set]
    by_cases e : k = j
    · subst e; simp [hL, hk]
    · simp [e]
  have hoth : ∀ j, j ≠ k → (L.set k ((L.getD k []).set i b)).getD j [] = L.getD j [] := by
    intro j hj
    simp only [List.getD_eq_getElem?_getD, List.getElem?_set]
    rw [if_neg (fun e => hj e.symm)]
  have hself : (L.set k ((L.getD k []).set i b)).getD k [] = (L.getD k []).set i b := by
    rw [List.getD_eq_getElem?_getD, List.getElem?_set]; simp [hL, hk]
  have hsl : sls A C (L.set k ((L.getD k []).set i b)) n = sls A C L n := by
    unfold sls
    apply List.map_congr_left
    intro j _
    rw [hlen j]
  have hob : ob (A k) = some g := by rw [hA]; rfl
  have hF : Fr (fun x => x = g) w (w.setCell ⟨g, i, none⟩ (.int .u8 (b.toNat : Int))) := (Fr.refl (fun x => x = g) w).setCell (Or.inl rfl) _
  refine ⟨?_, ?_, h.off, h.apart⟩
  · rw [hsl]
    exact hF.own h.row (fun x hx e => h.off k hk g hob (by rw [← e]; exact hx))
  · intro j hj
    rw [hlen j]
    by_cases e : j = k
    · subst e
      rw [hself]
      have hp := h.part j hk
      rw [hA] at hp ⊢
      exact (hp.set i hi b).1
    · rw [hoth j e]
      refine (h.part j hj).fr hF (fun x hx e2 => ?_)
      rw [ob_own] at hx
      subst e2
      rcases Nat.lt_or_ge j k with h2 | h2
      · exact h.apart j k h2 hk x hx hob
      · exact h.apart k j (by omega) hj x hob hx
/-- The cell of the row of slices. -/
theorem FewR.slot {w : World} {B k n : Nat} {a : Option Addr} {c : Nat} {A : Nat → Option Addr} {C : Nat → Nat} {L : List (List UInt8)} (h : FewR w B (.slice a n c) A C L n) (hk : k < n) : ∃ g, a = some ⟨g, 0, none⟩ ∧ w.cell? ⟨g, k, none⟩ = some (.slice (A k) (L.getD k []).length (C k)) := by
  rcases h.row.2 with ⟨_, h0⟩ | ⟨g, cap, cur, e, _, hg, hc, hm, _, ht⟩
  · omega
  · injection e with e1 e2 e3
    subst e1
    refine ⟨g, rfl, ?_⟩
    rw [cell_of_block hg, ← Array.getElem?_toList]
    have : (cur.toList.take (n * 1))[k]? = (sls A C L n)[k]? := by rw [ht]
    rw [List.getElem?_take, if_pos (by omega)] at this
    rw [this]
    unfold sls
    rw [List.getElem?_map, List.getElem?_range hk]; rfl
theorem xor33 (x : UInt8) : bits .xor .u8 (x.toNat : Int) 51 = ((x ^^^ 51).toNat : Int) := by
  have h1 := x.toNat_lt
  have x3 : x.toNat ^^^ 51 < 2 ^ 8 := Nat.xor_lt_two_pow (by omega) (by omega)
  have e1 : (BitVec.ofInt 8 (x.toNat : Int)).toNat = x.toNat := by
    rw [BitVec.ofInt_natCast, BitVec.toNat_ofNat]; exact Nat.mod_eq_of_lt (by omega)
  show IntKind.u8.wrap ((BitVec.ofInt 8 (x.toNat : Int) ^^^ BitVec.ofInt 8 51).toNat : Int) = _
  rw [BitVec.toNat_xor, e1, show (BitVec.ofInt 8 51).toNat = 51 from rfl, UInt8.toNat_xor, IntKind.wrap_u8, show (51 : UInt8).toNat = 51 from rfl]
  omega

/-- The frame's pins through the inner loop. -/
structure GPin (t : Array Value) (bh : Nat) (a : Option Addr) (n c k : Nat) (s : List UInt8) : Prop where
  sz : t.size = 87
  p4 : t[4]? = some (.pointer (some ⟨bh, 0, none⟩))
  p5 : t[5]? = some (.string ⟨s.toArray⟩)
  p6 : t[6]? = some (.slice a n c)
  p7 : t[7]? = some (.int .i64 (k : Int))
set_option maxRecDepth 100000 in
theorem GPin.open {t : Array Value} {bh : Nat} {a : Option Addr} {n c k : Nat} {s : List UInt8} (h : GPin t bh a n c k s) : ∃ f : Nat → Value, (∀ i v, t[i]? = some v → f i = v) ∧ t = #[f 0, f 1, f 2, f 3, .pointer (some ⟨bh, 0, none⟩), .string ⟨s.toArray⟩, .slice a n c, .int .i64 (k : Int), f 8, f 9, f 10, f 11, f 12, f 13, f 14, f 15, f 16, f 17, f 18, f 19, f 20, f 21, f 22, f 23, f 24, f 25, f 26, f 27, f 28, f 29, f 30, f 31, f 32, f 33, f 34, f 35, f 36, f 37, f 38, f 39, f 40, f 41, f 42, f 43, f 44, f 45, f 46, f 47, f 48, f 49, f 50, f 51, f 52, f 53, f 54, f 55, f 56, f 57, f 58, f 59, f 60, f 61, f 62, f 63, f 64, f 65, f 66, f 67, f 68, f 69, f 70, f 71, f 72, f 73, f 74, f 75, f 76, f 77, f 78, f 79, f 80, f 81, f 82, f 83, f 84, f 85, f 86] := by
  obtain ⟨f, hf, ht⟩ := frame_open h.sz
  rw [lit87] at ht
  refine ⟨f, hf, ?_⟩
  rw [ht, hf 4 _ h.p4, hf 5 _ h.p5, hf 6 _ h.p6, hf 7 _ h.p7]

theorem FewR.fr {w w2 : World} {B n : Nat} {v : Value} {A : Nat → Option Addr} {C : Nat → Nat} {L : List (List UInt8)} {S : Nat → Prop} (h : FewR w B v A C L n) (hF : Fr S w w2) (hS : ∀ x, B ≤ x → ¬ S x) : FewR w2 B v A C L n :=
  ⟨hF.own h.row (fun x hx => hS x (ownsRow_lt h.row x hx).1), fun j hj => (h.part j hj).fr hF (fun x hx => hS x ((h.part j hj).lt x hx).1), h.off, h.apart⟩
theorem take_flat (X : List (List UInt8)) (k : Nat) : (X.take k).flatten.length ≤ X.flatten.length := by
  conv => rhs; rw [← List.take_append_drop k X]
  rw [List.flatten_append, List.length_append]; omega
theorem flat_succ (X : List (List UInt8)) (k : Nat) (hk : k < X.length) : (X.take (k + 1)).flatten = (X.take k).flatten ++ X.getD k [] := by
  rw [List.take_succ_eq_append_getElem hk, List.flatten_append, List.getD_eq_getElem?_getD, List.getElem?_eq_getElem hk]; simp

end Go.Proofs.YtbpblheaiancaaaDoor
namespace Go.Proofs.YtbpblheaiancaaaDoor
open Go.RowKit
set_option linter.unusedVariables false

end Go.Proofs.YtbpblheaiancaaaDoor
namespace Go.Proofs.YtbpblheaiancaaaDoor
open Go.RowKit
set_option linter.unusedVariables false

set_option maxRecDepth 100000 in
/-- The string of one byte, built in a block of its own. -/
theorem str_one (W : World) (y : UInt8) (b : Nat) (c : Nat) {t : TypeId} {fr : Nat × Nat} (h : W.heap[b]? = some (.cells #[.int .u8 (y.toNat : Int)] t fr)) : (convert 23 9 (.slice (some ⟨b, 0, none⟩) 1 c)).run Tryd.prog W = .ok (.string ⟨#[y]⟩) W := by
  have hL : Lies W (some ⟨b, 0, none⟩) [y] := Or.inr ⟨b, 0, rfl, fun j hj => by
    match j, hj with
    | 0, _ => rw [cell_of_block h]; rfl⟩
  exact run_str hL c 9 Tryd.underlying9
set_option maxRecDepth 100000 in
theorem xor_byte (x y : UInt8) : bits .xor .u8 (x.toNat : Int) (y.toNat : Int) = ((x ^^^ y).toNat : Int) := by
  have h1 := x.toNat_lt
  have h2 := y.toNat_lt
  have x3 : x.toNat ^^^ y.toNat < 2 ^ 8 := Nat.xor_lt_two_pow (by omega) (by omega)
  have e1 : (BitVec.ofInt 8 (x.toNat : Int)).toNat = x.toNat := by
    rw [BitVec.ofInt_natCast, BitVec.toNat_ofNat]; exact Nat.mod_eq_of_lt (by omega)
  have e2 : (BitVec.ofInt 8 (y.toNat : Int)).toNat = y.toNat := by
    rw [BitVec.ofInt_natCast, BitVec.toNat_ofNat]; exact Nat.mod_eq_of_lt (by omega)
  show IntKind.u8.wrap ((BitVec.ofInt 8 (x.toNat : Int) ^^^ BitVec.ofInt 8 (y.toNat : Int)).toNat : Int) = _
  rw [BitVec.toNat_xor, e1, e2, UInt8.toNat_xor, IntKind.wrap_u8]
  omega
set_option maxRecDepth 100000 in
theorem xor_take (f : Nat → UInt8) (b : UInt8) (j : Nat) (hj : j < 64) : (HM.xor f b).take (j + 1) = (HM.xor f b).take j ++ [f j ^^^ b] := by
  rw [List.take_succ_eq_append_getElem (by rw [HM.xor_length]; omega)]
  simp [HM.xor]
set_option maxRecDepth 100000 in
theorem lit44 (f : Nat → Value) : ((List.range 44).map f).toArray = #[f 0, f 1, f 2, f 3, f 4, f 5, f 6, f 7, f 8, f 9, f 10, f 11, f 12, f 13, f 14, f 15, f 16, f 17, f 18, f 19, f 20, f 21, f 22, f 23, f 24, f 25, f 26, f 27, f 28, f 29, f 30, f 31, f 32, f 33, f 34, f 35, f 36, f 37, f 38, f 39, f 40, f 41, f 42, f 43] := by kernel_rfl
theorem byte_at (kk : List UInt8) (i : Nat) (h : i < kk.length) (h2 : i < (⟨kk.toArray⟩ : ByteArray).size) : (⟨kk.toArray⟩ : ByteArray)[i] = kk.getD i 0 := by
  rw [List.getD_eq_getElem?_getD, List.getElem?_eq_getElem h]
  show kk.toArray[i] = _
  simp
set_option maxRecDepth 100000 in
theorem conv1 (y : UInt8) (v : Int) (hv : v = (y.toNat : Int)) (W : World) : (convert 23 9 (.slice (some ⟨W.heap.size, 0, none⟩) 1 1)).run Tryd.prog (W.alloc (.cells #[.int .u8 v] 5)).drew = .ok (.string ⟨#[y]⟩) (W.alloc (.cells #[.int .u8 v] 5)).drew :=
  str_one _ y _ 1 (by rw [hv]; exact heap_alloc_new W _)
theorem conv2 (y : UInt8) (v : Int) (hv : v = (y.toNat : Int)) (W : World) (A : Obj) : (convert 23 9 (.slice (some ⟨W.heap.size + 1, 0, none⟩) 1 1)).run Tryd.prog ((W.alloc A).alloc (.cells #[.int .u8 v] 5)).drew = .ok (.string ⟨#[y]⟩) ((W.alloc A).alloc (.cells #[.int .u8 v] 5)).drew :=
  str_one _ y _ 1 (by rw [hv]; exact heap_alloc2_new W _ _)
set_option maxRecDepth 100000 in
theorem conv3 (y : UInt8) (v : Int) (hv : v = (y.toNat : Int)) (W : World) (A : Obj) : (convert 23 9 (.slice (some ⟨W.heap.size, 0, none⟩) 1 1)).run Tryd.prog ((W.alloc (.cells #[.int .u8 v] 5)).alloc A).drew = .ok (.string ⟨#[y]⟩) ((W.alloc (.cells #[.int .u8 v] 5)).alloc A).drew :=
  str_one _ y _ 1 (by rw [hv]; exact heap_alloc2_old W _ _)
set_option maxRecDepth 100000 in
set_option maxHeartbeats 1600000 in
theorem rof_loop {Q : Exit → Act → World → Prop} (kk m : List UInt8) (hk : kk.length ≤ 64) (h : Nat → UInt8) (hh : ∀ j, h j = kk.getD j 0) (w : World) (t : Array Value) (hn : t.size = 44) (p0 : t[0]? = some (.string ⟨kk.toArray⟩)) (p1 : t[1]? = some (.string ⟨m.toArray⟩)) (p5 : t[5]? = some (.string ⟨#[]⟩)) (p6 : t[6]? = some (.string ⟨#[]⟩)) (p7 : t[7]? = some (.int .i64 0))
    (hexit : ∀ t' w', t'.size = 44 → t'[1]? = some (.string ⟨m.toArray⟩) → t'[5]? = some (.string ⟨(HM.xor h 0x36).toArray⟩) → t'[6]? = some (.string ⟨(HM.xor h 0x5c).toArray⟩) → Fr (fun _ => False) w w' → Q (.exit 0) ⟨t', []⟩ w') :
    Code.wp Tryd.prog (.loop (loopAt Tryd.f47 0)) Q ⟨t, []⟩ w := by
  refine wp_loop_up 64 (fun i t w' => t.size = 44 ∧ t[0]? = some (.string ⟨kk.toArray⟩) ∧ t[1]? = some (.string ⟨m.toArray⟩) ∧ t[5]? = some (.string ⟨((HM.xor h 0x36).take i).toArray⟩) ∧ t[6]? = some (.string ⟨((HM.xor h 0x5c).take i).toArray⟩) ∧ t[7]? = some (.int .i64 (i : Int)) ∧ Fr (fun _ => False) w w') t w ⟨hn, p0, p1, p5, p6, p7, Fr.refl _ _⟩ ?_
  clear hn p0 p1 p5 p6 p7 t
  rintro i t wr hi ⟨hn, p0, p1, p5, p6, p7, hF⟩ K hK
  obtain ⟨f, hff, rfl⟩ := frame_open hn
  have e0 := hff 0 _ p0
  have e1 := hff 1 _ p1
  have e5 := hff 5 _ p5
  have e6 := hff 6 _ p6
  have e7 := hff 7 _ p7
  clear hff hn p0 p1 p5 p6 p7
  rw [lit44, e0, e1, e5, e6, e7]
  clear e0 e1 e5 e6 e7
  conv => arg 2; whnf
  have q0 : (0 : Int) ≤ (i : Int) := by omega
  by_cases hlt : i < 64
  · have q1 : (i : Int) < 64 := by omega
    have t1 := xor_take h 0x36 i hlt
    have t2 := xor_take h 0x5c i hlt
    have l1 : ((HM.xor h 0x36).take i).length = i := by rw [List.length_take, HM.xor_length]; omega
    have l2 : ((HM.xor h 0x5c).take i).length = i := by rw [List.length_take, HM.xor_length]; omega
    have x1 : bits .xor .u8 ((h i).toNat : Int) 54 = ((h i ^^^ 0x36).toNat : Int) := xor_byte (h i) 0x36
    have x2 : bits .xor .u8 ((h i).toNat : Int) 92 = ((h i ^^^ 0x5c).toNat : Int) := xor_byte (h i) 0x5c

    generalize hy1 : h i ^^^ 0x36 = y1 at *
    generalize hy2 : h i ^^^ 0x5c = y2 at *
    generalize hz1 : (HM.xor h 0x36).take i = z1 at *
    generalize hz2 : (HM.xor h 0x5c).take i = z2 at *
    have c1 : ∀ W : World, (Op.stringOp .add ⟨z1.toArray⟩ ⟨#[y1]⟩).run Tryd.prog W = .ok (.string ⟨(z1 ++ [y1]).toArray⟩) W := fun W => run_string_add_lists W z1 [y1] (by omega) (by simp)
    have c2 : ∀ W : World, (Op.stringOp .add ⟨z2.toArray⟩ ⟨#[y2]⟩).run Tryd.prog W = .ok (.string ⟨(z2 ++ [y2]).toArray⟩) W := fun W => run_string_add_lists W z2 [y2] (by omega) (by simp)
    have HK := Lib.hid hK
    have T1 := Lib.hid t1
    have T2 := Lib.hid t2
    clear hK t1 t2 hexit
    by_cases hik : i < kk.length
    · as_aux_lemma =>
      have hg : (⟨kk.toArray⟩ : ByteArray)[i]'(by show i < kk.toArray.size; simpa using hik) = h i := by rw [hh]; exact byte_at kk i hik _
      have v1 : bits .xor .u8 (((h i).toNat : Nat) : Int) 54 = (y1.toNat : Int) := x1
      have v2 : bits .xor .u8 (((h i).toNat : Nat) : Int) 92 = (y2.toNat : Int) := x2
      have k1 := conv1 y1 _ v1
      have k2 := conv2 y1 _ v1
      have k3 := conv3 y1 _ v1
      have k4 := conv1 y2 _ v2
      have k5 := conv2 y2 _ v2
      have k6 := conv3 y2 _ v2
      clear v1 v2 x1 x2 hy1 hy2
      have HG := Lib.hid hg
      clear hg hh
      go_wp2_with fail
      rw [HG.out]
      go_region
      all_goals
        go_wp2_with fail
        first
        | exact HK.out _ _ hlt ⟨rfl, rfl, rfl, by rw [T1.out]; rfl, by rw [T2.out]; rfl, rfl, (hF.alloc _).alloc _⟩
        | exact HK.out _ _ hlt ⟨rfl, rfl, rfl, by rw [T1.out]; rfl, by rw [T2.out]; rfl, rfl, ((hF.alloc _).alloc _).drew⟩
    · as_aux_lemma =>
      have h0 : h i = 0 := by rw [hh, List.getD_eq_getElem?_getD, List.getElem?_eq_none (by omega)]; rfl
      have v1 : bits .xor .u8 0 54 = (y1.toNat : Int) := by rw [← x1, h0]; rfl
      have v2 : bits .xor .u8 0 92 = (y2.toNat : Int) := by rw [← x2, h0]; rfl
      have k1 := conv1 y1 _ v1
      have k2 := conv2 y1 _ v1
      have k3 := conv3 y1 _ v1
      have k4 := conv1 y2 _ v2
      have k5 := conv2 y2 _ v2
      have k6 := conv3 y2 _ v2
      clear h0 v1 v2 x1 x2 hy1 hy2
      go_wp2_with fail
      go_region
      all_goals
        go_wp2_with fail
        first
        | exact HK.out _ _ hlt ⟨rfl, rfl, rfl, by rw [T1.out]; rfl, by rw [T2.out]; rfl, rfl, (hF.alloc _).alloc _⟩
        | exact HK.out _ _ hlt ⟨rfl, rfl, rfl, by rw [T1.out]; rfl, by rw [T2.out]; rfl, rfl, ((hF.alloc _).alloc _).drew⟩
  · obtain rfl : i = 64 := by omega
    have e1 : (HM.xor h 0x36).take 64 = HM.xor h 0x36 := List.take_of_length_le (by rw [HM.xor_length]; omega)
    have e2 : (HM.xor h 0x5c).take 64 = HM.xor h 0x5c := List.take_of_length_le (by rw [HM.xor_length]; omega)
    rw [e1, e2]
    clear e1 e2
    have HE := Lib.hid hexit
    clear hexit
    go_wp2_with fail
    exact HE.out _ _ rfl rfl rfl rfl hF
end Go.Proofs.YtbpblheaiancaaaDoor
namespace Go.Proofs.YtbpblheaiancaaaDoor
open Go.RowKit
set_option linter.unusedVariables false

set_option maxRecDepth 100000 in
set_option maxHeartbeats 1600000 in
theorem rof_any (k m : List UInt8) (hk : k.length ≤ 100000) (hm : m.length ≤ 100000) (w : World) (hR : REnv w) :
    Calls Tryd.prog 47 #[.string ⟨k.toArray⟩, .string ⟨m.toArray⟩] w fun e w' => e = .returned (.string ⟨(HM.of k m).toArray⟩) ∧ Fr (fun _ => False) w w' := by
  have hfl := HM.fill_le k
  have hb : ∀ j, HM.blk k j = (HM.fill k).getD j 0 := fun _ => rfl
  have hk3 : k.length ≤ 9223372036854775807 := by omega
  have hcase : (64 < k.length ∧ HM.fill k = S2.sum k) ∨ (¬ 64 < k.length ∧ HM.fill k = k) := by
    unfold HM.fill
    by_cases h : 64 < k.length
    · exact Or.inl ⟨h, if_pos h⟩
    · exact Or.inr ⟨h, if_neg h⟩
  have hof : HM.of k m = S2.sum (HM.xor (HM.blk k) 0x5c ++ S2.sum (HM.xor (HM.blk k) 0x36 ++ m)) := rfl
  have HO := Lib.hid hof
  have HB := Lib.hid hb
  have hks : (⟨k.toArray⟩ : ByteArray).size ≤ 1000000000000 := by show k.toArray.size ≤ _; simp; omega
  have SK := Lib.hid (show sb ⟨k.toArray⟩ = k by simp [sb])
  clear hof hb
  go_enter Tryd.func47, Tryd.ntmps47
  rcases hcase with ⟨hc, he⟩ | ⟨hc, he⟩
  · have HE := Lib.hid he
    clear he
    go_wp2_with fail
    refine (rsum_any ⟨k.toArray⟩ hks w hR).mono ?_
    rw [SK.out, ← HE.out]
    rintro e w1 ⟨rfl, F1⟩
    clear HE
    go_wp2_with fail
    refine rof_loop (HM.fill k) m hfl (HM.blk k) HB.out w1 _ rfl rfl rfl rfl rfl rfl ?_
    intro t2 w2 hn2 p1 p5 p6 F2
    obtain ⟨f, hff, rfl⟩ := frame_open hn2
    have e1 := hff 1 _ p1
    have e5 := hff 5 _ p5
    have e6 := hff 6 _ p6
    clear hff hn2 p1 p5 p6
    rw [lit44, e1, e5, e6]
    clear e1 e5 e6
    have G2 : Fr (fun _ => False) w w2 := F1.trans F2 (fun _ h => h.elim)
    have l1 : (HM.xor (HM.blk k) 0x36).length = 64 := HM.xor_length _ _
    have l2 : (HM.xor (HM.blk k) 0x5c).length = 64 := HM.xor_length _ _
    generalize HM.xor (HM.blk k) 0x36 = X1 at *
    generalize HM.xor (HM.blk k) 0x5c = X2 at *
    obtain ⟨u, hu⟩ : ∃ u, u = X1 ++ m := ⟨_, rfl⟩
    have hul : u.length = 64 + m.length := by rw [hu, List.length_append, l1]
    obtain ⟨v, hv⟩ : ∃ v, v = S2.sum u := ⟨_, rfl⟩
    have hvl : v.length = 32 := by rw [hv]; rfl
    obtain ⟨z, hz⟩ : ∃ z, z = X2 ++ v := ⟨_, rfl⟩
    have hzl : z.length = 96 := by rw [hz, List.length_append, l2, hvl]
    have c1 : ∀ W : World, (Op.stringOp .add ⟨X1.toArray⟩ ⟨m.toArray⟩).run Tryd.prog W = .ok (.string ⟨u.toArray⟩) W := fun W => by rw [hu]; exact run_string_add_lists W X1 m (by omega) (by omega)
    have c2 : ∀ W : World, (Op.stringOp .add ⟨X2.toArray⟩ ⟨v.toArray⟩).run Tryd.prog W = .ok (.string ⟨z.toArray⟩) W := fun W => by rw [hz]; exact run_string_add_lists W X2 v (by omega) (by omega)
    have hsu : (⟨u.toArray⟩ : ByteArray).size ≤ 1000000000000 := by show u.toArray.size ≤ _; simp; omega
    have hsz : (⟨z.toArray⟩ : ByteArray).size ≤ 1000000000000 := by show z.toArray.size ≤ _; simp; omega
    have Hof : Hid (HM.of k m = S2.sum z) := by rw [hz, hv, hu]; exact HO.out
    have S1 := Lib.hid (show sb ⟨u.toArray⟩ = u by simp [sb])
    have S3 := Lib.hid (show sb ⟨z.toArray⟩ = z by simp [sb])
    have Hv := Lib.hid hv
    clear hu hv hz l1 l2 hul hvl hzl
    go_wp2_with fail
    refine (rsum_any ⟨u.toArray⟩ hsu w2 (hR.fr G2 (fun h => h) (fun h => h))).mono ?_
    rw [S1.out, ← Hv.out]
    rintro e w3 ⟨rfl, F3⟩
    have G3 : Fr (fun _ => False) w w3 := G2.trans F3 (fun _ h => h.elim)
    go_wp2_with fail
    refine (rsum_any ⟨z.toArray⟩ hsz w3 (hR.fr G3 (fun h => h) (fun h => h))).mono ?_
    rw [S3.out, ← Hof.out]
    rintro e w4 ⟨rfl, F4⟩
    go_wp2_with fail
    go_ret
    exact ⟨rfl, G3.trans F4 (fun _ h => h.elim)⟩
  · have hkl : k.length ≤ 64 := by omega
    have hbb : ∀ j, HM.blk k j = k.getD j 0 := fun j => by rw [HB.out j, he]
    have HBB := Lib.hid hbb
    have F1 := Fr.refl (fun _ => False) w
    clear he hbb
    go_wp2_with fail
    refine rof_loop k m hkl (HM.blk k) HBB.out w _ rfl rfl rfl rfl rfl rfl ?_
    intro t2 w2 hn2 p1 p5 p6 F2
    obtain ⟨f, hff, rfl⟩ := frame_open hn2
    have e1 := hff 1 _ p1
    have e5 := hff 5 _ p5
    have e6 := hff 6 _ p6
    clear hff hn2 p1 p5 p6
    rw [lit44, e1, e5, e6]
    clear e1 e5 e6
    have G2 : Fr (fun _ => False) w w2 := F1.trans F2 (fun _ h => h.elim)
    have l1 : (HM.xor (HM.blk k) 0x36).length = 64 := HM.xor_length _ _
    have l2 : (HM.xor (HM.blk k) 0x5c).length = 64 := HM.xor_length _ _
    generalize HM.xor (HM.blk k) 0x36 = X1 at *
    generalize HM.xor (HM.blk k) 0x5c = X2 at *
    obtain ⟨u, hu⟩ : ∃ u, u = X1 ++ m := ⟨_, rfl⟩
    have hul : u.length = 64 + m.length := by rw [hu, List.length_append, l1]
    obtain ⟨v, hv⟩ : ∃ v, v = S2.sum u := ⟨_, rfl⟩
    have hvl : v.length = 32 := by rw [hv]; rfl
    obtain ⟨z, hz⟩ : ∃ z, z = X2 ++ v := ⟨_, rfl⟩
    have hzl : z.length = 96 := by rw [hz, List.length_append, l2, hvl]
    have c1 : ∀ W : World, (Op.stringOp .add ⟨X1.toArray⟩ ⟨m.toArray⟩).run Tryd.prog W = .ok (.string ⟨u.toArray⟩) W := fun W => by rw [hu]; exact run_string_add_lists W X1 m (by omega) (by omega)
    have c2 : ∀ W : World, (Op.stringOp .add ⟨X2.toArray⟩ ⟨v.toArray⟩).run Tryd.prog W = .ok (.string ⟨z.toArray⟩) W := fun W => by rw [hz]; exact run_string_add_lists W X2 v (by omega) (by omega)
    have hsu : (⟨u.toArray⟩ : ByteArray).size ≤ 1000000000000 := by show u.toArray.size ≤ _; simp; omega
    have hsz : (⟨z.toArray⟩ : ByteArray).size ≤ 1000000000000 := by show z.toArray.size ≤ _; simp; omega
    have Hof : Hid (HM.of k m = S2.sum z) := by rw [hz, hv, hu]; exact HO.out
    have S1 := Lib.hid (show sb ⟨u.toArray⟩ = u by simp [sb])
    have S3 := Lib.hid (show sb ⟨z.toArray⟩ = z by simp [sb])
    have Hv := Lib.hid hv
    clear hu hv hz l1 l2 hul hvl hzl
    go_wp2_with fail
    refine (rsum_any ⟨u.toArray⟩ hsu w2 (hR.fr G2 (fun h => h) (fun h => h))).mono ?_
    rw [S1.out, ← Hv.out]
    rintro e w3 ⟨rfl, F3⟩
    have G3 : Fr (fun _ => False) w w3 := G2.trans F3 (fun _ h => h.elim)
    go_wp2_with fail
    refine (rsum_any ⟨z.toArray⟩ hsz w3 (hR.fr G3 (fun h => h) (fun h => h))).mono ?_
    rw [S3.out, ← Hof.out]
    rintro e w4 ⟨rfl, F4⟩
    go_wp2_with fail
    go_ret
    exact ⟨rfl, G3.trans F4 (fun _ h => h.elim)⟩
end Go.Proofs.YtbpblheaiancaaaDoor
namespace Go.Proofs.YtbpblheaiancaaaDoor
open Go.RowKit
set_option linter.unusedVariables false

/-- Byte j of a number in eight bytes. -/
def b8 (u j : Nat) : UInt8 := UInt8.ofNat (u / 2 ^ (56 - 8 * j))
set_option maxRecDepth 100000 in
theorem b8_list (u : Nat) : (List.range 8).map (b8 u) = S2.be8 u := rfl
theorem b8_val (u j : Nat) : (u : Int) / 2 ^ (56 - 8 * j) % 256 = ((b8 u j).toNat : Int) := by
  unfold b8
  rw [UInt8.toNat_ofNat']
  simp
set_option maxRecDepth 100000 in
theorem wrap_u64_nat (z : Int) : ∃ u : Nat, IntKind.u64.wrap z = (u : Int) := ⟨(IntKind.u64.wrap z).toNat, by rw [IntKind.wrap_u64]; omega⟩
set_option maxRecDepth 100000 in
set_option maxHeartbeats 800000 in
theorem eight_any (z : Int) (u : Nat) (hu : IntKind.u64.wrap z = (u : Int)) (w : World) :
    Calls Tryd.prog 48 #[.int .i64 z] w fun e w' => e = .returned (.string ⟨(S2.be8 u).toArray⟩) ∧ Fr (fun _ => False) w w' := by
  go_enter Tryd.func48, Tryd.ntmps48
  go_wp2_with fail
  go_loopw [3, 4] (fun v i wx => ∃ j : Nat, j ≤ 8 ∧ i = .int .i64 (56 - 8 * (j : Int)) ∧ v = .string ⟨((S2.be8 u).take j).toArray⟩ ∧ Fr (fun _ => False) w wx) (fun _ i _ => (intOf i + 8).toNat)
  case atStart => exact ⟨0, by omega, by simp, rfl, Fr.refl _ _⟩
  case round =>
    obtain ⟨j, hj, rfl, rfl, hF⟩ := hrel
    by_cases hlt : j < 8
    · have q1 : (0 : Int) ≤ 56 - 8 * (j : Int) := by omega
      have hbt := be8_take u j hlt
      have hv := b8_val u j
      have hl : ((S2.be8 u).take j).length = j := by rw [List.length_take]; simp [S2.be8]; omega
      rw [show UInt8.ofNat (u / 2 ^ (56 - 8 * j)) = b8 u j from rfl] at hbt
      generalize b8 u j = y at hbt hv
      generalize (S2.be8 u).take j = x0 at *
      have c1 : ∀ W : World, (Op.stringOp .add ⟨x0.toArray⟩ ⟨#[y]⟩).run Tryd.prog W = .ok (.string ⟨(x0 ++ [y]).toArray⟩) W := fun W => run_string_add_lists W x0 [y] (by omega) (by simp)
      have k1 : ∀ W : World, (convert 23 9 (.slice (some ⟨W.heap.size, 0, none⟩) 1 1)).run Tryd.prog (W.alloc (.cells #[.int .u8 (y.toNat : Int)] 5)) = .ok (.string ⟨#[y]⟩) (W.alloc (.cells #[.int .u8 (y.toNat : Int)] 5)) := fun W => str_one _ y _ 1 (heap_alloc_new W _)
      have HB := Lib.hid hbt
      clear hbt
      go_wp2_with fail
      exact ⟨⟨j + 1, by omega, by congr 1; omega, by rw [HB.out], hF.alloc _⟩, by simp [intOf]; omega⟩
    · obtain rfl : j = 8 := by omega
      have e8 : (S2.be8 u).take 8 = S2.be8 u := rfl
      rw [e8]
      go_wp2_with fail
      go_ret
      exact ⟨rfl, hF⟩
end Go.Proofs.YtbpblheaiancaaaDoor
namespace Go.Proofs.YtbpblheaiancaaaDoor
open Go.RowKit
set_option linter.unusedVariables false

@[simp] theorem bw_size (w : World) (s : ByteArray) : (Lib.bytesWorld w 5 s).heap.size = w.heap.size + 1 := Lib.bytesWorld_size _ _ _
set_option maxRecDepth 100000 in
theorem parts3 {w : World} {b : Nat} {a a2 a3 : Option Addr} {n n2 n3 c c2 c3 : Nat} {x y z : List UInt8} {t : TypeId} {fr : Nat × Nat} (h : w.heap[b]? = some (.cells #[.slice a n c, .slice a2 n2 c2, .slice a3 n3 c3] t fr)) (hx : Came w a n c x) (hy : Came w a2 n2 c2 y) (hz : Came w a3 n3 c3 z) : Parts w (some ⟨b, 0, none⟩) [x, y, z] := by
  refine Or.inr ⟨b, 0, rfl, fun j hj => ?_⟩
  match j, hj with
  | 0, _ => exact ⟨a, c, by rw [cell_of_block h]; simp [hx.len], hx.lies, by have := hx.le; have := hx.len; simp; omega, hx.mx⟩
  | 1, _ => exact ⟨a2, c2, by rw [cell_of_block h]; simp [hy.len], hy.lies, by have := hy.le; have := hy.len; simp; omega, hy.mx⟩
  | 2, _ => exact ⟨a3, c3, by rw [cell_of_block h]; simp [hz.len], hz.lies, by have := hz.le; have := hz.len; simp; omega, hz.mx⟩
set_option maxRecDepth 100000 in
theorem came_conv (s : List UInt8) (hs : s.length ≤ 1000) (w : World) (b : Nat) (hb : b = w.heap.size) {W : World} (hF : Fr (fun _ => False) (Lib.bytesWorld w 5 ⟨s.toArray⟩) W) : Came W (some ⟨b, 0, none⟩) s.length (grownCap w s.length 0 5) s := by
  subst hb
  have hsz : (⟨s.toArray⟩ : ByteArray).size = s.length := by show s.toArray.size = _; simp
  have h := own_str w ⟨s.toArray⟩ w.heap.size (Nat.le_refl _) (by rw [hsz]; omega)
  rw [hsz] at h
  have e : sb ⟨s.toArray⟩ = s := by simp [sb]
  rw [e] at h
  obtain ⟨_, h1, h2, h3⟩ := h.lies
  exact (show Came (Lib.bytesWorld w 5 ⟨s.toArray⟩) _ _ _ s from ⟨rfl, h1, h2, h3, fun e => by cases e⟩).grow hF (fun _ _ h => h)
set_option maxRecDepth 100000 in
theorem came_blk {W : World} {b n : Nat} {l : List UInt8} {cs : Array Value} {t : TypeId} {fr : Nat × Nat} (h : W.heap[b]? = some (.cells cs t fr)) (hcs : cs = (bv l).toArray) (hn : l.length = n) (hm : n ≤ 1000) : Came W (some ⟨b, 0, none⟩) n n l := by
  refine ⟨hn, Nat.le_refl _, by unfold maxLen; omega, Or.inr ⟨b, 0, rfl, fun j hj => ?_⟩, fun e => by cases e⟩
  rw [Nat.zero_add, cell_of_block h, hcs]
  simpa using bv_get' l j hj
set_option maxRecDepth 100000 in
theorem heap_alloc_at (V : World) (cs : Array Value) (t : TypeId) (b : Nat) (hb : b = V.heap.size) : (V.alloc (.cells cs t)).heap[b]? = some (.cells cs t (0, 0)) := by
  subst hb; exact heap_alloc_new V _
theorem ub_bv (n : Nat) (f : Nat → UInt8) : ub n f = (bv ((List.range n).map f)).toArray := by
  rw [← ub_toList]
end Go.Proofs.YtbpblheaiancaaaDoor
namespace Go.Proofs.YtbpblheaiancaaaDoor
open Go.ChangeShapes Go.WideShapes Go.ChangeAt Go.RowKit
set_option linter.unusedVariables false

set_option maxRecDepth 100000 in
theorem open_key {H : Type} {enc : TypeId × Value → H} {W : World} {base : Nat} {v : Value} {d : DataW H} {p : List MemPlace} (hval : Value.okWide Tryd.prog W .any base 22 v) (h1 : DataW.Trod enc Tryd.prog W 0 (fun _ => true) true 22 v d p) :
    ∃ f : Nat → UInt8, v = .agg (ub 32 f) := by
  have A : WideMaps.ArrKey Tryd.prog 22 5 32 := ⟨Tryd.underlying22, by kernel_rfl, by kernel_rfl, by kernel_rfl⟩
  obtain ⟨cs, rfl, hn⟩ := WideMaps.okWide_arr A hval
  obtain ⟨fuel, hf⟩ := h1
  have hce : Tryd.prog.cellsOf 5 = 1 := A.one
  have hct : Tryd.prog.cellsOf 22 = 32 := A.size
  cases fuel with
  | zero => simp [DataW.trod] at hf
  | succ fuel =>
    simp only [DataW.trod, A.hu, hce, hct, Nat.mul_one, Value.cells] at hf
    split at hf
    · obtain ⟨xs, hm, hx⟩ := Option.map_eq_some_iff.1 hf
      have key : ∀ i, i < 32 → ∃ y : UInt8, cs[i]? = some (.int .u8 (y.toNat : Int)) := by
        intro i hi
        obtain ⟨b, hb, hf2⟩ := Lib.mapM_at hm i i (by simp [hi])
        obtain ⟨z, hc, _, hwf⟩ := DataW.trod_int Tryd.underlying5 hf2
        have hb8 := bounds_u8 hwf
        refine ⟨UInt8.ofNat z.toNat, ?_⟩
        have h2 : cs.toList[i]? = some (.int .u8 z) := by
          have := congrArg (·[0]?) hc
          simpa [List.getElem?_take, List.getElem?_drop] using this
        rw [← Array.getElem?_toList, h2]
        congr 2
        have : (UInt8.ofNat z.toNat).toNat = z.toNat % 256 := rfl
        omega
      refine ⟨fun i => if h : i < 32 then Classical.choose (key i h) else 0, ?_⟩
      congr 1
      refine ub_ext hn (fun j hj => ?_)
      rw [dif_pos hj]
      exact Classical.choose_spec (key j hj)
    · cases hf
end Go.Proofs.YtbpblheaiancaaaDoor
namespace Go.Proofs.YtbpblheaiancaaaDoor
open Go.RowKit
set_option linter.unusedVariables false

theorem zc (k : Nat) : Builtin.zeroCells (Value.int .u8 0).cells k = (bv (noughts2 k)).toArray := by
  apply Array.toList_inj.1
  rw [List.toList_toArray]
  apply List.ext_getElem
  · simp [Builtin.zeroCells, noughts2, bv, Value.cells]
  · intro i h1 h2
    simp [Builtin.zeroCells, noughts2, bv, Value.cells, Nat.mod_one]
theorem nl (k : Nat) : (noughts2 k).length = k := by simp [noughts2]
section
variable (w : World)
theorem run_own_zeros (B : Nat) (ty tn : TypeId) (kq kn : IntKind) (htn : Tryd.prog.underlying tn = some (.int kn)) (v : Value) (l : List UInt8) (k : Nat) (hown : Own w B v l)
    (hbytes : l.length + k ≤ 1000000) (hbase : B ≤ w.heap.size) :
    ∃ v2 w2, (Builtin.append_ #[23, tn] ty #[v, .int kq (k : Int)]).run Tryd.prog w = .ok v2 w2 ∧ Own w2 B v2 (l ++ noughts2 k) ∧ w.grownBy w2 v.ownBlock ∧ (v2.ownBlock = v.ownBlock ∨ v2.ownBlock = some w.heap.size) := by
  obtain ⟨i, hi, hz, hs, hby⟩ : ∃ i, Tryd.prog.info? 5 = some i ∧ i.zero = some (.int .u8 0) ∧ i.size = 1 ∧ i.bytes = 1 := by
    have h := Tryd.infoB
    cases hi : Tryd.prog.info? 5 with
    | none => rw [hi] at h; cases h
    | some i =>
      rw [hi] at h
      simp only [Option.map_some, Option.some.injEq, Prod.mk.injEq] at h
      exact ⟨i, rfl, h.1, h.2.1, h.2.2⟩
  have hw : IntKind.i64.wrap (k : Int) = k := by rw [IntKind.wrap_i64]; omega
  have hneg : ¬ ((k : Int) < 0) := by omega
  have h48i : ¬ (281474976710656 < (k : Int) * (i.bytes : Int)) := by rw [hby]; omega
  have hmx : l.length + k ≤ maxLen := by unfold maxLen; omega
  have grown : ∀ (old : Nat) (row : Option Nat) (W2 : World), W2 = w.drew.alloc (.cells ((bv l).toArray ++ (bv (noughts2 k)).toArray ++ (bv (noughts2 (grownCap w (l.length + k) old 5 - (l.length + k)))).toArray) 5) →
      Own W2 B (.slice (some ⟨w.heap.size, 0, none⟩) (l.length + k) (grownCap w (l.length + k) old 5)) (l ++ noughts2 k) ∧ w.grownBy W2 row := by
    intro old row W2 hW
    subst hW
    have hge := grownCap_ge w (l.length + k) old 5
    have hcm := grownCap_le_maxLen w (l.length + k) old 5 hmx
    refine ⟨Or.inr ⟨w.heap.size, _, _, (0, 0), by rw [List.length_append, nl], hbase, heap_alloc_new w.drew _, Or.inl rfl, by rw [List.length_append, nl]; exact hge, hcm, ?_, ?_⟩, ⟨rfl, rfl, rfl, by simp, fun j hj _ => Below.heap_alloc w.drew _ j hj⟩⟩
    · simp [nl]; omega
    · simp only [Array.toList_append]
      rw [bv_append]
      exact List.take_left' (by simp [nl])
  rcases hown with ⟨rfl, rfl⟩ | ⟨g, cap, cur, fz, rfl, hbg, hg, hfz, hnc, hcm, hcs, htake⟩
  · by_cases hk : k = 0
    · subst hk
      refine ⟨.slice none 0 0, w, ?_, Or.inl ⟨rfl, rfl⟩, ⟨rfl, rfl, rfl, Nat.le_refl _, fun _ _ _ => rfl⟩, .inl rfl⟩
      have w0 : IntKind.i64.wrap 0 = 0 := by rw [IntKind.wrap_i64]; omega
      simp [Builtin.append_, run_underlying Tryd.underlying23, run_underlying htn, sizeOf, typeInfo, hi, asInt, asIntOf, w0]
    · have hr := Lib.run_append_nil_zeros (P := Tryd.prog) w 23 tn ty 5 i (.int .u8 0) kq kn Tryd.underlying23 htn hi hz k (by omega) (by omega) (by omega) (by rw [hby]; omega)
      rw [zc, zc] at hr
      obtain ⟨g1, g2⟩ := grown 0 (Value.ownBlock (.slice none 0 0)) _ (show w.drew.alloc (.cells ((bv (noughts2 k)).toArray ++ (bv (noughts2 (grownCap w k 0 5 - k))).toArray) 5) = _ by simp [bv])
      refine ⟨_, _, hr, ?_, g2, .inr rfl⟩
      simpa using g1
  · by_cases hroom : l.length + k ≤ cap
    · have hcur : w.heap[g]? = some (.cells cur.toList.toArray 5 fz) := by simpa using hg
      have hst := run_storeCells_cells (P := Tryd.prog) g l.length (bv (noughts2 k)) 0 w (fun j hj => by
          rw [bv_length, nl] at hj
          rw [Nat.add_zero, cell_of_block hg, Array.getElem?_eq_getElem (by omega)]; rfl) (fun j hj => by
          rw [bv_length, nl] at hj
          rw [Nat.add_zero]
          rcases hfz with e | e
          · subst e; simp [World.frozen?, hg]
          · simp [World.frozen?, hg]; omega) (bv_one _)
      simp only [Nat.add_zero] at hst
      have hr : (Builtin.append_ #[23, tn] ty #[.slice (some ⟨g, 0, none⟩) l.length cap, .int kq (k : Int)]).run Tryd.prog w = .ok (.slice (some ⟨g, 0, none⟩) (l.length + k) cap) (w.setCells g l.length (bv (noughts2 k))) := by
        by_cases hk : k = 0
        · subst hk
          have w0 : IntKind.i64.wrap 0 = 0 := by rw [IntKind.wrap_i64]; omega
          have hst0 : (storeCells ⟨g, l.length, none⟩ []).run Tryd.prog w = .ok () w := by simpa [noughts2, bv, World.setCells] using hst
          have hc : l.length ≤ cap := hnc
          simp [Builtin.append_, run_underlying Tryd.underlying23, run_underlying htn, sizeOf, typeInfo, hi, hs, asInt, asIntOf, w0, hc, Addr.add_lit, hst0, noughts2, bv, World.setCells]
        · simp [Builtin.append_, run_underlying Tryd.underlying23, run_underlying htn, sizeOf, typeInfo, zeroValue, hi, hz, asInt, asIntOf, hw, hneg, h48i, hroom, Addr.add_lit, hs, hk]
          rw [zc, List.toList_toArray, hst]
          rfl
      have hb := setCells_blockF (bv (noughts2 k)) l.length cur.toList w hcur (by simp [nl]; omega)
      refine ⟨_, _, hr, Or.inr ⟨g, cap, _, fz, by rw [List.length_append, nl], hbg, hb, ?_, by rw [List.length_append, nl]; omega, hcm, ?_, ?_⟩, setCells_grown _ _ _, .inl rfl⟩
      · rcases hfz with e | e
        · exact Or.inl e
        · refine Or.inr (Nat.le_trans (Nat.le_of_eq ?_) e)
          simp [nl]; omega
      · simp [nl]; omega
      · rw [htake, bv_append, ← List.append_assoc, List.toList_toArray]
        exact List.take_left' (by simp [nl])
    · have holds : ∀ j u, (bv l)[j]? = some u → w.drew.cell? ((⟨g, 0, none⟩ : Addr).add j) = some u := fun j u h => by
        rw [addr_add, Nat.zero_add]
        show w.cell? _ = _
        rw [cell_of_block hg, ← Array.getElem?_toList]
        rw [← htake, List.getElem?_take] at h
        split at h
        · exact h
        · cases h
      have hr := Lib.run_append_grow_zeros (P := Tryd.prog) w 23 tn ty 5 i (.int .u8 0) kq kn Tryd.underlying23 htn hi hz (some ⟨g, 0, none⟩) l.length cap (bv l) (run_firstCells_some w.drew i.size l.length ⟨g, 0, none⟩ l.length cap (bv l) (by rw [hs]; simp) holds) k (by omega) (by omega) (by omega) (by omega) (by rw [hby]; omega) (growslice_fits (by omega) (by rw [hby]; omega))
      rw [zc, zc] at hr
      have hgr := grown cap (Value.ownBlock (.slice (some ⟨g, 0, none⟩) l.length cap)) _ rfl
      exact ⟨_, _, hr, hgr.1, hgr.2, .inr rfl⟩
end
end Go.Proofs.YtbpblheaiancaaaDoor

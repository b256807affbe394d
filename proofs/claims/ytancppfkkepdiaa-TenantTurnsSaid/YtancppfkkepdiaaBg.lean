/-
  A table of tenants: Delete.
-/
import Derived.Test.YtancppfkkepdiaaBf
namespace Go.Proofs.Ytancppfkkepdiaa
open Go.RowKit
set_option linter.unusedVariables false
set_option linter.unusedSimpArgs false
theorem szP2 : (Try.prog.info? 70).map (·.size) = some (#[Value.string ⟨#[]⟩, .int .i64 0, .pointer none] : Array Value).size := by kernel_rfl
theorem oneP : (#[Value.string ⟨#[]⟩, .int .i64 0, .pointer none] : Array Value).all (·.oneCell') = true := by simp [Value.oneCell']
set_option maxRecDepth 100000 in
set_option maxHeartbeats 1600000 in
theorem delete_at (tb pb : Nat) (P : List Pl) (hl : P.length ≤ 8) (a : Option Addr) (n c : Nat) (s : ByteArray) (w : World) (h : TB w tb pb P (.slice none 0 0)) (hcv : Cv w a n c s) (k : Nat) (x : Pl) (hx : P[k]? = some x) (hat : isAt s x = true) (hone : ∀ j y, P[j]? = some y → isAt s y = true → j = k) (h3 : x.st ≠ 3) : Calls Try.prog 9 #[.pointer (some ⟨tb, 0, none⟩), .slice a n c] w fun e w' => e = .returned (.tuple #[.int .i64 (k : Int), .int .i64 0]) ∧ ∃ g gc, TB w' tb pb (P.set k nob) (.slice (some ⟨g, 0, none⟩) 1 gc) ∧ w.heap.size ≤ g ∧ w'.cell? ⟨g, 0, none⟩ = some (.string x.id) ∧ Fr (fun k => k = tb ∨ k = pb) w w' := by
  have hkl := (List.getElem?_eq_some_iff.1 hx).1
  have HP := Lib.hid (place_at tb pb P _ hl a n c s w h hcv k x hx hat hone h3)
  have HT := Lib.hid h
  have HX := Lib.hid hx
  have HK := Lib.hid hkl
  have q0 : (0 : Int) ≤ (k : Int) := Int.natCast_nonneg k
  have q1 : (k : Int) < (P.length : Int) := by omega
  clear h hcv hat hone h3 hx hkl
  go_enter Try.func9, Try.ntmps9
  go_wp2_with fail
  refine HP.out.mono ?_
  rintro e w1 ⟨rfl, F1⟩
  have HT1 := Lib.hid (HT.out.ext F1)
  have HF1 := Lib.hid F1
  clear F1
  obtain ⟨c0, c1, f1⟩ := HT1.out.c
  obtain ⟨d0, d1, d2⟩ := HT1.out.p HX.out
  go_wp2_with fail
  refine (bury_none tb pb P x.id w1 HT1.out).mono ?_
  rintro e w2 ⟨rfl, g, gc, hT, hg, hcs, F2⟩
  have HT2 := Lib.hid hT
  have HG := Lib.hid (And.intro hg hcs)
  have HF2 := Lib.hid ((HF1.out.mono (T := fun k => k = tb) (fun _ _ h => h.elim)).trans F2 (fun _ h => .inl h))
  clear hT hg hcs F2 c0 c1 f1 d0 d1 d2
  obtain ⟨c0, c1, f1⟩ := HT2.out.c
  have HOFF := Lib.hid (show k * 3 + (#[Value.string ⟨#[]⟩, .int .i64 0, .pointer none] : Array Value).size ≤ (pc P).toArray.size by have h1 := HK.out; have h2 := pc_len P; show k * 3 + 3 ≤ (pc P).length; omega)
  go_wp2_with ((refine wpList_store_part rfl 70 (.tmp 33) (.tmp 32) rfl pb (k * 3) #[Value.string ⟨#[]⟩, .int .i64 0, .pointer none] rfl rfl szP2 oneP 70 (pc P).toArray HT2.out.row HOFF.out ?_); intro w3 h3 F3; refine Hid.out ?_)
  refine Lib.hid ?_
  have HR := Lib.hid (h3.trans (congrArg (fun z => some (Obj.cells z 70 (0, 0))) (pc_put P k nob HK.out)))
  have HF3 := Lib.hid F3
  clear h3 F3 c0 c1 f1
  (try simp only [Act.put, List.setIfInBounds_toArray, List.set_cons_zero, List.set_cons_succ])
  go_wp2_with fail
  go_returns
  have hlen : (P.set k nob).length = P.length := List.length_set
  have hlt := lt_of_block HT1.out.row
  have hg1 := HG.out.1
  have hsz := HF1.out.size
  refine ⟨rfl, g, gc, ⟨?_, HR.out, HT2.out.ne⟩, by omega, HF3.out.cellSome (fun e => by have : g = pb := e; omega) HG.out.2, (HF2.out.mono (fun _ _ h => .inl h)).trans HF3.out (fun _ h => .inl (.inr h))⟩
  rw [hlen]
  exact (HF3.out.block tb (lt_of_block HT2.out.blk) HT2.out.ne).trans HT2.out.blk
end Go.Proofs.Ytancppfkkepdiaa

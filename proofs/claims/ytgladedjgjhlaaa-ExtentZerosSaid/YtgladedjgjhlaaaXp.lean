/-
  Foul, whole.
-/
import Derived.Test.YtgladedjgjhlaaaXo
namespace Go.Proofs.Ytgladedjgjhlaaa
open Go.RowKit
set_option linter.unusedVariables false
set_option linter.unusedSimpArgs false
set_option maxRecDepth 100000 in
set_option maxHeartbeats 6400000 in
theorem foul_any {w : World} {x d bn bl n f c s : Nat} {N L : Nat → Nat → UInt8} {ws : List (Nat × (Nat → UInt8))} {wv : Value} {wr ar : Int} {base : Nat} (hx : Ext w x (.pointer (some ⟨d, 0, none⟩)) (f : Int) (c : Int) (s : Int)) (D : DA w d bn bl n N L ws wv wr ar false base) (hfit : f + c * s ≤ n) (hc : c ≤ 8192) (hs : 1 ≤ s) :
    Calls Try.prog 43 #[(.pointer (some ⟨x, 0, none⟩))] w fun e w' => ∃ v, e = .returned (.tuple #[v, .int .i64 0]) ∧ w'.ownsRow w.heap.size 3 1 v (fouls N f s c).length (ints (fouls N f s c)) ∧ Fr (fun _ => False) w w' := by
  have c2 : w.cell? ⟨x, 2, none⟩ = some (.int .i64 (c : Int)) := (cell_of_block hx 2).trans rfl
  have HX := Lib.hid hx
  have HD := Lib.hid D
  have HF := Lib.hid hfit
  have HC := Lib.hid hc
  have HS := Lib.hid hs
  clear hx D hfit hc hs
  go_enter Try.func43, Try.ntmps43
  go_wp2_with fail
  refine foul_loop HX.out HD.out HF.out HC.out HS.out _ rfl rfl rfl rfl rfl ?_
  intro t w2 v hn p4 O F
  obtain ⟨fr, hff, rfl⟩ := frame_open hn
  have e4 := hff 4 _ p4
  clear hff hn p4
  rw [lit34, e4]
  clear e4
  have HO := Lib.hid O
  clear O c2
  go_wp2_with fail
  go_returns
  exact ⟨v, rfl, HO.out, F⟩
end Go.Proofs.Ytgladedjgjhlaaa

/-
  Zero of an extent.
-/
import Derived.Test.YtgladedjgjhlaaaXi
namespace Go.Proofs.Ytgladedjgjhlaaa
open Go.RowKit
set_option linter.unusedVariables false
set_option linter.unusedSimpArgs false
set_option maxRecDepth 100000 in
set_option maxHeartbeats 6400000 in
theorem zero_any {w : World} {x d bn bl n : Nat} {xf xc xs : Int} {N L : Nat → Nat → UInt8} {ws : List (Nat × (Nat → UInt8))} {wv : Value} {wr ar : Int} {base : Nat} (hx : Ext w x (.pointer (some ⟨d, 0, none⟩)) xf xc xs) (hxd : ∀ j, Tch d bn bl wv j → j ≠ x) (D : DA w d bn bl n N L ws wv wr ar false base) (i : Int) (i0 : 0 ≤ i) (i1 : i < xc) (b0 sz : Nat) (e1 : xf + i * xs = (b0 : Int)) (e2 : xs = (sz : Int)) (g1 : In64 (i * xs)) (g2 : In64 (xf + i * xs)) (hb : b0 + sz ≤ n) (hm : ws.length ≤ 1000) (h0 : 0 ≤ wr) (h1 : wr ≤ 1000000) (ha : In64 ar) (ha0 : 0 ≤ ar) :
    Calls Try.prog 45 #[(.pointer (some ⟨x, 0, none⟩)), .int .i64 i] w fun e w' =>
      (∃ us wr' ar', e = .returned (.int .i64 0) ∧ DA w' d bn bl n (lay N us) (lay L (ws ++ us)) [] (.slice none 0 0) wr' ar' false base ∧ (∀ p ∈ us, b0 ≤ p.1 ∧ p.1 < b0 + sz ∧ p.2 = fun _ => 0) ∧ (∀ j, b0 ≤ j → j < b0 + sz → zr (lay N us j) = true) ∧ 0 ≤ wr' ∧ wr' ≤ wr + (sz : Int) ∧ (ar = 0 → ar' = 0) ∧ Fr (Tch d bn bl wv) w w') ∨
      (∃ us v' wr' ar', e = .returned (.int .i64 13) ∧ ¬ (ar = 0) ∧ DA w' d bn bl n (lay N us) L (ws ++ us) v' wr' ar' true base ∧ (∀ p ∈ us, b0 ≤ p.1 ∧ p.1 < b0 + sz ∧ p.2 = fun _ => 0) ∧ us.length ≤ sz ∧ 0 ≤ wr' ∧ wr' ≤ wr + (sz : Int) ∧ (v'.ownBlock = wv.ownBlock ∨ ∃ k, v'.ownBlock = some k ∧ w.heap.size ≤ k) ∧ Fr (Tch d bn bl wv) w w') := by
  have HX := Lib.hid hx
  have HXD := Lib.hid hxd
  have HD := Lib.hid D
  have har := area_ok x (.pointer (some ⟨d, 0, none⟩)) xf xc xs i w hx i0 i1 g1 g2
  rw [e1, e2] at har
  have HAR := Lib.hid har
  have H0 := Lib.hid h0
  have H1 := Lib.hid h1
  have HM := Lib.hid hm
  have HA := Lib.hid ha
  have HA0 := Lib.hid ha0
  have HB := Lib.hid hb
  have hsz : sz ≤ 8192 := by have := D.hn; omega
  have HSZ := Lib.hid hsz
  clear hx hxd D har e1 e2 g1 g2 i0 i1 h0 h1 hm ha ha0 hb hsz
  go_enter Try.func45, Try.ntmps45
  go_wp2_with fail
  refine HAR.out.mono ?_
  rintro e w2 ⟨rfl, F2⟩
  have x2 := HX.out.fr F2
  have D2 := HD.out.fr F2 (fun _ _ h => h)
  have HX2 := Lib.hid x2
  have HD2 := Lib.hid D2
  have HF2 := Lib.hid F2
  clear x2 D2 F2
  go_wp2_with fail
  refine zero_loop HX2.out HXD.out HD2.out b0 sz HB.out HM.out H0.out H1.out HA.out HA0.out _ rfl rfl rfl rfl rfl rfl ?_ ?_
  · intro t w3 us v3 wr3 ar3 hn p0 D3 hus hul hzr hw0 hw1 haz hO F3
    obtain ⟨f, hff, rfl⟩ := frame_open hn
    have e0 := hff 0 _ p0
    clear hff hn p0
    rw [lit39, e0]
    clear e0
    have cx : w3.cell? ⟨x, 0, none⟩ = some (.pointer (some ⟨d, 0, none⟩)) := (cell_of_block ((F3.block _ (lt_of_block HX2.out) (fun h => HXD.out _ h rfl)).trans HX2.out) 0).trans rfl
    have HD3 := Lib.hid D3
    have HUS := Lib.hid hus
    have HZR := Lib.hid hzr
    have HUL := Lib.hid hul
    have HW0 := Lib.hid hw0
    have HW1 := Lib.hid hw1
    have HAZ := Lib.hid haz
    have HO := Lib.hid hO
    have HF3 := Lib.hid F3
    clear D3 hus hul hzr hw0 hw1 haz hO F3
    go_wp2_with fail
    refine (sync_any HD3.out (by have a1 := HM.out; have a2 := HUL.out; have a3 := HSZ.out; rw [List.length_append]; omega)).mono ?_
    rintro e w4 ⟨rfl, D4, F4⟩
    have HD4 := Lib.hid D4
    have G4 : Fr (Tch d bn bl wv) w w4 := ((HF2.out.mono (fun _ _ h => h.elim)).trans HF3.out (fun _ h => .inl h)).trans F4 (fun k hk => .inl (hk.elim .inl (fun e => .inr (.inr (.inl e)))))
    have HG4 := Lib.hid G4
    clear D4 F4 G4 cx
    go_wp2_with fail
    go_ret
    exact .inl ⟨us, wr3, ar3, rfl, HD4.out, HUS.out, HZR.out, HW0.out, HW1.out, HAZ.out, HG4.out⟩
  · intro t w3 us v3 wr3 ar3 hn p4 D3 hus hul har0 hw0 hw1 hO F3
    obtain ⟨f, hff, rfl⟩ := frame_open hn
    have e4 := hff 4 _ p4
    clear hff hn p4
    rw [lit39, e4]
    clear e4
    have HD3 := Lib.hid D3
    have HUS := Lib.hid hus
    have HUL := Lib.hid hul
    have HW0 := Lib.hid hw0
    have HW1 := Lib.hid hw1
    have HAR0 := Lib.hid har0
    have HO := Lib.hid hO
    have G3 : Fr (Tch d bn bl wv) w w3 := (HF2.out.mono (fun _ _ h => h.elim)).trans F3 (fun _ h => .inl h)
    have HG3 := Lib.hid G3
    clear D3 hus hul hw0 hw1 har0 hO F3 G3
    go_wp2_with fail
    go_ret
    exact .inr ⟨us, v3, wr3, ar3, rfl, HAR0.out, HD3.out, HUS.out, HUL.out, HW0.out, HW1.out, HO.out.imp id (fun ⟨k, e, hk⟩ => ⟨k, e, Nat.le_trans HF2.out.size hk⟩), HG3.out⟩
end Go.Proofs.Ytgladedjgjhlaaa

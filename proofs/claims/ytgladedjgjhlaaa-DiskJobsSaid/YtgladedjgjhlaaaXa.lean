/-
  DiskJobs: the look behind each job.
-/
import Derived.Test.YtgladedjgjhlaaaOi
namespace Go.Proofs.Ytgladedjgjhlaaa
open Go.RowKit
set_option linter.unusedVariables false
set_option linter.unusedSimpArgs false
def allRegs : Code → List (Nat × Code)
  | .loop c => allRegs c
  | .seq a b => allRegs a ++ allRegs b
  | .block _ c => allRegs c
  | .scope c => allRegs c
  | .cond _ a b => allRegs a ++ allRegs b
  | .region i ops m => [(i, .region i ops m)]
  | _ => []
noncomputable def regionAt (F : Func) (k : Nat) : Code := ((((F.body.map allRegs).getD []).find? (fun p => p.1 == k)).map (·.2)).getD .skip
set_option maxRecDepth 100000 in
theorem lit179 (f : Nat → Value) : ((List.range 179).map f).toArray = (f 0 :: f 1 :: f 2 :: f 3 :: f 4 :: f 5 :: f 6 :: f 7 :: f 8 :: f 9 :: f 10 :: f 11 :: f 12 :: f 13 :: f 14 :: f 15 :: f 16 :: f 17 :: f 18 :: f 19 :: f 20 :: f 21 :: f 22 :: f 23 :: f 24 :: f 25 :: f 26 :: f 27 :: f 28 :: f 29 :: f 30 :: f 31 :: f 32 :: f 33 :: f 34 :: f 35 :: f 36 :: f 37 :: f 38 :: f 39 :: f 40 :: f 41 :: f 42 :: f 43 :: f 44 :: f 45 :: f 46 :: f 47 :: f 48 :: f 49 :: f 50 :: f 51 :: f 52 :: f 53 :: f 54 :: f 55 :: f 56 :: f 57 :: f 58 :: f 59 :: f 60 :: f 61 :: f 62 :: f 63 :: f 64 :: f 65 :: f 66 :: f 67 :: f 68 :: f 69 :: f 70 :: f 71 :: f 72 :: f 73 :: f 74 :: f 75 :: f 76 :: f 77 :: f 78 :: f 79 :: f 80 :: f 81 :: f 82 :: f 83 :: f 84 :: f 85 :: f 86 :: f 87 :: f 88 :: f 89 :: f 90 :: f 91 :: f 92 :: f 93 :: f 94 :: f 95 :: f 96 :: f 97 :: f 98 :: f 99 :: f 100 :: f 101 :: f 102 :: f 103 :: f 104 :: f 105 :: f 106 :: f 107 :: f 108 :: f 109 :: f 110 :: f 111 :: f 112 :: f 113 :: f 114 :: f 115 :: f 116 :: f 117 :: f 118 :: f 119 :: f 120 :: f 121 :: f 122 :: f 123 :: f 124 :: f 125 :: f 126 :: f 127 :: f 128 :: f 129 :: f 130 :: f 131 :: f 132 :: f 133 :: f 134 :: f 135 :: f 136 :: f 137 :: f 138 :: f 139 :: f 140 :: f 141 :: f 142 :: f 143 :: f 144 :: f 145 :: f 146 :: f 147 :: f 148 :: f 149 :: f 150 :: f 151 :: f 152 :: f 153 :: f 154 :: f 155 :: f 156 :: f 157 :: f 158 :: f 159 :: f 160 :: f 161 :: f 162 :: f 163 :: f 164 :: f 165 :: f 166 :: f 167 :: f 168 :: f 169 :: f 170 :: f 171 :: f 172 :: f 173 :: f 174 :: f 175 :: f 176 :: f 177 :: f 178 :: []).toArray := by kernel_rfl
set_option maxRecDepth 100000 in
set_option maxHeartbeats 6400000 in
theorem jobs_check {Q : Exit → Act → World → Prop} {w : World} {d bn bl e fl m : Nat} {N L : Nat → Nat → UInt8} {ws : List (Nat × (Nat → UInt8))} {wv wv' : Value} {wr ar : Int} {dn : Bool} {base : Nat} (D : DA w d bn bl m N L ws wv wr ar dn base) (E : DB w e fl m L ws wv' wr ar dn base) {v0 v1 v8 : Value} (t : Array Value) (hn : t.size = 179)
    (p0 : t[0]? = some v0) (p1 : t[1]? = some v1) (p5 : t[5]? = some (.pointer (some ⟨d, 0, none⟩))) (p7 : t[7]? = some (.pointer (some ⟨e, 0, none⟩))) (p8 : t[8]? = some v8)
    (h : ∀ t' w', t'.size = 179 → t'[0]? = some v0 → t'[1]? = some v1 → t'[5]? = some (.pointer (some ⟨d, 0, none⟩)) → t'[7]? = some (.pointer (some ⟨e, 0, none⟩)) → t'[8]? = some v8 → t'[153]? = some (.bool false) → Fr (fun _ => False) w w' → Q .normal ⟨t', []⟩ w') :
    Code.wp Try.prog (regionAt Try.f4 29) Q ⟨t, []⟩ w := by
  obtain ⟨f, hff, rfl⟩ := frame_open hn
  have e0 := hff 0 _ p0
  have e1 := hff 1 _ p1
  have e5 := hff 5 _ p5
  have e7 := hff 7 _ p7
  have e8 := hff 8 _ p8
  clear hff hn p0 p1 p5 p7 p8
  rw [lit179, e0, e1, e5, e7, e8]
  clear e0 e1 e5 e7 e8
  conv => arg 2; whnf
  have HQ := Lib.hid h
  clear h
  obtain ⟨a2, cap2, rfl⟩ := own_slice E.own
  have dw : ∀ x : Wd w, DA x.w d bn bl m N L ws wv wr ar dn base := fun x => D.fr x.h (fun _ _ h => h)
  have ew : ∀ x : Wd w, DB x.w e fl m L ws (.slice a2 ws.length cap2) wr ar dn base := fun x => E.fr x.h (fun _ _ h => h)
  have x1 : ∀ x : Wd w, x.w.cell? ⟨e, 1, none⟩ = some (.slice a2 ws.length cap2) := fun x => (ew x).c 1 rfl
  have x2 : ∀ x : Wd w, x.w.cell? ⟨e, 2, none⟩ = some (.int .i64 wr) := fun x => (ew x).c 2 rfl
  have x4 : ∀ x : Wd w, x.w.cell? ⟨e, 4, none⟩ = some (.bool dn) := fun x => (ew x).c 4 rfl
  have k1 := fun x : Wd w => Calls.keep (down_any d dn x.w ((dw x).c 5 rfl))
  have k2 := fun x : Wd w => Calls.keep (writes_any d wr x.w ((dw x).c 3 rfl))
  have k3 := fun x : Wd w => Calls.keep (dw x).waits
  have b1 : (dn == dn) = true := beq_self_eq_true dn
  have b2 : (wr == wr) = true := beq_self_eq_true wr
  have b3 : ((ws.length : Int) == (ws.length : Int)) = true := beq_self_eq_true _
  clear dw ew D E
  refine wp_region_keep (by kernel_rfl) (by kernel_rfl) ?_
  repeat (any_goals (first | go_big_quiet_step ((first | (go_at_call 22; with_reducible exact k1 _) | (go_at_call 23; with_reducible exact k2 _) | (go_at_call 24; with_reducible exact k3 _))) | quiet_step ((first | (go_at_call 22; with_reducible exact k1 _) | (go_at_call 23; with_reducible exact k2 _) | (go_at_call 24; with_reducible exact k3 _)))))
  refine wpQuiet_nil ?_
  intro _ hwz
  obtain ⟨y, rfl⟩ := hwz
  exact HQ.out _ _ rfl rfl rfl rfl rfl rfl rfl y.h
end Go.Proofs.Ytgladedjgjhlaaa

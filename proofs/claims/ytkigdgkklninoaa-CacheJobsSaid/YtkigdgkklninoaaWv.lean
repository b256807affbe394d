/-
  CacheJobs: its loops within.
-/
import Derived.Test.YtkigdgkklninoaaWu
namespace Go.Proofs.Ytkigdgkklninoaa
open Go.RowKit
set_option linter.unusedVariables false
set_option linter.unusedSimpArgs false
set_option maxRecDepth 100000 in
theorem lit252 (f : Nat → Value) : ((List.range 252).map f).toArray = (f 0 :: f 1 :: f 2 :: f 3 :: f 4 :: f 5 :: f 6 :: f 7 :: f 8 :: f 9 :: f 10 :: f 11 :: f 12 :: f 13 :: f 14 :: f 15 :: f 16 :: f 17 :: f 18 :: f 19 :: f 20 :: f 21 :: f 22 :: f 23 :: f 24 :: f 25 :: f 26 :: f 27 :: f 28 :: f 29 :: f 30 :: f 31 :: f 32 :: f 33 :: f 34 :: f 35 :: f 36 :: f 37 :: f 38 :: f 39 :: f 40 :: f 41 :: f 42 :: f 43 :: f 44 :: f 45 :: f 46 :: f 47 :: f 48 :: f 49 :: f 50 :: f 51 :: f 52 :: f 53 :: f 54 :: f 55 :: f 56 :: f 57 :: f 58 :: f 59 :: f 60 :: f 61 :: f 62 :: f 63 :: f 64 :: f 65 :: f 66 :: f 67 :: f 68 :: f 69 :: f 70 :: f 71 :: f 72 :: f 73 :: f 74 :: f 75 :: f 76 :: f 77 :: f 78 :: f 79 :: f 80 :: f 81 :: f 82 :: f 83 :: f 84 :: f 85 :: f 86 :: f 87 :: f 88 :: f 89 :: f 90 :: f 91 :: f 92 :: f 93 :: f 94 :: f 95 :: f 96 :: f 97 :: f 98 :: f 99 :: f 100 :: f 101 :: f 102 :: f 103 :: f 104 :: f 105 :: f 106 :: f 107 :: f 108 :: f 109 :: f 110 :: f 111 :: f 112 :: f 113 :: f 114 :: f 115 :: f 116 :: f 117 :: f 118 :: f 119 :: f 120 :: f 121 :: f 122 :: f 123 :: f 124 :: f 125 :: f 126 :: f 127 :: f 128 :: f 129 :: f 130 :: f 131 :: f 132 :: f 133 :: f 134 :: f 135 :: f 136 :: f 137 :: f 138 :: f 139 :: f 140 :: f 141 :: f 142 :: f 143 :: f 144 :: f 145 :: f 146 :: f 147 :: f 148 :: f 149 :: f 150 :: f 151 :: f 152 :: f 153 :: f 154 :: f 155 :: f 156 :: f 157 :: f 158 :: f 159 :: f 160 :: f 161 :: f 162 :: f 163 :: f 164 :: f 165 :: f 166 :: f 167 :: f 168 :: f 169 :: f 170 :: f 171 :: f 172 :: f 173 :: f 174 :: f 175 :: f 176 :: f 177 :: f 178 :: f 179 :: f 180 :: f 181 :: f 182 :: f 183 :: f 184 :: f 185 :: f 186 :: f 187 :: f 188 :: f 189 :: f 190 :: f 191 :: f 192 :: f 193 :: f 194 :: f 195 :: f 196 :: f 197 :: f 198 :: f 199 :: f 200 :: f 201 :: f 202 :: f 203 :: f 204 :: f 205 :: f 206 :: f 207 :: f 208 :: f 209 :: f 210 :: f 211 :: f 212 :: f 213 :: f 214 :: f 215 :: f 216 :: f 217 :: f 218 :: f 219 :: f 220 :: f 221 :: f 222 :: f 223 :: f 224 :: f 225 :: f 226 :: f 227 :: f 228 :: f 229 :: f 230 :: f 231 :: f 232 :: f 233 :: f 234 :: f 235 :: f 236 :: f 237 :: f 238 :: f 239 :: f 240 :: f 241 :: f 242 :: f 243 :: f 244 :: f 245 :: f 246 :: f 247 :: f 248 :: f 249 :: f 250 :: f 251 :: []).toArray := by kernel_rfl
section
variable {w0 w : World} {cb pw n sz : Nat} {q : Int} {df dr : Nat → Dt} {js : List (Nat × Obj)}
theorem Jo.bd (T : Jo w0 w cb pw n sz q df dr js) (i : Nat) (hi : i < n) : (df i).L.length ≤ sz ∧ 1 ≤ sz ∧ sz ≤ 256 ∧ 0 ≤ (df i).h ∧ (df i).h ≤ q ∧ 0 ≤ (df i).m ∧ (df i).m ≤ q := by
  obtain ⟨⟨pb, xa, f, cu, r, C, R, a, b, D, J⟩, F⟩ := T
  obtain ⟨a1, a2, a3⟩ := a i hi
  rw [← a1, ← a2, ← a3]
  have h := C.cnt i hi
  exact ⟨C.len i hi, C.s1, C.s2, h.1, h.2.1, h.2.2.1, h.2.2.2⟩
theorem Jo.same (T : Jo w0 w cb pw n sz q df dr js) (hn : n ≤ 8) (i : Nat) (hi : i < n) (R : Rl (df i).L (dr i).L) (hh : (df i).h = (dr i).h) (hm : (df i).m = (dr i).m) : Calls Try.prog 16 #[.pointer (some ⟨cb, 0, none⟩), .int .i64 (i : Int), .pointer (some ⟨pw, i * 4, none⟩)] w fun e w' => e = .returned (.bool true) ∧ Fr (fun _ => False) w w' := by
  obtain ⟨⟨pb, xa, f, cu, r, C, RR, a, b, D, J⟩, F⟩ := T
  obtain ⟨a1, a2, a3⟩ := a i hi
  obtain ⟨b1, b2, b3⟩ := b i (by omega)
  refine same_any C i hi (RR.rp i (by omega)) ?_ ?_ ?_ ?_
  · rw [a1, b1]; exact R.len
  · intro j x y hx hy
    rw [a1] at hx
    rw [b1] at hy
    exact R.at_ j x y hx hy
  · rw [a2, b2]; exact hh
  · rw [a3, b3]; exact hm
end
/-- The parts say the same. -/
def Rel (n : Nat) (df dr : Nat → Dt) : Prop := ∀ i, i < n → Rl (df i).L (dr i).L ∧ (df i).h = (dr i).h ∧ (df i).m = (dr i).m
theorem Rel.upd {n : Nat} {df dr : Nat → Dt} (h : Rel n df dr) (i : Nat) (x y : Dt) (e : Rl x.L y.L ∧ x.h = y.h ∧ x.m = y.m) : Rel n (updD df i x) (updD dr i y) := fun j hj => by
  by_cases hji : j = i
  · subst hji
    have e1 : updD df j x j = x := if_pos rfl
    have e2 : updD dr j y j = y := if_pos rfl
    rw [e1, e2]; exact e
  · have e1 : updD df i x j = df j := if_neg hji
    have e2 : updD dr i y j = dr j := if_neg hji
    rw [e1, e2]; exact h j hj
set_option maxRecDepth 100000 in
set_option maxHeartbeats 6400000 in
theorem inner_loop {Q : Exit → Act → World → Prop} {w0 w : World} {cb pw n sz c : Nat} {a : Option Addr} {l : List Jb} {q z15 : Int} {df dr : Nat → Dt} {js : List (Nat × Obj)} (T : Jo w0 w cb pw n sz q df dr js) (hn8 : n ≤ 8) (R : Rel n df dr) (fr : Array Value) (hn : fr.size = 252) (p0 : fr[0]? = some (.int .i64 (n : Int))) (p1 : fr[1]? = some (.int .i64 (sz : Int))) (p2 : fr[2]? = some (.slice a l.length c)) (p11 : fr[11]? = some (.pointer (some ⟨cb, 0, none⟩))) (p12 : fr[12]? = some (.int .i64 0)) (p13 : fr[13]? = some (.pointer (some ⟨pw, 0, none⟩))) (p15 : fr[15]? = some (.int .i64 (z15 : Int))) (p26 : fr[26]? = some (.int .i64 (0)))
    (hexit : ∀ t' w', t'.size = 252 → t'[0]? = some (.int .i64 (n : Int)) → t'[1]? = some (.int .i64 (sz : Int)) → t'[2]? = some (.slice a l.length c) → t'[11]? = some (.pointer (some ⟨cb, 0, none⟩)) → t'[12]? = some (.int .i64 0) → t'[13]? = some (.pointer (some ⟨pw, 0, none⟩)) → t'[15]? = some (.int .i64 (z15 : Int)) → Fr (fun _ => False) w w' → Q (.exit 5) ⟨t', []⟩ w') :
    Code.wp Try.prog (.loop (loopAt Try.f3 2)) Q ⟨fr, []⟩ w := by
  refine wp_loop_up n (fun k t w' => t.size = 252 ∧ t[0]? = some (.int .i64 (n : Int)) ∧ t[1]? = some (.int .i64 (sz : Int)) ∧ t[2]? = some (.slice a l.length c) ∧ t[11]? = some (.pointer (some ⟨cb, 0, none⟩)) ∧ t[12]? = some (.int .i64 0) ∧ t[13]? = some (.pointer (some ⟨pw, 0, none⟩)) ∧ t[15]? = some (.int .i64 (z15 : Int)) ∧ t[26]? = some (.int .i64 (k : Int)) ∧ Fr (fun _ => False) w w') fr w ⟨hn, p0, p1, p2, p11, p12, p13, p15, p26, Fr.refl _ w⟩ ?_
  clear hn p0 p1 p2 p11 p12 p13 p15 p26 fr
  rintro k fr w1 hk ⟨hn, p0, p1, p2, p11, p12, p13, p15, p26, F⟩ K hK
  by_cases hlt : k < n
  · have q1 : (k : Int) < (n : Int) := by omega
    have q0 : (0 : Int) ≤ (k : Int) := Int.natCast_nonneg k
    have q8 : (k : Int) < 8 := by omega
    have w1' : wrap64 ((k : Int) + 1) = ((k + 1 : Nat) : Int) := by rw [IntWalk.wrap64_in _ (by omega)]; omega
    have W1 := Lib.hid w1'
    obtain ⟨r1, r2, r3⟩ := R k hlt
    have HS := Lib.hid ((T.ext F).same hn8 k hlt r1 r2 r3)
    have HK := Lib.hid hK
    have HF := Lib.hid F
    have HLT := Lib.hid hlt
    clear hexit hK hk hlt hn8 R r1 r2 r3 F T w1'
    obtain ⟨f, hff, rfl⟩ := frame_open hn
    have e0 := hff 0 _ p0
    have e1 := hff 1 _ p1
    have e2 := hff 2 _ p2
    have e11 := hff 11 _ p11
    have e12 := hff 12 _ p12
    have e13 := hff 13 _ p13
    have e15 := hff 15 _ p15
    have e26 := hff 26 _ p26
    clear hff hn p0 p1 p2 p11 p12 p13 p15 p26
    rw [lit252, e0, e1, e2, e11, e12, e13, e15, e26]
    clear e0 e1 e2 e11 e12 e13 e15 e26
    conv => arg 2; whnf
    go_wp2_with fail
    refine HS.out.mono ?_
    rintro e w2 ⟨rfl, F2⟩
    have HF2 := Lib.hid (HF.out.trans F2 (fun _ h => h.elim))
    clear F2
    go_wp2_with fail
    (try rw [W1.out])
    exact HK.out _ _ HLT.out ⟨rfl, rfl, rfl, rfl, rfl, rfl, rfl, rfl, rfl, HF2.out⟩
  · obtain rfl : k = n := by omega
    have q1 : ¬ ((k : Int) < (k : Int)) := by omega
    have HE := Lib.hid hexit
    have HF := Lib.hid F
    clear hexit F hK hk hlt hn8 R T
    obtain ⟨f, hff, rfl⟩ := frame_open hn
    have e0 := hff 0 _ p0
    have e1 := hff 1 _ p1
    have e2 := hff 2 _ p2
    have e11 := hff 11 _ p11
    have e12 := hff 12 _ p12
    have e13 := hff 13 _ p13
    have e15 := hff 15 _ p15
    have e26 := hff 26 _ p26
    clear hff hn p0 p1 p2 p11 p12 p13 p15 p26
    rw [lit252, e0, e1, e2, e11, e12, e13, e15, e26]
    clear e0 e1 e2 e11 e12 e13 e15 e26
    conv => arg 2; whnf
    go_wp2_with fail
    exact HE.out _ _ rfl rfl rfl rfl rfl rfl rfl rfl HF.out
set_option maxRecDepth 100000 in
set_option maxHeartbeats 6400000 in
theorem init_loop {Q : Exit → Act → World → Prop} {w : World} {cb pw n sz c : Nat} {a : Option Addr} {l : List Jb} {cu0 : Array Value} (hb : w.heap[pw]? = some (.cells cu0 40 (0, 0))) (hs : cu0.size = 32) (hz : ∀ j, j < 8 → cu0[j * 4 + 1]? = some (.slice none 0 0) ∧ cu0[j * 4 + 2]? = some (.int .i64 0) ∧ cu0[j * 4 + 3]? = some (.int .i64 0)) (fr : Array Value) (hn : fr.size = 252) (p0 : fr[0]? = some (.int .i64 (n : Int))) (p1 : fr[1]? = some (.int .i64 (sz : Int))) (p2 : fr[2]? = some (.slice a l.length c)) (p11 : fr[11]? = some (.pointer (some ⟨cb, 0, none⟩))) (p12 : fr[12]? = some (.int .i64 0)) (p13 : fr[13]? = some (.pointer (some ⟨pw, 0, none⟩))) (p14 : fr[14]? = some (.int .i64 (0)))
    (hexit : ∀ t' w' cu, t'.size = 252 → t'[0]? = some (.int .i64 (n : Int)) → t'[1]? = some (.int .i64 (sz : Int)) → t'[2]? = some (.slice a l.length c) → t'[11]? = some (.pointer (some ⟨cb, 0, none⟩)) → t'[12]? = some (.int .i64 0) → t'[13]? = some (.pointer (some ⟨pw, 0, none⟩)) → w'.heap[pw]? = some (.cells cu 40 (0, 0)) → (∀ j, j < 8 → cu[j * 4]? = some (.int .i64 (sz : Int)) ∧ cu[j * 4 + 1]? = some (.slice none 0 0) ∧ cu[j * 4 + 2]? = some (.int .i64 0) ∧ cu[j * 4 + 3]? = some (.int .i64 0)) → Fr (fun b => b = pw) w w' → Q (.exit 0) ⟨t', []⟩ w') :
    Code.wp Try.prog (.loop (loopAt Try.f3 0)) Q ⟨fr, []⟩ w := by
  refine wp_loop_up 8 (fun k t w' => t.size = 252 ∧ t[0]? = some (.int .i64 (n : Int)) ∧ t[1]? = some (.int .i64 (sz : Int)) ∧ t[2]? = some (.slice a l.length c) ∧ t[11]? = some (.pointer (some ⟨cb, 0, none⟩)) ∧ t[12]? = some (.int .i64 0) ∧ t[13]? = some (.pointer (some ⟨pw, 0, none⟩)) ∧ t[14]? = some (.int .i64 (k : Int)) ∧ (∃ cu, w'.heap[pw]? = some (.cells cu 40 (0, 0)) ∧ cu.size = 32 ∧ ∀ j, j < 8 → (j < k → cu[j * 4]? = some (.int .i64 (sz : Int))) ∧ cu[j * 4 + 1]? = some (.slice none 0 0) ∧ cu[j * 4 + 2]? = some (.int .i64 0) ∧ cu[j * 4 + 3]? = some (.int .i64 0)) ∧ Fr (fun b => b = pw) w w') fr w ⟨hn, p0, p1, p2, p11, p12, p13, p14, ⟨cu0, hb, hs, fun j hj => ⟨fun h => absurd h (by omega), hz j hj⟩⟩, Fr.refl _ w⟩ ?_
  clear hn p0 p1 p2 p11 p12 p13 p14 fr hb hs hz
  rintro k fr w1 hk ⟨hn, p0, p1, p2, p11, p12, p13, p14, ⟨cu, hb, hs, hz⟩, F⟩ K hK
  by_cases hlt : k < 8
  · have q8 : (k : Int) < 8 := by omega
    have q0 : (0 : Int) ≤ (k : Int) := Int.natCast_nonneg k
    have w1' : wrap64 ((k : Int) + 1) = ((k + 1 : Nat) : Int) := by rw [IntWalk.wrap64_in _ (by omega)]; omega
    have W1 := Lib.hid w1'
    obtain ⟨v0, hv0⟩ : ∃ v0, cu[k * 4]? = some v0 := ⟨_, Array.getElem?_eq_getElem (by omega)⟩
    have c0 : w1.cell? ⟨pw, k * 4, none⟩ = some v0 := (cell_of_block hb _).trans hv0
    have f0 := free_of_block hb (k * 4)
    have HK := Lib.hid hK
    have HB := Lib.hid hb
    have HS := Lib.hid hs
    have HZ := Lib.hid hz
    have HF := Lib.hid F
    have HLT := Lib.hid hlt
    clear hexit hK hk hlt F hb hs hz hv0 w1'
    obtain ⟨f, hff, rfl⟩ := frame_open hn
    have e0 := hff 0 _ p0
    have e1 := hff 1 _ p1
    have e2 := hff 2 _ p2
    have e11 := hff 11 _ p11
    have e12 := hff 12 _ p12
    have e13 := hff 13 _ p13
    have e14 := hff 14 _ p14
    clear hff hn p0 p1 p2 p11 p12 p13 p14
    rw [lit252, e0, e1, e2, e11, e12, e13, e14]
    clear e0 e1 e2 e11 e12 e13 e14
    conv => arg 2; whnf
    go_wp2_with fail
    (try rw [W1.out])
    refine HK.out _ _ HLT.out ⟨rfl, rfl, rfl, rfl, rfl, rfl, rfl, rfl, ⟨_, block_setCell HB.out _ _, by rw [Array.size_setIfInBounds]; exact HS.out, fun j hj => ⟨fun h => ?_, set_one (HZ.out j hj).2.1 (by omega), set_one (HZ.out j hj).2.2.1 (by omega), set_one (HZ.out j hj).2.2.2 (by omega)⟩⟩, HF.out.trans (Fr.setCell (S := fun b => b = pw) (Fr.refl _ _) (p := ⟨pw, k * 4, none⟩) (Or.inl rfl) _) (fun _ h => .inl h)⟩
    by_cases hjk : j = k
    · subst hjk
      exact set_here (by have := HS.out; omega)
    · exact set_one ((HZ.out j hj).1 (by omega)) (by omega)
  · obtain rfl : k = 8 := by omega
    have q1 : ¬ (((8 : Nat) : Int) < 8) := by omega
    have HE := Lib.hid hexit
    have HB := Lib.hid hb
    have HZ := Lib.hid hz
    have HF := Lib.hid F
    clear hexit hK hk hlt F hb hs hz
    obtain ⟨f, hff, rfl⟩ := frame_open hn
    have e0 := hff 0 _ p0
    have e1 := hff 1 _ p1
    have e2 := hff 2 _ p2
    have e11 := hff 11 _ p11
    have e12 := hff 12 _ p12
    have e13 := hff 13 _ p13
    have e14 := hff 14 _ p14
    clear hff hn p0 p1 p2 p11 p12 p13 p14
    rw [lit252, e0, e1, e2, e11, e12, e13, e14]
    clear e0 e1 e2 e11 e12 e13 e14
    conv => arg 2; whnf
    go_wp2_with fail
    exact HE.out _ _ cu rfl rfl rfl rfl rfl rfl rfl HB.out (fun j hj => ⟨(HZ.out j hj).1 hj, (HZ.out j hj).2⟩) HF.out
end Go.Proofs.Ytkigdgkklninoaa

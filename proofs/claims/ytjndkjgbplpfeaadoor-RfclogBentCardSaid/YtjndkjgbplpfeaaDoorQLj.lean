/-
  Two rows of sums of one's own; a byte stored into one; operations of which any may come first.
  RfclogBent: both sides' checks, side by side.
  RfclogBent: a sum put behind each of the two rows.
  RfclogBent: a bit of a sum in the middle turned.
  The law RfclogBent.
-/
import Derived.Test.YtjndkjgbplpfeaaDoorQLb
import Derived.Test.YtjndkjgbplpfeaaDoorQLi
import Derived.Test.YtjndkjgbplpfeaaDoorQLh
import Derived.Test.YtjndkjgbplpfeaaDoorQLe
namespace Go.Proofs.YtjndkjgbplpfeaaDoor
open Go.RowKit
set_option linter.unusedVariables false
set_option linter.unusedSimpArgs false
namespace Ks
set_option maxRecDepth 100000 in
theorem Wk.seqs {S : Nat → Prop} {P : Program} {md : Region.Mode} {ops : Array Oper} {Q : Act → World → Prop} {fuel : Nat} (hs : Region.noSelect ops = true) : ∀ (l : List (Nat × Bool)) (listed : Array Bool) (a : Act) (w : World), okC md ops l listed = true →
    Wk S P md ops (fun a w => wpM S P md ops Q fuel (marks l listed) a w) l a w → wpM S P md ops Q (fuel + l.length) listed a w
  | [], _, _, w, _, h => h w (Fr.refl _ w)
  | (k, false) :: r, listed, a, w, hB, h => by
    obtain ⟨o, v, h0, hy, hk⟩ := h
    simp only [okC, Bool.and_eq_true] at hB
    obtain ⟨⟨hr, hf⟩, hB'⟩ := hB
    exact wpM_first h0 (Region.noSelect_spec hs) (fuel + r.length) listed a w (Region.free_spec h0 hf) (by simpa using hr) hy (Wk.seqs hs r _ _ w hB' hk)
  | (k, true) :: r, listed, a, w, hB, h => by
    simp only [okC, Bool.and_eq_true, beq_iff_eq] at hB
    refine ⟨fun h0 => (by rw [hB.1] at h0; cases h0), fun i hi w' hx => ?_⟩
    rw [hB.1] at hi
    obtain rfl : i = k := by simpa using hi
    exact wpOp_mono (fun a'' w'' ⟨h1, h2⟩ => ⟨h1, Wk.seqs hs r _ a'' w'' hB.2 h2⟩) (h w' hx)
set_option maxRecDepth 100000 in
theorem wp_region_part (S : Nat → Prop) {P : Program} {id : Nat} {Q : Exit → Act → World → Prop} {a : Act} {W0 : World} {l : List Oper} (π : List (Nat × Bool)) (n : Nat) (L2 : Array Bool) (hm : P.follows .mixedOrders = true)
    (hB : (Region.noSelect l.toArray && okC .any l.toArray π (Array.replicate l.length false) && (l.length == n + π.length) && (marks π (Array.replicate l.length false) == L2)) = true)
    (h : Wk S P .any l.toArray (fun a w => wpM S P .any l.toArray (fun a w => Q .normal a w) n L2 a w) π a W0) : (Code.region id l.toArray true).wp P Q a W0 := by
  simp only [Bool.and_eq_true, beq_iff_eq] at hB
  obtain ⟨⟨⟨h1, h2⟩, h3⟩, rfl⟩ := hB
  refine wp_region_any hm ?_
  have := wpM.up _ _ _ _ _ ((Fr.refl (fun _ => False) W0).drew) (Wk.seqs h1 π _ a W0 h2 h)
  rw [← h3] at this
  have h4 := wpAny_of_M (Q' := Q) (fun _ _ h => h) _ _ _ _ this
  simpa using h4
set_option maxRecDepth 100000 in
/-- One alone may come up now. -/
theorem wpM.only {S : Nat → Prop} {P : Program} {md : Region.Mode} {ops : Array Oper} {Q : Act → World → Prop} {L : Array Bool} {a : Act} {w : World} (k : Nat) (n : Nat) (L2 : Array Bool) {o : Oper} (hi : ops[k]? = some o) (hB : (Region.ready md ops L == [k] && L.setIfInBounds k true == L2) = true)
    (h : ∀ w', Ex w w' → wpList P ops (fun e a'' w'' => e = .normal ∧ Es S w' w'' ∧ wpM S P md ops Q n L2 a'' w'') [o] a w') : wpM S P md ops Q (n + 1) L a w := by
  simp only [Bool.and_eq_true, beq_iff_eq] at hB
  obtain ⟨h1, rfl⟩ := hB
  refine ⟨fun h0 => (by rw [h0] at h1; simp at h1), fun i hI w' hx => ?_⟩
  rw [h1] at hI
  obtain rfl : i = k := by simpa using hI
  exact wpOp_of_list hi (h w' hx)
set_option maxRecDepth 100000 in
/-- Two may come up now. -/
theorem wpM.two {S : Nat → Prop} {P : Program} {md : Region.Mode} {ops : Array Oper} {Q : Act → World → Prop} {L : Array Bool} {a : Act} {w : World} (k j : Nat) (n : Nat) (L2 L3 : Array Bool) {o o2 : Oper} (hi : ops[k]? = some o) (hj : ops[j]? = some o2) (hB : (Region.ready md ops L == [k, j] && L.setIfInBounds k true == L2 && L.setIfInBounds j true == L3) = true)
    (h : ∀ w', Ex w w' → wpList P ops (fun e a'' w'' => e = .normal ∧ Es S w' w'' ∧ wpM S P md ops Q n L2 a'' w'') [o] a w')
    (h2 : ∀ w', Ex w w' → wpList P ops (fun e a'' w'' => e = .normal ∧ Es S w' w'' ∧ wpM S P md ops Q n L3 a'' w'') [o2] a w') : wpM S P md ops Q (n + 1) L a w := by
  simp only [Bool.and_eq_true, beq_iff_eq] at hB
  obtain ⟨⟨h1, rfl⟩, rfl⟩ := hB
  refine ⟨fun h0 => (by rw [h0] at h1; simp at h1), fun i hI w' hx => ?_⟩
  rw [h1] at hI
  rcases (show i = k ∨ i = j by simpa using hI) with rfl | rfl
  · exact wpOp_of_list hi (h w' hx)
  · exact wpOp_of_list hj (h2 w' hx)
set_option maxRecDepth 100000 in
theorem wpM.last {S : Nat → Prop} {P : Program} {md : Region.Mode} {ops : Array Oper} {Q : Act → World → Prop} {L : Array Bool} {a : Act} {w : World} (l : List (Nat × Bool)) (m : Nat) (hB : (Region.noSelect ops && okB md ops l L && (m == l.length)) = true)
    (h : Wk S P md ops Q l a w) : wpM S P md ops Q m L a w := by
  simp only [Bool.and_eq_true, beq_iff_eq] at hB
  obtain ⟨⟨h1, h2⟩, rfl⟩ := hB
  exact Wk.M h1 l L a w h2 h
end Ks
/-- A byte of one of the rows, changed. -/
def setb (P : List (List UInt8)) (k j : Nat) (b : UInt8) : List (List UInt8) := P.set k ((P.getD k []).set j b)
set_option maxRecDepth 100000 in
theorem setb_len (P : List (List UInt8)) (k j : Nat) (b : UInt8) : (setb P k j b).length = P.length := by simp [setb]
set_option maxRecDepth 100000 in
theorem setb_all {P : List (List UInt8)} (h : Lg.All32 P) (k j : Nat) (b : UInt8) : Lg.All32 (setb P k j b) := fun x hx => by
  rcases List.mem_or_eq_of_mem_set hx with h1 | h1
  · exact h x h1
  · by_cases hk : k < P.length
    · rw [h1, List.length_set, List.getD_eq_getElem?_getD, List.getElem?_eq_getElem hk]; exact h _ (List.getElem_mem _)
    · unfold setb at hx
      rw [List.set_eq_of_length_le (by omega)] at hx
      exact h x hx
set_option maxRecDepth 100000 in
theorem setb_flat (b : UInt8) (j : Nat) (hj : j < 32) : ∀ (P : List (List UInt8)) (k : Nat), Lg.All32 P → k < P.length → (setb P k j b).flatten = P.flatten.set (k * 32 + j) b
  | [], k, _, hk => by simp at hk
  | x :: P, 0, h, _ => by
    have hx : x.length = 32 := h x (by simp)
    show (x.set j b) ++ P.flatten = (x ++ P.flatten).set (0 * 32 + j) b
    rw [List.set_append_left _ _ (by omega), show 0 * 32 + j = j by omega]
  | x :: P, k + 1, h, hk => by
    have hx : x.length = 32 := h x (by simp)
    have ih := setb_flat b j hj P k (fun y hy => h y (by simp [hy])) (by simpa using hk)
    show x ++ (setb P k j b).flatten = (x ++ P.flatten).set ((k + 1) * 32 + j) b
    rw [List.set_append_right _ _ (by omega), ih, hx, show (k + 1) * 32 + j - 32 = k * 32 + j by omega]
set_option maxRecDepth 100000 in
theorem bv_sets (l : List UInt8) (i : Nat) (y : UInt8) : (bv l).set i (.int .u8 (y.toNat : Int)) = bv (l.set i y) := by simp [bv, List.map_set]
set_option maxRecDepth 100000 in
theorem wpList_store_own32 {ops : Array Oper} {rest : List Oper} {o : Oper} {a : Act} {w : World} {Q : Exit → Act → World → Prop} (hgd : o.guard = none) (x y : Operand) (ho : o.op = .store 5 x y)
    (g n c Z k j : Nat) (P : List (List UInt8)) (b : UInt8) (h32 : Lg.All32 P) (hP : P.length = n) (hk : k < n) (hj : j < 32) (hO : Or32 w Z (.slice (some ⟨g, 0, none⟩) n c) P) (hx : a.eval x = .pointer (some ⟨g, k * 32 + j, none⟩)) (hy : a.eval y = .int .u8 (b.toNat : Int))
    (h : ∀ w2 : World, Or32 w2 Z (.slice (some ⟨g, 0, none⟩) n c) (setb P k j b) → Fr (fun i => i = g) w w2 → wpList Tryd.prog ops Q rest (a.put o.dst undef) w2) : wpList Tryd.prog ops Q (o :: rest) a w := by
  rcases hO.2 with ⟨e, h0⟩ | ⟨g2, cap, cur, e, hb, hg, hc, hm, hs, ht⟩
  · cases e
  · cases e
    have hfl := h32.flat
    have hoff : k * 32 + j < cur.size := by rw [hs]; have := Nat.mul_le_mul_right 32 (show k + 1 ≤ c by omega); omega
    refine wpList_store_int hgd 5 x y ho g (k * 32 + j) hx .u8 _ hy (by kernel_rfl) 31 cur hg hoff fun w2 h2 F2 => h w2 ?_ F2
    refine ⟨by rw [bv_length, setb_flat b j hj P k h32 (by omega), List.length_set, hfl, setb_len], .inr ⟨g, c, _, by rw [setb_len, hP], hb, h2, by rw [setb_len]; exact hc, hm, by rw [Array.size_setIfInBounds]; exact hs, ?_⟩⟩
    rw [Array.toList_setIfInBounds, setb_len, List.take_set, ht, bv_sets, setb_flat b j hj P k h32 (by omega)]
/-- Two rows of one's own, apart from each other. -/
structure Two (w : World) (Z : Nat) (vp vq : Value) (P Q : List (List UInt8)) : Prop where
  p : Or32 w Z vp P
  q : Or32 w Z vq Q
  ap : ∀ k, vp.ownBlock = some k → vq.ownBlock ≠ some k
set_option maxRecDepth 100000 in
theorem Two.ext {w w' : World} {Z : Nat} {vp vq : Value} {P Q : List (List UInt8)} (h : Two w Z vp vq P Q) (F : Fr (fun _ => False) w w') : Two w' Z vp vq P Q := ⟨own_ext h.p F, own_ext h.q F, h.ap⟩
set_option maxRecDepth 100000 in
theorem Two.swap {w : World} {Z : Nat} {vp vq : Value} {P Q : List (List UInt8)} (h : Two w Z vp vq P Q) : Two w Z vq vp Q P := ⟨h.q, h.p, fun k h1 h2 => h.ap k h2 h1⟩
set_option maxRecDepth 100000 in
theorem Two.app {w w' : World} {Z : Nat} {vp vq v : Value} {P Q : List (List UInt8)} {r : List UInt8} (h : Two w Z vp vq P Q) (O : w'.ownsRow Z 31 32 v (P.length + 1) (bv P.flatten ++ bv r)) (G : w.grownBy w' vp.ownBlock) (hb : v.ownBlock = vp.ownBlock ∨ v.ownBlock = some w.heap.size) : Two w' Z v vq (P ++ [r]) Q :=
  ⟨Or32.snoc O, own_fr h.q (Fr.ofGrown G) (fun k hk hs => h.ap k hs hk), fun k hk hq => by
    rcases hb with hb | hb
    · exact h.ap k (by rw [← hb]; exact hk) hq
    · have h1 := (ownsRow_lt h.q k hq).2
      rw [hb] at hk
      have := Option.some.inj hk
      omega⟩
set_option maxRecDepth 100000 in
theorem Two.set {w w' : World} {Z g n c : Nat} {vq : Value} {P Q : List (List UInt8)} {P' : List (List UInt8)} (h : Two w Z (.slice (some ⟨g, 0, none⟩) n c) vq P Q) (O : Or32 w' Z (.slice (some ⟨g, 0, none⟩) n c) P') (F : Fr (fun i => i = g) w w') : Two w' Z (.slice (some ⟨g, 0, none⟩) n c) vq P' Q :=
  ⟨O, own_fr h.q F (fun k hk hs => h.ap k (by rw [hs]; rfl) hk), h.ap⟩
end Go.Proofs.YtjndkjgbplpfeaaDoor
namespace Go.Proofs.YtjndkjgbplpfeaaDoor
open Go.RowKit
set_option linter.unusedVariables false
set_option linter.unusedSimpArgs false
def allRegs : Code → List (Nat × Code)
  | .loop c => allRegs c
  | .seq a b => allRegs a ++ allRegs b
  | .block _ c => allRegs c
  | .scope c => allRegs c
  | .cond _ a b => allRegs a ++ allRegs b
  | .region i ops m => [(i, .region i ops m)]
  | _ => []
noncomputable def regionAt (F : Func) (k : Nat) : Code := ((((F.body.map allRegs).getD []).find? (fun p => p.1 == k)).map (·.2)).getD .skip
set_option maxRecDepth 100000 in
theorem lit187 (f : Nat → Value) : ((List.range 187).map f).toArray = (f 0 :: f 1 :: f 2 :: f 3 :: f 4 :: f 5 :: f 6 :: f 7 :: f 8 :: f 9 :: f 10 :: f 11 :: f 12 :: f 13 :: f 14 :: f 15 :: f 16 :: f 17 :: f 18 :: f 19 :: f 20 :: f 21 :: f 22 :: f 23 :: f 24 :: f 25 :: f 26 :: f 27 :: f 28 :: f 29 :: f 30 :: f 31 :: f 32 :: f 33 :: f 34 :: f 35 :: f 36 :: f 37 :: f 38 :: f 39 :: f 40 :: f 41 :: f 42 :: f 43 :: f 44 :: f 45 :: f 46 :: f 47 :: f 48 :: f 49 :: f 50 :: f 51 :: f 52 :: f 53 :: f 54 :: f 55 :: f 56 :: f 57 :: f 58 :: f 59 :: f 60 :: f 61 :: f 62 :: f 63 :: f 64 :: f 65 :: f 66 :: f 67 :: f 68 :: f 69 :: f 70 :: f 71 :: f 72 :: f 73 :: f 74 :: f 75 :: f 76 :: f 77 :: f 78 :: f 79 :: f 80 :: f 81 :: f 82 :: f 83 :: f 84 :: f 85 :: f 86 :: f 87 :: f 88 :: f 89 :: f 90 :: f 91 :: f 92 :: f 93 :: f 94 :: f 95 :: f 96 :: f 97 :: f 98 :: f 99 :: f 100 :: f 101 :: f 102 :: f 103 :: f 104 :: f 105 :: f 106 :: f 107 :: f 108 :: f 109 :: f 110 :: f 111 :: f 112 :: f 113 :: f 114 :: f 115 :: f 116 :: f 117 :: f 118 :: f 119 :: f 120 :: f 121 :: f 122 :: f 123 :: f 124 :: f 125 :: f 126 :: f 127 :: f 128 :: f 129 :: f 130 :: f 131 :: f 132 :: f 133 :: f 134 :: f 135 :: f 136 :: f 137 :: f 138 :: f 139 :: f 140 :: f 141 :: f 142 :: f 143 :: f 144 :: f 145 :: f 146 :: f 147 :: f 148 :: f 149 :: f 150 :: f 151 :: f 152 :: f 153 :: f 154 :: f 155 :: f 156 :: f 157 :: f 158 :: f 159 :: f 160 :: f 161 :: f 162 :: f 163 :: f 164 :: f 165 :: f 166 :: f 167 :: f 168 :: f 169 :: f 170 :: f 171 :: f 172 :: f 173 :: f 174 :: f 175 :: f 176 :: f 177 :: f 178 :: f 179 :: f 180 :: f 181 :: f 182 :: f 183 :: f 184 :: f 185 :: f 186 :: []).toArray := by kernel_rfl
set_option maxRecDepth 100000 in
set_option maxHeartbeats 6400000 in
theorem bent_last {Q : Exit → Act → World → Prop} {w : World} {i K cu pc qc rb ob np nq : Nat} {au ap aq : Option Addr} {LL P QQ : List (List UInt8)} {x rt ot : List UInt8} (hi : i < K) (hK20 : K ≤ 20) (hu : K ≤ cu) (hcu : cu ≤ maxLen) (hsv : Sv w au LL) (hLK : LL.length = K) (hx : LL[i]? = some x) (hxl : x.length ≤ 60)
    (hp : Kv w ap P) (hpn : P.length = np) (hpc : np ≤ pc) (hpm : pc ≤ maxLen) (hp9 : np ≤ 1000) (hq : Kv w aq QQ) (hqn : QQ.length = nq) (hqc : nq ≤ qc) (hqm : qc ≤ maxLen) (hq9 : nq ≤ 1000)
    (hrb : w.heap[rb]? = some (.cells (krow rt) 31 (0, 0))) (hob : w.heap[ob]? = some (.cells (krow ot) 31 (0, 0))) (hrl : rt.length = 32) (hol : ot.length = 32) (hE : Env w) (hR : REnv w) (fr : Array Value) (hn : fr.size = 187) (p1 : fr[1]? = some (.int .i64 (i : Int))) (p8 : fr[8]? = some (.slice au K cu)) (p9 : fr[9]? = some (.int .i64 (K : Int))) (p10 : fr[10]? = some (.slice ap np pc)) (p12 : fr[12]? = some (.slice aq nq qc)) (p14 : fr[14]? = some (.pointer (some ⟨rb, 0, none⟩))) (p16 : fr[16]? = some (.pointer (some ⟨ob, 0, none⟩)))
    (hQ : ∀ t' w', t'.size = 187 → t'[6]? = some (.bool true) → Fr (fun _ => False) w w' → Q .normal ⟨t', []⟩ w') :
    Code.wp Tryd.prog (regionAt Tryd.f6 26) Q ⟨fr, []⟩ w := by
  obtain ⟨D1, hD1⟩ : ∃ D1, D1 = chkI (Lg.leaf x) i K P rt := ⟨_, rfl⟩
  obtain ⟨D2, hD2⟩ : ∃ D2, D2 = chkC (i + 1) K QQ ot rt := ⟨_, rfl⟩
  have n9 : K ≤ 9223372036854775807 := by omega
  have h5 : ∀ (L : List (List UInt8)), Lg.All32 L → ∀ u ∈ L, u.length ≤ 100000 := fun L h u hu => by rw [h u hu]; decide
  have HCI := Lib.hid (fun (a : Option Addr) (c : Nat) (V : World) (F : Fr (fun _ => False) w V) (hC : Came V a x.length c x) => chki_any a ap x.length c pc x P i K rt hrl hi n9 V hC (by omega) (by omega) hpm (hp.ext F) (hE.ext F))
  have HDI := Lib.hid (fun (a : Option Addr) (c : Nat) (hc : P.length ≤ c) (hm : c ≤ maxLen) (V : World) (F : Fr (fun _ => False) w V) (hS : Sv V a P) => dchki_any x rt (by omega) i K hi n9 a c P (h5 P hp.all) hc hm V hS (hR.ext F))
  have HCC := Lib.hid (fun (V : World) (F : Fr (fun _ => False) w V) => chkc_any (i + 1) K (by omega) (by omega) n9 aq QQ qc (by omega) hqm ot rt hol hrl V (hq.ext F) (hE.ext F))
  have HDC := Lib.hid (fun (a : Option Addr) (c : Nat) (hc : QQ.length ≤ c) (hm : c ≤ maxLen) (V : World) (F : Fr (fun _ => False) w V) (hS : Sv V a QQ) => dchkc_any ot rt (by omega) (i + 1) K (by omega) (by omega) n9 a c QQ (h5 QQ hq.all) hc hm V hS (hR.ext F))
  have HT1 := Lib.hid (fun (V : World) (F : Fr (fun _ => False) w V) => texts_any ap pc np P hpn hp9 V (hp.ext F))
  have HT2 := Lib.hid (fun (V : World) (F : Fr (fun _ => False) w V) => texts_any aq qc nq QQ hqn hq9 V (hq.ext F))
  rw [← hD1, hpn] at HCI
  rw [← chkI_chkD, ← hD1, hpn] at HDI
  rw [← hD2, hqn] at HCC
  rw [← chkC_chkE, ← hD2, hqn] at HDC
  obtain ⟨gu, ou, rfl⟩ := hsv.at (by omega)
  have HKX := Lib.hid (hsv.cell hx)
  have HPN := Lib.hid (And.intro hpn hqn)
  have HRB := Lib.hid hrb
  have HOB := Lib.hid hob
  have HRL := Lib.hid hrl
  have HOL := Lib.hid hol
  have HXL := Lib.hid (show x.length ≤ 1000 by omega)
  have HCR := Lib.hid (show Came w (some ⟨rb, 0, none⟩) 32 32 rt by have := came_row hrb (by rw [hrl]; decide); rwa [hrl] at this)
  have HCO := Lib.hid (show Came w (some ⟨ob, 0, none⟩) 32 32 ot by have := came_row hob (by rw [hol]; decide); rwa [hol] at this)
  have HQ := Lib.hid hQ
  have q1 : (i : Int) < (K : Int) := by omega
  have q0 : (0 : Int) ≤ (i : Int) := Int.natCast_nonneg i
  have W1 : wrap64 ((i : Int) + 1) = ((i + 1 : Nat) : Int) := by rw [IntWalk.wrap64_in _ (by omega)]; omega
  clear hD1 hD2 n9 h5 hu hcu hsv hLK hx hxl hp hpn hpc hpm hp9 hq hqn hqc hqm hq9 hrb hob hrl hol hE hR hQ hK20
  obtain ⟨f, hff, rfl⟩ := frame_open hn
  have e1 := hff 1 _ p1
  have e8 := hff 8 _ p8
  have e9 := hff 9 _ p9
  have e10 := hff 10 _ p10
  have e12 := hff 12 _ p12
  have e14 := hff 14 _ p14
  have e16 := hff 16 _ p16
  clear hff hn p1 p8 p9 p10 p12 p14 p16
  rw [lit187, e1, e8, e9, e10, e12, e14, e16]
  clear e1 e8 e9 e10 e12 e14 e16
  conv => arg 2; whnf
  refine Ks.wp_region_mono (fun _ => False) (sg 0 4 ++ (sg 5 4 ++ (sg 10 7 ++ (sg 18 2 ++ ((4, true) :: ((9, true) :: ((17, true) :: ((20, true) :: (sg 21 8 ++ (sg 30 4 ++ (sg 35 4 ++ ((29, true) :: ((34, true) :: ((39, true) :: (sg 40 2 ++ ((42, true) :: ([]))))))))))))))))) (by kernel_rfl) (by kernel_rfl) ?_
  refine Ks.Wk.seg 0 4 (by kernel_rfl) (by kernel_rfl) ?_
  apply Exists.intro
  refine ⟨?wk0, ?fin0⟩
  case wk0 =>
    intro γ
    have kx : ∀ u : Ks.Ws γ, u.w.cell? ⟨gu, ou + i, none⟩ = some (.string ⟨x.toArray⟩) := fun u => u.h.cellSome (p := ⟨gu, ou + i, none⟩) (fun h => h) HKX.out
    simp only [List.drop_succ_cons, List.drop_zero, List.take_succ_cons, List.take_zero]
    repeat (any_goals (first | go_big_quiet_step (fail) | quiet_step (fail)))
    exact wpQuiet_nil rfl
  case fin0 =>
  (try simp only [Act.put, List.setIfInBounds_toArray, List.set_cons_zero, List.set_cons_succ])
  refine Ks.Wk.seg 5 4 (by kernel_rfl) (by kernel_rfl) ?_
  apply Exists.intro
  refine ⟨?wk1, ?fin1⟩
  case wk1 =>
    intro γ
    simp only [List.drop_succ_cons, List.drop_zero, List.take_succ_cons, List.take_zero]
    repeat (any_goals (first | (focus (go_big_quiet_want; (refine Ks.quiet_load_rows 31 (.tmp 14) rfl rb rfl 31 (krow rt) (0, 0) _ HRB.out (fun h => h) Tryd.underlying31 rfl (sz32' HRL.out) ?_); simp only [Act.put, List.setIfInBounds_toArray, List.set_cons_zero, List.set_cons_succ]; go_big_quiet_on)) | go_big_quiet_step (fail) | quiet_step (fail)))
    exact wpQuiet_nil rfl
  case fin1 =>
  (try simp only [Act.put, List.setIfInBounds_toArray, List.set_cons_zero, List.set_cons_succ])
  refine Ks.Wk.seg 10 7 (by kernel_rfl) (by kernel_rfl) ?_
  apply Exists.intro
  refine ⟨?wk2, ?fin2⟩
  case wk2 =>
    intro γ
    have kx : ∀ u : Ks.Ws γ, u.w.cell? ⟨gu, ou + i, none⟩ = some (.string ⟨x.toArray⟩) := fun u => u.h.cellSome (p := ⟨gu, ou + i, none⟩) (fun h => h) HKX.out
    simp only [List.drop_succ_cons, List.drop_zero, List.take_succ_cons, List.take_zero]
    repeat (any_goals (first | go_big_quiet_step (fail) | quiet_step (fail)))
    exact wpQuiet_nil rfl
  case fin2 =>
  (try simp only [Act.put, List.setIfInBounds_toArray, List.set_cons_zero, List.set_cons_succ])
  refine Ks.Wk.seg 18 2 (by kernel_rfl) (by kernel_rfl) ?_
  apply Exists.intro
  refine ⟨?wk3, ?fin3⟩
  case wk3 =>
    intro γ
    have cr : ∀ u : Ks.Ws γ, (convert 35 9 (.slice (some ⟨rb, 0, none⟩) 32 32)).run Tryd.prog u.w = .ok (.string ⟨rt.toArray⟩) u.w := fun u => (HCR.out.ext u.h).str2
    simp only [List.drop_succ_cons, List.drop_zero, List.take_succ_cons, List.take_zero]
    repeat (any_goals (first | go_big_quiet_step (fail) | quiet_step (fail)))
    exact wpQuiet_nil rfl
  case fin3 =>
  (try simp only [Act.put, List.setIfInBounds_toArray, List.set_cons_zero, List.set_cons_succ])
  refine Ks.Wk.one rfl (fun w2 Xw2 => ?_)
  have cv := fun (V : World) => conv_to x V
  go_wp2_with fail
  refine ⟨Ks.Es.of (own_str_fr _ ⟨x.toArray⟩), ?_⟩
  (try simp only [List.getElem_toArray, List.getElem_cons_succ, List.getElem_cons_zero, Act.put, List.setIfInBounds_toArray, List.set_cons_zero, List.set_cons_succ])
  have CM := conv_came x HXL.out w2
  have HX3 := Lib.hid (Xw2.trans (own_str_fr (w := w2) ⟨x.toArray⟩) (fun _ h => h.elim))
  generalize (Lib.bytesWorld w2 5 ⟨x.toArray⟩) = w3 at *
  generalize (grownCap w2 x.length 0 5) = gc at *
  have HCM := Lib.hid CM
  clear CM Xw2
  refine Ks.Wk.call rfl (by kernel_rfl) 20 #[.slice (some ⟨w2.heap.size, 0, none⟩) x.length gc, .int .i64 (i : Int), .int .i64 (K : Int), .slice ap np pc, .agg (krow rt)] (fun W => by first | kernel_rfl | rfl) (fun v V => v = .int .i64 D1) (fun V hx => (HCI.out _ _ V (HX3.out.trans hx (fun _ h => h.elim)) (HCM.out.ext hx)).mono (fun e w' he => ⟨_, he.1, he.2, rfl⟩)) ?_
  rintro v4 w4 X4 rfl
  (try simp only [List.getElem_toArray, List.getElem_cons_succ, List.getElem_cons_zero, Act.put, List.setIfInBounds_toArray, List.set_cons_zero, List.set_cons_succ])
  have HX4 := Lib.hid (HX3.out.trans X4 (fun _ h => h.elim))
  clear X4
  refine Ks.Wk.call rfl (by kernel_rfl) 18 #[.slice ap np pc] (fun W => by first | kernel_rfl | rfl) (fun v V => Nonempty2 (Os V w4.heap.size v P)) (fun V hx => (HT1.out V (HX4.out.trans hx (fun _ h => h.elim))).mono (fun e w' he => by obtain ⟨⟨v, e1, e2⟩, e3⟩ := he; exact ⟨v, e1, e3, ⟨own_up e2 hx.size⟩⟩)) ?_
  rintro v5 w5 X5 ⟨HT5⟩
  (try simp only [List.getElem_toArray, List.getElem_cons_succ, List.getElem_cons_zero, Act.put, List.setIfInBounds_toArray, List.set_cons_zero, List.set_cons_succ])
  obtain ⟨a5, c5, rfl, h5a, h5b, HV5, _⟩ := HT5.view
  have HS5 := Lib.hid HV5
  rw [HPN.out.1] at h5a
  have H5 := Lib.hid (And.intro h5a h5b)
  have HX5 := Lib.hid (HX4.out.trans X5 (fun _ h => h.elim))
  rw [HPN.out.1]
  clear HT5 h5a h5b HV5 X5
  refine Ks.Wk.call rfl (by kernel_rfl) 23 #[.string ⟨x.toArray⟩, .int .i64 (i : Int), .int .i64 (K : Int), .slice a5 np c5, .string ⟨rt.toArray⟩] (fun W => by first | kernel_rfl | rfl) (fun v V => v = .int .i64 D1) (fun V hx => (HDI.out a5 c5 H5.out.1 H5.out.2 V (HX5.out.trans hx (fun _ h => h.elim)) (HS5.out.ext hx)).mono (fun e w' he => ⟨_, he.1, he.2, rfl⟩)) ?_
  rintro v6 w6 X6 rfl
  (try simp only [List.getElem_toArray, List.getElem_cons_succ, List.getElem_cons_zero, Act.put, List.setIfInBounds_toArray, List.set_cons_zero, List.set_cons_succ])
  have HX6 := Lib.hid (HX5.out.trans X6 (fun _ h => h.elim))
  clear X6 HS5
  have hb6 := Lib.hid ((HX6.out.block _ (lt_of_block HRB.out) (fun h => h)).trans HRB.out)
  have ho6 := Lib.hid ((HX6.out.block _ (lt_of_block HOB.out) (fun h => h)).trans HOB.out)
  refine Ks.Wk.seg 21 8 (by kernel_rfl) (by kernel_rfl) ?_
  apply Exists.intro
  refine ⟨?wk8, ?fin8⟩
  case wk8 =>
    intro γ
    simp only [List.drop_succ_cons, List.drop_zero, List.take_succ_cons, List.take_zero]
    repeat (any_goals (first | (focus (go_big_quiet_want; (refine Ks.quiet_load_rows 31 (.tmp 14) rfl rb rfl 31 (krow rt) (0, 0) _ hb6.out (fun h => h) Tryd.underlying31 rfl (sz32' HRL.out) ?_); simp only [Act.put, List.setIfInBounds_toArray, List.set_cons_zero, List.set_cons_succ]; go_big_quiet_on)) | (focus (go_big_quiet_want; (refine Ks.quiet_load_rows 31 (.tmp 16) rfl ob rfl 31 (krow ot) (0, 0) _ ho6.out (fun h => h) Tryd.underlying31 rfl (sz32' HOL.out) ?_); simp only [Act.put, List.setIfInBounds_toArray, List.set_cons_zero, List.set_cons_succ]; go_big_quiet_on)) | go_big_quiet_step (fail) | quiet_step (fail)))
    exact wpQuiet_nil rfl
  case fin8 =>
  (try simp only [Act.put, List.setIfInBounds_toArray, List.set_cons_zero, List.set_cons_succ])
  refine Ks.Wk.seg 30 4 (by kernel_rfl) (by kernel_rfl) ?_
  apply Exists.intro
  refine ⟨?wk9, ?fin9⟩
  case wk9 =>
    intro γ
    simp only [List.drop_succ_cons, List.drop_zero, List.take_succ_cons, List.take_zero]
    repeat (any_goals (first | go_big_quiet_step (fail) | quiet_step (fail)))
    exact wpQuiet_nil rfl
  case fin9 =>
  (try simp only [Act.put, List.setIfInBounds_toArray, List.set_cons_zero, List.set_cons_succ])
  refine Ks.Wk.seg 35 4 (by kernel_rfl) (by kernel_rfl) ?_
  apply Exists.intro
  refine ⟨?wk10, ?fin10⟩
  case wk10 =>
    intro γ
    have cr : ∀ u : Ks.Ws γ, (convert 35 9 (.slice (some ⟨rb, 0, none⟩) 32 32)).run Tryd.prog u.w = .ok (.string ⟨rt.toArray⟩) u.w := fun u => (HCR.out.ext (HX6.out.trans u.h (fun _ h => h.elim))).str2
    have co : ∀ u : Ks.Ws γ, (convert 35 9 (.slice (some ⟨ob, 0, none⟩) 32 32)).run Tryd.prog u.w = .ok (.string ⟨ot.toArray⟩) u.w := fun u => (HCO.out.ext (HX6.out.trans u.h (fun _ h => h.elim))).str2
    simp only [List.drop_succ_cons, List.drop_zero, List.take_succ_cons, List.take_zero]
    repeat (any_goals (first | go_big_quiet_step (fail) | quiet_step (fail)))
    exact wpQuiet_nil rfl
  case fin10 =>
  (try simp only [Act.put, List.setIfInBounds_toArray, List.set_cons_zero, List.set_cons_succ])
  simp only [W1]
  refine Ks.Wk.call rfl (by kernel_rfl) 22 #[.int .i64 ((i + 1 : Nat) : Int), .int .i64 (K : Int), .slice aq nq qc, .agg (krow ot), .agg (krow rt)] (fun W => by first | kernel_rfl | rfl) (fun v V => v = .int .i64 D2) (fun V hx => (HCC.out V (HX6.out.trans hx (fun _ h => h.elim))).mono (fun e w' he => ⟨_, he.1, he.2, rfl⟩)) ?_
  rintro v7 w7 X7 rfl
  (try simp only [List.getElem_toArray, List.getElem_cons_succ, List.getElem_cons_zero, Act.put, List.setIfInBounds_toArray, List.set_cons_zero, List.set_cons_succ])
  have HX7 := Lib.hid (HX6.out.trans X7 (fun _ h => h.elim))
  clear X7
  refine Ks.Wk.call rfl (by kernel_rfl) 18 #[.slice aq nq qc] (fun W => by first | kernel_rfl | rfl) (fun v V => Nonempty2 (Os V w7.heap.size v QQ)) (fun V hx => (HT2.out V (HX7.out.trans hx (fun _ h => h.elim))).mono (fun e w' he => by obtain ⟨⟨v, e1, e2⟩, e3⟩ := he; exact ⟨v, e1, e3, ⟨own_up e2 hx.size⟩⟩)) ?_
  rintro v8 w8 X8 ⟨HT8⟩
  (try simp only [List.getElem_toArray, List.getElem_cons_succ, List.getElem_cons_zero, Act.put, List.setIfInBounds_toArray, List.set_cons_zero, List.set_cons_succ])
  obtain ⟨a8, c8, rfl, h8a, h8b, HV8, _⟩ := HT8.view
  have HS8 := Lib.hid HV8
  rw [HPN.out.2] at h8a
  have H8 := Lib.hid (And.intro h8a h8b)
  have HX8 := Lib.hid (HX7.out.trans X8 (fun _ h => h.elim))
  rw [HPN.out.2]
  clear HT8 h8a h8b HV8 X8
  refine Ks.Wk.call rfl (by kernel_rfl) 24 #[.int .i64 ((i + 1 : Nat) : Int), .int .i64 (K : Int), .slice a8 nq c8, .string ⟨ot.toArray⟩, .string ⟨rt.toArray⟩] (fun W => by first | kernel_rfl | rfl) (fun v V => v = .int .i64 D2) (fun V hx => (HDC.out a8 c8 H8.out.1 H8.out.2 V (HX8.out.trans hx (fun _ h => h.elim)) (HS8.out.ext hx)).mono (fun e w' he => ⟨_, he.1, he.2, rfl⟩)) ?_
  rintro v9 w9 X9 rfl
  (try simp only [List.getElem_toArray, List.getElem_cons_succ, List.getElem_cons_zero, Act.put, List.setIfInBounds_toArray, List.set_cons_zero, List.set_cons_succ])
  have HX9 := Lib.hid (HX8.out.trans X9 (fun _ h => h.elim))
  clear X9 HS8
  refine Ks.Wk.seg 40 2 (by kernel_rfl) (by kernel_rfl) ?_
  apply Exists.intro
  refine ⟨?wk14, ?fin14⟩
  case wk14 =>
    intro γ
    simp only [List.drop_succ_cons, List.drop_zero, List.take_succ_cons, List.take_zero]
    repeat (any_goals (first | go_big_quiet_step (fail) | quiet_step (fail)))
    exact wpQuiet_nil rfl
  case fin14 =>
  (try simp only [Act.put, List.setIfInBounds_toArray, List.set_cons_zero, List.set_cons_succ])
  refine Ks.Wk.one rfl (fun w10 Xw10 => ?_)
  go_wp2_with fail
  refine ⟨Ks.Es.of (Fr.refl _ _), ?_⟩
  (try simp only [List.getElem_toArray, List.getElem_cons_succ, List.getElem_cons_zero, Act.put, List.setIfInBounds_toArray, List.set_cons_zero, List.set_cons_succ])
  intro w11 X11
  exact HQ.out _ _ (by first | rfl | simp) rfl (HX9.out.trans (Xw10.trans X11 (fun _ h => h.elim)) (fun _ h => h.elim))
end Go.Proofs.YtjndkjgbplpfeaaDoor
namespace Go.Proofs.YtjndkjgbplpfeaaDoor
open Go.RowKit
set_option linter.unusedVariables false
set_option linter.unusedSimpArgs false
set_option maxRecDepth 100000 in
set_option maxHeartbeats 6400000 in
theorem bent_app {Q : Exit → Act → World → Prop} {w : World} {Z rb ob : Nat} {vp vq v1 v8 v9 : Value} {P QQ : List (List UInt8)} {rt ot : List UInt8} (h2 : Two w Z vp vq P QQ) (hZ : Z ≤ w.heap.size) (hpl : P.length ≤ 500) (hql : QQ.length ≤ 500)
    (hrb : w.heap[rb]? = some (.cells (krow rt) 31 (0, 0))) (hob : w.heap[ob]? = some (.cells (krow ot) 31 (0, 0))) (hrl : rt.length = 32) (hol : ot.length = 32) (hrS : ¬ (vp.ownBlock = some rb ∨ vq.ownBlock = some rb)) (hoS : ¬ (vp.ownBlock = some ob ∨ vq.ownBlock = some ob)) (fr : Array Value) (hn : fr.size = 187) (p1 : fr[1]? = some (v1)) (p8 : fr[8]? = some (v8)) (p9 : fr[9]? = some (v9)) (p10 : fr[10]? = some (vp)) (p12 : fr[12]? = some (vq)) (p14 : fr[14]? = some (.pointer (some ⟨rb, 0, none⟩))) (p16 : fr[16]? = some (.pointer (some ⟨ob, 0, none⟩)))
    (hQ : ∀ t' w' vp' vq', t'.size = 187 → t'[1]? = some (v1) → t'[8]? = some (v8) → t'[9]? = some (v9) → t'[10]? = some (vp') → t'[12]? = some (vq') → t'[14]? = some (.pointer (some ⟨rb, 0, none⟩)) → t'[16]? = some (.pointer (some ⟨ob, 0, none⟩)) → Two w' Z vp' vq' (P ++ [rt]) (QQ ++ [ot]) → Fr (fun k => vp.ownBlock = some k ∨ vq.ownBlock = some k) w w' → Q .normal ⟨t', []⟩ w') :
    Code.wp Tryd.prog (regionAt Tryd.f6 14) Q ⟨fr, []⟩ w := by
  obtain ⟨ti, zz, HI⟩ := rI
  have HQ := Lib.hid hQ
  have H2 := Lib.hid h2
  have HZ := Lib.hid hZ
  have HRB := Lib.hid hrb
  have HOB := Lib.hid hob
  have HRL := Lib.hid hrl
  have HOL := Lib.hid hol
  have HPL := Lib.hid hpl
  have HQL := Lib.hid hql
  clear hQ h2 hZ hrb hob hrl hol hpl hql
  obtain ⟨f, hff, rfl⟩ := frame_open hn
  have e1 := hff 1 _ p1
  have e8 := hff 8 _ p8
  have e9 := hff 9 _ p9
  have e10 := hff 10 _ p10
  have e12 := hff 12 _ p12
  have e14 := hff 14 _ p14
  have e16 := hff 16 _ p16
  clear hff hn p1 p8 p9 p10 p12 p14 p16
  rw [lit187, e1, e8, e9, e10, e12, e14, e16]
  clear e1 e8 e9 e10 e12 e14 e16
  conv => arg 2; whnf
  refine Ks.wp_region_part (fun k => vp.ownBlock = some k ∨ vq.ownBlock = some k) (sg 0 2 ++ (sg 4 2 ++ [])) 6 #[true, true, false, false, true, true, false, false, false, false] (by kernel_rfl) (by kernel_rfl) ?_
  refine Ks.Wk.seg 0 2 (by kernel_rfl) (by kernel_rfl) ?_
  apply Exists.intro
  refine ⟨?wka, ?fina⟩
  case wka =>
    intro γ
    simp only [List.drop_succ_cons, List.drop_zero, List.take_succ_cons, List.take_zero]
    repeat (any_goals (first | (focus (go_big_quiet_want; (refine Ks.quiet_load_rows 31 (.tmp 14) rfl rb rfl 31 (krow rt) (0, 0) _ HRB.out hrS Tryd.underlying31 rfl (sz32' HRL.out) ?_); simp only [Act.put, List.setIfInBounds_toArray, List.set_cons_zero, List.set_cons_succ]; go_big_quiet_on)) | go_big_quiet_step (fail) | quiet_step (fail)))
    exact wpQuiet_nil rfl
  case fina =>
  (try simp only [Act.put, List.setIfInBounds_toArray, List.set_cons_zero, List.set_cons_succ])
  refine Ks.Wk.seg 4 2 (by kernel_rfl) (by kernel_rfl) ?_
  apply Exists.intro
  refine ⟨?wkb, ?finb⟩
  case wkb =>
    intro γ
    simp only [List.drop_succ_cons, List.drop_zero, List.take_succ_cons, List.take_zero]
    repeat (any_goals (first | (focus (go_big_quiet_want; (refine Ks.quiet_load_rows 31 (.tmp 16) rfl ob rfl 31 (krow ot) (0, 0) _ HOB.out hoS Tryd.underlying31 rfl (sz32' HOL.out) ?_); simp only [Act.put, List.setIfInBounds_toArray, List.set_cons_zero, List.set_cons_succ]; go_big_quiet_on)) | go_big_quiet_step (fail) | quiet_step (fail)))
    exact wpQuiet_nil rfl
  case finb =>
  (try simp only [Act.put, List.setIfInBounds_toArray, List.set_cons_zero, List.set_cons_succ])
  intro w1 X1
  have F0 : Fr (fun k => vp.ownBlock = some k ∨ vq.ownBlock = some k) w w1 := X1.mono (fun _ _ h => h.elim)
  have T1 := H2.out.ext X1
  refine Ks.wpM.two 2 6 5 #[true, true, true, false, true, true, false, false, false, false] #[true, true, false, false, true, true, true, false, false, false] rfl rfl (by kernel_rfl) ?_ ?_
  · skip
    intro w11 X1
    have F1 := F0.trans X1 (fun _ h => h.elim)
    have D1 := T1.ext X1
    refine wpList_buildSlice rfl 38 1 _ rfl #[(0, .agg (krow rt))] (by first | kernel_rfl | rfl | simp [Act.eval]) (mkR HRL.out w11) ⟨rfl, Ks.Es.of ((Fr.refl _ w11).alloc _), ?_⟩
    (try simp only [List.getElem_toArray, List.getElem_cons_succ, List.getElem_cons_zero, Act.put, List.setIfInBounds_toArray, List.set_cons_zero, List.set_cons_succ])
    have N1 := heap_alloc_new w11 (.cells (krow rt) 31)
    have A1 := ((Fr.refl (fun _ => False) w11).alloc (.cells (krow rt) 31))
    have G1 := F1.trans A1 (fun _ h => h.elim)
    have E1 := D1.ext A1
    have M1 : vp.ownBlock ≠ some w11.heap.size := fun e => absurd (ownsRow_lt D1.p _ e).2 (Nat.lt_irrefl _)
    refine Ks.wpM.two 3 6 4 #[true, true, true, true, true, true, false, false, false, false] #[true, true, true, false, true, true, true, false, false, false] rfl rfl (by kernel_rfl) ?_ ?_
    · skip
      intro w12 X2
      have F2 := G1.trans X2 (fun _ h => h.elim)
      have D2 := E1.ext X2
      have B2_2 := (X2.block _ (lt_of_block N1) (fun h => h)).trans N1
      have Z2 : Z ≤ w12.heap.size := Nat.le_trans HZ.out F2.size
      refine wpList_app _ rfl (.tmp 87) (.tmp 89) 38 38 rfl Z 31 ti zz 32 32 Tryd.underlying38 HI.h1 HI.h2 HI.h3 HI.h4 HI.h5 (by decide) vp _ _ rfl D2.p _ rfl 1 (bv rt) (src_row B2_2 HRL.out) (by have := HPL.out; unfold maxLen; omega) (by have := HPL.out; omega) Z2 (fun v2 y2 O2 G2 g2 => ⟨rfl, (Fr.ofGrown G2).mono (fun k _ hk => .inl hk), ?_⟩)
      (try simp only [List.getElem_toArray, List.getElem_cons_succ, List.getElem_cons_zero, Act.put, List.setIfInBounds_toArray, List.set_cons_zero, List.set_cons_succ])
      have E2 := (D2.app O2 G2 g2)
      have J2 := F2.trans (Fr.ofGrown G2) (fun k hk => .inl (.inl hk))
      refine Ks.wpM.only 6 3 #[true, true, true, true, true, true, true, false, false, false] rfl (by kernel_rfl) ?_
      intro w13 X3
      have F3 := J2.trans X3 (fun _ h => h.elim)
      have D3 := E2.ext X3
      refine wpList_buildSlice rfl 38 1 _ rfl #[(0, .agg (krow ot))] (by first | kernel_rfl | rfl | simp [Act.eval]) (mkR HOL.out w13) ⟨rfl, Ks.Es.of ((Fr.refl _ w13).alloc _), ?_⟩
      (try simp only [List.getElem_toArray, List.getElem_cons_succ, List.getElem_cons_zero, Act.put, List.setIfInBounds_toArray, List.set_cons_zero, List.set_cons_succ])
      have N3 := heap_alloc_new w13 (.cells (krow ot) 31)
      have A3 := ((Fr.refl (fun _ => False) w13).alloc (.cells (krow ot) 31))
      have G3 := F3.trans A3 (fun _ h => h.elim)
      have E3 := D3.ext A3
      refine Ks.wpM.only 7 2 #[true, true, true, true, true, true, true, true, false, false] rfl (by kernel_rfl) ?_
      intro w14 X4
      have F4 := G3.trans X4 (fun _ h => h.elim)
      have D4 := E3.ext X4
      have B6_4 := (X4.block _ (lt_of_block N3) (fun h => h)).trans N3
      have Z4 : Z ≤ w14.heap.size := Nat.le_trans HZ.out F4.size
      refine wpList_app _ rfl (.tmp 91) (.tmp 93) 38 38 rfl Z 31 ti zz 32 32 Tryd.underlying38 HI.h1 HI.h2 HI.h3 HI.h4 HI.h5 (by decide) vq _ _ rfl D4.swap.p _ rfl 1 (bv ot) (src_row B6_4 HOL.out) (by have := HQL.out; unfold maxLen; omega) (by have := HQL.out; omega) Z4 (fun v4 y4 O4 G4 g4 => ⟨rfl, (Fr.ofGrown G4).mono (fun k _ hk => .inr hk), ?_⟩)
      (try simp only [List.getElem_toArray, List.getElem_cons_succ, List.getElem_cons_zero, Act.put, List.setIfInBounds_toArray, List.set_cons_zero, List.set_cons_succ])
      have E4 := (D4.swap.app O4 G4 g4).swap
      have J4 := F4.trans (Fr.ofGrown G4) (fun k hk => .inl (.inr hk))
      refine Ks.wpM.last (sg 8 2 ++ []) 2 (by kernel_rfl) ?_
      refine Ks.Wk.seg 8 2 (by kernel_rfl) (by kernel_rfl) ?_
      apply Exists.intro
      refine ⟨?wkz4, ?finz4⟩
      case wkz4 =>
        intro γ
        simp only [List.drop_succ_cons, List.drop_zero, List.take_succ_cons, List.take_zero]
        repeat (any_goals (first | go_big_quiet_step (fail) | quiet_step (fail)))
        exact wpQuiet_nil rfl
      case finz4 =>
      (try simp only [Act.put, List.setIfInBounds_toArray, List.set_cons_zero, List.set_cons_succ])
      intro wz Xz
      exact HQ.out _ _ _ _ (by first | rfl | simp) rfl rfl rfl rfl rfl rfl rfl (E4.ext Xz) (J4.trans Xz (fun _ h => h.elim))
    · skip
      intro w16 X6
      have F6 := G1.trans X6 (fun _ h => h.elim)
      have D6 := E1.ext X6
      have B2_6 := (X6.block _ (lt_of_block N1) (fun h => h)).trans N1
      refine wpList_buildSlice rfl 38 1 _ rfl #[(0, .agg (krow ot))] (by first | kernel_rfl | rfl | simp [Act.eval]) (mkR HOL.out w16) ⟨rfl, Ks.Es.of ((Fr.refl _ w16).alloc _), ?_⟩
      (try simp only [List.getElem_toArray, List.getElem_cons_succ, List.getElem_cons_zero, Act.put, List.setIfInBounds_toArray, List.set_cons_zero, List.set_cons_succ])
      have N6 := heap_alloc_new w16 (.cells (krow ot) 31)
      have A6 := ((Fr.refl (fun _ => False) w16).alloc (.cells (krow ot) 31))
      have G6 := F6.trans A6 (fun _ h => h.elim)
      have E6 := D6.ext A6
      have B2_6n := (A6.block _ (lt_of_block B2_6) (fun h => h)).trans B2_6
      have M6 : vp.ownBlock ≠ some w16.heap.size := fun e => absurd (ownsRow_lt D6.p _ e).2 (Nat.lt_irrefl _)
      refine Ks.wpM.only 3 3 #[true, true, true, true, true, true, true, false, false, false] rfl (by kernel_rfl) ?_
      intro w17 X7
      have F7 := G6.trans X7 (fun _ h => h.elim)
      have D7 := E6.ext X7
      have B2_7 := (X7.block _ (lt_of_block B2_6n) (fun h => h)).trans B2_6n
      have B6_7 := (X7.block _ (lt_of_block N6) (fun h => h)).trans N6
      have Z7 : Z ≤ w17.heap.size := Nat.le_trans HZ.out F7.size
      refine wpList_app _ rfl (.tmp 87) (.tmp 89) 38 38 rfl Z 31 ti zz 32 32 Tryd.underlying38 HI.h1 HI.h2 HI.h3 HI.h4 HI.h5 (by decide) vp _ _ rfl D7.p _ rfl 1 (bv rt) (src_row B2_7 HRL.out) (by have := HPL.out; unfold maxLen; omega) (by have := HPL.out; omega) Z7 (fun v7 y7 O7 G7 g7 => ⟨rfl, (Fr.ofGrown G7).mono (fun k _ hk => .inl hk), ?_⟩)
      (try simp only [List.getElem_toArray, List.getElem_cons_succ, List.getElem_cons_zero, Act.put, List.setIfInBounds_toArray, List.set_cons_zero, List.set_cons_succ])
      have E7 := (D7.app O7 G7 g7)
      have J7 := F7.trans (Fr.ofGrown G7) (fun k hk => .inl (.inl hk))
      have B6_7n := ((Fr.ofGrown G7).block _ (lt_of_block B6_7) M6).trans B6_7
      refine Ks.wpM.only 7 2 #[true, true, true, true, true, true, true, true, false, false] rfl (by kernel_rfl) ?_
      intro w18 X8
      have F8 := J7.trans X8 (fun _ h => h.elim)
      have D8 := E7.ext X8
      have B6_8 := (X8.block _ (lt_of_block B6_7n) (fun h => h)).trans B6_7n
      have Z8 : Z ≤ w18.heap.size := Nat.le_trans HZ.out F8.size
      refine wpList_app _ rfl (.tmp 91) (.tmp 93) 38 38 rfl Z 31 ti zz 32 32 Tryd.underlying38 HI.h1 HI.h2 HI.h3 HI.h4 HI.h5 (by decide) vq _ _ rfl D8.swap.p _ rfl 1 (bv ot) (src_row B6_8 HOL.out) (by have := HQL.out; unfold maxLen; omega) (by have := HQL.out; omega) Z8 (fun v8 y8 O8 G8 g8 => ⟨rfl, (Fr.ofGrown G8).mono (fun k _ hk => .inr hk), ?_⟩)
      (try simp only [List.getElem_toArray, List.getElem_cons_succ, List.getElem_cons_zero, Act.put, List.setIfInBounds_toArray, List.set_cons_zero, List.set_cons_succ])
      have E8 := (D8.swap.app O8 G8 g8).swap
      have J8 := F8.trans (Fr.ofGrown G8) (fun k hk => .inl (.inr hk))
      refine Ks.wpM.last (sg 8 2 ++ []) 2 (by kernel_rfl) ?_
      refine Ks.Wk.seg 8 2 (by kernel_rfl) (by kernel_rfl) ?_
      apply Exists.intro
      refine ⟨?wkz8, ?finz8⟩
      case wkz8 =>
        intro γ
        simp only [List.drop_succ_cons, List.drop_zero, List.take_succ_cons, List.take_zero]
        repeat (any_goals (first | go_big_quiet_step (fail) | quiet_step (fail)))
        exact wpQuiet_nil rfl
      case finz8 =>
      (try simp only [Act.put, List.setIfInBounds_toArray, List.set_cons_zero, List.set_cons_succ])
      intro wz Xz
      exact HQ.out _ _ _ _ (by first | rfl | simp) rfl rfl rfl rfl rfl rfl rfl (E8.ext Xz) (J8.trans Xz (fun _ h => h.elim))
  · skip
    intro w20 X10
    have F10 := F0.trans X10 (fun _ h => h.elim)
    have D10 := T1.ext X10
    refine wpList_buildSlice rfl 38 1 _ rfl #[(0, .agg (krow ot))] (by first | kernel_rfl | rfl | simp [Act.eval]) (mkR HOL.out w20) ⟨rfl, Ks.Es.of ((Fr.refl _ w20).alloc _), ?_⟩
    (try simp only [List.getElem_toArray, List.getElem_cons_succ, List.getElem_cons_zero, Act.put, List.setIfInBounds_toArray, List.set_cons_zero, List.set_cons_succ])
    have N10 := heap_alloc_new w20 (.cells (krow ot) 31)
    have A10 := ((Fr.refl (fun _ => False) w20).alloc (.cells (krow ot) 31))
    have G10 := F10.trans A10 (fun _ h => h.elim)
    have E10 := D10.ext A10
    have M10 : vp.ownBlock ≠ some w20.heap.size := fun e => absurd (ownsRow_lt D10.p _ e).2 (Nat.lt_irrefl _)
    refine Ks.wpM.only 2 4 #[true, true, true, false, true, true, true, false, false, false] rfl (by kernel_rfl) ?_
    intro w21 X11
    have F11 := G10.trans X11 (fun _ h => h.elim)
    have D11 := E10.ext X11
    have B6_11 := (X11.block _ (lt_of_block N10) (fun h => h)).trans N10
    refine wpList_buildSlice rfl 38 1 _ rfl #[(0, .agg (krow rt))] (by first | kernel_rfl | rfl | simp [Act.eval]) (mkR HRL.out w21) ⟨rfl, Ks.Es.of ((Fr.refl _ w21).alloc _), ?_⟩
    (try simp only [List.getElem_toArray, List.getElem_cons_succ, List.getElem_cons_zero, Act.put, List.setIfInBounds_toArray, List.set_cons_zero, List.set_cons_succ])
    have N11 := heap_alloc_new w21 (.cells (krow rt) 31)
    have A11 := ((Fr.refl (fun _ => False) w21).alloc (.cells (krow rt) 31))
    have G11 := F11.trans A11 (fun _ h => h.elim)
    have E11 := D11.ext A11
    have B6_11n := (A11.block _ (lt_of_block B6_11) (fun h => h)).trans B6_11
    have M11 : vp.ownBlock ≠ some w21.heap.size := fun e => absurd (ownsRow_lt D11.p _ e).2 (Nat.lt_irrefl _)
    refine Ks.wpM.only 3 3 #[true, true, true, true, true, true, true, false, false, false] rfl (by kernel_rfl) ?_
    intro w22 X12
    have F12 := G11.trans X12 (fun _ h => h.elim)
    have D12 := E11.ext X12
    have B2_12 := (X12.block _ (lt_of_block N11) (fun h => h)).trans N11
    have B6_12 := (X12.block _ (lt_of_block B6_11n) (fun h => h)).trans B6_11n
    have Z12 : Z ≤ w22.heap.size := Nat.le_trans HZ.out F12.size
    refine wpList_app _ rfl (.tmp 87) (.tmp 89) 38 38 rfl Z 31 ti zz 32 32 Tryd.underlying38 HI.h1 HI.h2 HI.h3 HI.h4 HI.h5 (by decide) vp _ _ rfl D12.p _ rfl 1 (bv rt) (src_row B2_12 HRL.out) (by have := HPL.out; unfold maxLen; omega) (by have := HPL.out; omega) Z12 (fun v12 y12 O12 G12 g12 => ⟨rfl, (Fr.ofGrown G12).mono (fun k _ hk => .inl hk), ?_⟩)
    (try simp only [List.getElem_toArray, List.getElem_cons_succ, List.getElem_cons_zero, Act.put, List.setIfInBounds_toArray, List.set_cons_zero, List.set_cons_succ])
    have E12 := (D12.app O12 G12 g12)
    have J12 := F12.trans (Fr.ofGrown G12) (fun k hk => .inl (.inl hk))
    have B6_12n := ((Fr.ofGrown G12).block _ (lt_of_block B6_12) M10).trans B6_12
    refine Ks.wpM.only 7 2 #[true, true, true, true, true, true, true, true, false, false] rfl (by kernel_rfl) ?_
    intro w23 X13
    have F13 := J12.trans X13 (fun _ h => h.elim)
    have D13 := E12.ext X13
    have B6_13 := (X13.block _ (lt_of_block B6_12n) (fun h => h)).trans B6_12n
    have Z13 : Z ≤ w23.heap.size := Nat.le_trans HZ.out F13.size
    refine wpList_app _ rfl (.tmp 91) (.tmp 93) 38 38 rfl Z 31 ti zz 32 32 Tryd.underlying38 HI.h1 HI.h2 HI.h3 HI.h4 HI.h5 (by decide) vq _ _ rfl D13.swap.p _ rfl 1 (bv ot) (src_row B6_13 HOL.out) (by have := HQL.out; unfold maxLen; omega) (by have := HQL.out; omega) Z13 (fun v13 y13 O13 G13 g13 => ⟨rfl, (Fr.ofGrown G13).mono (fun k _ hk => .inr hk), ?_⟩)
    (try simp only [List.getElem_toArray, List.getElem_cons_succ, List.getElem_cons_zero, Act.put, List.setIfInBounds_toArray, List.set_cons_zero, List.set_cons_succ])
    have E13 := (D13.swap.app O13 G13 g13).swap
    have J13 := F13.trans (Fr.ofGrown G13) (fun k hk => .inl (.inr hk))
    refine Ks.wpM.last (sg 8 2 ++ []) 2 (by kernel_rfl) ?_
    refine Ks.Wk.seg 8 2 (by kernel_rfl) (by kernel_rfl) ?_
    apply Exists.intro
    refine ⟨?wkz13, ?finz13⟩
    case wkz13 =>
      intro γ
      simp only [List.drop_succ_cons, List.drop_zero, List.take_succ_cons, List.take_zero]
      repeat (any_goals (first | go_big_quiet_step (fail) | quiet_step (fail)))
      exact wpQuiet_nil rfl
    case finz13 =>
    (try simp only [Act.put, List.setIfInBounds_toArray, List.set_cons_zero, List.set_cons_succ])
    intro wz Xz
    exact HQ.out _ _ _ _ (by first | rfl | simp) rfl rfl rfl rfl rfl rfl rfl (E13.ext Xz) (J13.trans Xz (fun _ h => h.elim))
end Go.Proofs.YtjndkjgbplpfeaaDoor
namespace Go.Proofs.YtjndkjgbplpfeaaDoor
open Go.RowKit
set_option linter.unusedVariables false
set_option linter.unusedSimpArgs false
set_option maxRecDepth 100000 in
set_option maxHeartbeats 6400000 in
theorem bent_p {Q : Exit → Act → World → Prop} {w : World} {Z g n c k : Nat} {vo v1 v8 v9 v14 v16 : Value} {P QQ : List (List UInt8)} (h2 : Two w Z (.slice (some ⟨g, 0, none⟩) n c) vo P QQ) (hA : Lg.All32 P) (hPn : P.length = n) (hn0 : 0 < n) (hn20 : n ≤ 20) (hk : k < 32) (fr : Array Value) (hn : fr.size = 187) (p1 : fr[1]? = some (v1)) (p8 : fr[8]? = some (v8)) (p9 : fr[9]? = some (v9)) (p10 : fr[10]? = some (.slice (some ⟨g, 0, none⟩) n c)) (p12 : fr[12]? = some (vo)) (p14 : fr[14]? = some (v14)) (p16 : fr[16]? = some (v16)) (p18 : fr[18]? = some (.int .i64 (k : Int)))
    (hQ : ∀ t' w' b, t'.size = 187 → t'[1]? = some (v1) → t'[8]? = some (v8) → t'[9]? = some (v9) → t'[10]? = some (.slice (some ⟨g, 0, none⟩) n c) → t'[12]? = some (vo) → t'[14]? = some (v14) → t'[16]? = some (v16) → t'[18]? = some (.int .i64 (k : Int)) → Two w' Z (.slice (some ⟨g, 0, none⟩) n c) vo (setb P (n / 2) k b) QQ → Fr (fun i => i = g) w w' → Q .normal ⟨t', []⟩ w') :
    Code.wp Tryd.prog (regionAt Tryd.f6 23) Q ⟨fr, []⟩ w := by
  obtain ⟨h, hh⟩ : ∃ h, h = n / 2 := ⟨_, rfl⟩
  have hhn : h < n := by omega
  obtain ⟨x, hx⟩ : ∃ x, P[h]? = some x := ⟨P[h]'(by omega), List.getElem?_eq_getElem _⟩
  have hx32 : x.length = 32 := hA x (List.mem_of_getElem? hx)
  obtain ⟨y, hy⟩ : ∃ y, x[k]? = some y := ⟨x[k]'(by omega), List.getElem?_eq_getElem _⟩
  obtain ⟨a0, c0, e0, _, _, hK, _⟩ := h2.p.view hA
  have ea : a0 = some ⟨g, 0, none⟩ := by injection e0 with e1 e2 e3; exact e1.symm
  subst ea
  clear e0
  have hcell := hK.cells hx k (.int .u8 (y.toNat : Int)) (by rw [krow, List.getElem?_toArray, bv_get, hy]; rfl)
  rw [Nat.zero_add] at hcell
  have hxor : bits .xor .u8 (y.toNat : Int) 1 = ((y ^^^ 1).toNat : Int) := xor_byte y 1
  have HC := Lib.hid hcell
  have H2 := Lib.hid h2
  have HQ := Lib.hid hQ
  have HA := Lib.hid (And.intro hA (And.intro hPn (And.intro hhn hk)))
  have HH := Lib.hid hh
  have q1 : (n : Int).tdiv 2 = (h : Int) := by rw [Int.tdiv_eq_ediv_of_nonneg (by omega), hh]; omega
  have q2 : (0 : Int) ≤ (h : Int) := Int.natCast_nonneg h
  have q3 : (h : Int) < (n : Int) := by omega
  have q4 : (0 : Int) ≤ (k : Int) := Int.natCast_nonneg k
  have q5 : (k : Int) < 32 := by omega
  have q6 : wrap64 (h : Int) = (h : Int) := IntWalk.wrap64_in _ (by omega)
  clear h2 hQ hA hh hx hx32 hy hK hcell hn0 hn20 hPn
  obtain ⟨f, hff, rfl⟩ := frame_open hn
  have e1 := hff 1 _ p1
  have e8 := hff 8 _ p8
  have e9 := hff 9 _ p9
  have e10 := hff 10 _ p10
  have e12 := hff 12 _ p12
  have e14 := hff 14 _ p14
  have e16 := hff 16 _ p16
  have e18 := hff 18 _ p18
  clear hff hn p1 p8 p9 p10 p12 p14 p16 p18
  rw [lit187, e1, e8, e9, e10, e12, e14, e16, e18]
  clear e1 e8 e9 e10 e12 e14 e16 e18
  conv => arg 2; whnf
  refine wp_region_tail 11 [] (by kernel_rfl) (by kernel_rfl) mk_nil ?_
  apply Exists.intro
  refine ⟨?wk, ?fin⟩
  case wk =>
    intro γ
    have kx : ∀ u : Wg γ, u.w.cell? ⟨g, h * 32 + k, none⟩ = some (.int .u8 (y.toNat : Int)) := fun u => u.h.cellSome (p := ⟨g, h * 32 + k, none⟩) (fun h => h) HC.out
    simp only [List.take_succ_cons, List.take_zero]
    repeat (any_goals (first | go_big_quiet_step (fail) | quiet_step (fail)))
    exact wpQuiet_nil rfl
  case fin =>
    intro gs wx hF hg hne
    simp only [putAll, List.drop_succ_cons, List.drop_zero, List.length_nil, Nat.add_zero]
    clear hg hne
    refine wpList_store_own32 rfl (.tmp 130) (.tmp 128) rfl g n c Z h k P (y ^^^ 1) HA.out.1 HA.out.2.1 HA.out.2.2.1 HA.out.2.2.2 (own_ext H2.out.p hF) rfl rfl (fun w3 O3 F3 => ?_)
    have T3 := (H2.out.ext hF).set O3 F3
    rw [HH.out] at T3
    go_wp2_with fail
    exact HQ.out _ _ _ (by first | rfl | simp) rfl rfl rfl rfl rfl rfl rfl rfl T3 ((hF.mono (fun _ _ h => h.elim)).trans F3 (fun i hi => .inl hi))
set_option maxRecDepth 100000 in
set_option maxHeartbeats 6400000 in
theorem bent_q {Q : Exit → Act → World → Prop} {w : World} {Z g n c k : Nat} {vo v1 v8 v9 v14 v16 : Value} {P QQ : List (List UInt8)} (h2 : Two w Z (.slice (some ⟨g, 0, none⟩) n c) vo P QQ) (hA : Lg.All32 P) (hPn : P.length = n) (hn0 : 0 < n) (hn20 : n ≤ 20) (hk : k < 32) (fr : Array Value) (hn : fr.size = 187) (p1 : fr[1]? = some (v1)) (p8 : fr[8]? = some (v8)) (p9 : fr[9]? = some (v9)) (p10 : fr[10]? = some (vo)) (p12 : fr[12]? = some (.slice (some ⟨g, 0, none⟩) n c)) (p14 : fr[14]? = some (v14)) (p16 : fr[16]? = some (v16)) (p18 : fr[18]? = some (.int .i64 (k : Int)))
    (hQ : ∀ t' w' b, t'.size = 187 → t'[1]? = some (v1) → t'[8]? = some (v8) → t'[9]? = some (v9) → t'[10]? = some (vo) → t'[12]? = some (.slice (some ⟨g, 0, none⟩) n c) → t'[14]? = some (v14) → t'[16]? = some (v16) → t'[18]? = some (.int .i64 (k : Int)) → Two w' Z (.slice (some ⟨g, 0, none⟩) n c) vo (setb P (n / 2) k b) QQ → Fr (fun i => i = g) w w' → Q .normal ⟨t', []⟩ w') :
    Code.wp Tryd.prog (regionAt Tryd.f6 25) Q ⟨fr, []⟩ w := by
  obtain ⟨h, hh⟩ : ∃ h, h = n / 2 := ⟨_, rfl⟩
  have hhn : h < n := by omega
  obtain ⟨x, hx⟩ : ∃ x, P[h]? = some x := ⟨P[h]'(by omega), List.getElem?_eq_getElem _⟩
  have hx32 : x.length = 32 := hA x (List.mem_of_getElem? hx)
  obtain ⟨y, hy⟩ : ∃ y, x[k]? = some y := ⟨x[k]'(by omega), List.getElem?_eq_getElem _⟩
  obtain ⟨a0, c0, e0, _, _, hK, _⟩ := h2.p.view hA
  have ea : a0 = some ⟨g, 0, none⟩ := by injection e0 with e1 e2 e3; exact e1.symm
  subst ea
  clear e0
  have hcell := hK.cells hx k (.int .u8 (y.toNat : Int)) (by rw [krow, List.getElem?_toArray, bv_get, hy]; rfl)
  rw [Nat.zero_add] at hcell
  have hxor : bits .xor .u8 (y.toNat : Int) 1 = ((y ^^^ 1).toNat : Int) := xor_byte y 1
  have HC := Lib.hid hcell
  have H2 := Lib.hid h2
  have HQ := Lib.hid hQ
  have HA := Lib.hid (And.intro hA (And.intro hPn (And.intro hhn hk)))
  have HH := Lib.hid hh
  have q1 : (n : Int).tdiv 2 = (h : Int) := by rw [Int.tdiv_eq_ediv_of_nonneg (by omega), hh]; omega
  have q2 : (0 : Int) ≤ (h : Int) := Int.natCast_nonneg h
  have q3 : (h : Int) < (n : Int) := by omega
  have q4 : (0 : Int) ≤ (k : Int) := Int.natCast_nonneg k
  have q5 : (k : Int) < 32 := by omega
  have q6 : wrap64 (h : Int) = (h : Int) := IntWalk.wrap64_in _ (by omega)
  clear h2 hQ hA hh hx hx32 hy hK hcell hn0 hn20 hPn
  obtain ⟨f, hff, rfl⟩ := frame_open hn
  have e1 := hff 1 _ p1
  have e8 := hff 8 _ p8
  have e9 := hff 9 _ p9
  have e10 := hff 10 _ p10
  have e12 := hff 12 _ p12
  have e14 := hff 14 _ p14
  have e16 := hff 16 _ p16
  have e18 := hff 18 _ p18
  clear hff hn p1 p8 p9 p10 p12 p14 p16 p18
  rw [lit187, e1, e8, e9, e10, e12, e14, e16, e18]
  clear e1 e8 e9 e10 e12 e14 e16 e18
  conv => arg 2; whnf
  refine wp_region_tail 11 [] (by kernel_rfl) (by kernel_rfl) mk_nil ?_
  apply Exists.intro
  refine ⟨?wk, ?fin⟩
  case wk =>
    intro γ
    have kx : ∀ u : Wg γ, u.w.cell? ⟨g, h * 32 + k, none⟩ = some (.int .u8 (y.toNat : Int)) := fun u => u.h.cellSome (p := ⟨g, h * 32 + k, none⟩) (fun h => h) HC.out
    simp only [List.take_succ_cons, List.take_zero]
    repeat (any_goals (first | go_big_quiet_step (fail) | quiet_step (fail)))
    exact wpQuiet_nil rfl
  case fin =>
    intro gs wx hF hg hne
    simp only [putAll, List.drop_succ_cons, List.drop_zero, List.length_nil, Nat.add_zero]
    clear hg hne
    refine wpList_store_own32 rfl (.tmp 144) (.tmp 142) rfl g n c Z h k P (y ^^^ 1) HA.out.1 HA.out.2.1 HA.out.2.2.1 HA.out.2.2.2 (own_ext H2.out.p hF) rfl rfl (fun w3 O3 F3 => ?_)
    have T3 := (H2.out.ext hF).set O3 F3
    rw [HH.out] at T3
    go_wp2_with fail
    exact HQ.out _ _ _ (by first | rfl | simp) rfl rfl rfl rfl rfl rfl rfl rfl T3 ((hF.mono (fun _ _ h => h.elim)).trans F3 (fun i hi => .inl hi))
end Go.Proofs.YtjndkjgbplpfeaaDoor
namespace Go.Proofs.YtjndkjgbplpfeaaDoor
open Go.RowKit
set_option linter.unusedVariables false
set_option linter.unusedSimpArgs false
set_option maxRecDepth 100000 in
theorem or32_kv {w : World} {Z n c : Nat} {a : Option Addr} {P : List (List UInt8)} (h : Or32 w Z (.slice a n c) P) (hA : Lg.All32 P) : P.length = n ∧ n ≤ c ∧ c ≤ maxLen ∧ Kv w a P := by
  obtain ⟨a', c', e, h1, h2, h3, _⟩ := h.view hA
  injection e with e1 e2 e3
  rw [e1, e2, e3]
  exact ⟨rfl, h1, h2, h3⟩
set_option maxRecDepth 100000 in
theorem or32_form {w : World} {Z : Nat} {v : Value} {P : List (List UInt8)} (h : Or32 w Z v P) (h0 : 0 < P.length) : ∃ g c, v = .slice (some ⟨g, 0, none⟩) P.length c := by
  rcases h.2 with ⟨_, h1⟩ | ⟨g, cap, cur, e, _⟩
  · omega
  · exact ⟨g, cap, e⟩
set_option maxRecDepth 100000 in
set_option maxHeartbeats 6400000 in
theorem bents_any (a0 : Option Addr) (n0 c0 : Nat) (L0 : List (List UInt8)) (y z : Int) (w : World) (h0 : Parts w a0 L0) (hn0 : L0.length = n0) (m0 : n0 ≤ maxLen) (hE : Env w) (hR : REnv w) :
    Calls Tryd.prog 6 #[.slice a0 n0 c0, .int .i64 y, .int .i64 z] w fun e w' => e = .returned (.bool true) ∧ Fr (fun _ => False) w w' := by
  have HFI := Lib.hid (fill_any a0 L0 n0 c0 hn0 w h0 m0 hE)
  have HE := Lib.hid hE
  have HR := Lib.hid hR
  clear h0 hn0 m0 hE hR
  go_enter Tryd.func6, Tryd.ntmps6
  go_wp2_with fail
  refine HFI.out.mono ?_
  rintro e w1 ⟨lb, Z, v, u, rfl, hd⟩
  clear HFI
  generalize fewL L0 20 60 = LL at hd
  obtain ⟨au, cu, hu, hu1, hu2, hsv, _⟩ := Os.view hd.ss
  have hK20 := hd.len
  have HSM := Lib.hid hd.small
  obtain ⟨K, hK⟩ : ∃ K, K = LL.length := ⟨_, rfl⟩
  rw [← hK] at hu hu1 hK20
  have HM1 := Lib.hid hd.lm
  have HF1 := Lib.hid hd.fr
  have HK := Lib.hid (And.intro hK.symm (And.intro hK20 (And.intro hu1 hu2)))
  have HSV := Lib.hid hsv
  have HE1 := Lib.hid (HE.out.ext hd.fr)
  have HR1 := Lib.hid (HR.out.ext hd.fr)
  subst hu
  clear hd hK20 hu1 hu2 hsv hK HE HR
  have HS := Lib.hid (show (LL.map Lg.leaf).length = K by rw [List.length_map]; exact HK.out.1)
  go_wp2_with fail
  refine (logs_any w1 HE1.out HR1.out).mono ?_
  rintro e w2 ⟨rfl, F2⟩
  have HF2 := Lib.hid (HF1.out.trans F2 (fun _ h => h.elim))
  have HM2 := Lib.hid (HM1.out.ext F2)
  have HE2 := Lib.hid (HE1.out.ext F2)
  have HR2 := Lib.hid (HR1.out.ext F2)
  have HSV2 := Lib.hid (HSV.out.ext F2)
  clear F2 HF1 HM1 HE1 HR1 HSV
  by_cases hK0 : K = 0
  · have b0 : ((K : Int) == 0) = true := by rw [hK0]; rfl
    clear hK0
    go_wp2_with fail
    refine (logs_any w2 HE2.out HR2.out).mono ?_
    rintro e w3 ⟨rfl, F3⟩
    have HF3 := Lib.hid (HF2.out.trans F3 (fun _ h => h.elim))
    clear F3
    go_wp2_with fail
    go_ret
    exact ⟨rfl, HF3.out⟩
  have HB := Lib.hid (show K ≤ 20 ∧ 0 < K from ⟨HK.out.2.1, by omega⟩)
  obtain ⟨s, hs⟩ : ∃ s : Nat, IntKind.u64.wrap y = (s : Int) := ⟨(IntKind.u64.wrap y).toNat, by have : 0 ≤ IntKind.u64.wrap y := Int.emod_nonneg y (show (18446744073709551616 : Int) ≠ 0 by decide); omega⟩
  obtain ⟨i, hi⟩ : ∃ i, i = s % K := ⟨_, rfl⟩
  have hiK : i < K := by rw [hi]; exact Nat.mod_lt _ (by omega)
  have HI := Lib.hid hiK
  obtain ⟨S, hS⟩ : ∃ S, S = LL.map Lg.leaf := ⟨_, rfl⟩
  have hA : Lg.All32 S := by rw [hS]; exact leaf_all LL
  have hSl : S.length = K := by rw [hS]; exact HS.out
  have hlk : S.take K = S := List.take_of_length_le (by omega)
  rw [← hS] at HM2
  obtain ⟨P, hP⟩ : ∃ P, P = Lg.path i S := ⟨_, rfl⟩
  have HPA := Lib.hid (show Lg.All32 P ∧ P.length ≤ 20 from ⟨by rw [hP]; exact Lg.path_all _ i S (Nat.le_refl _) hA, by have := Lg.path_len _ i S (Nat.le_refl _); rw [hP]; have := HB.out; omega⟩)
  obtain ⟨QQ, hQ⟩ : ∃ QQ, QQ = Lg.sub (i + 1) S true := ⟨_, rfl⟩
  have hcq : conP (i + 1) S = Lg.sub (i + 1) S true := if_neg (by omega)
  have HQA := Lib.hid (show Lg.All32 QQ ∧ QQ.length ≤ 20 from ⟨by rw [hQ, ← hcq]; exact conP_all hA, by have := conP_len (m := i + 1) (L := S) (by omega); rw [hQ, ← hcq]; have := HB.out; omega⟩)
  obtain ⟨rt, hrt⟩ : ∃ rt, rt = Lg.root S := ⟨_, rfl⟩
  obtain ⟨ot, hot⟩ : ∃ ot, ot = Lg.root (S.take (i + 1)) := ⟨_, rfl⟩
  have HRL := Lib.hid (show rt.length = 32 by rw [hrt]; exact Lg.root_len hA)
  have HOL := Lib.hid (show ot.length = 32 by rw [hot]; exact Lg.root_len (hA.take _))
  obtain ⟨x, hx⟩ : ∃ x, LL[i]? = some x := ⟨LL[i]'(by rw [HK.out.1]; exact hiK), List.getElem?_eq_getElem _⟩
  have HX := Lib.hid (And.intro hx (HSM.out x (List.mem_of_getElem? hx)))
  have HIN := Lib.hid (fun (W : World) (F : Fr (fun _ => False) w2 W) => incl_m lb Z v S i K hiK (by omega) (by have := HB.out; omega) W (HM2.out.ext F) (HE2.out.ext F))
  have HCN := Lib.hid (fun (W : World) (F : Fr (fun _ => False) w2 W) => cons_m lb Z v S (i + 1) K (by omega) (by omega) (by omega) (by have := HB.out; omega) W (HM2.out.ext F) (HE2.out.ext F))
  have HRT := Lib.hid (fun (W : World) (F : Fr (fun _ => False) w2 W) => root_m lb Z v S K (by omega) (by have := HB.out; omega) W (HM2.out.ext F) (HE2.out.ext F))
  have HRO := Lib.hid (fun (W : World) (F : Fr (fun _ => False) w2 W) => root_m lb Z v S (i + 1) (by omega) (by have := HB.out; omega) W (HM2.out.ext F) (HE2.out.ext F))
  rw [hlk, ← hP] at HIN
  rw [hlk, ← hQ] at HCN
  rw [hlk, ← hrt] at HRT
  rw [← hot] at HRO
  have b0 : ((K : Int) == 0) = false := beq_eq_false_iff_ne.2 (by omega)
  have b1 : ¬ ((K : Int) = 0) := by omega
  have E4 : IntKind.i64.wrap (i : Int) = (i : Int) := by rw [IntWalk.i64_in _ (by have := HB.out; omega)]
  have E5 : wrap64 ((i : Int) + 1) = ((i + 1 : Nat) : Int) := by rw [IntWalk.wrap64_in _ (by have := HB.out; omega)]; omega
  have E1 : Value.int .u64 (IntKind.u64.wrap y) = Value.int .u64 (s : Int) := by rw [hs]
  have E2 : IntKind.u64.wrap (K : Int) = (K : Int) := by clear E4 E5 E1 hs; show (K : Int) % 18446744073709551616 = _; have := HB.out; omega
  have E3 : Value.int .u64 ((s : Int).tmod (K : Int)) = Value.int .u64 (i : Int) := by rw [Int.tmod_eq_emod_of_nonneg (Int.natCast_nonneg s), hi]; rfl
  clear hs hi hiK hK0 hlk hS hA hSl hP hQ hcq hrt hot hx HM2 HS HSM
  go_wp2_with fail
  refine (HIN.out w2 (Fr.refl _ _)).mono ?_
  rintro e w3 ⟨⟨vp, rfl, hOp⟩, F3⟩
  have HOp := Lib.hid hOp
  have HF3 := Lib.hid F3
  clear hOp F3 HIN E1 E2 E3 E4 b0 b1
  go_wp2_with fail
  refine (HCN.out w3 HF3.out).mono ?_
  rintro e w4 ⟨⟨vq, rfl, hOq⟩, F4⟩
  have T4 : Two w4 w2.heap.size vp vq P QQ := ⟨own_ext HOp.out F4, own_up hOq HF3.out.size, fun k h1 h2 => absurd (ownsRow_lt HOp.out k h1).2 (Nat.not_lt.2 (ownsRow_lt hOq k h2).1)⟩
  have HT4 := Lib.hid T4
  have HF4 := Lib.hid (HF3.out.trans F4 (fun _ h => h.elim))
  clear hOq F4 T4 HOp HF3 HCN
  go_wp2_with fail
  refine (HRT.out w4 HF4.out).mono ?_
  rintro e w5 ⟨rfl, F5⟩
  have HF5 := Lib.hid F5
  clear F5 HRT
  go_wp2_with (rw [zero32]; refine wpList_store_rowA rfl 31 (.tmp 14) (.tmp 59) rfl w5.heap.size (krow rt) rfl rfl 31 _ (heap_alloc_new _ _) (sz32' HRL.out) (by rw [ub_size, krow_size, HRL.out]) (krow_one _) ?_; intro w6 B F; simp only [Act.put, List.setIfInBounds_toArray, List.set_cons_zero, List.set_cons_succ]; refine Hid.out ?_)
  have G6 : Fr (fun _ => False) w4 w6 := (HF5.out.alloc (.cells (ub 32 (fun _ => 0)) 31)).trans F (fun k hk => .inr (by rw [hk]; exact HF5.out.size))
  have HRB := Lib.hid B
  have HT6 := Lib.hid (HT4.out.ext G6)
  have NR := Lib.hid (show ¬ (vp.ownBlock = some w5.heap.size ∨ vq.ownBlock = some w5.heap.size) from fun h => h.elim (fun h => absurd (ownsRow_lt HT4.out.p _ h).2 (Nat.not_lt.2 HF5.out.size)) (fun h => absurd (ownsRow_lt HT4.out.q _ h).2 (Nat.not_lt.2 HF5.out.size)))
  have HF6 := Lib.hid (HF4.out.trans G6 (fun _ h => h.elim))
  generalize w5.heap.size = rb at *
  clear B F G6 HF5 HT4 HF4
  refine Lib.hid ?_
  go_wp2_with fail
  refine (HRO.out w6 HF6.out).mono ?_
  rintro e w7 ⟨rfl, F7⟩
  have HF7 := Lib.hid F7
  clear F7 HRO E5
  go_wp2_with (rw [zero32]; refine wpList_store_rowA rfl 31 (.tmp 16) (.tmp 66) rfl w7.heap.size (krow ot) rfl rfl 31 _ (heap_alloc_new _ _) (sz32' HOL.out) (by rw [ub_size, krow_size, HOL.out]) (krow_one _) ?_; intro w8 B F; simp only [Act.put, List.setIfInBounds_toArray, List.set_cons_zero, List.set_cons_succ]; refine Hid.out ?_)
  have G8 : Fr (fun _ => False) w6 w8 := (HF7.out.alloc (.cells (ub 32 (fun _ => 0)) 31)).trans F (fun k hk => .inr (by rw [hk]; exact HF7.out.size))
  have HOB := Lib.hid B
  have HRB8 := Lib.hid ((G8.block _ (lt_of_block HRB.out) (fun h => h)).trans HRB.out)
  have HT8 := Lib.hid (HT6.out.ext G8)
  have NO := Lib.hid (show ¬ (vp.ownBlock = some w7.heap.size ∨ vq.ownBlock = some w7.heap.size) from fun h => h.elim (fun h => absurd (ownsRow_lt HT6.out.p _ h).2 (Nat.not_lt.2 HF7.out.size)) (fun h => absurd (ownsRow_lt HT6.out.q _ h).2 (Nat.not_lt.2 HF7.out.size)))
  have HF8 := Lib.hid (HF6.out.trans G8 (fun _ h => h.elim))
  generalize w7.heap.size = ob at *
  clear B F G8 HF7 HT6 HF6 HRB
  refine Lib.hid ?_
  have hz0 : 0 ≤ IntKind.u64.wrap z := Int.emod_nonneg z (show (18446744073709551616 : Int) ≠ 0 by decide)
  have hz3 : (IntKind.u64.wrap z).tmod 3 = 0 ∨ (IntKind.u64.wrap z).tmod 3 = 1 ∨ (IntKind.u64.wrap z).tmod 3 = 2 := by rw [Int.tmod_eq_emod_of_nonneg hz0]; omega
  rcases hz3 with hz3 | hz3 | hz3
  · have E6 : Value.int .u64 ((IntKind.u64.wrap z).tmod 3) = Value.int .u64 0 := by rw [hz3]
    clear hz3 hz0
    go_wp2_with fail
    refine bent_app HT8.out HF8.out.size (by have := HPA.out.2; omega) (by have := HQA.out.2; omega) HRB8.out HOB.out HRL.out HOL.out NR.out NO.out _ (by first | rfl | simp) rfl rfl rfl rfl rfl rfl rfl ?_
    intro t' w9 vp' vq' hn p1 p8 p9 p10 p12 p14 p16 T9 F9
    have F29 := Lib.hid (show Fr (fun _ => False) w2 w9 from HF8.out.trans F9 (fun k hk => .inr (hk.elim (fun h => (ownsRow_lt HT8.out.p k h).1) (fun h => (ownsRow_lt HT8.out.q k h).1))))
    have hrb := Lib.hid ((F9.block _ (lt_of_block HRB8.out) NR.out).trans HRB8.out)
    have hob := Lib.hid ((F9.block _ (lt_of_block HOB.out) NO.out).trans HOB.out)
    obtain ⟨a10, c10, rfl, h10a, h10b, hK10, _⟩ := T9.p.view (HPA.out.1.snoc HRL.out)
    obtain ⟨a12, c12, rfl, h12a, h12b, hK12, _⟩ := T9.q.view (HQA.out.1.snoc HOL.out)
    have hl1 : (P ++ [rt]).length ≤ 1000 := by rw [List.length_append]; have := HPA.out.2; simp; omega
    have hl2 : (QQ ++ [ot]).length ≤ 1000 := by rw [List.length_append]; have := HQA.out.2; simp; omega
    have H10 := Lib.hid (And.intro h10a (And.intro h10b (And.intro hl1 hK10)))
    have H12 := Lib.hid (And.intro h12a (And.intro h12b (And.intro hl2 hK12)))
    clear T9 F9 h10a h10b hK10 h12a h12b hK12 hl1 hl2 E6
    obtain ⟨f, hff, rfl⟩ := frame_open hn
    have e1 := hff 1 _ p1
    have e8 := hff 8 _ p8
    have e9 := hff 9 _ p9
    have e10 := hff 10 _ p10
    have e12 := hff 12 _ p12
    have e14 := hff 14 _ p14
    have e16 := hff 16 _ p16
    clear hff hn p1 p8 p9 p10 p12 p14 p16
    rw [lit187, e1, e8, e9, e10, e12, e14, e16]
    clear e1 e8 e9 e10 e12 e14 e16
    go_wp2_with fail
    refine bent_last (P := P ++ [rt]) (QQ := QQ ++ [ot]) HI.out HB.out.1 HK.out.2.2.1 HK.out.2.2.2 (HSV2.out.ext F29.out) HK.out.1 HX.out.1 HX.out.2 H10.out.2.2.2 rfl H10.out.1 H10.out.2.1 H10.out.2.2.1 H12.out.2.2.2 rfl H12.out.1 H12.out.2.1 H12.out.2.2.1 hrb.out hob.out HRL.out HOL.out (HE2.out.ext F29.out) (HR2.out.ext F29.out) _ (by first | rfl | simp) rfl rfl rfl rfl rfl rfl rfl ?_
    intro t2 w10 hn p6 F10
    have HFz := Lib.hid ((HF2.out.trans F29.out (fun _ h => h.elim)).trans F10 (fun _ h => h.elim))
    clear F10
    obtain ⟨f, hff, rfl⟩ := frame_open hn
    have e6 := hff 6 _ p6
    clear hff hn p6
    rw [lit187, e6]
    clear e6
    go_wp2_with fail
    go_ret
    exact ⟨rfl, HFz.out⟩
  · have E6 : Value.int .u64 ((IntKind.u64.wrap z).tmod 3) = Value.int .u64 1 := by rw [hz3]
    clear hz3 hz0
    obtain ⟨a10, c10, rfl, h10a, h10b, hK10, _⟩ := HT8.out.p.view HPA.out.1
    obtain ⟨a12, c12, rfl, h12a, h12b, hK12, _⟩ := HT8.out.q.view HQA.out.1
    generalize hnp : P.length = np at *
    generalize hnq : QQ.length = nq at *
    have h20p : np ≤ 20 := HPA.out.2
    have h20q : nq ≤ 20 := HQA.out.2
    have F29 := HF8
    have hrb := HRB8
    have hob := HOB
    rcases Nat.eq_zero_or_pos np with h0p | h0p
    · rcases Nat.eq_zero_or_pos nq with h0q | h0q
      · skip
        have HPF := Lib.hid (show P.length = np ∧ np ≤ c10 ∧ c10 ≤ maxLen ∧ np ≤ 1000 ∧ Kv w8 a10 P from ⟨hnp, h10a, h10b, by omega, hK10⟩)
        have gnpz : ¬ ((0 : Int) < (np : Int)) := by omega
        have gnpzb : ¬ (0 < np) := by omega
        have HQF := Lib.hid (show QQ.length = nq ∧ nq ≤ c12 ∧ c12 ≤ maxLen ∧ nq ≤ 1000 ∧ Kv w8 a12 QQ from ⟨hnq, h12a, h12b, by omega, hK12⟩)
        have gnqz : ¬ ((0 : Int) < (nq : Int)) := by omega
        have gnqzb : ¬ (0 < nq) := by omega
        clear h0p h0q h10a h10b h12a h12b hK10 hK12 hnp hnq h20p h20q
        go_wp2_with fail
        refine bent_last (P := P) (QQ := QQ) HI.out HB.out.1 HK.out.2.2.1 HK.out.2.2.2 (HSV2.out.ext F29.out) HK.out.1 HX.out.1 HX.out.2 HPF.out.2.2.2.2 HPF.out.1 HPF.out.2.1 HPF.out.2.2.1 HPF.out.2.2.2.1 HQF.out.2.2.2.2 HQF.out.1 HQF.out.2.1 HQF.out.2.2.1 HQF.out.2.2.2.1 hrb.out hob.out HRL.out HOL.out (HE2.out.ext F29.out) (HR2.out.ext F29.out) _ (by first | rfl | simp) rfl rfl rfl rfl rfl rfl rfl ?_
        intro t2 w10 hn p6 F10
        have HFz := Lib.hid ((HF2.out.trans F29.out (fun _ h => h.elim)).trans F10 (fun _ h => h.elim))
        clear F10
        obtain ⟨f, hff, rfl⟩ := frame_open hn
        have e6 := hff 6 _ p6
        clear hff hn p6
        rw [lit187, e6]
        clear e6
        go_wp2_with fail
        go_ret
        exact ⟨rfl, HFz.out⟩
      · skip
        have HPF := Lib.hid (show P.length = np ∧ np ≤ c10 ∧ c10 ≤ maxLen ∧ np ≤ 1000 ∧ Kv w8 a10 P from ⟨hnp, h10a, h10b, by omega, hK10⟩)
        have gnpz : ¬ ((0 : Int) < (np : Int)) := by omega
        have gnpzb : ¬ (0 < np) := by omega
        have gnq : (0 : Int) < (nq : Int) := by omega
        have gnqb : 0 < nq := by omega
        have gnqc : 1 ≤ nq := by omega
        have gnqd : (1 : Int) ≤ (nq : Int) := by omega
        have gnqe : (nq : Int) ≤ (c12 : Int) := by omega
        have gnqf : 1 ≤ c12 := by omega
        have gnqg : (1 : Int) ≤ (c12 : Int) := by omega
        obtain ⟨g12, o12, rfl⟩ := hK12.at (by omega)
        have HQF := Lib.hid (show (QQ.take (nq - 1)).length = nq - 1 ∧ nq - 1 ≤ c12 ∧ c12 ≤ maxLen ∧ nq - 1 ≤ 1000 ∧ Kv w8 (some ⟨g12, o12, none⟩) (QQ.take (nq - 1)) from ⟨by rw [List.length_take, hnq]; omega, by omega, h12b, by omega, hK12.take _⟩)
        have E8 : wrap64 ((nq : Int) - 1) = ((nq - 1 : Nat) : Int) := by rw [IntWalk.wrap64_in _ (by omega)]; omega
        clear h0p h0q h10a h10b h12a h12b hK10 hK12 hnp hnq h20p h20q
        go_wp2_with fail
        refine bent_last (P := P) (QQ := (QQ.take (nq - 1))) HI.out HB.out.1 HK.out.2.2.1 HK.out.2.2.2 (HSV2.out.ext F29.out) HK.out.1 HX.out.1 HX.out.2 HPF.out.2.2.2.2 HPF.out.1 HPF.out.2.1 HPF.out.2.2.1 HPF.out.2.2.2.1 HQF.out.2.2.2.2 HQF.out.1 HQF.out.2.1 HQF.out.2.2.1 HQF.out.2.2.2.1 hrb.out hob.out HRL.out HOL.out (HE2.out.ext F29.out) (HR2.out.ext F29.out) _ (by first | rfl | simp) rfl rfl rfl rfl rfl rfl rfl ?_
        intro t2 w10 hn p6 F10
        have HFz := Lib.hid ((HF2.out.trans F29.out (fun _ h => h.elim)).trans F10 (fun _ h => h.elim))
        clear F10
        obtain ⟨f, hff, rfl⟩ := frame_open hn
        have e6 := hff 6 _ p6
        clear hff hn p6
        rw [lit187, e6]
        clear e6
        go_wp2_with fail
        go_ret
        exact ⟨rfl, HFz.out⟩
    · by_cases hc1 : c10 = 1
      · rcases Nat.eq_zero_or_pos nq with h0q | h0q
        · skip
          have gnp : (0 : Int) < (np : Int) := by omega
          have gnpb : 0 < np := by omega
          have gnpc : 1 ≤ np := by omega
          have gnpd : (1 : Int) ≤ (np : Int) := by omega
          have gnpe : (np : Int) ≤ (c10 : Int) := by omega
          have gnpf : 1 ≤ c10 := by omega
          have gnpg : (1 : Int) ≤ (c10 : Int) := by omega
          obtain ⟨g10, o10, rfl⟩ := hK10.at (by omega)
          have HPF := Lib.hid (show (P.drop 1).length = np - 1 ∧ np - 1 ≤ 0 ∧ 0 ≤ maxLen ∧ np - 1 ≤ 1000 ∧ Kv w8 (some ⟨g10, o10, none⟩) (P.drop 1) from ⟨by rw [List.length_drop, hnp], by omega, Nat.zero_le _, by omega, by rw [List.drop_eq_nil_of_le (by omega)]; exact Kv.nil _ _⟩)
          have HQF := Lib.hid (show QQ.length = nq ∧ nq ≤ c12 ∧ c12 ≤ maxLen ∧ nq ≤ 1000 ∧ Kv w8 a12 QQ from ⟨hnq, h12a, h12b, by omega, hK12⟩)
          have gnqz : ¬ ((0 : Int) < (nq : Int)) := by omega
          have gnqzb : ¬ (0 < nq) := by omega
          clear h0p h0q h10a h10b h12a h12b hK10 hK12 hnp hnq h20p h20q
          go_wp2_with fail
          refine bent_last (P := (P.drop 1)) (QQ := QQ) HI.out HB.out.1 HK.out.2.2.1 HK.out.2.2.2 (HSV2.out.ext F29.out) HK.out.1 HX.out.1 HX.out.2 HPF.out.2.2.2.2 HPF.out.1 HPF.out.2.1 HPF.out.2.2.1 HPF.out.2.2.2.1 HQF.out.2.2.2.2 HQF.out.1 HQF.out.2.1 HQF.out.2.2.1 HQF.out.2.2.2.1 hrb.out hob.out HRL.out HOL.out (HE2.out.ext F29.out) (HR2.out.ext F29.out) _ (by first | rfl | simp) rfl rfl rfl rfl rfl rfl rfl ?_
          intro t2 w10 hn p6 F10
          have HFz := Lib.hid ((HF2.out.trans F29.out (fun _ h => h.elim)).trans F10 (fun _ h => h.elim))
          clear F10
          obtain ⟨f, hff, rfl⟩ := frame_open hn
          have e6 := hff 6 _ p6
          clear hff hn p6
          rw [lit187, e6]
          clear e6
          go_wp2_with fail
          go_ret
          exact ⟨rfl, HFz.out⟩
        · skip
          have gnp : (0 : Int) < (np : Int) := by omega
          have gnpb : 0 < np := by omega
          have gnpc : 1 ≤ np := by omega
          have gnpd : (1 : Int) ≤ (np : Int) := by omega
          have gnpe : (np : Int) ≤ (c10 : Int) := by omega
          have gnpf : 1 ≤ c10 := by omega
          have gnpg : (1 : Int) ≤ (c10 : Int) := by omega
          obtain ⟨g10, o10, rfl⟩ := hK10.at (by omega)
          have HPF := Lib.hid (show (P.drop 1).length = np - 1 ∧ np - 1 ≤ 0 ∧ 0 ≤ maxLen ∧ np - 1 ≤ 1000 ∧ Kv w8 (some ⟨g10, o10, none⟩) (P.drop 1) from ⟨by rw [List.length_drop, hnp], by omega, Nat.zero_le _, by omega, by rw [List.drop_eq_nil_of_le (by omega)]; exact Kv.nil _ _⟩)
          have gnq : (0 : Int) < (nq : Int) := by omega
          have gnqb : 0 < nq := by omega
          have gnqc : 1 ≤ nq := by omega
          have gnqd : (1 : Int) ≤ (nq : Int) := by omega
          have gnqe : (nq : Int) ≤ (c12 : Int) := by omega
          have gnqf : 1 ≤ c12 := by omega
          have gnqg : (1 : Int) ≤ (c12 : Int) := by omega
          obtain ⟨g12, o12, rfl⟩ := hK12.at (by omega)
          have HQF := Lib.hid (show (QQ.take (nq - 1)).length = nq - 1 ∧ nq - 1 ≤ c12 ∧ c12 ≤ maxLen ∧ nq - 1 ≤ 1000 ∧ Kv w8 (some ⟨g12, o12, none⟩) (QQ.take (nq - 1)) from ⟨by rw [List.length_take, hnq]; omega, by omega, h12b, by omega, hK12.take _⟩)
          have E8 : wrap64 ((nq : Int) - 1) = ((nq - 1 : Nat) : Int) := by rw [IntWalk.wrap64_in _ (by omega)]; omega
          clear h0p h0q h10a h10b h12a h12b hK10 hK12 hnp hnq h20p h20q
          go_wp2_with fail
          refine bent_last (P := (P.drop 1)) (QQ := (QQ.take (nq - 1))) HI.out HB.out.1 HK.out.2.2.1 HK.out.2.2.2 (HSV2.out.ext F29.out) HK.out.1 HX.out.1 HX.out.2 HPF.out.2.2.2.2 HPF.out.1 HPF.out.2.1 HPF.out.2.2.1 HPF.out.2.2.2.1 HQF.out.2.2.2.2 HQF.out.1 HQF.out.2.1 HQF.out.2.2.1 HQF.out.2.2.2.1 hrb.out hob.out HRL.out HOL.out (HE2.out.ext F29.out) (HR2.out.ext F29.out) _ (by first | rfl | simp) rfl rfl rfl rfl rfl rfl rfl ?_
          intro t2 w10 hn p6 F10
          have HFz := Lib.hid ((HF2.out.trans F29.out (fun _ h => h.elim)).trans F10 (fun _ h => h.elim))
          clear F10
          obtain ⟨f, hff, rfl⟩ := frame_open hn
          have e6 := hff 6 _ p6
          clear hff hn p6
          rw [lit187, e6]
          clear e6
          go_wp2_with fail
          go_ret
          exact ⟨rfl, HFz.out⟩
      · rcases Nat.eq_zero_or_pos nq with h0q | h0q
        · skip
          have gnp : (0 : Int) < (np : Int) := by omega
          have gnpb : 0 < np := by omega
          have gnpc : 1 ≤ np := by omega
          have gnpd : (1 : Int) ≤ (np : Int) := by omega
          have gnpe : (np : Int) ≤ (c10 : Int) := by omega
          have gnpf : 1 ≤ c10 := by omega
          have gnpg : (1 : Int) ≤ (c10 : Int) := by omega
          obtain ⟨g10, o10, rfl⟩ := hK10.at (by omega)
          have HPF := Lib.hid (show (P.drop 1).length = np - 1 ∧ np - 1 ≤ c10 - 1 ∧ c10 - 1 ≤ maxLen ∧ np - 1 ≤ 1000 ∧ Kv w8 (some ⟨g10, o10 + 32, none⟩) (P.drop 1) from ⟨by rw [List.length_drop, hnp], by omega, by omega, by omega, hK10.drop 1⟩)
          have HQF := Lib.hid (show QQ.length = nq ∧ nq ≤ c12 ∧ c12 ≤ maxLen ∧ nq ≤ 1000 ∧ Kv w8 a12 QQ from ⟨hnq, h12a, h12b, by omega, hK12⟩)
          have gnqz : ¬ ((0 : Int) < (nq : Int)) := by omega
          have gnqzb : ¬ (0 < nq) := by omega
          clear h0p h0q h10a h10b h12a h12b hK10 hK12 hnp hnq h20p h20q
          go_wp2_with fail
          refine bent_last (P := (P.drop 1)) (QQ := QQ) HI.out HB.out.1 HK.out.2.2.1 HK.out.2.2.2 (HSV2.out.ext F29.out) HK.out.1 HX.out.1 HX.out.2 HPF.out.2.2.2.2 HPF.out.1 HPF.out.2.1 HPF.out.2.2.1 HPF.out.2.2.2.1 HQF.out.2.2.2.2 HQF.out.1 HQF.out.2.1 HQF.out.2.2.1 HQF.out.2.2.2.1 hrb.out hob.out HRL.out HOL.out (HE2.out.ext F29.out) (HR2.out.ext F29.out) _ (by first | rfl | simp) rfl rfl rfl rfl rfl rfl rfl ?_
          intro t2 w10 hn p6 F10
          have HFz := Lib.hid ((HF2.out.trans F29.out (fun _ h => h.elim)).trans F10 (fun _ h => h.elim))
          clear F10
          obtain ⟨f, hff, rfl⟩ := frame_open hn
          have e6 := hff 6 _ p6
          clear hff hn p6
          rw [lit187, e6]
          clear e6
          go_wp2_with fail
          go_ret
          exact ⟨rfl, HFz.out⟩
        · skip
          have gnp : (0 : Int) < (np : Int) := by omega
          have gnpb : 0 < np := by omega
          have gnpc : 1 ≤ np := by omega
          have gnpd : (1 : Int) ≤ (np : Int) := by omega
          have gnpe : (np : Int) ≤ (c10 : Int) := by omega
          have gnpf : 1 ≤ c10 := by omega
          have gnpg : (1 : Int) ≤ (c10 : Int) := by omega
          obtain ⟨g10, o10, rfl⟩ := hK10.at (by omega)
          have HPF := Lib.hid (show (P.drop 1).length = np - 1 ∧ np - 1 ≤ c10 - 1 ∧ c10 - 1 ≤ maxLen ∧ np - 1 ≤ 1000 ∧ Kv w8 (some ⟨g10, o10 + 32, none⟩) (P.drop 1) from ⟨by rw [List.length_drop, hnp], by omega, by omega, by omega, hK10.drop 1⟩)
          have gnq : (0 : Int) < (nq : Int) := by omega
          have gnqb : 0 < nq := by omega
          have gnqc : 1 ≤ nq := by omega
          have gnqd : (1 : Int) ≤ (nq : Int) := by omega
          have gnqe : (nq : Int) ≤ (c12 : Int) := by omega
          have gnqf : 1 ≤ c12 := by omega
          have gnqg : (1 : Int) ≤ (c12 : Int) := by omega
          obtain ⟨g12, o12, rfl⟩ := hK12.at (by omega)
          have HQF := Lib.hid (show (QQ.take (nq - 1)).length = nq - 1 ∧ nq - 1 ≤ c12 ∧ c12 ≤ maxLen ∧ nq - 1 ≤ 1000 ∧ Kv w8 (some ⟨g12, o12, none⟩) (QQ.take (nq - 1)) from ⟨by rw [List.length_take, hnq]; omega, by omega, h12b, by omega, hK12.take _⟩)
          have E8 : wrap64 ((nq : Int) - 1) = ((nq - 1 : Nat) : Int) := by rw [IntWalk.wrap64_in _ (by omega)]; omega
          clear h0p h0q h10a h10b h12a h12b hK10 hK12 hnp hnq h20p h20q
          go_wp2_with fail
          refine bent_last (P := (P.drop 1)) (QQ := (QQ.take (nq - 1))) HI.out HB.out.1 HK.out.2.2.1 HK.out.2.2.2 (HSV2.out.ext F29.out) HK.out.1 HX.out.1 HX.out.2 HPF.out.2.2.2.2 HPF.out.1 HPF.out.2.1 HPF.out.2.2.1 HPF.out.2.2.2.1 HQF.out.2.2.2.2 HQF.out.1 HQF.out.2.1 HQF.out.2.2.1 HQF.out.2.2.2.1 hrb.out hob.out HRL.out HOL.out (HE2.out.ext F29.out) (HR2.out.ext F29.out) _ (by first | rfl | simp) rfl rfl rfl rfl rfl rfl rfl ?_
          intro t2 w10 hn p6 F10
          have HFz := Lib.hid ((HF2.out.trans F29.out (fun _ h => h.elim)).trans F10 (fun _ h => h.elim))
          clear F10
          obtain ⟨f, hff, rfl⟩ := frame_open hn
          have e6 := hff 6 _ p6
          clear hff hn p6
          rw [lit187, e6]
          clear e6
          go_wp2_with fail
          go_ret
          exact ⟨rfl, HFz.out⟩
  · have E6 : Value.int .u64 ((IntKind.u64.wrap z).tmod 3) = Value.int .u64 2 := by rw [hz3]
    clear hz3 
    generalize hnp : P.length = np at *
    generalize hnq : QQ.length = nq at *
    have h20p : np ≤ 20 := HPA.out.2
    have h20q : nq ≤ 20 := HQA.out.2
    rcases Nat.eq_zero_or_pos np with h0p | h0p
    · rcases Nat.eq_zero_or_pos nq with h0q | h0q
      · skip
        obtain ⟨a10, c10, e10, _, _, _, _⟩ := HT8.out.p.view HPA.out.1
        rw [hnp] at e10
        subst e10
        have gnpz : ¬ ((0 : Int) < (np : Int)) := by omega
        have gnpzb : ¬ (0 < np) := by omega
        obtain ⟨a12, c12, e12, _, _, _, _⟩ := HT8.out.q.view HQA.out.1
        rw [hnq] at e12
        subst e12
        have gnqz : ¬ ((0 : Int) < (nq : Int)) := by omega
        have gnqzb : ¬ (0 < nq) := by omega
        have H0p := Lib.hid (And.intro hnp (And.intro h0p h20p))
        have H0q := Lib.hid (And.intro hnq (And.intro h0q h20q))
        clear hnp h0p h20p hnq h0q h20q
        obtain ⟨d, hd⟩ : ∃ d : Nat, d = (IntKind.u64.wrap ((IntKind.u64.wrap z).tdiv 3)).toNat := ⟨_, rfl⟩
        obtain ⟨k, hk⟩ : ∃ k, k = d % 32 := ⟨_, rfl⟩
        have HKK := Lib.hid (show k < 32 by rw [hk]; exact Nat.mod_lt _ (by decide))
        have E9 : IntKind.i64.wrap (k : Int) = (k : Int) := by rw [IntWalk.i64_in _ (by have := HKK.out; omega)]
        have E7 : Value.int .u64 (IntKind.u64.wrap ((IntKind.u64.wrap z).tdiv 3)) = Value.int .u64 (d : Int) := by rw [hd]; exact congrArg _ (Int.toNat_of_nonneg (Int.emod_nonneg _ (show (18446744073709551616 : Int) ≠ 0 by decide))).symm
        have E8 : Value.int .u64 ((d : Int).tmod 32) = Value.int .u64 (k : Int) := by rw [Int.tmod_eq_emod_of_nonneg (Int.natCast_nonneg d), hk]; rfl
        clear hd hk hz0
        have F29 := HF8
        have hrb := HRB8
        have hob := HOB
        have k10 := or32_kv HT8.out.p HPA.out.1
        have k12 := or32_kv HT8.out.q HQA.out.1
        have HPF := Lib.hid (And.intro k10.1 (And.intro k10.2.1 (And.intro k10.2.2.1 (And.intro (Nat.le_trans H0p.out.2.2 (show 20 ≤ 1000 by decide)) k10.2.2.2))))
        have HQF := Lib.hid (And.intro k12.1 (And.intro k12.2.1 (And.intro k12.2.2.1 (And.intro (Nat.le_trans H0q.out.2.2 (show 20 ≤ 1000 by decide)) k12.2.2.2))))
        clear k10 k12
        go_wp2_with fail
        refine bent_last (P := P) (QQ := QQ) HI.out HB.out.1 HK.out.2.2.1 HK.out.2.2.2 (HSV2.out.ext F29.out) HK.out.1 HX.out.1 HX.out.2 HPF.out.2.2.2.2 HPF.out.1 HPF.out.2.1 HPF.out.2.2.1 HPF.out.2.2.2.1 HQF.out.2.2.2.2 HQF.out.1 HQF.out.2.1 HQF.out.2.2.1 HQF.out.2.2.2.1 hrb.out hob.out HRL.out HOL.out (HE2.out.ext F29.out) (HR2.out.ext F29.out) _ (by first | rfl | simp) rfl rfl rfl rfl rfl rfl rfl ?_
        intro t2 w10 hn p6 F10
        have HFz := Lib.hid ((HF2.out.trans F29.out (fun _ h => h.elim)).trans F10 (fun _ h => h.elim))
        clear F10
        obtain ⟨f, hff, rfl⟩ := frame_open hn
        have e6 := hff 6 _ p6
        clear hff hn p6
        rw [lit187, e6]
        clear e6
        go_wp2_with fail
        go_ret
        exact ⟨rfl, HFz.out⟩
      · skip
        obtain ⟨a10, c10, e10, _, _, _, _⟩ := HT8.out.p.view HPA.out.1
        rw [hnp] at e10
        subst e10
        have gnpz : ¬ ((0 : Int) < (np : Int)) := by omega
        have gnpzb : ¬ (0 < np) := by omega
        obtain ⟨g12, c12, e12⟩ := or32_form HT8.out.q (by rw [hnq]; exact h0q)
        rw [hnq] at e12
        subst e12
        have gnq : (0 : Int) < (nq : Int) := by omega
        have gnqb : 0 < nq := by omega
        have H0p := Lib.hid (And.intro hnp (And.intro h0p h20p))
        have H0q := Lib.hid (And.intro hnq (And.intro h0q h20q))
        clear hnp h0p h20p hnq h0q h20q
        obtain ⟨d, hd⟩ : ∃ d : Nat, d = (IntKind.u64.wrap ((IntKind.u64.wrap z).tdiv 3)).toNat := ⟨_, rfl⟩
        obtain ⟨k, hk⟩ : ∃ k, k = d % 32 := ⟨_, rfl⟩
        have HKK := Lib.hid (show k < 32 by rw [hk]; exact Nat.mod_lt _ (by decide))
        have E9 : IntKind.i64.wrap (k : Int) = (k : Int) := by rw [IntWalk.i64_in _ (by have := HKK.out; omega)]
        have E7 : Value.int .u64 (IntKind.u64.wrap ((IntKind.u64.wrap z).tdiv 3)) = Value.int .u64 (d : Int) := by rw [hd]; exact congrArg _ (Int.toNat_of_nonneg (Int.emod_nonneg _ (show (18446744073709551616 : Int) ≠ 0 by decide))).symm
        have E8 : Value.int .u64 ((d : Int).tmod 32) = Value.int .u64 (k : Int) := by rw [Int.tmod_eq_emod_of_nonneg (Int.natCast_nonneg d), hk]; rfl
        clear hd hk hz0
        go_wp2_with fail
        refine bent_q HT8.out.swap HQA.out.1 H0q.out.1 H0q.out.2.1 H0q.out.2.2 HKK.out _ (by first | rfl | simp) rfl rfl rfl rfl rfl rfl rfl rfl ?_
        intro t'' wB bB hn p1 p8 p9 p10 p12 p14 p16 p18 TB FB
        have HTB := Lib.hid TB.swap
        have HFB := Lib.hid FB
        clear TB FB E6 E7 E8 E9
        obtain ⟨f, hff, rfl⟩ := frame_open hn
        have e1 := hff 1 _ p1
        have e8 := hff 8 _ p8
        have e9 := hff 9 _ p9
        have e10 := hff 10 _ p10
        have e12 := hff 12 _ p12
        have e14 := hff 14 _ p14
        have e16 := hff 16 _ p16
        have e18 := hff 18 _ p18
        clear hff hn p1 p8 p9 p10 p12 p14 p16 p18
        rw [lit187, e1, e8, e9, e10, e12, e14, e16, e18]
        clear e1 e8 e9 e10 e12 e14 e16 e18
        have F9 : Fr (fun k => (Value.slice a10 np c10).ownBlock = some k ∨ (Value.slice (some ⟨g12, 0, none⟩) nq c12).ownBlock = some k) w8 wB := (HFB.out.mono (fun k _ hk => .inr (by rw [hk]; rfl)))
        have F29 := Lib.hid (show Fr (fun _ => False) w2 wB from HF8.out.trans F9 (fun k hk => .inr (hk.elim (fun h => (ownsRow_lt HT8.out.p k h).1) (fun h => (ownsRow_lt HT8.out.q k h).1))))
        have hrb := Lib.hid ((F9.block _ (lt_of_block HRB8.out) NR.out).trans HRB8.out)
        have hob := Lib.hid ((F9.block _ (lt_of_block HOB.out) NO.out).trans HOB.out)
        clear F9
        have k10 := or32_kv HTB.out.p HPA.out.1
        have k12 := or32_kv HTB.out.q (setb_all HQA.out.1 _ _ _)
        have HPF := Lib.hid (And.intro k10.1 (And.intro k10.2.1 (And.intro k10.2.2.1 (And.intro (Nat.le_trans H0p.out.2.2 (show 20 ≤ 1000 by decide)) k10.2.2.2))))
        have HQF := Lib.hid (And.intro k12.1 (And.intro k12.2.1 (And.intro k12.2.2.1 (And.intro (Nat.le_trans H0q.out.2.2 (show 20 ≤ 1000 by decide)) k12.2.2.2))))
        clear k10 k12
        go_wp2_with fail
        refine bent_last (P := P) (QQ := (setb QQ (nq / 2) k bB)) HI.out HB.out.1 HK.out.2.2.1 HK.out.2.2.2 (HSV2.out.ext F29.out) HK.out.1 HX.out.1 HX.out.2 HPF.out.2.2.2.2 HPF.out.1 HPF.out.2.1 HPF.out.2.2.1 HPF.out.2.2.2.1 HQF.out.2.2.2.2 HQF.out.1 HQF.out.2.1 HQF.out.2.2.1 HQF.out.2.2.2.1 hrb.out hob.out HRL.out HOL.out (HE2.out.ext F29.out) (HR2.out.ext F29.out) _ (by first | rfl | simp) rfl rfl rfl rfl rfl rfl rfl ?_
        intro t2 w10 hn p6 F10
        have HFz := Lib.hid ((HF2.out.trans F29.out (fun _ h => h.elim)).trans F10 (fun _ h => h.elim))
        clear F10
        obtain ⟨f, hff, rfl⟩ := frame_open hn
        have e6 := hff 6 _ p6
        clear hff hn p6
        rw [lit187, e6]
        clear e6
        go_wp2_with fail
        go_ret
        exact ⟨rfl, HFz.out⟩
    · rcases Nat.eq_zero_or_pos nq with h0q | h0q
      · skip
        obtain ⟨g10, c10, e10⟩ := or32_form HT8.out.p (by rw [hnp]; exact h0p)
        rw [hnp] at e10
        subst e10
        have gnp : (0 : Int) < (np : Int) := by omega
        have gnpb : 0 < np := by omega
        obtain ⟨a12, c12, e12, _, _, _, _⟩ := HT8.out.q.view HQA.out.1
        rw [hnq] at e12
        subst e12
        have gnqz : ¬ ((0 : Int) < (nq : Int)) := by omega
        have gnqzb : ¬ (0 < nq) := by omega
        have H0p := Lib.hid (And.intro hnp (And.intro h0p h20p))
        have H0q := Lib.hid (And.intro hnq (And.intro h0q h20q))
        clear hnp h0p h20p hnq h0q h20q
        obtain ⟨d, hd⟩ : ∃ d : Nat, d = (IntKind.u64.wrap ((IntKind.u64.wrap z).tdiv 3)).toNat := ⟨_, rfl⟩
        obtain ⟨k, hk⟩ : ∃ k, k = d % 32 := ⟨_, rfl⟩
        have HKK := Lib.hid (show k < 32 by rw [hk]; exact Nat.mod_lt _ (by decide))
        have E9 : IntKind.i64.wrap (k : Int) = (k : Int) := by rw [IntWalk.i64_in _ (by have := HKK.out; omega)]
        have E7 : Value.int .u64 (IntKind.u64.wrap ((IntKind.u64.wrap z).tdiv 3)) = Value.int .u64 (d : Int) := by rw [hd]; exact congrArg _ (Int.toNat_of_nonneg (Int.emod_nonneg _ (show (18446744073709551616 : Int) ≠ 0 by decide))).symm
        have E8 : Value.int .u64 ((d : Int).tmod 32) = Value.int .u64 (k : Int) := by rw [Int.tmod_eq_emod_of_nonneg (Int.natCast_nonneg d), hk]; rfl
        clear hd hk hz0
        go_wp2_with fail
        refine bent_p HT8.out HPA.out.1 H0p.out.1 H0p.out.2.1 H0p.out.2.2 HKK.out _ (by first | rfl | simp) rfl rfl rfl rfl rfl rfl rfl rfl ?_
        intro t' wA bA hn p1 p8 p9 p10 p12 p14 p16 p18 TA FA
        have HTA := Lib.hid TA
        have HFA := Lib.hid FA
        clear TA FA E6 E7 E8 E9
        obtain ⟨f, hff, rfl⟩ := frame_open hn
        have e1 := hff 1 _ p1
        have e8 := hff 8 _ p8
        have e9 := hff 9 _ p9
        have e10 := hff 10 _ p10
        have e12 := hff 12 _ p12
        have e14 := hff 14 _ p14
        have e16 := hff 16 _ p16
        have e18 := hff 18 _ p18
        clear hff hn p1 p8 p9 p10 p12 p14 p16 p18
        rw [lit187, e1, e8, e9, e10, e12, e14, e16, e18]
        clear e1 e8 e9 e10 e12 e14 e16 e18
        have F9 : Fr (fun k => (Value.slice (some ⟨g10, 0, none⟩) np c10).ownBlock = some k ∨ (Value.slice a12 nq c12).ownBlock = some k) w8 wA := (HFA.out.mono (fun k _ hk => .inl (by rw [hk]; rfl)))
        have F29 := Lib.hid (show Fr (fun _ => False) w2 wA from HF8.out.trans F9 (fun k hk => .inr (hk.elim (fun h => (ownsRow_lt HT8.out.p k h).1) (fun h => (ownsRow_lt HT8.out.q k h).1))))
        have hrb := Lib.hid ((F9.block _ (lt_of_block HRB8.out) NR.out).trans HRB8.out)
        have hob := Lib.hid ((F9.block _ (lt_of_block HOB.out) NO.out).trans HOB.out)
        clear F9
        have k10 := or32_kv HTA.out.p (setb_all HPA.out.1 _ _ _)
        have k12 := or32_kv HTA.out.q HQA.out.1
        have HPF := Lib.hid (And.intro k10.1 (And.intro k10.2.1 (And.intro k10.2.2.1 (And.intro (Nat.le_trans H0p.out.2.2 (show 20 ≤ 1000 by decide)) k10.2.2.2))))
        have HQF := Lib.hid (And.intro k12.1 (And.intro k12.2.1 (And.intro k12.2.2.1 (And.intro (Nat.le_trans H0q.out.2.2 (show 20 ≤ 1000 by decide)) k12.2.2.2))))
        clear k10 k12
        go_wp2_with fail
        refine bent_last (P := (setb P (np / 2) k bA)) (QQ := QQ) HI.out HB.out.1 HK.out.2.2.1 HK.out.2.2.2 (HSV2.out.ext F29.out) HK.out.1 HX.out.1 HX.out.2 HPF.out.2.2.2.2 HPF.out.1 HPF.out.2.1 HPF.out.2.2.1 HPF.out.2.2.2.1 HQF.out.2.2.2.2 HQF.out.1 HQF.out.2.1 HQF.out.2.2.1 HQF.out.2.2.2.1 hrb.out hob.out HRL.out HOL.out (HE2.out.ext F29.out) (HR2.out.ext F29.out) _ (by first | rfl | simp) rfl rfl rfl rfl rfl rfl rfl ?_
        intro t2 w10 hn p6 F10
        have HFz := Lib.hid ((HF2.out.trans F29.out (fun _ h => h.elim)).trans F10 (fun _ h => h.elim))
        clear F10
        obtain ⟨f, hff, rfl⟩ := frame_open hn
        have e6 := hff 6 _ p6
        clear hff hn p6
        rw [lit187, e6]
        clear e6
        go_wp2_with fail
        go_ret
        exact ⟨rfl, HFz.out⟩
      · skip
        obtain ⟨g10, c10, e10⟩ := or32_form HT8.out.p (by rw [hnp]; exact h0p)
        rw [hnp] at e10
        subst e10
        have gnp : (0 : Int) < (np : Int) := by omega
        have gnpb : 0 < np := by omega
        obtain ⟨g12, c12, e12⟩ := or32_form HT8.out.q (by rw [hnq]; exact h0q)
        rw [hnq] at e12
        subst e12
        have gnq : (0 : Int) < (nq : Int) := by omega
        have gnqb : 0 < nq := by omega
        have H0p := Lib.hid (And.intro hnp (And.intro h0p h20p))
        have H0q := Lib.hid (And.intro hnq (And.intro h0q h20q))
        clear hnp h0p h20p hnq h0q h20q
        obtain ⟨d, hd⟩ : ∃ d : Nat, d = (IntKind.u64.wrap ((IntKind.u64.wrap z).tdiv 3)).toNat := ⟨_, rfl⟩
        obtain ⟨k, hk⟩ : ∃ k, k = d % 32 := ⟨_, rfl⟩
        have HKK := Lib.hid (show k < 32 by rw [hk]; exact Nat.mod_lt _ (by decide))
        have E9 : IntKind.i64.wrap (k : Int) = (k : Int) := by rw [IntWalk.i64_in _ (by have := HKK.out; omega)]
        have E7 : Value.int .u64 (IntKind.u64.wrap ((IntKind.u64.wrap z).tdiv 3)) = Value.int .u64 (d : Int) := by rw [hd]; exact congrArg _ (Int.toNat_of_nonneg (Int.emod_nonneg _ (show (18446744073709551616 : Int) ≠ 0 by decide))).symm
        have E8 : Value.int .u64 ((d : Int).tmod 32) = Value.int .u64 (k : Int) := by rw [Int.tmod_eq_emod_of_nonneg (Int.natCast_nonneg d), hk]; rfl
        clear hd hk hz0
        go_wp2_with fail
        refine bent_p HT8.out HPA.out.1 H0p.out.1 H0p.out.2.1 H0p.out.2.2 HKK.out _ (by first | rfl | simp) rfl rfl rfl rfl rfl rfl rfl rfl ?_
        intro t' wA bA hn p1 p8 p9 p10 p12 p14 p16 p18 TA FA
        have HTA := Lib.hid TA
        have HFA := Lib.hid FA
        clear TA FA E6 E7 E8 E9
        obtain ⟨f, hff, rfl⟩ := frame_open hn
        have e1 := hff 1 _ p1
        have e8 := hff 8 _ p8
        have e9 := hff 9 _ p9
        have e10 := hff 10 _ p10
        have e12 := hff 12 _ p12
        have e14 := hff 14 _ p14
        have e16 := hff 16 _ p16
        have e18 := hff 18 _ p18
        clear hff hn p1 p8 p9 p10 p12 p14 p16 p18
        rw [lit187, e1, e8, e9, e10, e12, e14, e16, e18]
        clear e1 e8 e9 e10 e12 e14 e16 e18
        go_wp2_with fail
        refine bent_q HTA.out.swap HQA.out.1 H0q.out.1 H0q.out.2.1 H0q.out.2.2 HKK.out _ (by first | rfl | simp) rfl rfl rfl rfl rfl rfl rfl rfl ?_
        intro t'' wB bB hn p1 p8 p9 p10 p12 p14 p16 p18 TB FB
        have HTB := Lib.hid TB.swap
        have HFB := Lib.hid FB
        clear TB FB
        obtain ⟨f, hff, rfl⟩ := frame_open hn
        have e1 := hff 1 _ p1
        have e8 := hff 8 _ p8
        have e9 := hff 9 _ p9
        have e10 := hff 10 _ p10
        have e12 := hff 12 _ p12
        have e14 := hff 14 _ p14
        have e16 := hff 16 _ p16
        have e18 := hff 18 _ p18
        clear hff hn p1 p8 p9 p10 p12 p14 p16 p18
        rw [lit187, e1, e8, e9, e10, e12, e14, e16, e18]
        clear e1 e8 e9 e10 e12 e14 e16 e18
        have F9 : Fr (fun k => (Value.slice (some ⟨g10, 0, none⟩) np c10).ownBlock = some k ∨ (Value.slice (some ⟨g12, 0, none⟩) nq c12).ownBlock = some k) w8 wB := ((HFA.out.mono (fun k _ hk => .inl (by rw [hk]; rfl))).trans HFB.out (fun k hk => .inl (.inr (by rw [hk]; rfl))))
        have F29 := Lib.hid (show Fr (fun _ => False) w2 wB from HF8.out.trans F9 (fun k hk => .inr (hk.elim (fun h => (ownsRow_lt HT8.out.p k h).1) (fun h => (ownsRow_lt HT8.out.q k h).1))))
        have hrb := Lib.hid ((F9.block _ (lt_of_block HRB8.out) NR.out).trans HRB8.out)
        have hob := Lib.hid ((F9.block _ (lt_of_block HOB.out) NO.out).trans HOB.out)
        clear F9
        have k10 := or32_kv HTB.out.p (setb_all HPA.out.1 _ _ _)
        have k12 := or32_kv HTB.out.q (setb_all HQA.out.1 _ _ _)
        have HPF := Lib.hid (And.intro k10.1 (And.intro k10.2.1 (And.intro k10.2.2.1 (And.intro (Nat.le_trans H0p.out.2.2 (show 20 ≤ 1000 by decide)) k10.2.2.2))))
        have HQF := Lib.hid (And.intro k12.1 (And.intro k12.2.1 (And.intro k12.2.2.1 (And.intro (Nat.le_trans H0q.out.2.2 (show 20 ≤ 1000 by decide)) k12.2.2.2))))
        clear k10 k12
        go_wp2_with fail
        refine bent_last (P := (setb P (np / 2) k bA)) (QQ := (setb QQ (nq / 2) k bB)) HI.out HB.out.1 HK.out.2.2.1 HK.out.2.2.2 (HSV2.out.ext F29.out) HK.out.1 HX.out.1 HX.out.2 HPF.out.2.2.2.2 HPF.out.1 HPF.out.2.1 HPF.out.2.2.1 HPF.out.2.2.2.1 HQF.out.2.2.2.2 HQF.out.1 HQF.out.2.1 HQF.out.2.2.1 HQF.out.2.2.2.1 hrb.out hob.out HRL.out HOL.out (HE2.out.ext F29.out) (HR2.out.ext F29.out) _ (by first | rfl | simp) rfl rfl rfl rfl rfl rfl rfl ?_
        intro t2 w10 hn p6 F10
        have HFz := Lib.hid ((HF2.out.trans F29.out (fun _ h => h.elim)).trans F10 (fun _ h => h.elim))
        clear F10
        obtain ⟨f, hff, rfl⟩ := frame_open hn
        have e6 := hff 6 _ p6
        clear hff hn p6
        rw [lit187, e6]
        clear e6
        go_wp2_with fail
        go_ret
        exact ⟨rfl, HFz.out⟩
end Go.Proofs.YtjndkjgbplpfeaaDoor

/-
  CodecBack: the region of the two calls of next.
-/
import Derived.Test.YtdlmfodnookmhaaMk
namespace Go.Proofs.Ytdlmfodnookmhaa
open Go.RowKit
set_option linter.unusedVariables false
set_option linter.unusedSimpArgs false
def Lof (p : Nat) (ba bb : Bool) : Array Bool := #[true, true, true, true, true, true, decide (1 ≤ p), true, true, true, true, true, true, decide (2 ≤ p), ba, bb, decide (3 ≤ p), decide (4 ≤ p)]
def okpq (p : Nat) (ba bb : Bool) : Bool := decide (p ≤ 2) || (decide (p ≤ 4) && ba && bb)
def J18 (W0 : World) (br1 br2 g1 o1 c1 g2 o2 c2 : Nat) (l rest1 rest2 : List UInt8) (v6 v15 vk : Value) (R : Array Value) (n : Nat) (L : Array Bool) (a : Act) (w : World) : Prop :=
  ∃ (p : Nat) (ba bb : Bool), okpq p ba bb = true ∧ n + p + ba.toNat + bb.toNat = 6 ∧ L = Lof p ba bb ∧ Nx W0 br1 br2 g1 o1 c1 g2 o2 c2 l rest1 rest2 v6 v15 vk R p ba bb a w
def allRdy (ops : Array Oper) : Bool := ([(0, false, false, [6, 14, 15]), (0, false, true, [6, 14]), (0, true, false, [6, 15]), (0, true, true, [6]), (1, false, false, [13, 14, 15]), (1, false, true, [13, 14]), (1, true, false, [13, 15]), (1, true, true, [13]), (2, false, false, [14, 15]), (2, false, true, [14]), (2, true, false, [15]), (2, true, true, [16]), (3, true, true, [17]), (4, true, true, [])] : List (Nat × Bool × Bool × List Nat)).all fun x => Region.ready .any ops (Lof x.1 x.2.1 x.2.2.1) == x.2.2.2
set_option maxRecDepth 100000
theorem sp000 {W0 : World} {br1 br2 g1 o1 c1 g2 o2 c2 : Nat} {l rest1 rest2 : List UInt8} {v6 v15 vk : Value} {R : Array Value} (hb1 : br1 < W0.heap.size) (hb2 : br2 < W0.heap.size) (h12 : br1 ≠ br2) (hg1 : g1 ≠ br2) (hg2 : g2 ≠ br1) (hl1 : g1 < W0.heap.size) (hl2 : g2 < W0.heap.size) (sR : Sz 35 R) (HN : ∀ (br c g off : Nat) (rest : List UInt8) (w : World), Rd w br (some ⟨g, off, none⟩) c (l ++ rest) 0 → Calls Try.prog 13 #[.pointer (some ⟨br, 0, none⟩), vk, .int .i64 300] w fun e w' => e = .returned (.agg R) ∧ RdPost w w' br g (c - l.length) rest 0) {ops : Array Oper} {o6 o13 o14 o15 o16 o17 : Oper} {ty6 ty13 : Array TypeId} (i6 : ops[6]? = some o6) (d6 : o6.dst = some 82) (p6 : o6.op = .call { callee := .value (.func 13), args := #[.tmp 76, .tmp 81, .const (.int .i64 300)], argTypes := ty6 }) (n6 : o6.guard = none) (i13 : ops[13]? = some o13) (d13 : o13.dst = some 89) (p13 : o13.op = .call { callee := .value (.func 13), args := #[.tmp 83, .tmp 88, .const (.int .i64 300)], argTypes := ty13 }) (n13 : o13.guard = none) (i14 : ops[14]? = some o14) (d14 : o14.dst = some 16) (p14 : o14.op = .alloc 34) (n14 : o14.guard = none) (i15 : ops[15]? = some o15) (d15 : o15.dst = some 17) (p15 : o15.op = .alloc 34) (n15 : o15.guard = none) (i16 : ops[16]? = some o16) (d16 : o16.dst = none) (p16 : o16.op = .store 34 (.tmp 16) (.tmp 82)) (n16 : o16.guard = none) (i17 : ops[17]? = some o17) (d17 : o17.dst = none) (p17 : o17.op = .store 34 (.tmp 17) (.tmp 89)) (n17 : o17.guard = none) (hr : Region.ready .any ops (Lof 0 false false) = [6, 14, 15]) {a : Act} {w : World} (h : Nx W0 br1 br2 g1 o1 c1 g2 o2 c2 l rest1 rest2 v6 v15 vk R 0 false false a w) :
    Region.ready .any ops (Lof 0 false false) ≠ [] ∧ ∀ i ∈ Region.ready .any ops (Lof 0 false false), wpOp Try.prog ops NQ i (fun a'' w'' => Ks.Es (fun k => k = br1 ∨ k = br2 ∨ W0.heap.size ≤ k) w w'' ∧ J18 W0 br1 br2 g1 o1 c1 g2 o2 c2 l rest1 rest2 v6 v15 vk R 5 ((Lof 0 false false).setIfInBounds i true) a'' w'') a w := by
  rw [hr]
  refine ⟨by simp, fun i hi => ?_⟩
  simp only [List.mem_cons, List.not_mem_nil, or_false] at hi
  rcases hi with rfl | rfl | rfl
  · exact wpOp_mono (fun a'' w'' hh => ⟨hh.1, 1, false, false, by decide, rfl, rfl, hh.2⟩) (st_call1 hb1 hb2 h12 hg1 hg2 HN i6 d6 p6 n6 h)
  · exact wpOp_mono (fun a'' w'' hh => ⟨hh.1, 0, true, false, by decide, rfl, rfl, hh.2⟩) (st_new1 (ba := false) (by decide) i14 d14 p14 n14 h)
  · exact wpOp_mono (fun a'' w'' hh => ⟨hh.1, 0, false, true, by decide, rfl, rfl, hh.2⟩) (st_new2 (bb := false) (by decide) i15 d15 p15 n15 h)
theorem sp001 {W0 : World} {br1 br2 g1 o1 c1 g2 o2 c2 : Nat} {l rest1 rest2 : List UInt8} {v6 v15 vk : Value} {R : Array Value} (hb1 : br1 < W0.heap.size) (hb2 : br2 < W0.heap.size) (h12 : br1 ≠ br2) (hg1 : g1 ≠ br2) (hg2 : g2 ≠ br1) (hl1 : g1 < W0.heap.size) (hl2 : g2 < W0.heap.size) (sR : Sz 35 R) (HN : ∀ (br c g off : Nat) (rest : List UInt8) (w : World), Rd w br (some ⟨g, off, none⟩) c (l ++ rest) 0 → Calls Try.prog 13 #[.pointer (some ⟨br, 0, none⟩), vk, .int .i64 300] w fun e w' => e = .returned (.agg R) ∧ RdPost w w' br g (c - l.length) rest 0) {ops : Array Oper} {o6 o13 o14 o15 o16 o17 : Oper} {ty6 ty13 : Array TypeId} (i6 : ops[6]? = some o6) (d6 : o6.dst = some 82) (p6 : o6.op = .call { callee := .value (.func 13), args := #[.tmp 76, .tmp 81, .const (.int .i64 300)], argTypes := ty6 }) (n6 : o6.guard = none) (i13 : ops[13]? = some o13) (d13 : o13.dst = some 89) (p13 : o13.op = .call { callee := .value (.func 13), args := #[.tmp 83, .tmp 88, .const (.int .i64 300)], argTypes := ty13 }) (n13 : o13.guard = none) (i14 : ops[14]? = some o14) (d14 : o14.dst = some 16) (p14 : o14.op = .alloc 34) (n14 : o14.guard = none) (i15 : ops[15]? = some o15) (d15 : o15.dst = some 17) (p15 : o15.op = .alloc 34) (n15 : o15.guard = none) (i16 : ops[16]? = some o16) (d16 : o16.dst = none) (p16 : o16.op = .store 34 (.tmp 16) (.tmp 82)) (n16 : o16.guard = none) (i17 : ops[17]? = some o17) (d17 : o17.dst = none) (p17 : o17.op = .store 34 (.tmp 17) (.tmp 89)) (n17 : o17.guard = none) (hr : Region.ready .any ops (Lof 0 false true) = [6, 14]) {a : Act} {w : World} (h : Nx W0 br1 br2 g1 o1 c1 g2 o2 c2 l rest1 rest2 v6 v15 vk R 0 false true a w) :
    Region.ready .any ops (Lof 0 false true) ≠ [] ∧ ∀ i ∈ Region.ready .any ops (Lof 0 false true), wpOp Try.prog ops NQ i (fun a'' w'' => Ks.Es (fun k => k = br1 ∨ k = br2 ∨ W0.heap.size ≤ k) w w'' ∧ J18 W0 br1 br2 g1 o1 c1 g2 o2 c2 l rest1 rest2 v6 v15 vk R 4 ((Lof 0 false true).setIfInBounds i true) a'' w'') a w := by
  rw [hr]
  refine ⟨by simp, fun i hi => ?_⟩
  simp only [List.mem_cons, List.not_mem_nil, or_false] at hi
  rcases hi with rfl | rfl
  · exact wpOp_mono (fun a'' w'' hh => ⟨hh.1, 1, false, true, by decide, rfl, rfl, hh.2⟩) (st_call1 hb1 hb2 h12 hg1 hg2 HN i6 d6 p6 n6 h)
  · exact wpOp_mono (fun a'' w'' hh => ⟨hh.1, 0, true, true, by decide, rfl, rfl, hh.2⟩) (st_new1 (ba := false) (by decide) i14 d14 p14 n14 h)
theorem sp010 {W0 : World} {br1 br2 g1 o1 c1 g2 o2 c2 : Nat} {l rest1 rest2 : List UInt8} {v6 v15 vk : Value} {R : Array Value} (hb1 : br1 < W0.heap.size) (hb2 : br2 < W0.heap.size) (h12 : br1 ≠ br2) (hg1 : g1 ≠ br2) (hg2 : g2 ≠ br1) (hl1 : g1 < W0.heap.size) (hl2 : g2 < W0.heap.size) (sR : Sz 35 R) (HN : ∀ (br c g off : Nat) (rest : List UInt8) (w : World), Rd w br (some ⟨g, off, none⟩) c (l ++ rest) 0 → Calls Try.prog 13 #[.pointer (some ⟨br, 0, none⟩), vk, .int .i64 300] w fun e w' => e = .returned (.agg R) ∧ RdPost w w' br g (c - l.length) rest 0) {ops : Array Oper} {o6 o13 o14 o15 o16 o17 : Oper} {ty6 ty13 : Array TypeId} (i6 : ops[6]? = some o6) (d6 : o6.dst = some 82) (p6 : o6.op = .call { callee := .value (.func 13), args := #[.tmp 76, .tmp 81, .const (.int .i64 300)], argTypes := ty6 }) (n6 : o6.guard = none) (i13 : ops[13]? = some o13) (d13 : o13.dst = some 89) (p13 : o13.op = .call { callee := .value (.func 13), args := #[.tmp 83, .tmp 88, .const (.int .i64 300)], argTypes := ty13 }) (n13 : o13.guard = none) (i14 : ops[14]? = some o14) (d14 : o14.dst = some 16) (p14 : o14.op = .alloc 34) (n14 : o14.guard = none) (i15 : ops[15]? = some o15) (d15 : o15.dst = some 17) (p15 : o15.op = .alloc 34) (n15 : o15.guard = none) (i16 : ops[16]? = some o16) (d16 : o16.dst = none) (p16 : o16.op = .store 34 (.tmp 16) (.tmp 82)) (n16 : o16.guard = none) (i17 : ops[17]? = some o17) (d17 : o17.dst = none) (p17 : o17.op = .store 34 (.tmp 17) (.tmp 89)) (n17 : o17.guard = none) (hr : Region.ready .any ops (Lof 0 true false) = [6, 15]) {a : Act} {w : World} (h : Nx W0 br1 br2 g1 o1 c1 g2 o2 c2 l rest1 rest2 v6 v15 vk R 0 true false a w) :
    Region.ready .any ops (Lof 0 true false) ≠ [] ∧ ∀ i ∈ Region.ready .any ops (Lof 0 true false), wpOp Try.prog ops NQ i (fun a'' w'' => Ks.Es (fun k => k = br1 ∨ k = br2 ∨ W0.heap.size ≤ k) w w'' ∧ J18 W0 br1 br2 g1 o1 c1 g2 o2 c2 l rest1 rest2 v6 v15 vk R 4 ((Lof 0 true false).setIfInBounds i true) a'' w'') a w := by
  rw [hr]
  refine ⟨by simp, fun i hi => ?_⟩
  simp only [List.mem_cons, List.not_mem_nil, or_false] at hi
  rcases hi with rfl | rfl
  · exact wpOp_mono (fun a'' w'' hh => ⟨hh.1, 1, true, false, by decide, rfl, rfl, hh.2⟩) (st_call1 hb1 hb2 h12 hg1 hg2 HN i6 d6 p6 n6 h)
  · exact wpOp_mono (fun a'' w'' hh => ⟨hh.1, 0, true, true, by decide, rfl, rfl, hh.2⟩) (st_new2 (bb := false) (by decide) i15 d15 p15 n15 h)
theorem sp011 {W0 : World} {br1 br2 g1 o1 c1 g2 o2 c2 : Nat} {l rest1 rest2 : List UInt8} {v6 v15 vk : Value} {R : Array Value} (hb1 : br1 < W0.heap.size) (hb2 : br2 < W0.heap.size) (h12 : br1 ≠ br2) (hg1 : g1 ≠ br2) (hg2 : g2 ≠ br1) (hl1 : g1 < W0.heap.size) (hl2 : g2 < W0.heap.size) (sR : Sz 35 R) (HN : ∀ (br c g off : Nat) (rest : List UInt8) (w : World), Rd w br (some ⟨g, off, none⟩) c (l ++ rest) 0 → Calls Try.prog 13 #[.pointer (some ⟨br, 0, none⟩), vk, .int .i64 300] w fun e w' => e = .returned (.agg R) ∧ RdPost w w' br g (c - l.length) rest 0) {ops : Array Oper} {o6 o13 o14 o15 o16 o17 : Oper} {ty6 ty13 : Array TypeId} (i6 : ops[6]? = some o6) (d6 : o6.dst = some 82) (p6 : o6.op = .call { callee := .value (.func 13), args := #[.tmp 76, .tmp 81, .const (.int .i64 300)], argTypes := ty6 }) (n6 : o6.guard = none) (i13 : ops[13]? = some o13) (d13 : o13.dst = some 89) (p13 : o13.op = .call { callee := .value (.func 13), args := #[.tmp 83, .tmp 88, .const (.int .i64 300)], argTypes := ty13 }) (n13 : o13.guard = none) (i14 : ops[14]? = some o14) (d14 : o14.dst = some 16) (p14 : o14.op = .alloc 34) (n14 : o14.guard = none) (i15 : ops[15]? = some o15) (d15 : o15.dst = some 17) (p15 : o15.op = .alloc 34) (n15 : o15.guard = none) (i16 : ops[16]? = some o16) (d16 : o16.dst = none) (p16 : o16.op = .store 34 (.tmp 16) (.tmp 82)) (n16 : o16.guard = none) (i17 : ops[17]? = some o17) (d17 : o17.dst = none) (p17 : o17.op = .store 34 (.tmp 17) (.tmp 89)) (n17 : o17.guard = none) (hr : Region.ready .any ops (Lof 0 true true) = [6]) {a : Act} {w : World} (h : Nx W0 br1 br2 g1 o1 c1 g2 o2 c2 l rest1 rest2 v6 v15 vk R 0 true true a w) :
    Region.ready .any ops (Lof 0 true true) ≠ [] ∧ ∀ i ∈ Region.ready .any ops (Lof 0 true true), wpOp Try.prog ops NQ i (fun a'' w'' => Ks.Es (fun k => k = br1 ∨ k = br2 ∨ W0.heap.size ≤ k) w w'' ∧ J18 W0 br1 br2 g1 o1 c1 g2 o2 c2 l rest1 rest2 v6 v15 vk R 3 ((Lof 0 true true).setIfInBounds i true) a'' w'') a w := by
  rw [hr]
  refine ⟨by simp, fun i hi => ?_⟩
  simp only [List.mem_cons, List.not_mem_nil, or_false] at hi
  subst hi
  · exact wpOp_mono (fun a'' w'' hh => ⟨hh.1, 1, true, true, by decide, rfl, rfl, hh.2⟩) (st_call1 hb1 hb2 h12 hg1 hg2 HN i6 d6 p6 n6 h)
theorem sp100 {W0 : World} {br1 br2 g1 o1 c1 g2 o2 c2 : Nat} {l rest1 rest2 : List UInt8} {v6 v15 vk : Value} {R : Array Value} (hb1 : br1 < W0.heap.size) (hb2 : br2 < W0.heap.size) (h12 : br1 ≠ br2) (hg1 : g1 ≠ br2) (hg2 : g2 ≠ br1) (hl1 : g1 < W0.heap.size) (hl2 : g2 < W0.heap.size) (sR : Sz 35 R) (HN : ∀ (br c g off : Nat) (rest : List UInt8) (w : World), Rd w br (some ⟨g, off, none⟩) c (l ++ rest) 0 → Calls Try.prog 13 #[.pointer (some ⟨br, 0, none⟩), vk, .int .i64 300] w fun e w' => e = .returned (.agg R) ∧ RdPost w w' br g (c - l.length) rest 0) {ops : Array Oper} {o6 o13 o14 o15 o16 o17 : Oper} {ty6 ty13 : Array TypeId} (i6 : ops[6]? = some o6) (d6 : o6.dst = some 82) (p6 : o6.op = .call { callee := .value (.func 13), args := #[.tmp 76, .tmp 81, .const (.int .i64 300)], argTypes := ty6 }) (n6 : o6.guard = none) (i13 : ops[13]? = some o13) (d13 : o13.dst = some 89) (p13 : o13.op = .call { callee := .value (.func 13), args := #[.tmp 83, .tmp 88, .const (.int .i64 300)], argTypes := ty13 }) (n13 : o13.guard = none) (i14 : ops[14]? = some o14) (d14 : o14.dst = some 16) (p14 : o14.op = .alloc 34) (n14 : o14.guard = none) (i15 : ops[15]? = some o15) (d15 : o15.dst = some 17) (p15 : o15.op = .alloc 34) (n15 : o15.guard = none) (i16 : ops[16]? = some o16) (d16 : o16.dst = none) (p16 : o16.op = .store 34 (.tmp 16) (.tmp 82)) (n16 : o16.guard = none) (i17 : ops[17]? = some o17) (d17 : o17.dst = none) (p17 : o17.op = .store 34 (.tmp 17) (.tmp 89)) (n17 : o17.guard = none) (hr : Region.ready .any ops (Lof 1 false false) = [13, 14, 15]) {a : Act} {w : World} (h : Nx W0 br1 br2 g1 o1 c1 g2 o2 c2 l rest1 rest2 v6 v15 vk R 1 false false a w) :
    Region.ready .any ops (Lof 1 false false) ≠ [] ∧ ∀ i ∈ Region.ready .any ops (Lof 1 false false), wpOp Try.prog ops NQ i (fun a'' w'' => Ks.Es (fun k => k = br1 ∨ k = br2 ∨ W0.heap.size ≤ k) w w'' ∧ J18 W0 br1 br2 g1 o1 c1 g2 o2 c2 l rest1 rest2 v6 v15 vk R 4 ((Lof 1 false false).setIfInBounds i true) a'' w'') a w := by
  rw [hr]
  refine ⟨by simp, fun i hi => ?_⟩
  simp only [List.mem_cons, List.not_mem_nil, or_false] at hi
  rcases hi with rfl | rfl | rfl
  · exact wpOp_mono (fun a'' w'' hh => ⟨hh.1, 2, false, false, by decide, rfl, rfl, hh.2⟩) (st_call2 hb1 hb2 h12 hg1 hg2 HN i13 d13 p13 n13 h)
  · exact wpOp_mono (fun a'' w'' hh => ⟨hh.1, 1, true, false, by decide, rfl, rfl, hh.2⟩) (st_new1 (ba := false) (by decide) i14 d14 p14 n14 h)
  · exact wpOp_mono (fun a'' w'' hh => ⟨hh.1, 1, false, true, by decide, rfl, rfl, hh.2⟩) (st_new2 (bb := false) (by decide) i15 d15 p15 n15 h)
theorem sp101 {W0 : World} {br1 br2 g1 o1 c1 g2 o2 c2 : Nat} {l rest1 rest2 : List UInt8} {v6 v15 vk : Value} {R : Array Value} (hb1 : br1 < W0.heap.size) (hb2 : br2 < W0.heap.size) (h12 : br1 ≠ br2) (hg1 : g1 ≠ br2) (hg2 : g2 ≠ br1) (hl1 : g1 < W0.heap.size) (hl2 : g2 < W0.heap.size) (sR : Sz 35 R) (HN : ∀ (br c g off : Nat) (rest : List UInt8) (w : World), Rd w br (some ⟨g, off, none⟩) c (l ++ rest) 0 → Calls Try.prog 13 #[.pointer (some ⟨br, 0, none⟩), vk, .int .i64 300] w fun e w' => e = .returned (.agg R) ∧ RdPost w w' br g (c - l.length) rest 0) {ops : Array Oper} {o6 o13 o14 o15 o16 o17 : Oper} {ty6 ty13 : Array TypeId} (i6 : ops[6]? = some o6) (d6 : o6.dst = some 82) (p6 : o6.op = .call { callee := .value (.func 13), args := #[.tmp 76, .tmp 81, .const (.int .i64 300)], argTypes := ty6 }) (n6 : o6.guard = none) (i13 : ops[13]? = some o13) (d13 : o13.dst = some 89) (p13 : o13.op = .call { callee := .value (.func 13), args := #[.tmp 83, .tmp 88, .const (.int .i64 300)], argTypes := ty13 }) (n13 : o13.guard = none) (i14 : ops[14]? = some o14) (d14 : o14.dst = some 16) (p14 : o14.op = .alloc 34) (n14 : o14.guard = none) (i15 : ops[15]? = some o15) (d15 : o15.dst = some 17) (p15 : o15.op = .alloc 34) (n15 : o15.guard = none) (i16 : ops[16]? = some o16) (d16 : o16.dst = none) (p16 : o16.op = .store 34 (.tmp 16) (.tmp 82)) (n16 : o16.guard = none) (i17 : ops[17]? = some o17) (d17 : o17.dst = none) (p17 : o17.op = .store 34 (.tmp 17) (.tmp 89)) (n17 : o17.guard = none) (hr : Region.ready .any ops (Lof 1 false true) = [13, 14]) {a : Act} {w : World} (h : Nx W0 br1 br2 g1 o1 c1 g2 o2 c2 l rest1 rest2 v6 v15 vk R 1 false true a w) :
    Region.ready .any ops (Lof 1 false true) ≠ [] ∧ ∀ i ∈ Region.ready .any ops (Lof 1 false true), wpOp Try.prog ops NQ i (fun a'' w'' => Ks.Es (fun k => k = br1 ∨ k = br2 ∨ W0.heap.size ≤ k) w w'' ∧ J18 W0 br1 br2 g1 o1 c1 g2 o2 c2 l rest1 rest2 v6 v15 vk R 3 ((Lof 1 false true).setIfInBounds i true) a'' w'') a w := by
  rw [hr]
  refine ⟨by simp, fun i hi => ?_⟩
  simp only [List.mem_cons, List.not_mem_nil, or_false] at hi
  rcases hi with rfl | rfl
  · exact wpOp_mono (fun a'' w'' hh => ⟨hh.1, 2, false, true, by decide, rfl, rfl, hh.2⟩) (st_call2 hb1 hb2 h12 hg1 hg2 HN i13 d13 p13 n13 h)
  · exact wpOp_mono (fun a'' w'' hh => ⟨hh.1, 1, true, true, by decide, rfl, rfl, hh.2⟩) (st_new1 (ba := false) (by decide) i14 d14 p14 n14 h)
theorem sp110 {W0 : World} {br1 br2 g1 o1 c1 g2 o2 c2 : Nat} {l rest1 rest2 : List UInt8} {v6 v15 vk : Value} {R : Array Value} (hb1 : br1 < W0.heap.size) (hb2 : br2 < W0.heap.size) (h12 : br1 ≠ br2) (hg1 : g1 ≠ br2) (hg2 : g2 ≠ br1) (hl1 : g1 < W0.heap.size) (hl2 : g2 < W0.heap.size) (sR : Sz 35 R) (HN : ∀ (br c g off : Nat) (rest : List UInt8) (w : World), Rd w br (some ⟨g, off, none⟩) c (l ++ rest) 0 → Calls Try.prog 13 #[.pointer (some ⟨br, 0, none⟩), vk, .int .i64 300] w fun e w' => e = .returned (.agg R) ∧ RdPost w w' br g (c - l.length) rest 0) {ops : Array Oper} {o6 o13 o14 o15 o16 o17 : Oper} {ty6 ty13 : Array TypeId} (i6 : ops[6]? = some o6) (d6 : o6.dst = some 82) (p6 : o6.op = .call { callee := .value (.func 13), args := #[.tmp 76, .tmp 81, .const (.int .i64 300)], argTypes := ty6 }) (n6 : o6.guard = none) (i13 : ops[13]? = some o13) (d13 : o13.dst = some 89) (p13 : o13.op = .call { callee := .value (.func 13), args := #[.tmp 83, .tmp 88, .const (.int .i64 300)], argTypes := ty13 }) (n13 : o13.guard = none) (i14 : ops[14]? = some o14) (d14 : o14.dst = some 16) (p14 : o14.op = .alloc 34) (n14 : o14.guard = none) (i15 : ops[15]? = some o15) (d15 : o15.dst = some 17) (p15 : o15.op = .alloc 34) (n15 : o15.guard = none) (i16 : ops[16]? = some o16) (d16 : o16.dst = none) (p16 : o16.op = .store 34 (.tmp 16) (.tmp 82)) (n16 : o16.guard = none) (i17 : ops[17]? = some o17) (d17 : o17.dst = none) (p17 : o17.op = .store 34 (.tmp 17) (.tmp 89)) (n17 : o17.guard = none) (hr : Region.ready .any ops (Lof 1 true false) = [13, 15]) {a : Act} {w : World} (h : Nx W0 br1 br2 g1 o1 c1 g2 o2 c2 l rest1 rest2 v6 v15 vk R 1 true false a w) :
    Region.ready .any ops (Lof 1 true false) ≠ [] ∧ ∀ i ∈ Region.ready .any ops (Lof 1 true false), wpOp Try.prog ops NQ i (fun a'' w'' => Ks.Es (fun k => k = br1 ∨ k = br2 ∨ W0.heap.size ≤ k) w w'' ∧ J18 W0 br1 br2 g1 o1 c1 g2 o2 c2 l rest1 rest2 v6 v15 vk R 3 ((Lof 1 true false).setIfInBounds i true) a'' w'') a w := by
  rw [hr]
  refine ⟨by simp, fun i hi => ?_⟩
  simp only [List.mem_cons, List.not_mem_nil, or_false] at hi
  rcases hi with rfl | rfl
  · exact wpOp_mono (fun a'' w'' hh => ⟨hh.1, 2, true, false, by decide, rfl, rfl, hh.2⟩) (st_call2 hb1 hb2 h12 hg1 hg2 HN i13 d13 p13 n13 h)
  · exact wpOp_mono (fun a'' w'' hh => ⟨hh.1, 1, true, true, by decide, rfl, rfl, hh.2⟩) (st_new2 (bb := false) (by decide) i15 d15 p15 n15 h)
theorem sp111 {W0 : World} {br1 br2 g1 o1 c1 g2 o2 c2 : Nat} {l rest1 rest2 : List UInt8} {v6 v15 vk : Value} {R : Array Value} (hb1 : br1 < W0.heap.size) (hb2 : br2 < W0.heap.size) (h12 : br1 ≠ br2) (hg1 : g1 ≠ br2) (hg2 : g2 ≠ br1) (hl1 : g1 < W0.heap.size) (hl2 : g2 < W0.heap.size) (sR : Sz 35 R) (HN : ∀ (br c g off : Nat) (rest : List UInt8) (w : World), Rd w br (some ⟨g, off, none⟩) c (l ++ rest) 0 → Calls Try.prog 13 #[.pointer (some ⟨br, 0, none⟩), vk, .int .i64 300] w fun e w' => e = .returned (.agg R) ∧ RdPost w w' br g (c - l.length) rest 0) {ops : Array Oper} {o6 o13 o14 o15 o16 o17 : Oper} {ty6 ty13 : Array TypeId} (i6 : ops[6]? = some o6) (d6 : o6.dst = some 82) (p6 : o6.op = .call { callee := .value (.func 13), args := #[.tmp 76, .tmp 81, .const (.int .i64 300)], argTypes := ty6 }) (n6 : o6.guard = none) (i13 : ops[13]? = some o13) (d13 : o13.dst = some 89) (p13 : o13.op = .call { callee := .value (.func 13), args := #[.tmp 83, .tmp 88, .const (.int .i64 300)], argTypes := ty13 }) (n13 : o13.guard = none) (i14 : ops[14]? = some o14) (d14 : o14.dst = some 16) (p14 : o14.op = .alloc 34) (n14 : o14.guard = none) (i15 : ops[15]? = some o15) (d15 : o15.dst = some 17) (p15 : o15.op = .alloc 34) (n15 : o15.guard = none) (i16 : ops[16]? = some o16) (d16 : o16.dst = none) (p16 : o16.op = .store 34 (.tmp 16) (.tmp 82)) (n16 : o16.guard = none) (i17 : ops[17]? = some o17) (d17 : o17.dst = none) (p17 : o17.op = .store 34 (.tmp 17) (.tmp 89)) (n17 : o17.guard = none) (hr : Region.ready .any ops (Lof 1 true true) = [13]) {a : Act} {w : World} (h : Nx W0 br1 br2 g1 o1 c1 g2 o2 c2 l rest1 rest2 v6 v15 vk R 1 true true a w) :
    Region.ready .any ops (Lof 1 true true) ≠ [] ∧ ∀ i ∈ Region.ready .any ops (Lof 1 true true), wpOp Try.prog ops NQ i (fun a'' w'' => Ks.Es (fun k => k = br1 ∨ k = br2 ∨ W0.heap.size ≤ k) w w'' ∧ J18 W0 br1 br2 g1 o1 c1 g2 o2 c2 l rest1 rest2 v6 v15 vk R 2 ((Lof 1 true true).setIfInBounds i true) a'' w'') a w := by
  rw [hr]
  refine ⟨by simp, fun i hi => ?_⟩
  simp only [List.mem_cons, List.not_mem_nil, or_false] at hi
  subst hi
  · exact wpOp_mono (fun a'' w'' hh => ⟨hh.1, 2, true, true, by decide, rfl, rfl, hh.2⟩) (st_call2 hb1 hb2 h12 hg1 hg2 HN i13 d13 p13 n13 h)
theorem sp200 {W0 : World} {br1 br2 g1 o1 c1 g2 o2 c2 : Nat} {l rest1 rest2 : List UInt8} {v6 v15 vk : Value} {R : Array Value} (hb1 : br1 < W0.heap.size) (hb2 : br2 < W0.heap.size) (h12 : br1 ≠ br2) (hg1 : g1 ≠ br2) (hg2 : g2 ≠ br1) (hl1 : g1 < W0.heap.size) (hl2 : g2 < W0.heap.size) (sR : Sz 35 R) (HN : ∀ (br c g off : Nat) (rest : List UInt8) (w : World), Rd w br (some ⟨g, off, none⟩) c (l ++ rest) 0 → Calls Try.prog 13 #[.pointer (some ⟨br, 0, none⟩), vk, .int .i64 300] w fun e w' => e = .returned (.agg R) ∧ RdPost w w' br g (c - l.length) rest 0) {ops : Array Oper} {o6 o13 o14 o15 o16 o17 : Oper} {ty6 ty13 : Array TypeId} (i6 : ops[6]? = some o6) (d6 : o6.dst = some 82) (p6 : o6.op = .call { callee := .value (.func 13), args := #[.tmp 76, .tmp 81, .const (.int .i64 300)], argTypes := ty6 }) (n6 : o6.guard = none) (i13 : ops[13]? = some o13) (d13 : o13.dst = some 89) (p13 : o13.op = .call { callee := .value (.func 13), args := #[.tmp 83, .tmp 88, .const (.int .i64 300)], argTypes := ty13 }) (n13 : o13.guard = none) (i14 : ops[14]? = some o14) (d14 : o14.dst = some 16) (p14 : o14.op = .alloc 34) (n14 : o14.guard = none) (i15 : ops[15]? = some o15) (d15 : o15.dst = some 17) (p15 : o15.op = .alloc 34) (n15 : o15.guard = none) (i16 : ops[16]? = some o16) (d16 : o16.dst = none) (p16 : o16.op = .store 34 (.tmp 16) (.tmp 82)) (n16 : o16.guard = none) (i17 : ops[17]? = some o17) (d17 : o17.dst = none) (p17 : o17.op = .store 34 (.tmp 17) (.tmp 89)) (n17 : o17.guard = none) (hr : Region.ready .any ops (Lof 2 false false) = [14, 15]) {a : Act} {w : World} (h : Nx W0 br1 br2 g1 o1 c1 g2 o2 c2 l rest1 rest2 v6 v15 vk R 2 false false a w) :
    Region.ready .any ops (Lof 2 false false) ≠ [] ∧ ∀ i ∈ Region.ready .any ops (Lof 2 false false), wpOp Try.prog ops NQ i (fun a'' w'' => Ks.Es (fun k => k = br1 ∨ k = br2 ∨ W0.heap.size ≤ k) w w'' ∧ J18 W0 br1 br2 g1 o1 c1 g2 o2 c2 l rest1 rest2 v6 v15 vk R 3 ((Lof 2 false false).setIfInBounds i true) a'' w'') a w := by
  rw [hr]
  refine ⟨by simp, fun i hi => ?_⟩
  simp only [List.mem_cons, List.not_mem_nil, or_false] at hi
  rcases hi with rfl | rfl
  · exact wpOp_mono (fun a'' w'' hh => ⟨hh.1, 2, true, false, by decide, rfl, rfl, hh.2⟩) (st_new1 (ba := false) (by decide) i14 d14 p14 n14 h)
  · exact wpOp_mono (fun a'' w'' hh => ⟨hh.1, 2, false, true, by decide, rfl, rfl, hh.2⟩) (st_new2 (bb := false) (by decide) i15 d15 p15 n15 h)
theorem sp201 {W0 : World} {br1 br2 g1 o1 c1 g2 o2 c2 : Nat} {l rest1 rest2 : List UInt8} {v6 v15 vk : Value} {R : Array Value} (hb1 : br1 < W0.heap.size) (hb2 : br2 < W0.heap.size) (h12 : br1 ≠ br2) (hg1 : g1 ≠ br2) (hg2 : g2 ≠ br1) (hl1 : g1 < W0.heap.size) (hl2 : g2 < W0.heap.size) (sR : Sz 35 R) (HN : ∀ (br c g off : Nat) (rest : List UInt8) (w : World), Rd w br (some ⟨g, off, none⟩) c (l ++ rest) 0 → Calls Try.prog 13 #[.pointer (some ⟨br, 0, none⟩), vk, .int .i64 300] w fun e w' => e = .returned (.agg R) ∧ RdPost w w' br g (c - l.length) rest 0) {ops : Array Oper} {o6 o13 o14 o15 o16 o17 : Oper} {ty6 ty13 : Array TypeId} (i6 : ops[6]? = some o6) (d6 : o6.dst = some 82) (p6 : o6.op = .call { callee := .value (.func 13), args := #[.tmp 76, .tmp 81, .const (.int .i64 300)], argTypes := ty6 }) (n6 : o6.guard = none) (i13 : ops[13]? = some o13) (d13 : o13.dst = some 89) (p13 : o13.op = .call { callee := .value (.func 13), args := #[.tmp 83, .tmp 88, .const (.int .i64 300)], argTypes := ty13 }) (n13 : o13.guard = none) (i14 : ops[14]? = some o14) (d14 : o14.dst = some 16) (p14 : o14.op = .alloc 34) (n14 : o14.guard = none) (i15 : ops[15]? = some o15) (d15 : o15.dst = some 17) (p15 : o15.op = .alloc 34) (n15 : o15.guard = none) (i16 : ops[16]? = some o16) (d16 : o16.dst = none) (p16 : o16.op = .store 34 (.tmp 16) (.tmp 82)) (n16 : o16.guard = none) (i17 : ops[17]? = some o17) (d17 : o17.dst = none) (p17 : o17.op = .store 34 (.tmp 17) (.tmp 89)) (n17 : o17.guard = none) (hr : Region.ready .any ops (Lof 2 false true) = [14]) {a : Act} {w : World} (h : Nx W0 br1 br2 g1 o1 c1 g2 o2 c2 l rest1 rest2 v6 v15 vk R 2 false true a w) :
    Region.ready .any ops (Lof 2 false true) ≠ [] ∧ ∀ i ∈ Region.ready .any ops (Lof 2 false true), wpOp Try.prog ops NQ i (fun a'' w'' => Ks.Es (fun k => k = br1 ∨ k = br2 ∨ W0.heap.size ≤ k) w w'' ∧ J18 W0 br1 br2 g1 o1 c1 g2 o2 c2 l rest1 rest2 v6 v15 vk R 2 ((Lof 2 false true).setIfInBounds i true) a'' w'') a w := by
  rw [hr]
  refine ⟨by simp, fun i hi => ?_⟩
  simp only [List.mem_cons, List.not_mem_nil, or_false] at hi
  subst hi
  · exact wpOp_mono (fun a'' w'' hh => ⟨hh.1, 2, true, true, by decide, rfl, rfl, hh.2⟩) (st_new1 (ba := false) (by decide) i14 d14 p14 n14 h)
theorem sp210 {W0 : World} {br1 br2 g1 o1 c1 g2 o2 c2 : Nat} {l rest1 rest2 : List UInt8} {v6 v15 vk : Value} {R : Array Value} (hb1 : br1 < W0.heap.size) (hb2 : br2 < W0.heap.size) (h12 : br1 ≠ br2) (hg1 : g1 ≠ br2) (hg2 : g2 ≠ br1) (hl1 : g1 < W0.heap.size) (hl2 : g2 < W0.heap.size) (sR : Sz 35 R) (HN : ∀ (br c g off : Nat) (rest : List UInt8) (w : World), Rd w br (some ⟨g, off, none⟩) c (l ++ rest) 0 → Calls Try.prog 13 #[.pointer (some ⟨br, 0, none⟩), vk, .int .i64 300] w fun e w' => e = .returned (.agg R) ∧ RdPost w w' br g (c - l.length) rest 0) {ops : Array Oper} {o6 o13 o14 o15 o16 o17 : Oper} {ty6 ty13 : Array TypeId} (i6 : ops[6]? = some o6) (d6 : o6.dst = some 82) (p6 : o6.op = .call { callee := .value (.func 13), args := #[.tmp 76, .tmp 81, .const (.int .i64 300)], argTypes := ty6 }) (n6 : o6.guard = none) (i13 : ops[13]? = some o13) (d13 : o13.dst = some 89) (p13 : o13.op = .call { callee := .value (.func 13), args := #[.tmp 83, .tmp 88, .const (.int .i64 300)], argTypes := ty13 }) (n13 : o13.guard = none) (i14 : ops[14]? = some o14) (d14 : o14.dst = some 16) (p14 : o14.op = .alloc 34) (n14 : o14.guard = none) (i15 : ops[15]? = some o15) (d15 : o15.dst = some 17) (p15 : o15.op = .alloc 34) (n15 : o15.guard = none) (i16 : ops[16]? = some o16) (d16 : o16.dst = none) (p16 : o16.op = .store 34 (.tmp 16) (.tmp 82)) (n16 : o16.guard = none) (i17 : ops[17]? = some o17) (d17 : o17.dst = none) (p17 : o17.op = .store 34 (.tmp 17) (.tmp 89)) (n17 : o17.guard = none) (hr : Region.ready .any ops (Lof 2 true false) = [15]) {a : Act} {w : World} (h : Nx W0 br1 br2 g1 o1 c1 g2 o2 c2 l rest1 rest2 v6 v15 vk R 2 true false a w) :
    Region.ready .any ops (Lof 2 true false) ≠ [] ∧ ∀ i ∈ Region.ready .any ops (Lof 2 true false), wpOp Try.prog ops NQ i (fun a'' w'' => Ks.Es (fun k => k = br1 ∨ k = br2 ∨ W0.heap.size ≤ k) w w'' ∧ J18 W0 br1 br2 g1 o1 c1 g2 o2 c2 l rest1 rest2 v6 v15 vk R 2 ((Lof 2 true false).setIfInBounds i true) a'' w'') a w := by
  rw [hr]
  refine ⟨by simp, fun i hi => ?_⟩
  simp only [List.mem_cons, List.not_mem_nil, or_false] at hi
  subst hi
  · exact wpOp_mono (fun a'' w'' hh => ⟨hh.1, 2, true, true, by decide, rfl, rfl, hh.2⟩) (st_new2 (bb := false) (by decide) i15 d15 p15 n15 h)
theorem sp211 {W0 : World} {br1 br2 g1 o1 c1 g2 o2 c2 : Nat} {l rest1 rest2 : List UInt8} {v6 v15 vk : Value} {R : Array Value} (hb1 : br1 < W0.heap.size) (hb2 : br2 < W0.heap.size) (h12 : br1 ≠ br2) (hg1 : g1 ≠ br2) (hg2 : g2 ≠ br1) (hl1 : g1 < W0.heap.size) (hl2 : g2 < W0.heap.size) (sR : Sz 35 R) (HN : ∀ (br c g off : Nat) (rest : List UInt8) (w : World), Rd w br (some ⟨g, off, none⟩) c (l ++ rest) 0 → Calls Try.prog 13 #[.pointer (some ⟨br, 0, none⟩), vk, .int .i64 300] w fun e w' => e = .returned (.agg R) ∧ RdPost w w' br g (c - l.length) rest 0) {ops : Array Oper} {o6 o13 o14 o15 o16 o17 : Oper} {ty6 ty13 : Array TypeId} (i6 : ops[6]? = some o6) (d6 : o6.dst = some 82) (p6 : o6.op = .call { callee := .value (.func 13), args := #[.tmp 76, .tmp 81, .const (.int .i64 300)], argTypes := ty6 }) (n6 : o6.guard = none) (i13 : ops[13]? = some o13) (d13 : o13.dst = some 89) (p13 : o13.op = .call { callee := .value (.func 13), args := #[.tmp 83, .tmp 88, .const (.int .i64 300)], argTypes := ty13 }) (n13 : o13.guard = none) (i14 : ops[14]? = some o14) (d14 : o14.dst = some 16) (p14 : o14.op = .alloc 34) (n14 : o14.guard = none) (i15 : ops[15]? = some o15) (d15 : o15.dst = some 17) (p15 : o15.op = .alloc 34) (n15 : o15.guard = none) (i16 : ops[16]? = some o16) (d16 : o16.dst = none) (p16 : o16.op = .store 34 (.tmp 16) (.tmp 82)) (n16 : o16.guard = none) (i17 : ops[17]? = some o17) (d17 : o17.dst = none) (p17 : o17.op = .store 34 (.tmp 17) (.tmp 89)) (n17 : o17.guard = none) (hr : Region.ready .any ops (Lof 2 true true) = [16]) {a : Act} {w : World} (h : Nx W0 br1 br2 g1 o1 c1 g2 o2 c2 l rest1 rest2 v6 v15 vk R 2 true true a w) :
    Region.ready .any ops (Lof 2 true true) ≠ [] ∧ ∀ i ∈ Region.ready .any ops (Lof 2 true true), wpOp Try.prog ops NQ i (fun a'' w'' => Ks.Es (fun k => k = br1 ∨ k = br2 ∨ W0.heap.size ≤ k) w w'' ∧ J18 W0 br1 br2 g1 o1 c1 g2 o2 c2 l rest1 rest2 v6 v15 vk R 1 ((Lof 2 true true).setIfInBounds i true) a'' w'') a w := by
  rw [hr]
  refine ⟨by simp, fun i hi => ?_⟩
  simp only [List.mem_cons, List.not_mem_nil, or_false] at hi
  subst hi
  · exact wpOp_mono (fun a'' w'' hh => ⟨hh.1, 3, true, true, by decide, rfl, rfl, hh.2⟩) (st_store1 hb1 hb2 h12 hg1 hg2 hl1 hl2 sR i16 d16 p16 n16 h)
theorem sp311 {W0 : World} {br1 br2 g1 o1 c1 g2 o2 c2 : Nat} {l rest1 rest2 : List UInt8} {v6 v15 vk : Value} {R : Array Value} (hb1 : br1 < W0.heap.size) (hb2 : br2 < W0.heap.size) (h12 : br1 ≠ br2) (hg1 : g1 ≠ br2) (hg2 : g2 ≠ br1) (hl1 : g1 < W0.heap.size) (hl2 : g2 < W0.heap.size) (sR : Sz 35 R) (HN : ∀ (br c g off : Nat) (rest : List UInt8) (w : World), Rd w br (some ⟨g, off, none⟩) c (l ++ rest) 0 → Calls Try.prog 13 #[.pointer (some ⟨br, 0, none⟩), vk, .int .i64 300] w fun e w' => e = .returned (.agg R) ∧ RdPost w w' br g (c - l.length) rest 0) {ops : Array Oper} {o6 o13 o14 o15 o16 o17 : Oper} {ty6 ty13 : Array TypeId} (i6 : ops[6]? = some o6) (d6 : o6.dst = some 82) (p6 : o6.op = .call { callee := .value (.func 13), args := #[.tmp 76, .tmp 81, .const (.int .i64 300)], argTypes := ty6 }) (n6 : o6.guard = none) (i13 : ops[13]? = some o13) (d13 : o13.dst = some 89) (p13 : o13.op = .call { callee := .value (.func 13), args := #[.tmp 83, .tmp 88, .const (.int .i64 300)], argTypes := ty13 }) (n13 : o13.guard = none) (i14 : ops[14]? = some o14) (d14 : o14.dst = some 16) (p14 : o14.op = .alloc 34) (n14 : o14.guard = none) (i15 : ops[15]? = some o15) (d15 : o15.dst = some 17) (p15 : o15.op = .alloc 34) (n15 : o15.guard = none) (i16 : ops[16]? = some o16) (d16 : o16.dst = none) (p16 : o16.op = .store 34 (.tmp 16) (.tmp 82)) (n16 : o16.guard = none) (i17 : ops[17]? = some o17) (d17 : o17.dst = none) (p17 : o17.op = .store 34 (.tmp 17) (.tmp 89)) (n17 : o17.guard = none) (hr : Region.ready .any ops (Lof 3 true true) = [17]) {a : Act} {w : World} (h : Nx W0 br1 br2 g1 o1 c1 g2 o2 c2 l rest1 rest2 v6 v15 vk R 3 true true a w) :
    Region.ready .any ops (Lof 3 true true) ≠ [] ∧ ∀ i ∈ Region.ready .any ops (Lof 3 true true), wpOp Try.prog ops NQ i (fun a'' w'' => Ks.Es (fun k => k = br1 ∨ k = br2 ∨ W0.heap.size ≤ k) w w'' ∧ J18 W0 br1 br2 g1 o1 c1 g2 o2 c2 l rest1 rest2 v6 v15 vk R 0 ((Lof 3 true true).setIfInBounds i true) a'' w'') a w := by
  rw [hr]
  refine ⟨by simp, fun i hi => ?_⟩
  simp only [List.mem_cons, List.not_mem_nil, or_false] at hi
  subst hi
  · exact wpOp_mono (fun a'' w'' hh => ⟨hh.1, 4, true, true, by decide, rfl, rfl, hh.2⟩) (st_store2 hb1 hb2 h12 hg1 hg2 hl1 hl2 sR i17 d17 p17 n17 h)
theorem lat18 {W0 : World} {br1 br2 g1 o1 c1 g2 o2 c2 : Nat} {l rest1 rest2 : List UInt8} {v6 v15 vk : Value} {R : Array Value} (hb1 : br1 < W0.heap.size) (hb2 : br2 < W0.heap.size) (h12 : br1 ≠ br2) (hg1 : g1 ≠ br2) (hg2 : g2 ≠ br1) (hl1 : g1 < W0.heap.size) (hl2 : g2 < W0.heap.size) (sR : Sz 35 R) (HN : ∀ (br c g off : Nat) (rest : List UInt8) (w : World), Rd w br (some ⟨g, off, none⟩) c (l ++ rest) 0 → Calls Try.prog 13 #[.pointer (some ⟨br, 0, none⟩), vk, .int .i64 300] w fun e w' => e = .returned (.agg R) ∧ RdPost w w' br g (c - l.length) rest 0) {ops : Array Oper} {o6 o13 o14 o15 o16 o17 : Oper} {ty6 ty13 : Array TypeId} (i6 : ops[6]? = some o6) (d6 : o6.dst = some 82) (p6 : o6.op = .call { callee := .value (.func 13), args := #[.tmp 76, .tmp 81, .const (.int .i64 300)], argTypes := ty6 }) (n6 : o6.guard = none) (i13 : ops[13]? = some o13) (d13 : o13.dst = some 89) (p13 : o13.op = .call { callee := .value (.func 13), args := #[.tmp 83, .tmp 88, .const (.int .i64 300)], argTypes := ty13 }) (n13 : o13.guard = none) (i14 : ops[14]? = some o14) (d14 : o14.dst = some 16) (p14 : o14.op = .alloc 34) (n14 : o14.guard = none) (i15 : ops[15]? = some o15) (d15 : o15.dst = some 17) (p15 : o15.op = .alloc 34) (n15 : o15.guard = none) (i16 : ops[16]? = some o16) (d16 : o16.dst = none) (p16 : o16.op = .store 34 (.tmp 16) (.tmp 82)) (n16 : o16.guard = none) (i17 : ops[17]? = some o17) (d17 : o17.dst = none) (p17 : o17.op = .store 34 (.tmp 17) (.tmp 89)) (n17 : o17.guard = none) (hR : allRdy ops = true) {Q : Act → World → Prop} (hQ : ∀ a w, Nx W0 br1 br2 g1 o1 c1 g2 o2 c2 l rest1 rest2 v6 v15 vk R 4 true true a w → Q a w) {a : Act} {w : World} (h : Nx W0 br1 br2 g1 o1 c1 g2 o2 c2 l rest1 rest2 v6 v15 vk R 0 false false a w) :
    Ks.wpM (fun k => k = br1 ∨ k = br2 ∨ W0.heap.size ≤ k) Try.prog .any ops Q 6 (Lof 0 false false) a w := by
  have hr : ∀ p ba bb r, (p, ba, bb, r) ∈ ([(0, false, false, [6, 14, 15]), (0, false, true, [6, 14]), (0, true, false, [6, 15]), (0, true, true, [6]), (1, false, false, [13, 14, 15]), (1, false, true, [13, 14]), (1, true, false, [13, 15]), (1, true, true, [13]), (2, false, false, [14, 15]), (2, false, true, [14]), (2, true, false, [15]), (2, true, true, [16]), (3, true, true, [17]), (4, true, true, [])] : List (Nat × Bool × Bool × List Nat)) → Region.ready .any ops (Lof p ba bb) = r := fun p ba bb r hm => by
    have := List.all_eq_true.1 hR (p, ba, bb, r) hm
    simpa using this
  refine Ks.wpM.lat (J18 W0 br1 br2 g1 o1 c1 g2 o2 c2 l rest1 rest2 v6 v15 vk R) (fun n L a w w' F hh => ?_) (fun L a w hh => ?_) (fun n L a w hh => ?_) 6 _ a w ⟨0, false, false, by decide, rfl, rfl, h⟩
  · obtain ⟨p, ba, bb, e1, e2, e3, e4⟩ := hh
    exact ⟨p, ba, bb, e1, e2, e3, e4.up F⟩
  · obtain ⟨p, ba, bb, e1, e2, e3, e4⟩ := hh
    have : p = 4 ∧ ba = true ∧ bb = true := by
      cases ba <;> cases bb <;> simp [okpq] at e1 e2 ⊢ <;> omega
    obtain ⟨rfl, rfl, rfl⟩ := this
    subst e3
    exact ⟨hr 4 true true [] (by decide), hQ a w e4⟩
  · obtain ⟨p, ba, bb, e1, e2, e3, e4⟩ := hh
    subst e3
    have hp : p = 0 ∨ p = 1 ∨ p = 2 ∨ p = 3 ∨ p = 4 := by cases ba <;> cases bb <;> simp [okpq] at e1 <;> omega
    rcases hp with rfl | rfl | rfl | rfl | rfl <;> cases ba <;> cases bb <;> simp [okpq] at e1 e2
    · obtain rfl : n = 5 := by omega
      exact sp000 hb1 hb2 h12 hg1 hg2 hl1 hl2 sR HN i6 d6 p6 n6 i13 d13 p13 n13 i14 d14 p14 n14 i15 d15 p15 n15 i16 d16 p16 n16 i17 d17 p17 n17 (hr 0 false false _ (by decide)) e4
    · obtain rfl : n = 4 := by omega
      exact sp001 hb1 hb2 h12 hg1 hg2 hl1 hl2 sR HN i6 d6 p6 n6 i13 d13 p13 n13 i14 d14 p14 n14 i15 d15 p15 n15 i16 d16 p16 n16 i17 d17 p17 n17 (hr 0 false true _ (by decide)) e4
    · obtain rfl : n = 4 := by omega
      exact sp010 hb1 hb2 h12 hg1 hg2 hl1 hl2 sR HN i6 d6 p6 n6 i13 d13 p13 n13 i14 d14 p14 n14 i15 d15 p15 n15 i16 d16 p16 n16 i17 d17 p17 n17 (hr 0 true false _ (by decide)) e4
    · obtain rfl : n = 3 := by omega
      exact sp011 hb1 hb2 h12 hg1 hg2 hl1 hl2 sR HN i6 d6 p6 n6 i13 d13 p13 n13 i14 d14 p14 n14 i15 d15 p15 n15 i16 d16 p16 n16 i17 d17 p17 n17 (hr 0 true true _ (by decide)) e4
    · obtain rfl : n = 4 := by omega
      exact sp100 hb1 hb2 h12 hg1 hg2 hl1 hl2 sR HN i6 d6 p6 n6 i13 d13 p13 n13 i14 d14 p14 n14 i15 d15 p15 n15 i16 d16 p16 n16 i17 d17 p17 n17 (hr 1 false false _ (by decide)) e4
    · obtain rfl : n = 3 := by omega
      exact sp101 hb1 hb2 h12 hg1 hg2 hl1 hl2 sR HN i6 d6 p6 n6 i13 d13 p13 n13 i14 d14 p14 n14 i15 d15 p15 n15 i16 d16 p16 n16 i17 d17 p17 n17 (hr 1 false true _ (by decide)) e4
    · obtain rfl : n = 3 := by omega
      exact sp110 hb1 hb2 h12 hg1 hg2 hl1 hl2 sR HN i6 d6 p6 n6 i13 d13 p13 n13 i14 d14 p14 n14 i15 d15 p15 n15 i16 d16 p16 n16 i17 d17 p17 n17 (hr 1 true false _ (by decide)) e4
    · obtain rfl : n = 2 := by omega
      exact sp111 hb1 hb2 h12 hg1 hg2 hl1 hl2 sR HN i6 d6 p6 n6 i13 d13 p13 n13 i14 d14 p14 n14 i15 d15 p15 n15 i16 d16 p16 n16 i17 d17 p17 n17 (hr 1 true true _ (by decide)) e4
    · obtain rfl : n = 3 := by omega
      exact sp200 hb1 hb2 h12 hg1 hg2 hl1 hl2 sR HN i6 d6 p6 n6 i13 d13 p13 n13 i14 d14 p14 n14 i15 d15 p15 n15 i16 d16 p16 n16 i17 d17 p17 n17 (hr 2 false false _ (by decide)) e4
    · obtain rfl : n = 2 := by omega
      exact sp201 hb1 hb2 h12 hg1 hg2 hl1 hl2 sR HN i6 d6 p6 n6 i13 d13 p13 n13 i14 d14 p14 n14 i15 d15 p15 n15 i16 d16 p16 n16 i17 d17 p17 n17 (hr 2 false true _ (by decide)) e4
    · obtain rfl : n = 2 := by omega
      exact sp210 hb1 hb2 h12 hg1 hg2 hl1 hl2 sR HN i6 d6 p6 n6 i13 d13 p13 n13 i14 d14 p14 n14 i15 d15 p15 n15 i16 d16 p16 n16 i17 d17 p17 n17 (hr 2 true false _ (by decide)) e4
    · obtain rfl : n = 1 := by omega
      exact sp211 hb1 hb2 h12 hg1 hg2 hl1 hl2 sR HN i6 d6 p6 n6 i13 d13 p13 n13 i14 d14 p14 n14 i15 d15 p15 n15 i16 d16 p16 n16 i17 d17 p17 n17 (hr 2 true true _ (by decide)) e4
    · obtain rfl : n = 0 := by omega
      exact sp311 hb1 hb2 h12 hg1 hg2 hl1 hl2 sR HN i6 d6 p6 n6 i13 d13 p13 n13 i14 d14 p14 n14 i15 d15 p15 n15 i16 d16 p16 n16 i17 d17 p17 n17 (hr 3 true true _ (by decide)) e4
def allRegs : Code → List (Nat × Code)
  | .loop c => allRegs c
  | .seq a b => allRegs a ++ allRegs b
  | .block _ c => allRegs c
  | .scope c => allRegs c
  | .cond _ a b => allRegs a ++ allRegs b
  | .region i ops m => [(i, .region i ops m)]
  | _ => []
noncomputable def regionAt (F : Func) (k : Nat) : Code := ((((F.body.map allRegs).getD []).find? (fun p => p.1 == k)).map (·.2)).getD .skip
set_option maxHeartbeats 6400000 in
theorem back18 {Q : Exit → Act → World → Prop} {W0 : World} {br1 br2 g1 o1 c1 g2 o2 c2 gi k n cap : Nat} {l rest1 rest2 : List UInt8} {kz : Int} {cur R : Array Value} (hb1 : br1 < W0.heap.size) (hb2 : br2 < W0.heap.size) (h12 : br1 ≠ br2) (hg1 : g1 ≠ br2) (hg2 : g2 ≠ br1) (hl1 : g1 < W0.heap.size) (hl2 : g2 < W0.heap.size) (sR : Sz 35 R) (HN : ∀ (br c g off : Nat) (rest : List UInt8) (w : World), Rd w br (some ⟨g, off, none⟩) c (l ++ rest) 0 → Calls Try.prog 13 #[.pointer (some ⟨br, 0, none⟩), .int .i64 kz, .int .i64 300] w fun e w' => e = .returned (.agg R) ∧ RdPost w w' br g (c - l.length) rest 0)
    (hgi : W0.heap[gi]? = some (.cells cur 34 (0, 0))) (hck : cur[k * 35]? = some (.int .i64 kz)) (hgi1 : gi ≠ br1) (hgi2 : gi ≠ br2) (hkn : k < n) (hn20 : n ≤ 20) (R1 : Rd W0 br1 (some ⟨g1, o1, none⟩) c1 (l ++ rest1) 0) (R2 : Rd W0 br2 (some ⟨g2, o2, none⟩) c2 (l ++ rest2) 0)
    (t : Array Value) (hn : t.size = 156) (p6 : t[6]? = some (.slice (some ⟨gi, 0, none⟩) n cap)) (p13 : t[13]? = some (.pointer (some ⟨br1, 0, none⟩))) (p14 : t[14]? = some (.pointer (some ⟨br2, 0, none⟩))) (p15 : t[15]? = some (.int .i64 (k : Int)))
    (h : ∀ t' w' gx gy, t'.size = 156 → t'[6]? = some (.slice (some ⟨gi, 0, none⟩) n cap) → t'[13]? = some (.pointer (some ⟨br1, 0, none⟩)) → t'[14]? = some (.pointer (some ⟨br2, 0, none⟩)) → t'[15]? = some (.int .i64 (k : Int)) → t'[16]? = some (.pointer (some ⟨gx, 0, none⟩)) → t'[17]? = some (.pointer (some ⟨gy, 0, none⟩)) → w'.heap[gx]? = some (.cells R 34 (0, 0)) → w'.heap[gy]? = some (.cells R 34 (0, 0)) → Fr (fun k => k = br1 ∨ k = br2) W0 w' →
      (∃ o, Rd w' br1 (some ⟨g1, o, none⟩) (c1 - l.length) rest1 0) → (∃ o, Rd w' br2 (some ⟨g2, o, none⟩) (c2 - l.length) rest2 0) → Q .normal ⟨t', []⟩ w') :
    Code.wp Try.prog (regionAt Try.f4 18) Q ⟨t, []⟩ W0 := by
  obtain ⟨f, hff, rfl⟩ := frame_open hn
  have e6 := hff 6 _ p6
  have e13 := hff 13 _ p13
  have e14 := hff 14 _ p14
  have e15 := hff 15 _ p15
  clear hff hn p6 p13 p14 p15
  rw [lit156, e6, e13, e14, e15]
  clear e6 e13 e14 e15
  conv => arg 2; whnf
  have q0 : (0 : Int) ≤ (k : Int) := Int.natCast_nonneg k
  have q1 : (k : Int) < (n : Int) := Int.ofNat_lt.2 hkn
  have HQ := Lib.hid h
  clear h
  have hS : ¬ (fun k => k = br1 ∨ k = br2 ∨ W0.heap.size ≤ k) gi := fun e => by
    have := lt_of_block hgi
    rcases e with e | e | e
    · exact hgi1 e
    · exact hgi2 e
    · omega
  refine Ks.wp_region_part (fun k => k = br1 ∨ k = br2 ∨ W0.heap.size ≤ k) (sg 0 6 ++ (sg 7 6 ++ [])) 6 (by kernel_rfl) (by kernel_rfl) ?_
  refine Ks.Wk.seg 0 6 (by kernel_rfl) (by kernel_rfl) ?_
  apply Exists.intro
  refine ⟨?wk1, ?fin1⟩
  case wk1 =>
    intro γ
    have c0 : ∀ y : Ks.Ws γ, y.w.cell? ⟨gi, k * 35, none⟩ = some (.int .i64 kz) := fun y => (cell_of_block (y.blk hgi hS) _).trans hck
    simp only [List.drop_succ_cons, List.drop_zero, List.take_succ_cons, List.take_zero]
    repeat (any_goals (first | go_big_quiet_step (fail) | quiet_step (fail)))
    exact wpQuiet_nil rfl
  case fin1 =>
  (try simp only [Act.put, List.setIfInBounds_toArray, List.set_cons_zero, List.set_cons_succ])
  refine Ks.Wk.seg 7 6 (by kernel_rfl) (by kernel_rfl) ?_
  apply Exists.intro
  refine ⟨?wk2, ?fin2⟩
  case wk2 =>
    intro γ
    have c0 : ∀ y : Ks.Ws γ, y.w.cell? ⟨gi, k * 35, none⟩ = some (.int .i64 kz) := fun y => (cell_of_block (y.blk hgi hS) _).trans hck
    simp only [List.drop_succ_cons, List.drop_zero, List.take_succ_cons, List.take_zero]
    repeat (any_goals (first | go_big_quiet_step (fail) | quiet_step (fail)))
    exact wpQuiet_nil rfl
  case fin2 =>
  (try simp only [Act.put, List.setIfInBounds_toArray, List.set_cons_zero, List.set_cons_succ])
  intro w' hx
  refine lat18 (rest1 := rest1) (rest2 := rest2) (v6 := .slice (some ⟨gi, 0, none⟩) n cap) (v15 := .int .i64 (k : Int)) (vk := .int .i64 kz) hb1 hb2 h12 hg1 hg2 hl1 hl2 sR HN rfl rfl rfl rfl rfl rfl rfl rfl rfl rfl rfl rfl rfl rfl rfl rfl rfl rfl rfl rfl rfl rfl rfl rfl (by kernel_rfl) (fun a w hh => ?_)
    ⟨rfl, rfl, rfl, rfl, rfl, rfl, rfl, rfl, rfl, rfl, fun e => absurd e (by decide), fun e => absurd e (by decide), hx.mono (fun _ _ e => e.elim), fun _ => R1.fr hx (fun h => h) (fun _ _ h => h), fun e => absurd e (by decide), fun _ => R2.fr hx (fun h => h) (fun _ _ h => h), fun e => absurd e (by decide), fun e => absurd e (by decide), fun e => absurd e (by decide), fun e => absurd e (by decide)⟩
  obtain ⟨tm, df⟩ := a
  obtain rfl : df = [] := hh.df
  obtain ⟨gx, x1, _, x3⟩ := hh.ma rfl
  obtain ⟨gy, y1, _, y3⟩ := hh.mb rfl
  exact HQ.out tm w gx gy hh.sz hh.s6 hh.s13 hh.s14 hh.s15 x1 y1 x3 y3 hh.fr (hh.r1' (by decide)) (hh.r2' (by decide))
end Go.Proofs.Ytdlmfodnookmhaa

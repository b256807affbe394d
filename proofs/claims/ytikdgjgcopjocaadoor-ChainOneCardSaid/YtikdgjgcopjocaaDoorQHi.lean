/-
  ChainOne: the regions in which two pasts are compared.
  ChainOne: the pasts cut to one length; the two lists of texts looked through.
  The law ChainOne.
  A past that came in as an argument, its epoch in bounds: an epoch, a link, roots.
-/
import Derived.Test.YtikdgjgcopjocaaDoorQHh
namespace Go.Proofs.YtikdgjgcopjocaaDoor
open Go.RowKit
set_option linter.unusedVariables false
set_option linter.unusedSimpArgs false
/-- A past that lies in a box. -/
structure Pb (w : World) (g : Nat) (z : Int) (ah : List UInt8) (s : Value) : Prop where
  blk : w.heap[g]? = some (.cells (pastRow z ah s) 34 (0, 0))
  ah32 : ah.length = 32
set_option maxRecDepth 100000 in
theorem Pb.ext {w w' : World} {g : Nat} {z : Int} {ah : List UInt8} {s : Value} (h : Pb w g z ah s) (F : Fr (fun _ => False) w w') : Pb w' g z ah s := ⟨(F.block _ (lt_of_block h.blk) (fun h => h)).trans h.blk, h.ah32⟩
set_option maxRecDepth 100000 in
theorem Pb.c0 {w : World} {g : Nat} {z : Int} {ah : List UInt8} {s : Value} (h : Pb w g z ah s) : w.cell? ⟨g, 0, none⟩ = some (.int .i64 z) := by
  obtain ⟨C, hC, h1, h2, h3, h4⟩ := past_facts z s ah h.ah32
  rw [cell_of_block h.blk, ← hC]; exact h2
set_option maxRecDepth 100000 in
theorem Pb.c33 {w : World} {g : Nat} {z : Int} {ah : List UInt8} {s : Value} (h : Pb w g z ah s) : w.cell? ⟨g, 33, none⟩ = some s := by
  obtain ⟨C, hC, h1, h2, h3, h4⟩ := past_facts z s ah h.ah32
  rw [cell_of_block h.blk, ← hC]; exact h3
set_option maxRecDepth 100000 in
theorem Pb.c1 {w : World} {g : Nat} {z : Int} {ah : List UInt8} {s : Value} (h : Pb w g z ah s) (i : Nat) (u : Value) (hu : (krow ah)[i]? = some u) : w.cell? ⟨g, 1 + i, none⟩ = some u := by
  obtain ⟨C, hC, h1, h2, h3, h4⟩ := past_facts z s ah h.ah32
  rw [cell_of_block h.blk, ← hC]; exact h4 i u hu
set_option maxRecDepth 100000 in
theorem past_size (z : Int) (ah : List UInt8) (s : Value) (h : ah.length = 32) : (Tryd.prog.info? 34).map (·.size) = some (pastRow z ah s).size := by
  obtain ⟨C, hC, h1, h2, h3, h4⟩ := past_facts z s ah h
  rw [← hC, h1]; kernel_rfl
set_option maxRecDepth 100000 in
theorem lit94 (f : Nat → Value) : ((List.range 94).map f).toArray = (f 0 :: f 1 :: f 2 :: f 3 :: f 4 :: f 5 :: f 6 :: f 7 :: f 8 :: f 9 :: f 10 :: f 11 :: f 12 :: f 13 :: f 14 :: f 15 :: f 16 :: f 17 :: f 18 :: f 19 :: f 20 :: f 21 :: f 22 :: f 23 :: f 24 :: f 25 :: f 26 :: f 27 :: f 28 :: f 29 :: f 30 :: f 31 :: f 32 :: f 33 :: f 34 :: f 35 :: f 36 :: f 37 :: f 38 :: f 39 :: f 40 :: f 41 :: f 42 :: f 43 :: f 44 :: f 45 :: f 46 :: f 47 :: f 48 :: f 49 :: f 50 :: f 51 :: f 52 :: f 53 :: f 54 :: f 55 :: f 56 :: f 57 :: f 58 :: f 59 :: f 60 :: f 61 :: f 62 :: f 63 :: f 64 :: f 65 :: f 66 :: f 67 :: f 68 :: f 69 :: f 70 :: f 71 :: f 72 :: f 73 :: f 74 :: f 75 :: f 76 :: f 77 :: f 78 :: f 79 :: f 80 :: f 81 :: f 82 :: f 83 :: f 84 :: f 85 :: f 86 :: f 87 :: f 88 :: f 89 :: f 90 :: f 91 :: f 92 :: f 93 :: []).toArray := by kernel_rfl
set_option maxRecDepth 100000 in
set_option maxHeartbeats 6400000 in
theorem co_unlike {Q : Exit → Act → World → Prop} {w : World} {g1 g2 q ci n lc mc rc sc : Nat} {ida la ma ra sa : Option Addr} {z z' : Int} {ah ah' : List UInt8} {L M : List (List UInt8)} (hn0 : 0 < n) (hn12 : n ≤ 12) (h1 : Pb w g1 z ah (.slice ra n rc)) (h2 : Pb w g2 z' ah' (.slice sa n sc)) (hL : Kv w la L) (hM : Kv w ma M) (hLn : L.length = n) (hMn : M.length = n) (hxy : (L.getD (n - 1) [] == M.getD (n - 1) []) = false)  (fr : Array Value) (hn : fr.size = 94) (p0 : fr[0]? = some (.slice ida q ci)) (p4 : fr[4]? = some (.pointer (some ⟨g1, 0, none⟩))) (p5 : fr[5]? = some (.pointer (some ⟨g2, 0, none⟩))) (p9 : fr[9]? = some (.int .i64 (n : Int))) (p10 : fr[10]? = some (.slice la n lc)) (p11 : fr[11]? = some (.slice ma n mc))
    (hQ : ∀ t' w', t'.size = 94 → t'[0]? = some (.slice ida q ci) → t'[4]? = some (.pointer (some ⟨g1, 0, none⟩)) → t'[5]? = some (.pointer (some ⟨g2, 0, none⟩)) → t'[9]? = some (.int .i64 (n : Int)) → t'[10]? = some (.slice la n lc) → t'[11]? = some (.slice ma n mc) → t'[82]? = some (.bool true) → Fr (fun _ => False) w w' → Q .normal ⟨t', []⟩ w') :
    Code.wp Tryd.prog (regionAt Tryd.f5 8) Q ⟨fr, []⟩ w := by
  obtain ⟨x, hx⟩ : ∃ x, x = L.getD (n - 1) [] := ⟨_, rfl⟩
  have hxi : L[n - 1]? = some x := by rw [hx, List.getD_eq_getElem?_getD, List.getElem?_eq_getElem (by omega)]; rfl
  have hx32 := hL.all x (List.mem_of_getElem? hxi)
  obtain ⟨y, hy⟩ : ∃ y, y = M.getD (n - 1) [] := ⟨_, rfl⟩
  have hyi : M[n - 1]? = some y := by rw [hy, List.getD_eq_getElem?_getD, List.getElem?_eq_getElem (by omega)]; rfl
  have hy32 := hM.all y (List.mem_of_getElem? hyi)
  rw [← hx, ← hy] at hxy
  obtain ⟨gl, ol, rfl⟩ := hL.at (by omega)
  obtain ⟨gm, om, rfl⟩ := hM.at (by omega)
  have HCX := Lib.hid (hL.cells hxi)
  have HCY := Lib.hid (hM.cells hyi)
  have HX := Lib.hid hx32
  have HY := Lib.hid hy32
  have HP1 := Lib.hid h1
  have HP2 := Lib.hid h2
  have y1 : ∀ W : World, (binOp .neq 23 (.agg (krow x)) (.agg (krow y))).run Tryd.prog W = .ok (.bool true) W := fun W => by rw [neq_row hx32 hy32, hxy]; rfl
  have q1 : ((n - 1 : Nat) : Int) < (n : Int) := by omega
  have q2 : (0 : Int) ≤ ((n - 1 : Nat) : Int) := Int.natCast_nonneg _
  have q3 : n - 1 < n := by omega
  have W1 : wrap64 ((n : Int) - 1) = ((n - 1 : Nat) : Int) := by rw [IntWalk.wrap64_in _ (by omega)]; omega
  have HQ := Lib.hid hQ
  clear hQ hn0 hn12 h1 h2 hL hM hLn hMn hx hxi hy hyi hx32 hy32 hxy
  obtain ⟨f, hff, rfl⟩ := frame_open hn
  have e0 := hff 0 _ p0
  have e4 := hff 4 _ p4
  have e5 := hff 5 _ p5
  have e9 := hff 9 _ p9
  have e10 := hff 10 _ p10
  have e11 := hff 11 _ p11
  clear hff hn p0 p4 p5 p9 p10 p11
  rw [lit94, e0, e4, e5, e9, e10, e11]
  clear e0 e4 e5 e9 e10 e11
  conv => arg 2; whnf
  have kx : ∀ u : Wd w, ∀ (i : Nat) (v : Value), (krow x)[i]? = some v → u.w.cell? ⟨gl, ol + (n - 1) * 32 + i, none⟩ = some v := fun u i v hv => u.h.cellSome (p := ⟨gl, ol + (n - 1) * 32 + i, none⟩) (fun h => h) (HCX.out i v hv)
  have ky : ∀ u : Wd w, ∀ (i : Nat) (v : Value), (krow y)[i]? = some v → u.w.cell? ⟨gm, om + (n - 1) * 32 + i, none⟩ = some v := fun u i v hv => u.h.cellSome (p := ⟨gm, om + (n - 1) * 32 + i, none⟩) (fun h => h) (HCY.out i v hv)
  have ka : ∀ u : Wd w, ∀ (i : Nat) (v : Value), (krow ah)[i]? = some v → u.w.cell? ⟨g1, 1 + i, none⟩ = some v := fun u i v hv => (HP1.out.ext u.h).c1 i v hv
  have kb : ∀ u : Wd w, ∀ (i : Nat) (v : Value), (krow ah')[i]? = some v → u.w.cell? ⟨g2, 1 + i, none⟩ = some v := fun u i v hv => (HP2.out.ext u.h).c1 i v hv
  have kz : ∀ u : Wd w, u.w.cell? ⟨g1, 0, none⟩ = some (.int .i64 z) := fun u => (HP1.out.ext u.h).c0
  have kw : ∀ u : Wd w, u.w.cell? ⟨g2, 0, none⟩ = some (.int .i64 z') := fun u => (HP2.out.ext u.h).c0
  have kr : ∀ u : Wd w, u.w.cell? ⟨g1, 33, none⟩ = some (.slice ra n rc) := fun u => (HP1.out.ext u.h).c33
  have ks : ∀ u : Wd w, u.w.cell? ⟨g2, 33, none⟩ = some (.slice sa n sc) := fun u => (HP2.out.ext u.h).c33
  refine wp_region_keep (by kernel_rfl) (by kernel_rfl) ?_
  repeat (any_goals (first | (focus (go_big_quiet_want; (refine quiet_load_cellsd 23 (.tmp 52) rfl gl (ol + (n - 1) * 32) rfl (krow x) 32 _ Tryd.underlying23 rfl sz32 kx (by rw [krow_size]; exact HX.out) ?_); simp only [Act.put, List.setIfInBounds_toArray, List.set_cons_zero, List.set_cons_succ]; go_big_quiet_on)) | (focus (go_big_quiet_want; (refine quiet_load_cellsd 23 (.tmp 57) rfl gm (om + (n - 1) * 32) rfl (krow y) 32 _ Tryd.underlying23 rfl sz32 ky (by rw [krow_size]; exact HY.out) ?_); simp only [Act.put, List.setIfInBounds_toArray, List.set_cons_zero, List.set_cons_succ]; go_big_quiet_on)) | (focus (go_big_quiet_want; (refine quiet_load_cellsd 23 (.tmp 67) rfl g1 1 rfl (krow ah) 32 _ Tryd.underlying23 rfl sz32 ka (by rw [krow_size]; exact HP1.out.ah32) ?_); simp only [Act.put, List.setIfInBounds_toArray, List.set_cons_zero, List.set_cons_succ]; go_big_quiet_on)) | (focus (go_big_quiet_want; (refine quiet_load_cellsd 23 (.tmp 69) rfl g2 1 rfl (krow ah') 32 _ Tryd.underlying23 rfl sz32 kb (by rw [krow_size]; exact HP2.out.ah32) ?_); simp only [Act.put, List.setIfInBounds_toArray, List.set_cons_zero, List.set_cons_succ]; go_big_quiet_on)) | go_big_quiet_step (fail) | quiet_step (fail)))
  refine wpQuiet_nil ?_
  intro _ hwz
  obtain ⟨u, rfl⟩ := hwz
  exact HQ.out _ _ (by first | rfl | simp) rfl rfl rfl rfl rfl rfl rfl u.h
set_option maxRecDepth 100000 in
set_option maxHeartbeats 6400000 in
theorem co_from {Q : Exit → Act → World → Prop} {w : World} {g1 g2 q ci n lc mc rc sc : Nat} {ida la ma ra sa : Option Addr} {z z' : Int} {ah ah' : List UInt8} {L M : List (List UInt8)} (hn0 : 0 < n) (hn12 : n ≤ 12) (h1 : Pb w g1 z ah (.slice ra n rc)) (h2 : Pb w g2 z' ah' (.slice sa n sc)) (hL : Kv w la L) (hM : Kv w ma M) (hLn : L.length = n) (hMn : M.length = n) (hxy : (L.getD (n - 1) [] == M.getD (n - 1) []) = true) (hz : (z == z') = false) (fr : Array Value) (hn : fr.size = 94) (p0 : fr[0]? = some (.slice ida q ci)) (p4 : fr[4]? = some (.pointer (some ⟨g1, 0, none⟩))) (p5 : fr[5]? = some (.pointer (some ⟨g2, 0, none⟩))) (p9 : fr[9]? = some (.int .i64 (n : Int))) (p10 : fr[10]? = some (.slice la n lc)) (p11 : fr[11]? = some (.slice ma n mc))
    (hQ : ∀ t' w', t'.size = 94 → t'[0]? = some (.slice ida q ci) → t'[4]? = some (.pointer (some ⟨g1, 0, none⟩)) → t'[5]? = some (.pointer (some ⟨g2, 0, none⟩)) → t'[9]? = some (.int .i64 (n : Int)) → t'[10]? = some (.slice la n lc) → t'[11]? = some (.slice ma n mc) → t'[82]? = some (.bool false) → Fr (fun _ => False) w w' → Q .normal ⟨t', []⟩ w') :
    Code.wp Tryd.prog (regionAt Tryd.f5 8) Q ⟨fr, []⟩ w := by
  obtain ⟨x, hx⟩ : ∃ x, x = L.getD (n - 1) [] := ⟨_, rfl⟩
  have hxi : L[n - 1]? = some x := by rw [hx, List.getD_eq_getElem?_getD, List.getElem?_eq_getElem (by omega)]; rfl
  have hx32 := hL.all x (List.mem_of_getElem? hxi)
  obtain ⟨y, hy⟩ : ∃ y, y = M.getD (n - 1) [] := ⟨_, rfl⟩
  have hyi : M[n - 1]? = some y := by rw [hy, List.getD_eq_getElem?_getD, List.getElem?_eq_getElem (by omega)]; rfl
  have hy32 := hM.all y (List.mem_of_getElem? hyi)
  rw [← hx, ← hy] at hxy
  obtain ⟨gl, ol, rfl⟩ := hL.at (by omega)
  obtain ⟨gm, om, rfl⟩ := hM.at (by omega)
  have HCX := Lib.hid (hL.cells hxi)
  have HCY := Lib.hid (hM.cells hyi)
  have HX := Lib.hid hx32
  have HY := Lib.hid hy32
  have HP1 := Lib.hid h1
  have HP2 := Lib.hid h2
  have y1 : ∀ W : World, (binOp .neq 23 (.agg (krow x)) (.agg (krow y))).run Tryd.prog W = .ok (.bool false) W := fun W => by rw [neq_row hx32 hy32, hxy]; rfl
  have q1 : ((n - 1 : Nat) : Int) < (n : Int) := by omega
  have q2 : (0 : Int) ≤ ((n - 1 : Nat) : Int) := Int.natCast_nonneg _
  have q3 : n - 1 < n := by omega
  have W1 : wrap64 ((n : Int) - 1) = ((n - 1 : Nat) : Int) := by rw [IntWalk.wrap64_in _ (by omega)]; omega
  have HQ := Lib.hid hQ
  clear hQ hn0 hn12 h1 h2 hL hM hLn hMn hx hxi hy hyi hx32 hy32 hxy
  obtain ⟨f, hff, rfl⟩ := frame_open hn
  have e0 := hff 0 _ p0
  have e4 := hff 4 _ p4
  have e5 := hff 5 _ p5
  have e9 := hff 9 _ p9
  have e10 := hff 10 _ p10
  have e11 := hff 11 _ p11
  clear hff hn p0 p4 p5 p9 p10 p11
  rw [lit94, e0, e4, e5, e9, e10, e11]
  clear e0 e4 e5 e9 e10 e11
  conv => arg 2; whnf
  have kx : ∀ u : Wd w, ∀ (i : Nat) (v : Value), (krow x)[i]? = some v → u.w.cell? ⟨gl, ol + (n - 1) * 32 + i, none⟩ = some v := fun u i v hv => u.h.cellSome (p := ⟨gl, ol + (n - 1) * 32 + i, none⟩) (fun h => h) (HCX.out i v hv)
  have ky : ∀ u : Wd w, ∀ (i : Nat) (v : Value), (krow y)[i]? = some v → u.w.cell? ⟨gm, om + (n - 1) * 32 + i, none⟩ = some v := fun u i v hv => u.h.cellSome (p := ⟨gm, om + (n - 1) * 32 + i, none⟩) (fun h => h) (HCY.out i v hv)
  have ka : ∀ u : Wd w, ∀ (i : Nat) (v : Value), (krow ah)[i]? = some v → u.w.cell? ⟨g1, 1 + i, none⟩ = some v := fun u i v hv => (HP1.out.ext u.h).c1 i v hv
  have kb : ∀ u : Wd w, ∀ (i : Nat) (v : Value), (krow ah')[i]? = some v → u.w.cell? ⟨g2, 1 + i, none⟩ = some v := fun u i v hv => (HP2.out.ext u.h).c1 i v hv
  have kz : ∀ u : Wd w, u.w.cell? ⟨g1, 0, none⟩ = some (.int .i64 z) := fun u => (HP1.out.ext u.h).c0
  have kw : ∀ u : Wd w, u.w.cell? ⟨g2, 0, none⟩ = some (.int .i64 z') := fun u => (HP2.out.ext u.h).c0
  have kr : ∀ u : Wd w, u.w.cell? ⟨g1, 33, none⟩ = some (.slice ra n rc) := fun u => (HP1.out.ext u.h).c33
  have ks : ∀ u : Wd w, u.w.cell? ⟨g2, 33, none⟩ = some (.slice sa n sc) := fun u => (HP2.out.ext u.h).c33
  refine wp_region_keep (by kernel_rfl) (by kernel_rfl) ?_
  repeat (any_goals (first | (focus (go_big_quiet_want; (refine quiet_load_cellsd 23 (.tmp 52) rfl gl (ol + (n - 1) * 32) rfl (krow x) 32 _ Tryd.underlying23 rfl sz32 kx (by rw [krow_size]; exact HX.out) ?_); simp only [Act.put, List.setIfInBounds_toArray, List.set_cons_zero, List.set_cons_succ]; go_big_quiet_on)) | (focus (go_big_quiet_want; (refine quiet_load_cellsd 23 (.tmp 57) rfl gm (om + (n - 1) * 32) rfl (krow y) 32 _ Tryd.underlying23 rfl sz32 ky (by rw [krow_size]; exact HY.out) ?_); simp only [Act.put, List.setIfInBounds_toArray, List.set_cons_zero, List.set_cons_succ]; go_big_quiet_on)) | (focus (go_big_quiet_want; (refine quiet_load_cellsd 23 (.tmp 67) rfl g1 1 rfl (krow ah) 32 _ Tryd.underlying23 rfl sz32 ka (by rw [krow_size]; exact HP1.out.ah32) ?_); simp only [Act.put, List.setIfInBounds_toArray, List.set_cons_zero, List.set_cons_succ]; go_big_quiet_on)) | (focus (go_big_quiet_want; (refine quiet_load_cellsd 23 (.tmp 69) rfl g2 1 rfl (krow ah') 32 _ Tryd.underlying23 rfl sz32 kb (by rw [krow_size]; exact HP2.out.ah32) ?_); simp only [Act.put, List.setIfInBounds_toArray, List.set_cons_zero, List.set_cons_succ]; go_big_quiet_on)) | go_big_quiet_step (fail) | quiet_step (fail)))
  refine wpQuiet_nil ?_
  intro _ hwz
  obtain ⟨u, rfl⟩ := hwz
  exact HQ.out _ _ (by first | rfl | simp) rfl rfl rfl rfl rfl rfl rfl u.h
set_option maxRecDepth 100000 in
set_option maxHeartbeats 6400000 in
theorem co_ahead {Q : Exit → Act → World → Prop} {w : World} {g1 g2 q ci n lc mc rc sc : Nat} {ida la ma ra sa : Option Addr} {z z' : Int} {ah ah' : List UInt8} {L M : List (List UInt8)} (hn0 : 0 < n) (hn12 : n ≤ 12) (h1 : Pb w g1 z ah (.slice ra n rc)) (h2 : Pb w g2 z' ah' (.slice sa n sc)) (hL : Kv w la L) (hM : Kv w ma M) (hLn : L.length = n) (hMn : M.length = n) (hxy : (L.getD (n - 1) [] == M.getD (n - 1) []) = true) (hz : (z == z') = true) (ha : (ah == ah') = false) (fr : Array Value) (hn : fr.size = 94) (p0 : fr[0]? = some (.slice ida q ci)) (p4 : fr[4]? = some (.pointer (some ⟨g1, 0, none⟩))) (p5 : fr[5]? = some (.pointer (some ⟨g2, 0, none⟩))) (p9 : fr[9]? = some (.int .i64 (n : Int))) (p10 : fr[10]? = some (.slice la n lc)) (p11 : fr[11]? = some (.slice ma n mc))
    (hQ : ∀ t' w', t'.size = 94 → t'[0]? = some (.slice ida q ci) → t'[4]? = some (.pointer (some ⟨g1, 0, none⟩)) → t'[5]? = some (.pointer (some ⟨g2, 0, none⟩)) → t'[9]? = some (.int .i64 (n : Int)) → t'[10]? = some (.slice la n lc) → t'[11]? = some (.slice ma n mc) → t'[82]? = some (.bool false) → Fr (fun _ => False) w w' → Q .normal ⟨t', []⟩ w') :
    Code.wp Tryd.prog (regionAt Tryd.f5 8) Q ⟨fr, []⟩ w := by
  obtain ⟨x, hx⟩ : ∃ x, x = L.getD (n - 1) [] := ⟨_, rfl⟩
  have hxi : L[n - 1]? = some x := by rw [hx, List.getD_eq_getElem?_getD, List.getElem?_eq_getElem (by omega)]; rfl
  have hx32 := hL.all x (List.mem_of_getElem? hxi)
  obtain ⟨y, hy⟩ : ∃ y, y = M.getD (n - 1) [] := ⟨_, rfl⟩
  have hyi : M[n - 1]? = some y := by rw [hy, List.getD_eq_getElem?_getD, List.getElem?_eq_getElem (by omega)]; rfl
  have hy32 := hM.all y (List.mem_of_getElem? hyi)
  rw [← hx, ← hy] at hxy
  obtain ⟨gl, ol, rfl⟩ := hL.at (by omega)
  obtain ⟨gm, om, rfl⟩ := hM.at (by omega)
  have HCX := Lib.hid (hL.cells hxi)
  have HCY := Lib.hid (hM.cells hyi)
  have HX := Lib.hid hx32
  have HY := Lib.hid hy32
  have HP1 := Lib.hid h1
  have HP2 := Lib.hid h2
  have y1 : ∀ W : World, (binOp .neq 23 (.agg (krow x)) (.agg (krow y))).run Tryd.prog W = .ok (.bool false) W := fun W => by rw [neq_row hx32 hy32, hxy]; rfl
  have y2 : ∀ W : World, (binOp .eql 23 (.agg (krow ah)) (.agg (krow ah'))).run Tryd.prog W = .ok (.bool false) W := fun W => by rw [eql_row h1.ah32 h2.ah32, ha]
  have q1 : ((n - 1 : Nat) : Int) < (n : Int) := by omega
  have q2 : (0 : Int) ≤ ((n - 1 : Nat) : Int) := Int.natCast_nonneg _
  have q3 : n - 1 < n := by omega
  have W1 : wrap64 ((n : Int) - 1) = ((n - 1 : Nat) : Int) := by rw [IntWalk.wrap64_in _ (by omega)]; omega
  have HQ := Lib.hid hQ
  clear hQ hn0 hn12 h1 h2 hL hM hLn hMn hx hxi hy hyi hx32 hy32 hxy
  obtain ⟨f, hff, rfl⟩ := frame_open hn
  have e0 := hff 0 _ p0
  have e4 := hff 4 _ p4
  have e5 := hff 5 _ p5
  have e9 := hff 9 _ p9
  have e10 := hff 10 _ p10
  have e11 := hff 11 _ p11
  clear hff hn p0 p4 p5 p9 p10 p11
  rw [lit94, e0, e4, e5, e9, e10, e11]
  clear e0 e4 e5 e9 e10 e11
  conv => arg 2; whnf
  have kx : ∀ u : Wd w, ∀ (i : Nat) (v : Value), (krow x)[i]? = some v → u.w.cell? ⟨gl, ol + (n - 1) * 32 + i, none⟩ = some v := fun u i v hv => u.h.cellSome (p := ⟨gl, ol + (n - 1) * 32 + i, none⟩) (fun h => h) (HCX.out i v hv)
  have ky : ∀ u : Wd w, ∀ (i : Nat) (v : Value), (krow y)[i]? = some v → u.w.cell? ⟨gm, om + (n - 1) * 32 + i, none⟩ = some v := fun u i v hv => u.h.cellSome (p := ⟨gm, om + (n - 1) * 32 + i, none⟩) (fun h => h) (HCY.out i v hv)
  have ka : ∀ u : Wd w, ∀ (i : Nat) (v : Value), (krow ah)[i]? = some v → u.w.cell? ⟨g1, 1 + i, none⟩ = some v := fun u i v hv => (HP1.out.ext u.h).c1 i v hv
  have kb : ∀ u : Wd w, ∀ (i : Nat) (v : Value), (krow ah')[i]? = some v → u.w.cell? ⟨g2, 1 + i, none⟩ = some v := fun u i v hv => (HP2.out.ext u.h).c1 i v hv
  have kz : ∀ u : Wd w, u.w.cell? ⟨g1, 0, none⟩ = some (.int .i64 z) := fun u => (HP1.out.ext u.h).c0
  have kw : ∀ u : Wd w, u.w.cell? ⟨g2, 0, none⟩ = some (.int .i64 z') := fun u => (HP2.out.ext u.h).c0
  have kr : ∀ u : Wd w, u.w.cell? ⟨g1, 33, none⟩ = some (.slice ra n rc) := fun u => (HP1.out.ext u.h).c33
  have ks : ∀ u : Wd w, u.w.cell? ⟨g2, 33, none⟩ = some (.slice sa n sc) := fun u => (HP2.out.ext u.h).c33
  refine wp_region_keep (by kernel_rfl) (by kernel_rfl) ?_
  repeat (any_goals (first | (focus (go_big_quiet_want; (refine quiet_load_cellsd 23 (.tmp 52) rfl gl (ol + (n - 1) * 32) rfl (krow x) 32 _ Tryd.underlying23 rfl sz32 kx (by rw [krow_size]; exact HX.out) ?_); simp only [Act.put, List.setIfInBounds_toArray, List.set_cons_zero, List.set_cons_succ]; go_big_quiet_on)) | (focus (go_big_quiet_want; (refine quiet_load_cellsd 23 (.tmp 57) rfl gm (om + (n - 1) * 32) rfl (krow y) 32 _ Tryd.underlying23 rfl sz32 ky (by rw [krow_size]; exact HY.out) ?_); simp only [Act.put, List.setIfInBounds_toArray, List.set_cons_zero, List.set_cons_succ]; go_big_quiet_on)) | (focus (go_big_quiet_want; (refine quiet_load_cellsd 23 (.tmp 67) rfl g1 1 rfl (krow ah) 32 _ Tryd.underlying23 rfl sz32 ka (by rw [krow_size]; exact HP1.out.ah32) ?_); simp only [Act.put, List.setIfInBounds_toArray, List.set_cons_zero, List.set_cons_succ]; go_big_quiet_on)) | (focus (go_big_quiet_want; (refine quiet_load_cellsd 23 (.tmp 69) rfl g2 1 rfl (krow ah') 32 _ Tryd.underlying23 rfl sz32 kb (by rw [krow_size]; exact HP2.out.ah32) ?_); simp only [Act.put, List.setIfInBounds_toArray, List.set_cons_zero, List.set_cons_succ]; go_big_quiet_on)) | go_big_quiet_step (fail) | quiet_step (fail)))
  refine wpQuiet_nil ?_
  intro _ hwz
  obtain ⟨u, rfl⟩ := hwz
  exact HQ.out _ _ (by first | rfl | simp) rfl rfl rfl rfl rfl rfl rfl u.h
set_option maxRecDepth 100000 in
set_option maxHeartbeats 6400000 in
theorem co_same {Q : Exit → Act → World → Prop} {w : World} {g1 g2 q ci n lc mc rc sc : Nat} {ida la ma ra sa : Option Addr} {z z' : Int} {ah ah' : List UInt8} {L M : List (List UInt8)} {R S : List (List UInt8)} (hn0 : 0 < n) (hn12 : n ≤ 12) (h1 : Pb w g1 z ah (.slice ra n rc)) (h2 : Pb w g2 z' ah' (.slice sa n sc)) (hL : Kv w la L) (hM : Kv w ma M) (hLn : L.length = n) (hMn : M.length = n) (hxy : (L.getD (n - 1) [] == M.getD (n - 1) []) = true) (hz : (z == z') = true) (ha : (ah == ah') = true) (hR : Kv w ra R) (hS : Kv w sa S) (hRn : R.length = n) (hSn : S.length = n) (fr : Array Value) (hn : fr.size = 94) (p0 : fr[0]? = some (.slice ida q ci)) (p4 : fr[4]? = some (.pointer (some ⟨g1, 0, none⟩))) (p5 : fr[5]? = some (.pointer (some ⟨g2, 0, none⟩))) (p9 : fr[9]? = some (.int .i64 (n : Int))) (p10 : fr[10]? = some (.slice la n lc)) (p11 : fr[11]? = some (.slice ma n mc))
    (hQ : ∀ t' w' b, t'.size = 94 → t'[0]? = some (.slice ida q ci) → t'[4]? = some (.pointer (some ⟨g1, 0, none⟩)) → t'[5]? = some (.pointer (some ⟨g2, 0, none⟩)) → t'[9]? = some (.int .i64 (n : Int)) → t'[10]? = some (.slice la n lc) → t'[11]? = some (.slice ma n mc) → t'[82]? = some (.bool b) → (b = true ↔ R = S) → Fr (fun _ => False) w w' → Q .normal ⟨t', []⟩ w') :
    Code.wp Tryd.prog (regionAt Tryd.f5 8) Q ⟨fr, []⟩ w := by
  obtain ⟨x, hx⟩ : ∃ x, x = L.getD (n - 1) [] := ⟨_, rfl⟩
  have hxi : L[n - 1]? = some x := by rw [hx, List.getD_eq_getElem?_getD, List.getElem?_eq_getElem (by omega)]; rfl
  have hx32 := hL.all x (List.mem_of_getElem? hxi)
  obtain ⟨y, hy⟩ : ∃ y, y = M.getD (n - 1) [] := ⟨_, rfl⟩
  have hyi : M[n - 1]? = some y := by rw [hy, List.getD_eq_getElem?_getD, List.getElem?_eq_getElem (by omega)]; rfl
  have hy32 := hM.all y (List.mem_of_getElem? hyi)
  rw [← hx, ← hy] at hxy
  obtain ⟨gl, ol, rfl⟩ := hL.at (by omega)
  obtain ⟨gm, om, rfl⟩ := hM.at (by omega)
  have HCX := Lib.hid (hL.cells hxi)
  have HCY := Lib.hid (hM.cells hyi)
  have HX := Lib.hid hx32
  have HY := Lib.hid hy32
  have HP1 := Lib.hid h1
  have HP2 := Lib.hid h2
  have y1 : ∀ W : World, (binOp .neq 23 (.agg (krow x)) (.agg (krow y))).run Tryd.prog W = .ok (.bool false) W := fun W => by rw [neq_row hx32 hy32, hxy]; rfl
  have y2 : ∀ W : World, (binOp .eql 23 (.agg (krow ah)) (.agg (krow ah'))).run Tryd.prog W = .ok (.bool true) W := fun W => by rw [eql_row h1.ah32 h2.ah32, ha]
  have HT1 := Lib.hid (fun (V : World) (F : Fr (fun _ => False) w V) => texts_any ra rc n R hRn (by omega) V (hR.ext F))
  have HT2 := Lib.hid (fun (V : World) (F : Fr (fun _ => False) w V) => texts_any sa sc n S hSn (by omega) V (hS.ext F))
  have HSA := Lib.hid (fun (a5 a8 : Option Addr) (c5 c8 : Nat) (V : World) (h5 : Sv V a5 R) (h8 : Sv V a8 S) => same2_any a5 a8 c5 c8 n R S hRn hSn (by omega) V h5 h8)
  have HRM := Lib.hid (And.intro hRn hSn)
  have q1 : ((n - 1 : Nat) : Int) < (n : Int) := by omega
  have q2 : (0 : Int) ≤ ((n - 1 : Nat) : Int) := Int.natCast_nonneg _
  have q3 : n - 1 < n := by omega
  have W1 : wrap64 ((n : Int) - 1) = ((n - 1 : Nat) : Int) := by rw [IntWalk.wrap64_in _ (by omega)]; omega
  have HQ := Lib.hid hQ
  clear hQ hn0 hn12 h1 h2 hL hM hLn hMn hx hxi hy hyi hx32 hy32 hxy hR hS hRn hSn ha
  obtain ⟨f, hff, rfl⟩ := frame_open hn
  have e0 := hff 0 _ p0
  have e4 := hff 4 _ p4
  have e5 := hff 5 _ p5
  have e9 := hff 9 _ p9
  have e10 := hff 10 _ p10
  have e11 := hff 11 _ p11
  clear hff hn p0 p4 p5 p9 p10 p11
  rw [lit94, e0, e4, e5, e9, e10, e11]
  clear e0 e4 e5 e9 e10 e11
  conv => arg 2; whnf
  refine Ks.wp_region_mono (fun _ => False) (sg 0 27 ++ (sg 28 2 ++ ((27, true) :: ((30, true) :: ((31, true) :: (sg 32 2 ++ ([]))))))) (by kernel_rfl) (by kernel_rfl) ?_
  refine Ks.Wk.seg 0 27 (by kernel_rfl) (by kernel_rfl) ?_
  apply Exists.intro
  refine ⟨?wk0, ?fin0⟩
  case wk0 =>
    intro γ
    have kx : ∀ u : Ks.Ws γ, ∀ (i : Nat) (v : Value), (krow x)[i]? = some v → u.w.cell? ⟨gl, ol + (n - 1) * 32 + i, none⟩ = some v := fun u i v hv => u.h.cellSome (p := ⟨gl, ol + (n - 1) * 32 + i, none⟩) (fun h => h) (HCX.out i v hv)
    have ky : ∀ u : Ks.Ws γ, ∀ (i : Nat) (v : Value), (krow y)[i]? = some v → u.w.cell? ⟨gm, om + (n - 1) * 32 + i, none⟩ = some v := fun u i v hv => u.h.cellSome (p := ⟨gm, om + (n - 1) * 32 + i, none⟩) (fun h => h) (HCY.out i v hv)
    have ka : ∀ u : Ks.Ws γ, ∀ (i : Nat) (v : Value), (krow ah)[i]? = some v → u.w.cell? ⟨g1, 1 + i, none⟩ = some v := fun u i v hv => (HP1.out.ext u.h).c1 i v hv
    have kb : ∀ u : Ks.Ws γ, ∀ (i : Nat) (v : Value), (krow ah')[i]? = some v → u.w.cell? ⟨g2, 1 + i, none⟩ = some v := fun u i v hv => (HP2.out.ext u.h).c1 i v hv
    have kz : ∀ u : Ks.Ws γ, u.w.cell? ⟨g1, 0, none⟩ = some (.int .i64 z) := fun u => (HP1.out.ext u.h).c0
    have kw : ∀ u : Ks.Ws γ, u.w.cell? ⟨g2, 0, none⟩ = some (.int .i64 z') := fun u => (HP2.out.ext u.h).c0
    have kr : ∀ u : Ks.Ws γ, u.w.cell? ⟨g1, 33, none⟩ = some (.slice ra n rc) := fun u => (HP1.out.ext u.h).c33
    have ks : ∀ u : Ks.Ws γ, u.w.cell? ⟨g2, 33, none⟩ = some (.slice sa n sc) := fun u => (HP2.out.ext u.h).c33
    simp only [List.drop_succ_cons, List.drop_zero, List.take_succ_cons, List.take_zero]
    repeat (any_goals (first | (focus (go_big_quiet_want; (refine quiet_load_cellsS 23 (.tmp 52) rfl gl (ol + (n - 1) * 32) rfl (krow x) 32 _ Tryd.underlying23 rfl sz32 kx (by rw [krow_size]; exact HX.out) ?_); simp only [Act.put, List.setIfInBounds_toArray, List.set_cons_zero, List.set_cons_succ]; go_big_quiet_on)) | (focus (go_big_quiet_want; (refine quiet_load_cellsS 23 (.tmp 57) rfl gm (om + (n - 1) * 32) rfl (krow y) 32 _ Tryd.underlying23 rfl sz32 ky (by rw [krow_size]; exact HY.out) ?_); simp only [Act.put, List.setIfInBounds_toArray, List.set_cons_zero, List.set_cons_succ]; go_big_quiet_on)) | (focus (go_big_quiet_want; (refine quiet_load_cellsS 23 (.tmp 67) rfl g1 1 rfl (krow ah) 32 _ Tryd.underlying23 rfl sz32 ka (by rw [krow_size]; exact HP1.out.ah32) ?_); simp only [Act.put, List.setIfInBounds_toArray, List.set_cons_zero, List.set_cons_succ]; go_big_quiet_on)) | (focus (go_big_quiet_want; (refine quiet_load_cellsS 23 (.tmp 69) rfl g2 1 rfl (krow ah') 32 _ Tryd.underlying23 rfl sz32 kb (by rw [krow_size]; exact HP2.out.ah32) ?_); simp only [Act.put, List.setIfInBounds_toArray, List.set_cons_zero, List.set_cons_succ]; go_big_quiet_on)) | go_big_quiet_step (fail) | quiet_step (fail)))
    exact wpQuiet_nil rfl
  case fin0 =>
  (try simp only [Act.put, List.setIfInBounds_toArray, List.set_cons_zero, List.set_cons_succ])
  refine Ks.Wk.seg 28 2 (by kernel_rfl) (by kernel_rfl) ?_
  apply Exists.intro
  refine ⟨?wk1, ?fin1⟩
  case wk1 =>
    intro γ
    have ks : ∀ u : Ks.Ws γ, u.w.cell? ⟨g2, 33, none⟩ = some (.slice sa n sc) := fun u => (HP2.out.ext u.h).c33
    simp only [List.drop_succ_cons, List.drop_zero, List.take_succ_cons, List.take_zero]
    repeat (any_goals (first | go_big_quiet_step (fail) | quiet_step (fail)))
    exact wpQuiet_nil rfl
  case fin1 =>
  (try simp only [Act.put, List.setIfInBounds_toArray, List.set_cons_zero, List.set_cons_succ])
  refine Ks.Wk.call rfl (by kernel_rfl) 17 #[.slice ra n rc] (fun W => by first | kernel_rfl | rfl) (fun v V => Nonempty2 (Os V w.heap.size v R)) (fun V hx => (HT1.out V hx).mono (fun e w' he => by obtain ⟨⟨v, e1, e2⟩, e3⟩ := he; exact ⟨v, e1, e3, ⟨own_up e2 hx.size⟩⟩)) ?_
  rintro v5 w5 X5 ⟨HT5⟩
  (try simp only [List.getElem_toArray, List.getElem_cons_succ, List.getElem_cons_zero, Act.put, List.setIfInBounds_toArray, List.set_cons_zero, List.set_cons_succ])
  obtain ⟨a5, c5, rfl, _, _, HV5, _⟩ := HT5.view
  have HS5 := Lib.hid HV5
  have HX5 := Lib.hid X5
  rw [HRM.out.1]
  clear HT5 HV5 X5
  refine Ks.Wk.call rfl (by kernel_rfl) 17 #[.slice sa n sc] (fun W => by first | kernel_rfl | rfl) (fun v V => Nonempty2 (Os V w.heap.size v S)) (fun V hx => (HT2.out V (HX5.out.trans hx (fun _ h => h.elim))).mono (fun e w' he => by obtain ⟨⟨v, e1, e2⟩, e3⟩ := he; exact ⟨v, e1, e3, ⟨own_up e2 (Nat.le_trans HX5.out.size hx.size)⟩⟩)) ?_
  rintro v8 w8 X8 ⟨HT8⟩
  (try simp only [List.getElem_toArray, List.getElem_cons_succ, List.getElem_cons_zero, Act.put, List.setIfInBounds_toArray, List.set_cons_zero, List.set_cons_succ])
  obtain ⟨a8, c8, rfl, _, _, HV8, _⟩ := HT8.view
  have HS8 := Lib.hid HV8
  have HS5b := Lib.hid (HS5.out.ext X8)
  have HX8 := Lib.hid (HX5.out.trans X8 (fun _ h => h.elim))
  rw [HRM.out.2]
  clear HT8 HV8 X8 HS5
  refine Ks.Wk.call rfl (by kernel_rfl) 18 #[.slice a5 n c5, .slice a8 n c8] (fun W => by first | kernel_rfl | rfl) (fun v V => ∃ b, v = .bool b ∧ (b = true ↔ R = S)) (fun V hx => (HSA.out a5 a8 c5 c8 V (HS5b.out.ext hx) (HS8.out.ext hx)).mono (fun e w' he => by obtain ⟨⟨b, e1, e2⟩, e3⟩ := he; exact ⟨_, e1, e3, b, rfl, e2⟩)) ?_
  rintro v9 w9 X9 ⟨b, rfl, hbb⟩
  (try simp only [List.getElem_toArray, List.getElem_cons_succ, List.getElem_cons_zero, Act.put, List.setIfInBounds_toArray, List.set_cons_zero, List.set_cons_succ])
  have HBB := Lib.hid hbb
  have HX9 := Lib.hid (HX8.out.trans X9 (fun _ h => h.elim))
  clear X9 HS8 HS5b hbb
  refine Ks.Wk.seg 32 2 (by kernel_rfl) (by kernel_rfl) ?_
  apply Exists.intro
  refine ⟨?wk5, ?fin5⟩
  case wk5 =>
    intro γ
    simp only [List.drop_succ_cons, List.drop_zero, List.take_succ_cons, List.take_zero]
    repeat (any_goals (first | go_big_quiet_step (fail) | quiet_step (fail)))
    exact wpQuiet_nil rfl
  case fin5 =>
  (try simp only [Act.put, List.setIfInBounds_toArray, List.set_cons_zero, List.set_cons_succ])
  intro w11 X11
  exact HQ.out _ _ b (by first | rfl | simp) rfl rfl rfl rfl rfl rfl rfl HBB.out (HX9.out.trans X11 (fun _ h => h.elim))
end Go.Proofs.YtikdgjgcopjocaaDoor
namespace Go.Proofs.YtikdgjgcopjocaaDoor
open Go.RowKit
set_option linter.unusedVariables false
set_option linter.unusedSimpArgs false
set_option maxRecDepth 100000 in
theorem wpList_store_sl {P : Program} {ops : Array Oper} {rest : List Oper} {o : Oper} {a : Act} {w : World} {Q : Exit → Act → World → Prop} (hgd : o.guard = none) (ty : TypeId) (x y : Operand) (ho : o.op = .store ty x y)
    (g off : Nat) (hx : a.eval x = .pointer (some ⟨g, off, none⟩)) (ad : Option Addr) (n c : Nat) (hy : a.eval y = .slice ad n c) (hi : (P.info? ty).map (·.size) = some 1)
    (t : TypeId) (cs : Array Value) (hg : w.heap[g]? = some (.cells cs t (0, 0))) (hoff : off < cs.size)
    (h : ∀ w2 : World, w2.heap[g]? = some (.cells (cs.setIfInBounds off (.slice ad n c)) t (0, 0)) → Fr (fun i => i = g) w w2 → wpList P ops Q rest (a.put o.dst undef) w2) : wpList P ops Q (o :: rest) a w := by
  refine wpList_plain hgd fun _ hK => ?_
  have hst := run_storeCells_at P g off t [.slice ad n c] 0 cs w hg (by simp; omega) (by simp [Value.oneCell'])
  have e : (cs.toList.take (off + 0) ++ [Value.slice ad n c] ++ cs.toList.drop (off + 0 + 1)).toArray = cs.setIfInBounds off (.slice ad n c) := by
    apply Array.toList_inj.1
    rw [Array.toList_setIfInBounds, List.set_eq_take_append_cons_drop, if_pos (by simpa using hoff)]
    simp
  have key := h (w.setRow g (cs.setIfInBounds off (.slice ad n c))) (setRow_heap _ _ _ _ _ _ hg) (Fr.setRow' (S := fun i => i = g) (Fr.refl _ w) rfl _)
  simp only [List.length_cons, List.length_nil] at hst
  rw [e] at hst
  cases hq : P.info? ty with
  | none => simp [hq] at hi
  | some i =>
    have hs : i.size = 1 := by simpa [hq] using hi
    unfold Oper.wp execOp
    simp only [ho, hx, hy, Instr.storeAt, Instr.sureAddr, Sem.run_bind, Sem.run_pure, Result.andThen_ok]
    have hrun : (storeVar ty ⟨g, off, none⟩ (.slice ad n c)).run P w = .ok () (w.setRow g (cs.setIfInBounds off (.slice ad n c))) := by
      simp [storeVar, sizeOf, typeInfo, hq, Value.cells, hs]
      simpa using hst
    rw [hrun]
    exact hK _ _ key
set_option maxRecDepth 100000 in
theorem past_set (z : Int) (ah : List UInt8) (s s' : Value) (h : ah.length = 32) : (pastRow z ah s).setIfInBounds 33 s' = pastRow z ah s' := by
  apply Array.toList_inj.1
  rw [Array.toList_setIfInBounds]
  unfold pastRow
  show (Value.int .i64 z :: (bv ah ++ [s])).set 33 s' = Value.int .i64 z :: (bv ah ++ [s'])
  rw [show (33 : Nat) = 32 + 1 from rfl, List.set_cons_succ, List.set_append_right _ _ (by rw [bv_length]; omega), bv_length, h]
  rfl
set_option maxRecDepth 100000 in
theorem past_len (z : Int) (ah : List UInt8) (s : Value) (h : ah.length = 32) : (pastRow z ah s).size = 34 := by
  obtain ⟨C, hC, h1, _⟩ := past_facts z s ah h
  rw [← hC]; exact h1
set_option maxRecDepth 100000 in
theorem tx_small {id : List UInt8} {z : Int} {R L : List (List UInt8)} {a : List UInt8} {n : Nat} (hi : id.length ≤ 60000) (hR : Lg.All32 R) (hL : Lg.All32 L) (ha : a.length = 32) : ∀ x ∈ Ck.tx id z R L a n, x.length ≤ 1000000 := fun x hx => by
  obtain ⟨k, _, rfl⟩ := List.mem_map.1 hx
  have g : ∀ (P : List (List UInt8)), Lg.All32 P → ∀ k, (P.getD k []).length ≤ 32 := fun P hP k => by
    rw [List.getD_eq_getElem?_getD]
    by_cases h : k < P.length
    · rw [List.getElem?_eq_getElem h]; exact Nat.le_of_eq (hP _ (List.getElem_mem _))
    · rw [List.getElem?_eq_none (by omega)]; simp
  have h1 := g R hR k
  have h2 : (Ck.prev L a k).length ≤ 32 := by
    cases k with
    | zero => exact Nat.le_of_eq ha
    | succ j => exact g L hL j
  rw [CH.text_length]; omega
set_option maxRecDepth 100000 in
set_option maxHeartbeats 6400000 in
theorem co_set {Q : Exit → Act → World → Prop} {w : World} {g1 g2 q ci n m1 m2 c7 c8 : Nat} {ida a7 a8 : Option Addr} {z z' : Int} {ah ah' : List UInt8} {s1 s2 : Value} (hn1 : n ≤ m1) (hn2 : n ≤ m2) (hc7 : m1 ≤ c7) (hc8 : m2 ≤ c8) (h12 : g1 ≠ g2) (h1 : Pb w g1 z ah s1) (h2 : Pb w g2 z' ah' s2) (fr : Array Value) (hn : fr.size = 94) (p0 : fr[0]? = some (.slice ida q ci)) (p4 : fr[4]? = some (.pointer (some ⟨g1, 0, none⟩))) (p5 : fr[5]? = some (.pointer (some ⟨g2, 0, none⟩))) (p7 : fr[7]? = some (.slice a7 m1 c7)) (p8 : fr[8]? = some (.slice a8 m2 c8)) (p9 : fr[9]? = some (.int .i64 (n : Int)))
    (hQ : ∀ t' w', t'.size = 94 → t'[0]? = some (.slice ida q ci) → t'[4]? = some (.pointer (some ⟨g1, 0, none⟩)) → t'[5]? = some (.pointer (some ⟨g2, 0, none⟩)) → t'[9]? = some (.int .i64 (n : Int)) → Pb w' g1 z ah (.slice a7 n c7) → Pb w' g2 z' ah' (.slice a8 n c8) → Fr (fun k => k = g1 ∨ k = g2) w w' → Q .normal ⟨t', []⟩ w') :
    Code.wp Tryd.prog (regionAt Tryd.f5 6) Q ⟨fr, []⟩ w := by
  have q1 : (n : Int) ≤ (c7 : Int) := by omega
  have q2 : (n : Int) ≤ (c8 : Int) := by omega
  have q3 : n ≤ c7 := by omega
  have q4 : n ≤ c8 := by omega
  have q5 : (0 : Int) ≤ (n : Int) := Int.natCast_nonneg n
  have HQ := Lib.hid hQ
  have H1 := Lib.hid h1
  have H2 := Lib.hid h2
  have H12 := Lib.hid h12
  have i1 : (Tryd.prog.info? 32).map (·.size) = some 1 := by kernel_rfl
  clear hQ h1 h2 h12 hn1 hn2 hc7 hc8
  obtain ⟨f, hff, rfl⟩ := frame_open hn
  have e0 := hff 0 _ p0
  have e4 := hff 4 _ p4
  have e5 := hff 5 _ p5
  have e7 := hff 7 _ p7
  have e8 := hff 8 _ p8
  have e9 := hff 9 _ p9
  clear hff hn p0 p4 p5 p7 p8 p9
  rw [lit94, e0, e4, e5, e7, e8, e9]
  clear e0 e4 e5 e7 e8 e9
  conv => arg 2; whnf
  refine Ks.wp_region_mono (fun k => k = g1 ∨ k = g2) (sg 0 7 ++ ((7, true) :: (sg 8 1 ++ ((9, true) :: ([]))))) (by kernel_rfl) (by kernel_rfl) ?_
  refine Ks.Wk.seg 0 7 (by kernel_rfl) (by kernel_rfl) ?_
  apply Exists.intro
  refine ⟨?wk0, ?fin0⟩
  case wk0 =>
    intro γ
    simp only [List.drop_succ_cons, List.drop_zero, List.take_succ_cons, List.take_zero]
    repeat (any_goals (first | go_big_quiet_step (fail) | quiet_step (fail)))
    exact wpQuiet_nil rfl
  case fin0 =>
  (try simp only [Act.put, List.setIfInBounds_toArray, List.set_cons_zero, List.set_cons_succ])
  refine Ks.Wk.one rfl (fun w2 Xw2 => ?_)
  refine wpList_store_sl rfl 32 (.tmp 41) (.tmp 37) rfl g1 33 rfl a7 n c7 rfl i1 34 _ (H1.out.ext Xw2).blk (by rw [past_len _ _ _ H1.out.ah32]; decide) (fun w3 B3 F3 => ⟨rfl, F3.mono (fun k _ hk => .inl hk), ?_⟩)
  (try simp only [List.getElem_toArray, List.getElem_cons_succ, List.getElem_cons_zero, Act.put, List.setIfInBounds_toArray, List.set_cons_zero, List.set_cons_succ])
  rw [past_set _ _ _ _ H1.out.ah32] at B3
  have P1 : Pb w3 g1 z ah (.slice a7 n c7) := ⟨B3, H1.out.ah32⟩
  have P2 : Pb w3 g2 z' ah' s2 := ⟨(F3.block _ (lt_of_block (H2.out.ext Xw2).blk) (fun e => H12.out e.symm)).trans (H2.out.ext Xw2).blk, H2.out.ah32⟩
  have G3 : Fr (fun k => k = g1 ∨ k = g2) w w3 := (Xw2.mono (fun _ _ h => h.elim)).trans F3 (fun k hk => .inl (.inl hk))
  refine Ks.Wk.seg 8 1 (by kernel_rfl) (by kernel_rfl) ?_
  apply Exists.intro
  refine ⟨?wk2, ?fin2⟩
  case wk2 =>
    intro γ
    simp only [List.drop_succ_cons, List.drop_zero, List.take_succ_cons, List.take_zero]
    repeat (any_goals (first | go_big_quiet_step (fail) | quiet_step (fail)))
    exact wpQuiet_nil rfl
  case fin2 =>
  (try simp only [Act.put, List.setIfInBounds_toArray, List.set_cons_zero, List.set_cons_succ])
  refine Ks.Wk.one rfl (fun w4 Xw4 => ?_)
  refine wpList_store_sl rfl 32 (.tmp 42) (.tmp 40) rfl g2 33 rfl a8 n c8 rfl i1 34 _ (P2.ext Xw4).blk (by rw [past_len _ _ _ P2.ah32]; decide) (fun w5 B5 F5 => ⟨rfl, F5.mono (fun k _ hk => .inr hk), ?_⟩)
  (try simp only [List.getElem_toArray, List.getElem_cons_succ, List.getElem_cons_zero, Act.put, List.setIfInBounds_toArray, List.set_cons_zero, List.set_cons_succ])
  rw [past_set _ _ _ _ P2.ah32] at B5
  have P3 : Pb w5 g2 z' ah' (.slice a8 n c8) := ⟨B5, P2.ah32⟩
  have P4 : Pb w5 g1 z ah (.slice a7 n c7) := ⟨(F5.block _ (lt_of_block (P1.ext Xw4).blk) H12.out).trans (P1.ext Xw4).blk, P1.ah32⟩
  have G5 : Fr (fun k => k = g1 ∨ k = g2) w w5 := (G3.trans Xw4 (fun _ h => h.elim)).trans F5 (fun k hk => .inl (.inr hk))
  intro w6 X6
  exact HQ.out _ _ (by first | rfl | simp) rfl rfl rfl rfl (P4.ext X6) (P3.ext X6) (G5.trans X6 (fun _ h => h.elim))
set_option maxRecDepth 100000 in
set_option maxHeartbeats 6400000 in
theorem co_last {Q : Exit → Act → World → Prop} {w : World} {g1 g2 q ci n lc mc rc sc : Nat} {ida la ma ra sa : Option Addr} {z z' : Int} {ah ah' : List UInt8} {L M : List (List UInt8)} {id : List UInt8} {R S : List (List UInt8)} {i0 : Nat} (hid : Came w ida q ci id) (hq6 : q ≤ 60000) (hn12 : n ≤ 12) (h1 : Pb w g1 z ah (.slice ra n rc)) (h2 : Pb w g2 z' ah' (.slice sa n sc)) (hL : Kv w la L) (hM : Kv w ma M) (hLn : L.length = n) (hMn : M.length = n) (hR : Kv w ra R) (hS : Kv w sa S) (hRn : R.length = n) (hSn : S.length = n) (hi0 : i0 < n) (hcl : Cl.at (Ck.tx id z R L ah n) (Ck.tx id z' S M ah' n) i0 i0 = true) (hE : REnv w) (fr : Array Value) (hn : fr.size = 94) (p0 : fr[0]? = some (.slice ida q ci)) (p4 : fr[4]? = some (.pointer (some ⟨g1, 0, none⟩))) (p5 : fr[5]? = some (.pointer (some ⟨g2, 0, none⟩))) (p10 : fr[10]? = some (.slice la n lc)) (p11 : fr[11]? = some (.slice ma n mc))
    (hQ : ∀ t' w', t'.size = 94 → t'[6]? = some (.bool true) → Fr (fun _ => False) w w' → Q .normal ⟨t', []⟩ w') :
    Code.wp Tryd.prog (regionAt Tryd.f5 10) Q ⟨fr, []⟩ w := by
  have hil := hid.len
  have HT1 := Lib.hid (fun (V : World) (F : Fr (fun _ => False) w V) => tx_any id z ah ra la n rc lc R L V (by omega) h1.ah32 hRn hLn hn12 (hR.ext F) (hL.ext F))
  have HT2 := Lib.hid (fun (V : World) (F : Fr (fun _ => False) w V) => tx_any id z' ah' sa ma n sc mc S M V (by omega) h2.ah32 hSn hMn hn12 (hS.ext F) (hM.ext F))
  have HCL := Lib.hid (fun (a8 b8 : Option Addr) (c8 d8 : Nat) (V : World) (F : Fr (fun _ => False) w V) (h5 : Sv V a8 (Ck.tx id z R L ah n)) (h8 : Sv V b8 (Ck.tx id z' S M ah' n)) => clash_any2 a8 b8 n n c8 d8 _ _ i0 i0 hi0 hi0 hcl V ⟨by omega, by omega, Ck.tx_len _ _ _ _ _ _, Ck.tx_len _ _ _ _ _ _, tx_small (by omega) hR.all hL.all h1.ah32, tx_small (by omega) hS.all hM.all h2.ah32, h5, h8, hE.ext F⟩)
  have HI := Lib.hid hid
  have HP1 := Lib.hid h1
  have HP2 := Lib.hid h2
  have HQ := Lib.hid hQ
  obtain ⟨X1, hX1⟩ : ∃ X1, X1 = Ck.tx id z R L ah n := ⟨_, rfl⟩
  obtain ⟨X2, hX2⟩ : ∃ X2, X2 = Ck.tx id z' S M ah' n := ⟨_, rfl⟩
  have HXL := Lib.hid (show X1.length = n ∧ X2.length = n from ⟨by rw [hX1]; exact Ck.tx_len _ _ _ _ _ _, by rw [hX2]; exact Ck.tx_len _ _ _ _ _ _⟩)
  rw [← hX1] at HT1 HCL
  rw [← hX2] at HT2 HCL
  obtain ⟨C1, hC1⟩ : ∃ C1, C1 = pastRow z ah (.slice ra n rc) := ⟨_, rfl⟩
  obtain ⟨C2, hC2⟩ : ∃ C2, C2 = pastRow z' ah' (.slice sa n sc) := ⟨_, rfl⟩
  have HB1 := Lib.hid (show w.heap[g1]? = some (.cells C1 34 (0, 0)) by rw [hC1]; exact h1.blk)
  have HB2 := Lib.hid (show w.heap[g2]? = some (.cells C2 34 (0, 0)) by rw [hC2]; exact h2.blk)
  have sC1 : (Tryd.prog.info? 34).map (·.size) = some C1.size := by rw [hC1]; exact past_size _ _ _ h1.ah32
  have sC2 : (Tryd.prog.info? 34).map (·.size) = some C2.size := by rw [hC2]; exact past_size _ _ _ h2.ah32
  rw [← hC1] at HT1
  rw [← hC2] at HT2
  clear hQ hid hq6 hn12 h1 h2 hL hM hLn hMn hR hS hRn hSn hi0 hcl hE hil hX1 hX2 hC1 hC2
  obtain ⟨f, hff, rfl⟩ := frame_open hn
  have e0 := hff 0 _ p0
  have e4 := hff 4 _ p4
  have e5 := hff 5 _ p5
  have e10 := hff 10 _ p10
  have e11 := hff 11 _ p11
  clear hff hn p0 p4 p5 p10 p11
  rw [lit94, e0, e4, e5, e10, e11]
  clear e0 e4 e5 e10 e11
  conv => arg 2; whnf
  refine Ks.wp_region_mono (fun _ => False) (sg 0 4 ++ (sg 5 4 ++ ((4, true) :: ((9, true) :: ((10, true) :: ((11, true) :: ([]))))))) (by kernel_rfl) (by kernel_rfl) ?_
  refine Ks.Wk.seg 0 4 (by kernel_rfl) (by kernel_rfl) ?_
  apply Exists.intro
  refine ⟨?wk0, ?fin0⟩
  case wk0 =>
    intro γ
    have cx : ∀ u : Ks.Ws γ, (convert 22 9 (.slice ida q ci)).run Tryd.prog u.w = .ok (.string ⟨id.toArray⟩) u.w := fun u => (HI.out.ext u.h).str2
    simp only [List.drop_succ_cons, List.drop_zero, List.take_succ_cons, List.take_zero]
    repeat (any_goals (first | (focus (go_big_quiet_want; (refine Ks.quiet_load_rows 34 (.tmp 4) rfl g1 rfl 34 C1 (0, 0) _ HB1.out (fun h => h) Tryd.underlying34 rfl sC1 ?_); simp only [Act.put, List.setIfInBounds_toArray, List.set_cons_zero, List.set_cons_succ]; go_big_quiet_on)) | go_big_quiet_step (fail) | quiet_step (fail)))
    exact wpQuiet_nil rfl
  case fin0 =>
  (try simp only [Act.put, List.setIfInBounds_toArray, List.set_cons_zero, List.set_cons_succ])
  refine Ks.Wk.seg 5 4 (by kernel_rfl) (by kernel_rfl) ?_
  apply Exists.intro
  refine ⟨?wk1, ?fin1⟩
  case wk1 =>
    intro γ
    have cx : ∀ u : Ks.Ws γ, (convert 22 9 (.slice ida q ci)).run Tryd.prog u.w = .ok (.string ⟨id.toArray⟩) u.w := fun u => (HI.out.ext u.h).str2
    simp only [List.drop_succ_cons, List.drop_zero, List.take_succ_cons, List.take_zero]
    repeat (any_goals (first | (focus (go_big_quiet_want; (refine Ks.quiet_load_rows 34 (.tmp 5) rfl g2 rfl 34 C2 (0, 0) _ HB2.out (fun h => h) Tryd.underlying34 rfl sC2 ?_); simp only [Act.put, List.setIfInBounds_toArray, List.set_cons_zero, List.set_cons_succ]; go_big_quiet_on)) | go_big_quiet_step (fail) | quiet_step (fail)))
    exact wpQuiet_nil rfl
  case fin1 =>
  (try simp only [Act.put, List.setIfInBounds_toArray, List.set_cons_zero, List.set_cons_succ])
  refine Ks.Wk.call rfl (by kernel_rfl) 20 #[.string ⟨id.toArray⟩, .agg C1, .slice la n lc] (fun W => by first | kernel_rfl | rfl) (fun v V => Nonempty2 (Os V w.heap.size v X1)) (fun V hx => (HT1.out V hx).mono (fun e w' he => by obtain ⟨⟨v, e1, e2⟩, e3⟩ := he; exact ⟨v, e1, e3, ⟨own_up e2 hx.size⟩⟩)) ?_
  rintro v5 w5 X5 ⟨HT5⟩
  (try simp only [List.getElem_toArray, List.getElem_cons_succ, List.getElem_cons_zero, Act.put, List.setIfInBounds_toArray, List.set_cons_zero, List.set_cons_succ])
  obtain ⟨a5, c5, rfl, _, _, HV5, _⟩ := HT5.view
  have HS5 := Lib.hid HV5
  have HX5 := Lib.hid X5
  rw [HXL.out.1]
  clear HT5 HV5 X5
  refine Ks.Wk.call rfl (by kernel_rfl) 20 #[.string ⟨id.toArray⟩, .agg C2, .slice ma n mc] (fun W => by first | kernel_rfl | rfl) (fun v V => Nonempty2 (Os V w.heap.size v X2)) (fun V hx => (HT2.out V (HX5.out.trans hx (fun _ h => h.elim))).mono (fun e w' he => by obtain ⟨⟨v, e1, e2⟩, e3⟩ := he; exact ⟨v, e1, e3, ⟨own_up e2 (Nat.le_trans HX5.out.size hx.size)⟩⟩)) ?_
  rintro v8 w8 X8 ⟨HT8⟩
  (try simp only [List.getElem_toArray, List.getElem_cons_succ, List.getElem_cons_zero, Act.put, List.setIfInBounds_toArray, List.set_cons_zero, List.set_cons_succ])
  obtain ⟨a8, c8, rfl, _, _, HV8, _⟩ := HT8.view
  have HS8 := Lib.hid HV8
  have HS5b := Lib.hid (HS5.out.ext X8)
  have HX8 := Lib.hid (HX5.out.trans X8 (fun _ h => h.elim))
  rw [HXL.out.2]
  clear HT8 HV8 X8 HS5
  refine Ks.Wk.call rfl (by kernel_rfl) 19 #[.slice a5 n c5, .slice a8 n c8] (fun W => by first | kernel_rfl | rfl) (fun v V => v = .bool true) (fun V hx => (HCL.out a5 a8 c5 c8 V (HX8.out.trans hx (fun _ h => h.elim)) (HS5b.out.ext hx) (HS8.out.ext hx)).mono (fun e w' he => ⟨_, he.1, he.2, rfl⟩)) ?_
  rintro v9 w9 X9 rfl
  (try simp only [List.getElem_toArray, List.getElem_cons_succ, List.getElem_cons_zero, Act.put, List.setIfInBounds_toArray, List.set_cons_zero, List.set_cons_succ])
  have HX9 := Lib.hid (HX8.out.trans X9 (fun _ h => h.elim))
  clear X9 HS8 HS5b
  refine Ks.Wk.one rfl (fun w10 Xw10 => ?_)
  go_wp2_with fail
  refine ⟨Ks.Es.of (Fr.refl _ _), ?_⟩
  (try simp only [List.getElem_toArray, List.getElem_cons_succ, List.getElem_cons_zero, Act.put, List.setIfInBounds_toArray, List.set_cons_zero, List.set_cons_succ])
  intro w11 X11
  exact HQ.out _ _ (by first | rfl | simp) rfl (HX9.out.trans (Xw10.trans X11 (fun _ h => h.elim)) (fun _ h => h.elim))
end Go.Proofs.YtikdgjgcopjocaaDoor
namespace Go.Proofs.YtikdgjgcopjocaaDoor
open Go.RowKit
set_option linter.unusedVariables false
set_option linter.unusedSimpArgs false
set_option maxRecDepth 100000 in
set_option maxHeartbeats 6400000 in
theorem cone2_any (a0 : Option Addr) (n0 c0 : Nat) (l0 : List UInt8) (z1 z2 : Int) (ah1 ah2 : List UInt8) (a1 a2 : Option Addr) (n1 c1 n2 c2 : Nat) (P1 P2 : List (List UInt8)) (w : World) (h0 : Came w a0 n0 c0 l0) (hz1 : -9223372036854775808 ≤ z1 ∧ z1 ≤ 9223372036854775807) (hz2 : -9223372036854775808 ≤ z2 ∧ z2 ≤ 9223372036854775807) (hah1 : ah1.length = 32) (hah2 : ah2.length = 32) (hP1 : P1.length = n1) (hn1 : n1 ≤ c1) (hc1 : c1 ≤ maxLen) (hK1 : Kv w a1 P1) (hP2 : P2.length = n2) (hn2 : n2 ≤ c2) (hc2 : c2 ≤ maxLen) (hK2 : Kv w a2 P2) (hE : Env w) (hR : REnv w) :
    Calls Tryd.prog 5 #[.slice a0 n0 c0, .agg (pastRow z1 ah1 (.slice a1 n1 c1)), .agg (pastRow z2 ah2 (.slice a2 n2 c2))] w fun e w' => e = .returned (.bool true) ∧ Fr (fun _ => False) w w' := by
  obtain ⟨q, hq⟩ : ∃ q, q = min n0 50 := ⟨_, rfl⟩
  have q1 : min (n0 : Int) 50 = (q : Int) := by omega
  have q3 : q ≤ c0 := by have := h0.le; omega
  have q4 : (q : Int) ≤ (c0 : Int) := by omega
  have q7 : (0 : Int) ≤ (q : Int) := by omega
  have HQ6 := Lib.hid (show q ≤ 60000 by omega)
  have hx0 := h0.cut q (by omega) (Fr.refl _ w)
  generalize l0.take q = x at *
  obtain ⟨R0, hR0⟩ : ∃ R0, R0 = P1.take 12 := ⟨_, rfl⟩
  obtain ⟨S0, hS0⟩ : ∃ S0, S0 = P2.take 12 := ⟨_, rfl⟩
  obtain ⟨m1, hm1⟩ : ∃ m1, m1 = R0.length := ⟨_, rfl⟩
  obtain ⟨m2, hm2⟩ : ∃ m2, m2 = S0.length := ⟨_, rfl⟩
  obtain ⟨n, hn⟩ : ∃ n, n = min m1 m2 := ⟨_, rfl⟩
  have hmin : min (m1 : Int) (m2 : Int) = (n : Int) := by omega
  have HM := Lib.hid (show n ≤ m1 ∧ n ≤ m2 ∧ n ≤ 12 ∧ R0.length = m1 ∧ S0.length = m2 from ⟨by omega, by omega, by rw [hn, hm1, hR0, List.length_take]; omega, hm1.symm, hm2.symm⟩)
  have HRA := Lib.hid (show Lg.All32 R0 ∧ Lg.All32 S0 from ⟨by rw [hR0]; exact hK1.all.take 12, by rw [hS0]; exact hK2.all.take 12⟩)
  have HF1 := Lib.hid (fun (V : World) (F : Fr (fun _ => False) w V) => few32_any a1 n1 c1 P1 hP1 hn1 hc1 V (hK1.ext F))
  have HF2 := Lib.hid (fun (V : World) (F : Fr (fun _ => False) w V) => few32_any a2 n2 c2 P2 hP2 hn2 hc2 V (hK2.ext F))
  rw [← hR0] at HF1
  rw [← hS0] at HF2
  have HX := Lib.hid hx0
  have HE := Lib.hid hE
  have HR := Lib.hid hR
  have HZ := Lib.hid (And.intro hz1 hz2)
  have HAH := Lib.hid (And.intro hah1 hah2)
  have B1 := heap_alloc2_old w (.cells (pastRow z1 ah1 (.slice a1 n1 c1)) 34) (.cells (pastRow z2 ah2 (.slice a2 n2 c2)) 34)
  have B2 := heap_alloc2_new w (.cells (pastRow z1 ah1 (.slice a1 n1 c1)) 34) (.cells (pastRow z2 ah2 (.slice a2 n2 c2)) 34)
  have G1 := ((Fr.refl (fun _ => False) w).alloc (.cells (pastRow z1 ah1 (.slice a1 n1 c1)) 34)).alloc (.cells (pastRow z2 ah2 (.slice a2 n2 c2)) 34)
  have HB1 := Lib.hid (show Pb _ w.heap.size z1 ah1 (.slice a1 n1 c1) from ⟨B1, hah1⟩)
  have HB2 := Lib.hid (show Pb _ (w.heap.size + 1) z2 ah2 (.slice a2 n2 c2) from ⟨B2, hah2⟩)
  have HG1 := Lib.hid G1
  clear hq hx0 hR0 hS0 hm1 hm2 hn h0 hz1 hz2 hah1 hah2 hP1 hn1 hc1 hK1 hP2 hn2 hc2 hK2 hE hR B1 B2 G1
  generalize hC1 : pastRow z1 ah1 (.slice a1 n1 c1) = C1 at *
  generalize hC2 : pastRow z2 ah2 (.slice a2 n2 c2) = C2 at *
  clear hC1 hC2
  go_enter Tryd.func5, Tryd.ntmps5
  go_wp2_with fail
  generalize (w.alloc (.cells C1 34)).alloc (.cells C2 34) = w1 at *
  obtain ⟨g1, hg1⟩ : ∃ g1, g1 = w.heap.size := ⟨_, rfl⟩
  obtain ⟨g2, hg2⟩ : ∃ g2, g2 = w.heap.size + 1 := ⟨_, rfl⟩
  have HGG := Lib.hid (show w.heap.size ≤ g1 ∧ w.heap.size ≤ g2 ∧ g1 ≠ g2 from ⟨by omega, by omega, by omega⟩)
  rw [← hg2, ← hg1]
  rw [← hg1] at HB1
  rw [← hg2] at HB2
  clear hg1 hg2 q1 q3 q4
  refine Ks.wp_region_mono (fun _ => False) (sg 0 2 ++ (sg 3 2 ++ ((2, true) :: ((5, true) :: (sg 6 2 ++ ([])))))) (by kernel_rfl) (by kernel_rfl) ?_
  refine Ks.Wk.seg 0 2 (by kernel_rfl) (by kernel_rfl) ?_
  apply Exists.intro
  refine ⟨?wk0, ?fin0⟩
  case wk0 =>
    intro γ
    have k1 : ∀ u : Ks.Ws γ, u.w.cell? ⟨g1, 33, none⟩ = some (.slice a1 n1 c1) := fun u => (HB1.out.ext u.h).c33
    simp only [List.drop_succ_cons, List.drop_zero, List.take_succ_cons, List.take_zero]
    repeat (any_goals (first | go_big_quiet_step (fail) | quiet_step (fail)))
    exact wpQuiet_nil rfl
  case fin0 =>
  (try simp only [Act.put, List.setIfInBounds_toArray, List.set_cons_zero, List.set_cons_succ])
  refine Ks.Wk.seg 3 2 (by kernel_rfl) (by kernel_rfl) ?_
  apply Exists.intro
  refine ⟨?wk1, ?fin1⟩
  case wk1 =>
    intro γ
    have k2 : ∀ u : Ks.Ws γ, u.w.cell? ⟨g2, 33, none⟩ = some (.slice a2 n2 c2) := fun u => (HB2.out.ext u.h).c33
    simp only [List.drop_succ_cons, List.drop_zero, List.take_succ_cons, List.take_zero]
    repeat (any_goals (first | go_big_quiet_step (fail) | quiet_step (fail)))
    exact wpQuiet_nil rfl
  case fin1 =>
  (try simp only [Act.put, List.setIfInBounds_toArray, List.set_cons_zero, List.set_cons_succ])
  refine Ks.Wk.call rfl (by kernel_rfl) 13 #[.slice a1 n1 c1] (fun W => by first | kernel_rfl | rfl) (fun v V => Nonempty2 (Or32 V w1.heap.size v R0)) (fun V hx => (HF1.out V (HG1.out.trans hx (fun _ h => h.elim))).mono (fun e w' he => by obtain ⟨⟨v, e1, e2⟩, e3⟩ := he; exact ⟨v, e1, e3, ⟨own_up e2 hx.size⟩⟩)) ?_
  rintro v7 w2 X2 ⟨HO7⟩
  (try simp only [List.getElem_toArray, List.getElem_cons_succ, List.getElem_cons_zero, Act.put, List.setIfInBounds_toArray, List.set_cons_zero, List.set_cons_succ])
  have HX2 := Lib.hid X2
  clear X2
  refine Ks.Wk.call rfl (by kernel_rfl) 13 #[.slice a2 n2 c2] (fun W => by first | kernel_rfl | rfl) (fun v V => Nonempty2 (Or32 V w1.heap.size v S0)) (fun V hx => (HF2.out V (HG1.out.trans (HX2.out.trans hx (fun _ h => h.elim)) (fun _ h => h.elim))).mono (fun e w' he => by obtain ⟨⟨v, e1, e2⟩, e3⟩ := he; exact ⟨v, e1, e3, ⟨own_up e2 (Nat.le_trans HX2.out.size hx.size)⟩⟩)) ?_
  rintro v8 w3 X3 ⟨HO8⟩
  (try simp only [List.getElem_toArray, List.getElem_cons_succ, List.getElem_cons_zero, Act.put, List.setIfInBounds_toArray, List.set_cons_zero, List.set_cons_succ])
  have HX3 := Lib.hid (HX2.out.trans X3 (fun _ h => h.elim))
  have HO7b := Lib.hid (own_ext HO7 X3)
  have HO8b := Lib.hid HO8
  clear X3 HO7 HO8
  refine Ks.Wk.seg 6 2 (by kernel_rfl) (by kernel_rfl) ?_
  apply Exists.intro
  refine ⟨?wk4, ?fin4⟩
  case wk4 =>
    intro γ
    simp only [List.drop_succ_cons, List.drop_zero, List.take_succ_cons, List.take_zero]
    repeat (any_goals (first | go_big_quiet_step (fail) | quiet_step (fail)))
    exact wpQuiet_nil rfl
  case fin4 =>
  (try simp only [Act.put, List.setIfInBounds_toArray, List.set_cons_zero, List.set_cons_succ])
  intro w4 X4
  have HO7 := Lib.hid (show Or32 w4 w1.heap.size v7 R0 from own_ext HO7b.out X4)
  have HO8 := Lib.hid (show Or32 w4 w1.heap.size v8 S0 from own_ext HO8b.out X4)
  have HX4 := Lib.hid (HX3.out.trans X4 (fun _ h => h.elim))
  have HG4 := Lib.hid (HG1.out.trans HX4.out (fun _ h => h.elim))
  have HB14 := Lib.hid (HB1.out.ext HX4.out)
  have HB24 := Lib.hid (HB2.out.ext HX4.out)
  have HW1 := Lib.hid (show g1 < w1.heap.size ∧ g2 < w1.heap.size from ⟨lt_of_block HB1.out.blk, lt_of_block HB2.out.blk⟩)
  obtain ⟨a7, c7, rfl, h7a, h7b, hK7, hb7⟩ := HO7.out.view HRA.out.1
  obtain ⟨a8, c8, rfl, h8a, h8b, hK8, hb8⟩ := HO8.out.view HRA.out.2
  rw [HM.out.2.2.2.1] at h7a
  rw [HM.out.2.2.2.2] at h8a
  rw [HM.out.2.2.2.1, HM.out.2.2.2.2]
  have HK7 := Lib.hid (And.intro hK7 (And.intro hb7 (And.intro h7a h7b)))
  have HK8 := Lib.hid (And.intro hK8 (And.intro hb8 (And.intro h8a h8b)))
  have HCH := Lib.hid (fun (V : World) (F : Fr (fun _ => False) w V) => chains_any V (HE.out.ext F) (HR.out.ext F))
  clear X4 HX2 HX3 HO7b HO8b hK7 hb7 h7a h7b hK8 hb8 h8a h8b HO7 HO8 HB1 HB2 HG1 HX4 HF1 HF2
  go_wp2_with fail
  refine (HCH.out w4 HG4.out).mono ?_
  rintro e w5 ⟨rfl, F5⟩
  have HG5 := Lib.hid (HG4.out.trans F5 (fun _ h => h.elim))
  have HF5 := Lib.hid F5
  clear F5 hmin
  by_cases hn0 : n = 0
  · have b0 : ((n : Int) == 0) = true := by rw [hn0]; rfl
    clear hn0
    go_wp2_with fail
    refine (HCH.out w5 HG5.out).mono ?_
    rintro e w6 ⟨rfl, F6⟩
    have HG6 := Lib.hid (HG5.out.trans F6 (fun _ h => h.elim))
    clear F6
    go_wp2_with fail
    go_ret
    exact ⟨rfl, HG6.out⟩
  have HN := Lib.hid (show 0 < n by omega)
  have b0 : ((n : Int) == 0) = false := beq_eq_false_iff_ne.2 (by omega)
  clear hn0
  go_wp2_with fail
  refine co_set HM.out.1 HM.out.2.1 HK7.out.2.2.1 HK8.out.2.2.1 HGG.out.2.2 (HB14.out.ext HF5.out) (HB24.out.ext HF5.out) _ (by first | rfl | simp) rfl rfl rfl rfl rfl rfl ?_
  intro t6 w6 hn p0 p4 p5 p9 Pb1 Pb2 F6
  obtain ⟨R, hR⟩ : ∃ R, R = R0.take n := ⟨_, rfl⟩
  obtain ⟨S, hS⟩ : ∃ S, S = S0.take n := ⟨_, rfl⟩
  have hRn : R.length = n := by rw [hR, List.length_take, HM.out.2.2.2.1]; exact Nat.min_eq_left HM.out.1
  have hSn : S.length = n := by rw [hS, List.length_take, HM.out.2.2.2.2]; exact Nat.min_eq_left HM.out.2.1
  have kR : Kv w6 a7 R := by
    rw [hR]
    exact ((HK7.out.1.ext HF5.out).fr F6 (fun k hk h => by have := (HK7.out.2.1 k hk).1; have := HW1.out; rcases h with h | h <;> omega)).take n
  have kS : Kv w6 a8 S := by
    rw [hS]
    exact ((HK8.out.1.ext HF5.out).fr F6 (fun k hk h => by have := (HK8.out.2.1 k hk).1; have := HW1.out; rcases h with h | h <;> omega)).take n
  have HKR := Lib.hid kR
  have HKS := Lib.hid kS
  have HRN := Lib.hid (And.intro hRn hSn)
  have HG6 := Lib.hid (show Fr (fun _ => False) w w6 from HG5.out.trans F6 (fun k hk => .inr (by rcases hk with h | h; exact h ▸ HGG.out.1; exact h ▸ HGG.out.2.1)))
  have HP1 := Lib.hid Pb1
  have HP2 := Lib.hid Pb2
  have ht1 : R.take 12 = R := List.take_of_length_le (by rw [hRn]; exact HM.out.2.2.1)
  have ht2 : S.take 12 = S := List.take_of_length_le (by rw [hSn]; exact HM.out.2.2.1)
  have HL1 := Lib.hid (fun (V : World) (F : Fr (fun _ => False) w6 V) => links_any a0 q c0 x z1 ah1 a7 n c7 R V (HX.out.ext (HG6.out.trans F (fun _ h => h.elim))) HQ6.out HAH.out.1 hRn (Nat.le_trans HM.out.1 HK7.out.2.2.1) HK7.out.2.2.2 (kR.ext F) (HE.out.ext (HG6.out.trans F (fun _ h => h.elim))))
  have HL2 := Lib.hid (fun (V : World) (F : Fr (fun _ => False) w6 V) => links_any a0 q c0 x z2 ah2 a8 n c8 S V (HX.out.ext (HG6.out.trans F (fun _ h => h.elim))) HQ6.out HAH.out.2 hSn (Nat.le_trans HM.out.2.1 HK8.out.2.2.1) HK8.out.2.2.2 (kS.ext F) (HE.out.ext (HG6.out.trans F (fun _ h => h.elim))))
  rw [ht1, hRn] at HL1
  rw [ht2, hSn] at HL2
  obtain ⟨D1, hD1⟩ : ∃ D1, D1 = pastRow z1 ah1 (.slice a7 n c7) := ⟨_, rfl⟩
  obtain ⟨D2, hD2⟩ : ∃ D2, D2 = pastRow z2 ah2 (.slice a8 n c8) := ⟨_, rfl⟩
  have HD1 := Lib.hid (show w6.heap[g1]? = some (.cells D1 34 (0, 0)) by rw [hD1]; exact Pb1.blk)
  have HD2 := Lib.hid (show w6.heap[g2]? = some (.cells D2 34 (0, 0)) by rw [hD2]; exact Pb2.blk)
  have sD1 : (Tryd.prog.info? 34).map (·.size) = some D1.size := by rw [hD1]; exact past_size _ _ _ HAH.out.1
  have sD2 : (Tryd.prog.info? 34).map (·.size) = some D2.size := by rw [hD2]; exact past_size _ _ _ HAH.out.2
  rw [← hD1] at HL1
  rw [← hD2] at HL2
  obtain ⟨L, hL⟩ : ∃ L, L = Ck.links x z1 R ah1 n := ⟨_, rfl⟩
  obtain ⟨M, hM⟩ : ∃ M, M = Ck.links x z2 S ah2 n := ⟨_, rfl⟩
  rw [← hL] at HL1
  rw [← hM] at HL2
  have HLM := Lib.hid (And.intro hL hM)
  have HLA := Lib.hid (show Lg.All32 L ∧ Lg.All32 M ∧ L.length = n ∧ M.length = n from ⟨by rw [hL]; exact Ck.links_all n, by rw [hM]; exact Ck.links_all n, by rw [hL]; exact Ck.links_len _ _ _ _ _, by rw [hM]; exact Ck.links_len _ _ _ _ _⟩)
  clear b0 Pb1 Pb2 F6 hR hS hRn hSn kR kS ht1 ht2 hD1 hD2 hL hM HK7 HK8 HB14 HB24 HF5 HG4 HG5 HCH HW1
  obtain ⟨f, hff, rfl⟩ := frame_open hn
  have e0 := hff 0 _ p0
  have e4 := hff 4 _ p4
  have e5 := hff 5 _ p5
  have e9 := hff 9 _ p9
  clear hff hn p0 p4 p5 p9
  rw [lit94, e0, e4, e5, e9]
  clear e0 e4 e5 e9
  go_wp2_with fail
  refine Ks.wp_region_mono (fun _ => False) (sg 0 2 ++ (sg 3 2 ++ ((2, true) :: ((5, true) :: (sg 6 2 ++ ([])))))) (by kernel_rfl) (by kernel_rfl) ?_
  refine Ks.Wk.seg 0 2 (by kernel_rfl) (by kernel_rfl) ?_
  apply Exists.intro
  refine ⟨?wk0, ?fin0⟩
  case wk0 =>
    intro γ
    simp only [List.drop_succ_cons, List.drop_zero, List.take_succ_cons, List.take_zero]
    repeat (any_goals (first | (focus (go_big_quiet_want; (refine Ks.quiet_load_rows 34 (.tmp 4) rfl g1 rfl 34 D1 (0, 0) _ HD1.out (fun h => h) Tryd.underlying34 rfl sD1 ?_); simp only [Act.put, List.setIfInBounds_toArray, List.set_cons_zero, List.set_cons_succ]; go_big_quiet_on)) | go_big_quiet_step (fail) | quiet_step (fail)))
    exact wpQuiet_nil rfl
  case fin0 =>
  (try simp only [Act.put, List.setIfInBounds_toArray, List.set_cons_zero, List.set_cons_succ])
  refine Ks.Wk.seg 3 2 (by kernel_rfl) (by kernel_rfl) ?_
  apply Exists.intro
  refine ⟨?wk1, ?fin1⟩
  case wk1 =>
    intro γ
    simp only [List.drop_succ_cons, List.drop_zero, List.take_succ_cons, List.take_zero]
    repeat (any_goals (first | (focus (go_big_quiet_want; (refine Ks.quiet_load_rows 34 (.tmp 5) rfl g2 rfl 34 D2 (0, 0) _ HD2.out (fun h => h) Tryd.underlying34 rfl sD2 ?_); simp only [Act.put, List.setIfInBounds_toArray, List.set_cons_zero, List.set_cons_succ]; go_big_quiet_on)) | go_big_quiet_step (fail) | quiet_step (fail)))
    exact wpQuiet_nil rfl
  case fin1 =>
  (try simp only [Act.put, List.setIfInBounds_toArray, List.set_cons_zero, List.set_cons_succ])
  refine Ks.Wk.call rfl (by kernel_rfl) 14 #[.slice a0 q c0, .agg D1] (fun W => by first | kernel_rfl | rfl) (fun v V => Nonempty2 (Or32 V w6.heap.size v L)) (fun V hx => (HL1.out V hx).mono (fun e w' he => by obtain ⟨⟨v, e1, e2⟩, e3⟩ := he; exact ⟨v, e1, e3, ⟨own_up e2 hx.size⟩⟩)) ?_
  rintro v10 w7 X7 ⟨HO10⟩
  (try simp only [List.getElem_toArray, List.getElem_cons_succ, List.getElem_cons_zero, Act.put, List.setIfInBounds_toArray, List.set_cons_zero, List.set_cons_succ])
  have HX7 := Lib.hid X7
  clear X7
  refine Ks.Wk.call rfl (by kernel_rfl) 14 #[.slice a0 q c0, .agg D2] (fun W => by first | kernel_rfl | rfl) (fun v V => Nonempty2 (Or32 V w6.heap.size v M)) (fun V hx => (HL2.out V (HX7.out.trans hx (fun _ h => h.elim))).mono (fun e w' he => by obtain ⟨⟨v, e1, e2⟩, e3⟩ := he; exact ⟨v, e1, e3, ⟨own_up e2 (Nat.le_trans HX7.out.size hx.size)⟩⟩)) ?_
  rintro v11 w8 X8 ⟨HO11⟩
  (try simp only [List.getElem_toArray, List.getElem_cons_succ, List.getElem_cons_zero, Act.put, List.setIfInBounds_toArray, List.set_cons_zero, List.set_cons_succ])
  have HX8 := Lib.hid (HX7.out.trans X8 (fun _ h => h.elim))
  have HO10b := Lib.hid (own_ext HO10 X8)
  have HO11b := Lib.hid HO11
  clear X8 HO10 HO11
  refine Ks.Wk.seg 6 2 (by kernel_rfl) (by kernel_rfl) ?_
  apply Exists.intro
  refine ⟨?wk4, ?fin4⟩
  case wk4 =>
    intro γ
    simp only [List.drop_succ_cons, List.drop_zero, List.take_succ_cons, List.take_zero]
    repeat (any_goals (first | go_big_quiet_step (fail) | quiet_step (fail)))
    exact wpQuiet_nil rfl
  case fin4 =>
  (try simp only [Act.put, List.setIfInBounds_toArray, List.set_cons_zero, List.set_cons_succ])
  intro w9 X9
  have HO10 := Lib.hid (show Or32 w9 w6.heap.size v10 L from own_ext HO10b.out X9)
  have HO11 := Lib.hid (show Or32 w9 w6.heap.size v11 M from own_ext HO11b.out X9)
  have HX9 := Lib.hid (HX8.out.trans X9 (fun _ h => h.elim))
  obtain ⟨a10, c10, rfl, _, _, hK10, _⟩ := HO10.out.view HLA.out.1
  obtain ⟨a11, c11, rfl, _, _, hK11, _⟩ := HO11.out.view HLA.out.2.1
  rw [HLA.out.2.2.1, HLA.out.2.2.2]
  have HKL := Lib.hid hK10
  have HKM := Lib.hid hK11
  have HG9 := Lib.hid (HG6.out.trans HX9.out (fun _ h => h.elim))
  have HQ1 := Lib.hid (HP1.out.ext HX9.out)
  have HQ2 := Lib.hid (HP2.out.ext HX9.out)
  have HKR9 := Lib.hid (HKR.out.ext HX9.out)
  have HKS9 := Lib.hid (HKS.out.ext HX9.out)
  clear X9 HX7 HX8 HO10b HO11b hK10 hK11 HX9 HO10 HO11 HP1 HP2 HKR HKS HD1 HD2 sD1 sD2 HL1 HL2
  go_wp2_with fail
  have HMU := Lib.hid (show (L.getD (n - 1) [] == M.getD (n - 1) []) = true → ¬ (z1 = z2 ∧ ah1 = ah2 ∧ R = S) → ∃ i, i < n ∧ Cl.at (Ck.tx x z1 R L ah1 n) (Ck.tx x z2 S M ah2 n) i i = true from fun h hne => by
    have he := eq_of_beq h
    have hn := HN.out
    rw [HLM.out.1, HLM.out.2, Ck.links_get (by omega), Ck.links_get (by omega), show n - 1 + 1 = n by omega] at he
    rw [HLM.out.1, HLM.out.2]
    exact Ck.must hn HZ.out.1.1 HZ.out.1.2 HZ.out.2.1 HZ.out.2.2 HKR9.out.all HKS9.out.all HRN.out.1 HRN.out.2 HAH.out.1 HAH.out.2 he hne)
  cases hxy : (L.getD (n - 1) [] == M.getD (n - 1) []) with
  | false =>
    refine co_unlike HN.out HM.out.2.2.1 HQ1.out HQ2.out HKL.out HKM.out HLA.out.2.2.1 HLA.out.2.2.2 hxy _ (by first | rfl | simp) rfl rfl rfl rfl rfl rfl ?_
    intro t9 w10 hn p0 p4 p5 p9 p10 p11 p82 F10
    have HF10 := Lib.hid (HG9.out.trans F10 (fun _ h => h.elim))
    clear F10
    obtain ⟨f, hff, rfl⟩ := frame_open hn
    have e82 := hff 82 _ p82
    clear hff hn p82
    rw [lit94, e82]
    clear e82
    go_wp2_with fail
    go_ret
    exact ⟨rfl, HF10.out⟩
  | true =>
    cases hz : (z1 == z2) with
    | false =>
      refine co_from HN.out HM.out.2.2.1 HQ1.out HQ2.out HKL.out HKM.out HLA.out.2.2.1 HLA.out.2.2.2 hxy hz _ (by first | rfl | simp) rfl rfl rfl rfl rfl rfl ?_
      intro t9 w10 hn p0 p4 p5 p9 p10 p11 p82 F10
      obtain ⟨i0, hi0, hcl⟩ := HMU.out hxy (fun h => by rw [h.1, beq_self_eq_true] at hz; cases hz)
      have HCL := Lib.hid (And.intro hi0 hcl)
      have HF10 := Lib.hid (HG9.out.trans F10 (fun _ h => h.elim))
      have HE10 := Lib.hid F10
      clear F10 hi0 hcl
      obtain ⟨f, hff, rfl⟩ := frame_open hn
      have e0 := hff 0 _ p0
      have e4 := hff 4 _ p4
      have e5 := hff 5 _ p5
      have e9 := hff 9 _ p9
      have e10 := hff 10 _ p10
      have e11 := hff 11 _ p11
      have e82 := hff 82 _ p82
      clear hff hn p0 p4 p5 p9 p10 p11 p82
      rw [lit94, e0, e4, e5, e9, e10, e11, e82]
      clear e0 e4 e5 e9 e10 e11 e82
      go_wp2_with fail
      refine co_last (HX.out.ext HF10.out) HQ6.out HM.out.2.2.1 (HQ1.out.ext HE10.out) (HQ2.out.ext HE10.out) (HKL.out.ext HE10.out) (HKM.out.ext HE10.out) HLA.out.2.2.1 HLA.out.2.2.2 (HKR9.out.ext HE10.out) (HKS9.out.ext HE10.out) HRN.out.1 HRN.out.2 HCL.out.1 HCL.out.2 (HR.out.ext HF10.out) _ (by first | rfl | simp) rfl rfl rfl rfl rfl ?_
      intro t10 w11 hn p6 F11
      have HF11 := Lib.hid (HF10.out.trans F11 (fun _ h => h.elim))
      clear F11
      obtain ⟨f, hff, rfl⟩ := frame_open hn
      have e6 := hff 6 _ p6
      clear hff hn p6
      rw [lit94, e6]
      clear e6
      go_wp2_with fail
      go_ret
      exact ⟨rfl, HF11.out⟩
    | true =>
      cases ha : (ah1 == ah2) with
      | false =>
        refine co_ahead HN.out HM.out.2.2.1 HQ1.out HQ2.out HKL.out HKM.out HLA.out.2.2.1 HLA.out.2.2.2 hxy hz ha _ (by first | rfl | simp) rfl rfl rfl rfl rfl rfl ?_
        intro t9 w10 hn p0 p4 p5 p9 p10 p11 p82 F10
        obtain ⟨i0, hi0, hcl⟩ := HMU.out hxy (fun h => by rw [h.2.1, beq_self_eq_true] at ha; cases ha)
        have HCL := Lib.hid (And.intro hi0 hcl)
        have HF10 := Lib.hid (HG9.out.trans F10 (fun _ h => h.elim))
        have HE10 := Lib.hid F10
        clear F10 hi0 hcl
        obtain ⟨f, hff, rfl⟩ := frame_open hn
        have e0 := hff 0 _ p0
        have e4 := hff 4 _ p4
        have e5 := hff 5 _ p5
        have e9 := hff 9 _ p9
        have e10 := hff 10 _ p10
        have e11 := hff 11 _ p11
        have e82 := hff 82 _ p82
        clear hff hn p0 p4 p5 p9 p10 p11 p82
        rw [lit94, e0, e4, e5, e9, e10, e11, e82]
        clear e0 e4 e5 e9 e10 e11 e82
        go_wp2_with fail
        refine co_last (HX.out.ext HF10.out) HQ6.out HM.out.2.2.1 (HQ1.out.ext HE10.out) (HQ2.out.ext HE10.out) (HKL.out.ext HE10.out) (HKM.out.ext HE10.out) HLA.out.2.2.1 HLA.out.2.2.2 (HKR9.out.ext HE10.out) (HKS9.out.ext HE10.out) HRN.out.1 HRN.out.2 HCL.out.1 HCL.out.2 (HR.out.ext HF10.out) _ (by first | rfl | simp) rfl rfl rfl rfl rfl ?_
        intro t10 w11 hn p6 F11
        have HF11 := Lib.hid (HF10.out.trans F11 (fun _ h => h.elim))
        clear F11
        obtain ⟨f, hff, rfl⟩ := frame_open hn
        have e6 := hff 6 _ p6
        clear hff hn p6
        rw [lit94, e6]
        clear e6
        go_wp2_with fail
        go_ret
        exact ⟨rfl, HF11.out⟩
      | true =>
        refine co_same HN.out HM.out.2.2.1 HQ1.out HQ2.out HKL.out HKM.out HLA.out.2.2.1 HLA.out.2.2.2 hxy hz ha HKR9.out HKS9.out HRN.out.1 HRN.out.2 _ (by first | rfl | simp) rfl rfl rfl rfl rfl rfl ?_
        intro t9 w10 b hn p0 p4 p5 p9 p10 p11 p82 hb F10
        cases b with
        | true =>
          have HF10 := Lib.hid (HG9.out.trans F10 (fun _ h => h.elim))
          clear F10
          obtain ⟨f, hff, rfl⟩ := frame_open hn
          have e82 := hff 82 _ p82
          clear hff hn p82
          rw [lit94, e82]
          clear e82
          go_wp2_with fail
          go_ret
          exact ⟨rfl, HF10.out⟩
        | false =>
          obtain ⟨i0, hi0, hcl⟩ := HMU.out hxy (fun h => by have := hb.2 h.2.2; cases this)
          have HCL := Lib.hid (And.intro hi0 hcl)
          have HF10 := Lib.hid (HG9.out.trans F10 (fun _ h => h.elim))
          have HE10 := Lib.hid F10
          clear F10 hi0 hcl
          obtain ⟨f, hff, rfl⟩ := frame_open hn
          have e0 := hff 0 _ p0
          have e4 := hff 4 _ p4
          have e5 := hff 5 _ p5
          have e9 := hff 9 _ p9
          have e10 := hff 10 _ p10
          have e11 := hff 11 _ p11
          have e82 := hff 82 _ p82
          clear hff hn p0 p4 p5 p9 p10 p11 p82
          rw [lit94, e0, e4, e5, e9, e10, e11, e82]
          clear e0 e4 e5 e9 e10 e11 e82
          go_wp2_with fail
          refine co_last (HX.out.ext HF10.out) HQ6.out HM.out.2.2.1 (HQ1.out.ext HE10.out) (HQ2.out.ext HE10.out) (HKL.out.ext HE10.out) (HKM.out.ext HE10.out) HLA.out.2.2.1 HLA.out.2.2.2 (HKR9.out.ext HE10.out) (HKS9.out.ext HE10.out) HRN.out.1 HRN.out.2 HCL.out.1 HCL.out.2 (HR.out.ext HF10.out) _ (by first | rfl | simp) rfl rfl rfl rfl rfl ?_
          intro t10 w11 hn p6 F11
          have HF11 := Lib.hid (HF10.out.trans F11 (fun _ h => h.elim))
          clear F11
          obtain ⟨f, hff, rfl⟩ := frame_open hn
          have e6 := hff 6 _ p6
          clear hff hn p6
          rw [lit94, e6]
          clear e6
          go_wp2_with fail
          go_ret
          exact ⟨rfl, HF11.out⟩
end Go.Proofs.YtikdgjgcopjocaaDoor
namespace Go.Proofs.YtikdgjgcopjocaaDoor
open Go.ChangeShapes Go.WideShapes Go.ChangeAt Go.RowKit
set_option linter.unusedVariables false

set_option maxRecDepth 100000 in
theorem open_past2 {H : Type} {enc : TypeId × Value → H} {W : World} {base : Nat} {v : Value} {d : DataW H} {p : List MemPlace} (hval : Value.okWide Tryd.prog W .any base 34 v) (h1 : DataW.Trod enc Tryd.prog W 0 (fun _ => true) true 34 v d p) :
    ∃ (z : Int) (ah : List UInt8) (a : Option Addr) (m c : Nat) (P : List (List UInt8)), v = .agg (pastRow z ah (.slice a m c)) ∧ (Lit.int .i64 z).wf = true ∧ ah.length = 32 ∧ P.length = m ∧ m ≤ c ∧ c ≤ maxLen ∧ Kv W a P := by
  obtain ⟨cs, rfl, hsz⟩ := okWide_struct Tryd.underlying34 hval
  obtain ⟨fuel, hf⟩ := h1
  have hc : Tryd.prog.cellsOf 34 = 34 := by kernel_rfl
  rw [hc] at hsz
  obtain ⟨y0, y1, y2, n, hx, hlen, t0, t1, t2⟩ := Deep.trod_struct3 Tryd.underlying34 hf
  obtain ⟨z0, e0, _, w0⟩ := DataW.trod_int Tryd.underlying3 t0
  obtain ⟨ah, e1, l1⟩ := cells_row32 t1
  obtain ⟨a, m, c, P, e2, k0, k1, k2, k3⟩ := cells_rows32 t2
  have c32 : Tryd.prog.cellsOf 23 = 32 := by kernel_rfl
  have c1 : Tryd.prog.cellsOf 3 = 1 := by kernel_rfl
  have c2 : Tryd.prog.cellsOf 32 = 1 := by kernel_rfl
  simp only [c32, c1, c2, Value.cells] at e0 e1 e2
  have hl : cs.toList.length = 34 := by simpa using hsz
  refine ⟨z0, ah, a, m, c, P, ?_, w0, l1, k0, k1, k2, k3⟩
  congr 1
  apply Array.toList_inj.1
  unfold pastRow
  generalize cs.toList = L at *
  show L = [Value.int .i64 z0] ++ (bv ah ++ [Value.slice a m c])
  rw [← e0, ← e1, ← e2]
  show L = (L.drop 0).take 1 ++ ((L.drop 1).take 32 ++ (L.drop 33).take 1)
  have f2 : (L.drop 33).take 1 = L.drop 33 := List.take_of_length_le (by rw [List.length_drop]; omega)
  have f1 : (L.drop 1).take 32 ++ L.drop 33 = L.drop 1 := by
    have := List.take_append_drop 32 (L.drop 1); rwa [List.drop_drop] at this
  rw [f2, f1, List.drop_zero, List.take_append_drop]
end Go.Proofs.YtikdgjgcopjocaaDoor

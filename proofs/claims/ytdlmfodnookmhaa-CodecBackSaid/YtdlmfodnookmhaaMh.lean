/-
  The laws' next: each kind of part.
-/
import Derived.Test.YtdlmfodnookmhaaMg
namespace Go.Proofs.Ytdlmfodnookmhaa
open Go.RowKit
set_option linter.unusedVariables false
set_option linter.unusedSimpArgs false
theorem pt_set1 (k z z' : Int) (f : Nat → UInt8) (t : List UInt8) : (pt k z f t).setIfInBounds 1 (.int .i64 z') = pt k z' f t := by
  apply Array.toList_inj.1
  simp [pt]
theorem pt_put (k z : Int) (f f' : Nat → UInt8) (t : List UInt8) : ((pt k z f t).toList.take 2 ++ (ub 32 f').toList ++ (pt k z f t).toList.drop (2 + 32)).toArray = pt k z f' t := by
  have hu : (ub 32 f).toList.length = 32 := by rw [Array.length_toList, ub_size]
  apply Array.toList_inj.1
  unfold pt
  rw [Array.toList_append, Array.toList_append, Array.toList_append, Array.toList_append]
  generalize (ub 32 f).toList = L at *
  generalize (ub 32 f').toList = L' at *
  show [Value.int .i64 k, .int .i64 z] ++ L' ++ (Value.int .i64 k :: Value.int .i64 z :: (L ++ [Value.string ⟨t.toArray⟩])).drop (32 + 1 + 1) = [Value.int .i64 k, .int .i64 z] ++ (L' ++ [Value.string ⟨t.toArray⟩])
  rw [List.drop_succ_cons, List.drop_succ_cons, ← hu, List.drop_left, List.append_assoc]
theorem b8_nat (u j : Nat) : (b8 u j).toNat = u / 2 ^ (56 - 8 * j) % 256 := by unfold b8; rw [UInt8.toNat_ofNat']
theorem beN_be8 (u : Nat) (h : u < 18446744073709551616) : beN (be8 u) = u := by
  have e : be8 u = [b8 u 0, b8 u 1, b8 u 2, b8 u 3, b8 u 4, b8 u 5, b8 u 6, b8 u 7] := rfl
  have h0 : (b8 u 0).toNat = u / 72057594037927936 % 256 := b8_nat u 0
  have h1 : (b8 u 1).toNat = u / 281474976710656 % 256 := b8_nat u 1
  have h2 : (b8 u 2).toNat = u / 1099511627776 % 256 := b8_nat u 2
  have h3 : (b8 u 3).toNat = u / 4294967296 % 256 := b8_nat u 3
  have h4 : (b8 u 4).toNat = u / 16777216 % 256 := b8_nat u 4
  have h5 : (b8 u 5).toNat = u / 65536 % 256 := b8_nat u 5
  have h6 : (b8 u 6).toNat = u / 256 % 256 := b8_nat u 6
  have h7 : (b8 u 7).toNat = u / 1 % 256 := b8_nat u 7
  rw [e]
  unfold beN
  simp only [List.foldl_cons, List.foldl_nil, h0, h1, h2, h3, h4, h5, h6, h7]
  clear e h0 h1 h2 h3 h4 h5 h6 h7
  have g0 : u / 281474976710656 = u / 72057594037927936 * 256 + u / 281474976710656 % 256 := by omega
  have g1 : u / 1099511627776 = u / 281474976710656 * 256 + u / 1099511627776 % 256 := by omega
  have g2 : u / 4294967296 = u / 1099511627776 * 256 + u / 4294967296 % 256 := by omega
  have g3 : u / 16777216 = u / 4294967296 * 256 + u / 16777216 % 256 := by omega
  have g4 : u / 65536 = u / 16777216 * 256 + u / 65536 % 256 := by omega
  have g5 : u / 256 = u / 65536 * 256 + u / 256 % 256 := by omega
  have g6 : u = u / 256 * 256 + u % 256 := by omega
  have gz : (0 * 256 + u / 72057594037927936 % 256) = u / 72057594037927936 := by omega
  rw [gz, ← g0, ← g1, ← g2, ← g3, ← g4, ← g5, Nat.div_one]
  exact g6.symm
theorem wrap_back (z : Int) (u : Nat) (hz : In64 z) (hu : IntKind.u64.wrap z = (u : Int)) : u < 18446744073709551616 ∧ wrap64 (u : Int) = z := by
  unfold In64 at hz
  rw [IntKind.wrap_u64] at hu
  refine ⟨by omega, ?_⟩
  unfold wrap64
  omega
set_option maxRecDepth 100000 in
set_option maxHeartbeats 1600000 in
theorem nx_byte (br c g off : Nat) (z : Int) (f : Nat → UInt8) (t : List UInt8) (h0 : 0 ≤ z) (h9 : z ≤ 255) (rest : List UInt8) (w : World) (h : Rd w br (some ⟨g, off, none⟩) c ([UInt8.ofNat z.toNat] ++ rest) 0) :
    Calls Try.prog 13 #[.pointer (some ⟨br, 0, none⟩), .int .i64 1, .int .i64 300] w fun e w' => e = .returned (.agg (pt 1 z (fun _ => 0) [])) ∧ RdPost w w' br g (c - ([UInt8.ofNat z.toNat]).length) rest 0 := by
  have hy : ((UInt8.ofNat z.toNat).toNat : Int) = z := by rw [UInt8.toNat_ofNat']; omega
  have HY := Lib.hid hy
  clear hy h0 h9
  have HH := Lib.hid h
  have hbr : br < w.heap.size := lt_of_block h.blk
  have HBR := Lib.hid hbr
  have hgg : g < w.heap.size := by
    rcases h.lies with e | ⟨g', o', e, hc⟩
    · simp at e
    · cases e
      exact World.block_lt_of_cell? _ _ (hc 0 (by simp))
  have HGG := Lib.hid hgg
  have K1 := ((Kn.start w).new w.heap.size 35 #[.int .i64 0, .int .i64 0, .int .u8 0, .int .u8 0, .int .u8 0, .int .u8 0, .int .u8 0, .int .u8 0, .int .u8 0, .int .u8 0, .int .u8 0, .int .u8 0, .int .u8 0, .int .u8 0, .int .u8 0, .int .u8 0, .int .u8 0, .int .u8 0, .int .u8 0, .int .u8 0, .int .u8 0, .int .u8 0, .int .u8 0, .int .u8 0, .int .u8 0, .int .u8 0, .int .u8 0, .int .u8 0, .int .u8 0, .int .u8 0, .int .u8 0, .int .u8 0, .int .u8 0, .int .u8 0, .string ⟨#[]⟩] 34 rfl zPt2).new (w.heap.size + 1) 35 #[.int .i64 0, .int .i64 0, .int .u8 0, .int .u8 0, .int .u8 0, .int .u8 0, .int .u8 0, .int .u8 0, .int .u8 0, .int .u8 0, .int .u8 0, .int .u8 0, .int .u8 0, .int .u8 0, .int .u8 0, .int .u8 0, .int .u8 0, .int .u8 0, .int .u8 0, .int .u8 0, .int .u8 0, .int .u8 0, .int .u8 0, .int .u8 0, .int .u8 0, .int .u8 0, .int .u8 0, .int .u8 0, .int .u8 0, .int .u8 0, .int .u8 0, .int .u8 0, .int .u8 0, .int .u8 0, .string ⟨#[]⟩] 34 (by simp) zPt2
  clear h hbr hgg
  go_enter Try.func13, Try.ntmps13
  go_upto_region 2 with (first | (focus (((with_reducible refine' wpList_store_kn K1 rfl 34 (.tmp 7) (.tmp 9) rfl 0 _ _ _ _ _ rfl rfl szPt _ _ _); rotate_left 2; (focus exact rfl)); (focus exact pt_sz 1 0 (fun _ => 0) []); intro wz Kz; clear K1; have K2 : Kn w [⟨w.heap.size + 1, 35, pt 1 0 (fun _ => 0) [], 34⟩, ⟨w.heap.size, 35, #[.int .i64 0, .int .i64 0, .int .u8 0, .int .u8 0, .int .u8 0, .int .u8 0, .int .u8 0, .int .u8 0, .int .u8 0, .int .u8 0, .int .u8 0, .int .u8 0, .int .u8 0, .int .u8 0, .int .u8 0, .int .u8 0, .int .u8 0, .int .u8 0, .int .u8 0, .int .u8 0, .int .u8 0, .int .u8 0, .int .u8 0, .int .u8 0, .int .u8 0, .int .u8 0, .int .u8 0, .int .u8 0, .int .u8 0, .int .u8 0, .int .u8 0, .int .u8 0, .int .u8 0, .int .u8 0, .string ⟨#[]⟩], 34⟩] wz := Kz; clear Kz; try (simp only [Act.put, List.setIfInBounds_toArray, List.set_cons_zero, List.set_cons_succ]))))
  have hp2 := K2.heap 0 rfl
  have hr2 := K2.heap 1 rfl
  have HF2 := Lib.hid K2.fr
  have H2 := Lib.hid (HH.out.fr K2.fr (fun h => h) (fun _ _ h => h))
  clear K2 HH
  obtain ⟨gr, hgr⟩ : ∃ gr, gr = w.heap.size := ⟨_, rfl⟩
  rw [← hgr] at hp2 hr2 HBR HGG ⊢
  have HGR := Lib.hid hgr
  clear hgr
  obtain ⟨gp, hgp⟩ : ∃ gp, gp = gr + 1 := ⟨_, rfl⟩
  rw [← hgp] at hp2 ⊢
  have HGP := Lib.hid hgp
  have HP2 := Lib.hid hp2
  have HR2 := Lib.hid hr2
  clear hgp hp2 hr2
  go_wp2_with fail
  refine (byte_yes br c g off (UInt8.ofNat z.toNat) rest _ H2.out).mono ?_
  rw [HY.out]
  rintro e w3 ⟨rfl, o2, h3, F3⟩
  have hp3 := (F3.block gp (lt_of_block HP2.out) (fun e => by have := HBR.out; have := HGP.out; omega)).trans HP2.out
  have hr3 := (F3.block gr (lt_of_block HR2.out) (fun e => by have := HBR.out; omega)).trans HR2.out
  have HF3 := Lib.hid ((HF2.out.mono (fun _ _ h => h.elim)).trans F3 (fun i hi => .inl hi))
  have H3 := Lib.hid h3
  have HR3 := Lib.hid hr3
  clear F3 h3 hr3 HP2 HR2 HF2 H2
  go_upto_region 14 with (first | (focus (((with_reducible refine' wpList_store_one rfl 3 (.tmp 15) (.tmp 14) rfl gp 1 rfl (.int .i64 z) rfl rfl rfl szI 34 _ hp3 _ _); (focus (rw [pt_size]; decide)); intro wz hz Fz; rw [pt_set1] at hz; have F4 := Fz; have hp4 := hz; clear Fz hz hp3; try (simp only [Act.put, List.setIfInBounds_toArray, List.set_cons_zero, List.set_cons_succ])))))
  have hr4 := (F4.block gr (lt_of_block HR3.out) (fun e => by have := HGP.out; omega)).trans HR3.out
  go_wp2_with (first | (focus (((with_reducible refine' wpList_load_row rfl 34 (.tmp 7) rfl gp rfl 34 _ (0, 0) _ hp4 Try.underlying34 rfl (by rw [szPt, pt_size]) _)); try (simp only [Act.put, List.setIfInBounds_toArray, List.set_cons_zero, List.set_cons_succ]))) | (focus (((with_reducible refine' wpList_store_part rfl 34 (.tmp 6) (.tmp 38) rfl gr 0 (pt 1 z (fun _ => 0) []) rfl rfl _ (pt_one _ _ _ _) 34 _ hr4 _ _); (focus (rw [pt_size]; exact szPt)); (focus (rw [pt_size]; decide)); intro wz hz Fz; rw [whole_put _ _ (by rw [pt_size]; decide)] at hz; have hz5 := hz; have F5 := Fz; clear hz Fz; try (simp only [Act.put, List.setIfInBounds_toArray, List.set_cons_zero, List.set_cons_succ])))))
  refine bodyPost_ret (results_cell_row rfl _ _ gr 34 _ (0, 0) _ rfl hz5 Try.underlying34 rfl (by rw [szPt, pt_size])) rfl ?_
  refine ⟨rfl, o2, (H3.out.fr F4 (fun e => by have := HBR.out; have := HGP.out; omega) (fun k hk e => by obtain ⟨ad, e1, e2⟩ := hk; cases e1; have := HGG.out; have := HGP.out; simp at e2; omega)).fr F5 (fun e => by have := HBR.out; omega) (fun k hk e => by obtain ⟨ad, e1, e2⟩ := hk; cases e1; have := HGG.out; simp at e2; omega), ?_⟩
  exact (HF3.out.trans F4 (fun i hi => .inr (by have := HGP.out; have := HGR.out; omega))).trans F5 (fun i hi => .inr (by have := HGR.out; omega))
set_option maxRecDepth 100000 in
set_option maxHeartbeats 1600000 in
theorem nx_flag1 (br c g off : Nat) (z : Int) (f : Nat → UInt8) (t : List UInt8) (rest : List UInt8) (w : World) (h : Rd w br (some ⟨g, off, none⟩) c ([UInt8.ofNat 1] ++ rest) 0) :
    Calls Try.prog 13 #[.pointer (some ⟨br, 0, none⟩), .int .i64 2, .int .i64 300] w fun e w' => e = .returned (.agg (pt 2 1 (fun _ => 0) [])) ∧ RdPost w w' br g (c - ([UInt8.ofNat 1]).length) rest 0 := by
  have HH := Lib.hid h
  have hbr : br < w.heap.size := lt_of_block h.blk
  have HBR := Lib.hid hbr
  have hgg : g < w.heap.size := by
    rcases h.lies with e | ⟨g', o', e, hc⟩
    · simp at e
    · cases e
      exact World.block_lt_of_cell? _ _ (hc 0 (by simp))
  have HGG := Lib.hid hgg
  have K1 := ((Kn.start w).new w.heap.size 35 #[.int .i64 0, .int .i64 0, .int .u8 0, .int .u8 0, .int .u8 0, .int .u8 0, .int .u8 0, .int .u8 0, .int .u8 0, .int .u8 0, .int .u8 0, .int .u8 0, .int .u8 0, .int .u8 0, .int .u8 0, .int .u8 0, .int .u8 0, .int .u8 0, .int .u8 0, .int .u8 0, .int .u8 0, .int .u8 0, .int .u8 0, .int .u8 0, .int .u8 0, .int .u8 0, .int .u8 0, .int .u8 0, .int .u8 0, .int .u8 0, .int .u8 0, .int .u8 0, .int .u8 0, .int .u8 0, .string ⟨#[]⟩] 34 rfl zPt2).new (w.heap.size + 1) 35 #[.int .i64 0, .int .i64 0, .int .u8 0, .int .u8 0, .int .u8 0, .int .u8 0, .int .u8 0, .int .u8 0, .int .u8 0, .int .u8 0, .int .u8 0, .int .u8 0, .int .u8 0, .int .u8 0, .int .u8 0, .int .u8 0, .int .u8 0, .int .u8 0, .int .u8 0, .int .u8 0, .int .u8 0, .int .u8 0, .int .u8 0, .int .u8 0, .int .u8 0, .int .u8 0, .int .u8 0, .int .u8 0, .int .u8 0, .int .u8 0, .int .u8 0, .int .u8 0, .int .u8 0, .int .u8 0, .string ⟨#[]⟩] 34 (by simp) zPt2
  clear h hbr hgg
  go_enter Try.func13, Try.ntmps13
  go_upto_region 2 with (first | (focus (((with_reducible refine' wpList_store_kn K1 rfl 34 (.tmp 7) (.tmp 9) rfl 0 _ _ _ _ _ rfl rfl szPt _ _ _); rotate_left 2; (focus exact rfl)); (focus exact pt_sz 2 0 (fun _ => 0) []); intro wz Kz; clear K1; have K2 : Kn w [⟨w.heap.size + 1, 35, pt 2 0 (fun _ => 0) [], 34⟩, ⟨w.heap.size, 35, #[.int .i64 0, .int .i64 0, .int .u8 0, .int .u8 0, .int .u8 0, .int .u8 0, .int .u8 0, .int .u8 0, .int .u8 0, .int .u8 0, .int .u8 0, .int .u8 0, .int .u8 0, .int .u8 0, .int .u8 0, .int .u8 0, .int .u8 0, .int .u8 0, .int .u8 0, .int .u8 0, .int .u8 0, .int .u8 0, .int .u8 0, .int .u8 0, .int .u8 0, .int .u8 0, .int .u8 0, .int .u8 0, .int .u8 0, .int .u8 0, .int .u8 0, .int .u8 0, .int .u8 0, .int .u8 0, .string ⟨#[]⟩], 34⟩] wz := Kz; clear Kz; try (simp only [Act.put, List.setIfInBounds_toArray, List.set_cons_zero, List.set_cons_succ]))))
  have hp2 := K2.heap 0 rfl
  have hr2 := K2.heap 1 rfl
  have HF2 := Lib.hid K2.fr
  have H2 := Lib.hid (HH.out.fr K2.fr (fun h => h) (fun _ _ h => h))
  clear K2 HH
  obtain ⟨gr, hgr⟩ : ∃ gr, gr = w.heap.size := ⟨_, rfl⟩
  rw [← hgr] at hp2 hr2 HBR HGG ⊢
  have HGR := Lib.hid hgr
  clear hgr
  obtain ⟨gp, hgp⟩ : ∃ gp, gp = gr + 1 := ⟨_, rfl⟩
  rw [← hgp] at hp2 ⊢
  have HGP := Lib.hid hgp
  have HP2 := Lib.hid hp2
  have HR2 := Lib.hid hr2
  clear hgp hp2 hr2
  have hy : ((UInt8.ofNat 1).toNat : Int) = 1 := rfl
  go_wp2_with fail
  refine (flag_yes br c g off (UInt8.ofNat 1) (by decide) rest _ H2.out).mono ?_
  rw [show ((((UInt8.ofNat 1).toNat : Int)) == 1) = true from rfl]
  rintro e w3 ⟨rfl, o2, h3, F3⟩
  have hp3 := (F3.block gp (lt_of_block HP2.out) (fun e => by have := HBR.out; have := HGP.out; omega)).trans HP2.out
  have hr3 := (F3.block gr (lt_of_block HR2.out) (fun e => by have := HBR.out; omega)).trans HR2.out
  have HF3 := Lib.hid ((HF2.out.mono (fun _ _ h => h.elim)).trans F3 (fun i hi => .inl hi))
  have H3 := Lib.hid h3
  have HR3 := Lib.hid hr3
  clear F3 h3 hr3 HP2 HR2 HF2 H2
  go_upto_region 14 with (first | (focus (((with_reducible refine' wpList_store_one rfl 3 (.tmp 20) (.const (.int .i64 1)) rfl gp 1 rfl (.int .i64 1) rfl rfl rfl szI 34 _ hp3 _ _); (focus (rw [pt_size]; decide)); intro wz hz Fz; rw [pt_set1] at hz; have F4 := Fz; have hp4 := hz; clear Fz hz hp3; try (simp only [Act.put, List.setIfInBounds_toArray, List.set_cons_zero, List.set_cons_succ])))))
  have hr4 := (F4.block gr (lt_of_block HR3.out) (fun e => by have := HGP.out; omega)).trans HR3.out
  go_wp2_with (first | (focus (((with_reducible refine' wpList_load_row rfl 34 (.tmp 7) rfl gp rfl 34 _ (0, 0) _ hp4 Try.underlying34 rfl (by rw [szPt, pt_size]) _)); try (simp only [Act.put, List.setIfInBounds_toArray, List.set_cons_zero, List.set_cons_succ]))) | (focus (((with_reducible refine' wpList_store_part rfl 34 (.tmp 6) (.tmp 38) rfl gr 0 (pt 2 1 (fun _ => 0) []) rfl rfl _ (pt_one _ _ _ _) 34 _ hr4 _ _); (focus (rw [pt_size]; exact szPt)); (focus (rw [pt_size]; decide)); intro wz hz Fz; rw [whole_put _ _ (by rw [pt_size]; decide)] at hz; have hz5 := hz; have F5 := Fz; clear hz Fz; try (simp only [Act.put, List.setIfInBounds_toArray, List.set_cons_zero, List.set_cons_succ])))))
  refine bodyPost_ret (results_cell_row rfl _ _ gr 34 _ (0, 0) _ rfl hz5 Try.underlying34 rfl (by rw [szPt, pt_size])) rfl ?_
  refine ⟨rfl, o2, (H3.out.fr F4 (fun e => by have := HBR.out; have := HGP.out; omega) (fun k hk e => by obtain ⟨ad, e1, e2⟩ := hk; cases e1; have := HGG.out; have := HGP.out; simp at e2; omega)).fr F5 (fun e => by have := HBR.out; omega) (fun k hk e => by obtain ⟨ad, e1, e2⟩ := hk; cases e1; have := HGG.out; simp at e2; omega), ?_⟩
  exact (HF3.out.trans F4 (fun i hi => .inr (by have := HGP.out; have := HGR.out; omega))).trans F5 (fun i hi => .inr (by have := HGR.out; omega))
set_option maxRecDepth 100000 in
set_option maxHeartbeats 1600000 in
theorem nx_flag0 (br c g off : Nat) (z : Int) (f : Nat → UInt8) (t : List UInt8) (rest : List UInt8) (w : World) (h : Rd w br (some ⟨g, off, none⟩) c ([UInt8.ofNat 0] ++ rest) 0) :
    Calls Try.prog 13 #[.pointer (some ⟨br, 0, none⟩), .int .i64 2, .int .i64 300] w fun e w' => e = .returned (.agg (pt 2 0 (fun _ => 0) [])) ∧ RdPost w w' br g (c - ([UInt8.ofNat 0]).length) rest 0 := by
  have HH := Lib.hid h
  have hbr : br < w.heap.size := lt_of_block h.blk
  have HBR := Lib.hid hbr
  have hgg : g < w.heap.size := by
    rcases h.lies with e | ⟨g', o', e, hc⟩
    · simp at e
    · cases e
      exact World.block_lt_of_cell? _ _ (hc 0 (by simp))
  have HGG := Lib.hid hgg
  have K1 := ((Kn.start w).new w.heap.size 35 #[.int .i64 0, .int .i64 0, .int .u8 0, .int .u8 0, .int .u8 0, .int .u8 0, .int .u8 0, .int .u8 0, .int .u8 0, .int .u8 0, .int .u8 0, .int .u8 0, .int .u8 0, .int .u8 0, .int .u8 0, .int .u8 0, .int .u8 0, .int .u8 0, .int .u8 0, .int .u8 0, .int .u8 0, .int .u8 0, .int .u8 0, .int .u8 0, .int .u8 0, .int .u8 0, .int .u8 0, .int .u8 0, .int .u8 0, .int .u8 0, .int .u8 0, .int .u8 0, .int .u8 0, .int .u8 0, .string ⟨#[]⟩] 34 rfl zPt2).new (w.heap.size + 1) 35 #[.int .i64 0, .int .i64 0, .int .u8 0, .int .u8 0, .int .u8 0, .int .u8 0, .int .u8 0, .int .u8 0, .int .u8 0, .int .u8 0, .int .u8 0, .int .u8 0, .int .u8 0, .int .u8 0, .int .u8 0, .int .u8 0, .int .u8 0, .int .u8 0, .int .u8 0, .int .u8 0, .int .u8 0, .int .u8 0, .int .u8 0, .int .u8 0, .int .u8 0, .int .u8 0, .int .u8 0, .int .u8 0, .int .u8 0, .int .u8 0, .int .u8 0, .int .u8 0, .int .u8 0, .int .u8 0, .string ⟨#[]⟩] 34 (by simp) zPt2
  clear h hbr hgg
  go_enter Try.func13, Try.ntmps13
  go_upto_region 2 with (first | (focus (((with_reducible refine' wpList_store_kn K1 rfl 34 (.tmp 7) (.tmp 9) rfl 0 _ _ _ _ _ rfl rfl szPt _ _ _); rotate_left 2; (focus exact rfl)); (focus exact pt_sz 2 0 (fun _ => 0) []); intro wz Kz; clear K1; have K2 : Kn w [⟨w.heap.size + 1, 35, pt 2 0 (fun _ => 0) [], 34⟩, ⟨w.heap.size, 35, #[.int .i64 0, .int .i64 0, .int .u8 0, .int .u8 0, .int .u8 0, .int .u8 0, .int .u8 0, .int .u8 0, .int .u8 0, .int .u8 0, .int .u8 0, .int .u8 0, .int .u8 0, .int .u8 0, .int .u8 0, .int .u8 0, .int .u8 0, .int .u8 0, .int .u8 0, .int .u8 0, .int .u8 0, .int .u8 0, .int .u8 0, .int .u8 0, .int .u8 0, .int .u8 0, .int .u8 0, .int .u8 0, .int .u8 0, .int .u8 0, .int .u8 0, .int .u8 0, .int .u8 0, .int .u8 0, .string ⟨#[]⟩], 34⟩] wz := Kz; clear Kz; try (simp only [Act.put, List.setIfInBounds_toArray, List.set_cons_zero, List.set_cons_succ]))))
  have hp2 := K2.heap 0 rfl
  have hr2 := K2.heap 1 rfl
  have HF2 := Lib.hid K2.fr
  have H2 := Lib.hid (HH.out.fr K2.fr (fun h => h) (fun _ _ h => h))
  clear K2 HH
  obtain ⟨gr, hgr⟩ : ∃ gr, gr = w.heap.size := ⟨_, rfl⟩
  rw [← hgr] at hp2 hr2 HBR HGG ⊢
  have HGR := Lib.hid hgr
  clear hgr
  obtain ⟨gp, hgp⟩ : ∃ gp, gp = gr + 1 := ⟨_, rfl⟩
  rw [← hgp] at hp2 ⊢
  have HGP := Lib.hid hgp
  have HP2 := Lib.hid hp2
  have HR2 := Lib.hid hr2
  clear hgp hp2 hr2
  have hy : ((UInt8.ofNat 0).toNat : Int) = 0 := rfl
  go_wp2_with fail
  refine (flag_yes br c g off (UInt8.ofNat 0) (by decide) rest _ H2.out).mono ?_
  rw [show ((((UInt8.ofNat 0).toNat : Int)) == 1) = false from rfl]
  rintro e w3 ⟨rfl, o2, h3, F3⟩
  have hp3 := (F3.block gp (lt_of_block HP2.out) (fun e => by have := HBR.out; have := HGP.out; omega)).trans HP2.out
  have hr3 := (F3.block gr (lt_of_block HR2.out) (fun e => by have := HBR.out; omega)).trans HR2.out
  have HF3 := Lib.hid ((HF2.out.mono (fun _ _ h => h.elim)).trans F3 (fun i hi => .inl hi))
  have H3 := Lib.hid h3
  have HR3 := Lib.hid hr3
  clear F3 h3 hr3 HP2 HR2 HF2 H2
  have hr4 := HR3.out
  go_wp2_with (first | (focus (((with_reducible refine' wpList_load_row rfl 34 (.tmp 7) rfl gp rfl 34 _ (0, 0) _ hp3 Try.underlying34 rfl (by rw [szPt, pt_size]) _)); try (simp only [Act.put, List.setIfInBounds_toArray, List.set_cons_zero, List.set_cons_succ]))) | (focus (((with_reducible refine' wpList_store_part rfl 34 (.tmp 6) (.tmp 38) rfl gr 0 (pt 2 0 (fun _ => 0) []) rfl rfl _ (pt_one _ _ _ _) 34 _ hr4 _ _); (focus (rw [pt_size]; exact szPt)); (focus (rw [pt_size]; decide)); intro wz hz Fz; rw [whole_put _ _ (by rw [pt_size]; decide)] at hz; have hz5 := hz; have F5 := Fz; clear hz Fz; try (simp only [Act.put, List.setIfInBounds_toArray, List.set_cons_zero, List.set_cons_succ])))))
  refine bodyPost_ret (results_cell_row rfl _ _ gr 34 _ (0, 0) _ rfl hz5 Try.underlying34 rfl (by rw [szPt, pt_size])) rfl ?_
  refine ⟨rfl, o2, H3.out.fr F5 (fun e => by have := HBR.out; omega) (fun k hk e => by obtain ⟨ad, e1, e2⟩ := hk; cases e1; have := HGG.out; simp at e2; omega), ?_⟩
  exact HF3.out.trans F5 (fun i hi => .inr (by have := HGR.out; omega))
set_option maxRecDepth 100000 in
set_option maxHeartbeats 1600000 in
theorem nx_num (br c g off : Nat) (z : Int) (f : Nat → UInt8) (t : List UInt8) (u : Nat) (hz : In64 z) (hu : IntKind.u64.wrap z = (u : Int)) (rest : List UInt8) (w : World) (h : Rd w br (some ⟨g, off, none⟩) c (be8 u ++ rest) 0) :
    Calls Try.prog 13 #[.pointer (some ⟨br, 0, none⟩), .int .i64 3, .int .i64 300] w fun e w' => e = .returned (.agg (pt 3 z (fun _ => 0) [])) ∧ RdPost w w' br g (c - (be8 u).length) rest 0 := by
  obtain ⟨hu1, hu2⟩ := wrap_back z u hz hu
  have hbe : wrap64 ((beN ((be8 u ++ rest).take 8) : Nat) : Int) = z := by
    rw [List.take_left' (by simp [be8]), beN_be8 u hu1, hu2]
  have hdr : (be8 u ++ rest).drop 8 = rest := List.drop_left' (by simp [be8])
  have hl8 : (be8 u).length = 8 := by simp [be8]
  rw [hl8]
  have HL8 := Lib.hid hl8
  have HBE := Lib.hid hbe
  have HDR := Lib.hid hdr
  clear hz hu hu1 hu2 hbe hdr hl8
  have HH := Lib.hid h
  have hbr : br < w.heap.size := lt_of_block h.blk
  have HBR := Lib.hid hbr
  have hgg : g < w.heap.size := by
    rcases h.lies with e | ⟨g', o', e, hc⟩
    · have := congrArg List.length e; rw [List.length_append, HL8.out] at this; simp at this
    · cases e
      exact World.block_lt_of_cell? _ _ (hc 0 (by rw [List.length_append, HL8.out]; omega))
  have HGG := Lib.hid hgg
  have K1 := ((Kn.start w).new w.heap.size 35 #[.int .i64 0, .int .i64 0, .int .u8 0, .int .u8 0, .int .u8 0, .int .u8 0, .int .u8 0, .int .u8 0, .int .u8 0, .int .u8 0, .int .u8 0, .int .u8 0, .int .u8 0, .int .u8 0, .int .u8 0, .int .u8 0, .int .u8 0, .int .u8 0, .int .u8 0, .int .u8 0, .int .u8 0, .int .u8 0, .int .u8 0, .int .u8 0, .int .u8 0, .int .u8 0, .int .u8 0, .int .u8 0, .int .u8 0, .int .u8 0, .int .u8 0, .int .u8 0, .int .u8 0, .int .u8 0, .string ⟨#[]⟩] 34 rfl zPt2).new (w.heap.size + 1) 35 #[.int .i64 0, .int .i64 0, .int .u8 0, .int .u8 0, .int .u8 0, .int .u8 0, .int .u8 0, .int .u8 0, .int .u8 0, .int .u8 0, .int .u8 0, .int .u8 0, .int .u8 0, .int .u8 0, .int .u8 0, .int .u8 0, .int .u8 0, .int .u8 0, .int .u8 0, .int .u8 0, .int .u8 0, .int .u8 0, .int .u8 0, .int .u8 0, .int .u8 0, .int .u8 0, .int .u8 0, .int .u8 0, .int .u8 0, .int .u8 0, .int .u8 0, .int .u8 0, .int .u8 0, .int .u8 0, .string ⟨#[]⟩] 34 (by simp) zPt2
  clear h hbr hgg
  go_enter Try.func13, Try.ntmps13
  go_upto_region 2 with (first | (focus (((with_reducible refine' wpList_store_kn K1 rfl 34 (.tmp 7) (.tmp 9) rfl 0 _ _ _ _ _ rfl rfl szPt _ _ _); rotate_left 2; (focus exact rfl)); (focus exact pt_sz 3 0 (fun _ => 0) []); intro wz Kz; clear K1; have K2 : Kn w [⟨w.heap.size + 1, 35, pt 3 0 (fun _ => 0) [], 34⟩, ⟨w.heap.size, 35, #[.int .i64 0, .int .i64 0, .int .u8 0, .int .u8 0, .int .u8 0, .int .u8 0, .int .u8 0, .int .u8 0, .int .u8 0, .int .u8 0, .int .u8 0, .int .u8 0, .int .u8 0, .int .u8 0, .int .u8 0, .int .u8 0, .int .u8 0, .int .u8 0, .int .u8 0, .int .u8 0, .int .u8 0, .int .u8 0, .int .u8 0, .int .u8 0, .int .u8 0, .int .u8 0, .int .u8 0, .int .u8 0, .int .u8 0, .int .u8 0, .int .u8 0, .int .u8 0, .int .u8 0, .int .u8 0, .string ⟨#[]⟩], 34⟩] wz := Kz; clear Kz; try (simp only [Act.put, List.setIfInBounds_toArray, List.set_cons_zero, List.set_cons_succ]))))
  have hp2 := K2.heap 0 rfl
  have hr2 := K2.heap 1 rfl
  have HF2 := Lib.hid K2.fr
  have H2 := Lib.hid (HH.out.fr K2.fr (fun h => h) (fun _ _ h => h))
  clear K2 HH
  obtain ⟨gr, hgr⟩ : ∃ gr, gr = w.heap.size := ⟨_, rfl⟩
  rw [← hgr] at hp2 hr2 HBR HGG ⊢
  have HGR := Lib.hid hgr
  clear hgr
  obtain ⟨gp, hgp⟩ : ∃ gp, gp = gr + 1 := ⟨_, rfl⟩
  rw [← hgp] at hp2 ⊢
  have HGP := Lib.hid hgp
  have HP2 := Lib.hid hp2
  have HR2 := Lib.hid hr2
  clear hgp hp2 hr2
  go_wp2_with fail
  refine (rnum_ok br c g off (be8 u ++ rest) (by rw [List.length_append, HL8.out]; omega) _ H2.out).mono ?_
  rw [HBE.out, HDR.out]
  rintro e w3 ⟨rfl, o2, h3, F3⟩
  have hp3 := (F3.block gp (lt_of_block HP2.out) (fun e => by have := HBR.out; have := HGP.out; omega)).trans HP2.out
  have hr3 := (F3.block gr (lt_of_block HR2.out) (fun e => by have := HBR.out; omega)).trans HR2.out
  have HF3 := Lib.hid ((HF2.out.mono (fun _ _ h => h.elim)).trans F3 (fun i hi => .inl hi))
  have H3 := Lib.hid h3
  have HR3 := Lib.hid hr3
  clear F3 h3 hr3 HP2 HR2 HF2 H2
  go_upto_region 14 with (first | (focus (((with_reducible refine' wpList_store_one rfl 3 (.tmp 25) (.tmp 24) rfl gp 1 rfl (.int .i64 z) rfl rfl rfl szI 34 _ hp3 _ _); (focus (rw [pt_size]; decide)); intro wz hz Fz; rw [pt_set1] at hz; have F4 := Fz; have hp4 := hz; clear Fz hz hp3; try (simp only [Act.put, List.setIfInBounds_toArray, List.set_cons_zero, List.set_cons_succ])))))
  have hr4 := (F4.block gr (lt_of_block HR3.out) (fun e => by have := HGP.out; omega)).trans HR3.out
  go_wp2_with (first | (focus (((with_reducible refine' wpList_load_row rfl 34 (.tmp 7) rfl gp rfl 34 _ (0, 0) _ hp4 Try.underlying34 rfl (by rw [szPt, pt_size]) _)); try (simp only [Act.put, List.setIfInBounds_toArray, List.set_cons_zero, List.set_cons_succ]))) | (focus (((with_reducible refine' wpList_store_part rfl 34 (.tmp 6) (.tmp 38) rfl gr 0 (pt 3 z (fun _ => 0) []) rfl rfl _ (pt_one _ _ _ _) 34 _ hr4 _ _); (focus (rw [pt_size]; exact szPt)); (focus (rw [pt_size]; decide)); intro wz hz Fz; rw [whole_put _ _ (by rw [pt_size]; decide)] at hz; have hz5 := hz; have F5 := Fz; clear hz Fz; try (simp only [Act.put, List.setIfInBounds_toArray, List.set_cons_zero, List.set_cons_succ])))))
  refine bodyPost_ret (results_cell_row rfl _ _ gr 34 _ (0, 0) _ rfl hz5 Try.underlying34 rfl (by rw [szPt, pt_size])) rfl ?_
  refine ⟨rfl, o2, (H3.out.fr F4 (fun e => by have := HBR.out; have := HGP.out; omega) (fun k hk e => by obtain ⟨ad, e1, e2⟩ := hk; cases e1; have := HGG.out; have := HGP.out; simp at e2; omega)).fr F5 (fun e => by have := HBR.out; omega) (fun k hk e => by obtain ⟨ad, e1, e2⟩ := hk; cases e1; have := HGG.out; simp at e2; omega), ?_⟩
  exact (HF3.out.trans F4 (fun i hi => .inr (by have := HGP.out; have := HGR.out; omega))).trans F5 (fun i hi => .inr (by have := HGR.out; omega))
set_option maxRecDepth 100000 in
set_option maxHeartbeats 1600000 in
theorem nx_sum (br c g off : Nat) (z : Int) (f : Nat → UInt8) (t : List UInt8) (rest : List UInt8) (w : World) (h : Rd w br (some ⟨g, off, none⟩) c ((List.range 32).map f ++ rest) 0) :
    Calls Try.prog 13 #[.pointer (some ⟨br, 0, none⟩), .int .i64 4, .int .i64 300] w fun e w' => e = .returned (.agg (pt 4 0 f [])) ∧ RdPost w w' br g (c - ((List.range 32).map f).length) rest 0 := by
  rw [show ((List.range 32).map f).length = 32 by simp]
  have HH := Lib.hid h
  have hbr : br < w.heap.size := lt_of_block h.blk
  have HBR := Lib.hid hbr
  have hgg : g < w.heap.size := by
    rcases h.lies with e | ⟨g', o', e, hc⟩
    · simp at e
    · cases e
      exact World.block_lt_of_cell? _ _ (hc 0 (by simp; omega))
  have HGG := Lib.hid hgg
  have K1 := ((Kn.start w).new w.heap.size 35 #[.int .i64 0, .int .i64 0, .int .u8 0, .int .u8 0, .int .u8 0, .int .u8 0, .int .u8 0, .int .u8 0, .int .u8 0, .int .u8 0, .int .u8 0, .int .u8 0, .int .u8 0, .int .u8 0, .int .u8 0, .int .u8 0, .int .u8 0, .int .u8 0, .int .u8 0, .int .u8 0, .int .u8 0, .int .u8 0, .int .u8 0, .int .u8 0, .int .u8 0, .int .u8 0, .int .u8 0, .int .u8 0, .int .u8 0, .int .u8 0, .int .u8 0, .int .u8 0, .int .u8 0, .int .u8 0, .string ⟨#[]⟩] 34 rfl zPt2).new (w.heap.size + 1) 35 #[.int .i64 0, .int .i64 0, .int .u8 0, .int .u8 0, .int .u8 0, .int .u8 0, .int .u8 0, .int .u8 0, .int .u8 0, .int .u8 0, .int .u8 0, .int .u8 0, .int .u8 0, .int .u8 0, .int .u8 0, .int .u8 0, .int .u8 0, .int .u8 0, .int .u8 0, .int .u8 0, .int .u8 0, .int .u8 0, .int .u8 0, .int .u8 0, .int .u8 0, .int .u8 0, .int .u8 0, .int .u8 0, .int .u8 0, .int .u8 0, .int .u8 0, .int .u8 0, .int .u8 0, .int .u8 0, .string ⟨#[]⟩] 34 (by simp) zPt2
  clear h hbr hgg
  go_enter Try.func13, Try.ntmps13
  go_upto_region 2 with (first | (focus (((with_reducible refine' wpList_store_kn K1 rfl 34 (.tmp 7) (.tmp 9) rfl 0 _ _ _ _ _ rfl rfl szPt _ _ _); rotate_left 2; (focus exact rfl)); (focus exact pt_sz 4 0 (fun _ => 0) []); intro wz Kz; clear K1; have K2 : Kn w [⟨w.heap.size + 1, 35, pt 4 0 (fun _ => 0) [], 34⟩, ⟨w.heap.size, 35, #[.int .i64 0, .int .i64 0, .int .u8 0, .int .u8 0, .int .u8 0, .int .u8 0, .int .u8 0, .int .u8 0, .int .u8 0, .int .u8 0, .int .u8 0, .int .u8 0, .int .u8 0, .int .u8 0, .int .u8 0, .int .u8 0, .int .u8 0, .int .u8 0, .int .u8 0, .int .u8 0, .int .u8 0, .int .u8 0, .int .u8 0, .int .u8 0, .int .u8 0, .int .u8 0, .int .u8 0, .int .u8 0, .int .u8 0, .int .u8 0, .int .u8 0, .int .u8 0, .int .u8 0, .int .u8 0, .string ⟨#[]⟩], 34⟩] wz := Kz; clear Kz; try (simp only [Act.put, List.setIfInBounds_toArray, List.set_cons_zero, List.set_cons_succ]))))
  have hp2 := K2.heap 0 rfl
  have hr2 := K2.heap 1 rfl
  have HF2 := Lib.hid K2.fr
  have H2 := Lib.hid (HH.out.fr K2.fr (fun h => h) (fun _ _ h => h))
  clear K2 HH
  obtain ⟨gr, hgr⟩ : ∃ gr, gr = w.heap.size := ⟨_, rfl⟩
  rw [← hgr] at hp2 hr2 HBR HGG ⊢
  have HGR := Lib.hid hgr
  clear hgr
  obtain ⟨gp, hgp⟩ : ∃ gp, gp = gr + 1 := ⟨_, rfl⟩
  rw [← hgp] at hp2 ⊢
  have HGP := Lib.hid hgp
  have HP2 := Lib.hid hp2
  have HR2 := Lib.hid hr2
  clear hgp hp2 hr2
  go_wp2_with fail
  refine (rsum_ok br c g off f rest _ H2.out).mono ?_
  rintro e w3 ⟨rfl, o2, h3, F3⟩
  have hp3 := (F3.block gp (lt_of_block HP2.out) (fun e => by have := HBR.out; have := HGP.out; omega)).trans HP2.out
  have hr3 := (F3.block gr (lt_of_block HR2.out) (fun e => by have := HBR.out; omega)).trans HR2.out
  have HF3 := Lib.hid ((HF2.out.mono (fun _ _ h => h.elim)).trans F3 (fun i hi => .inl hi))
  have H3 := Lib.hid h3
  have HR3 := Lib.hid hr3
  clear F3 h3 hr3 HP2 HR2 HF2 H2
  go_upto_region 14 with (first | (focus (((with_reducible refine' wpList_store_part rfl 32 (.tmp 30) (.tmp 29) rfl gp 2 (ub 32 f) rfl rfl _ (ub_one _ _) 34 _ hp3 _ _); (focus (rw [ub_size]; exact szR)); (focus (rw [ub_size, pt_size]; decide)); intro wz hz Fz; rw [ub_size, pt_put] at hz; have F4 := Fz; have hp4 := hz; clear Fz hz hp3; try (simp only [Act.put, List.setIfInBounds_toArray, List.set_cons_zero, List.set_cons_succ])))))
  have hr4 := (F4.block gr (lt_of_block HR3.out) (fun e => by have := HGP.out; omega)).trans HR3.out
  go_wp2_with (first | (focus (((with_reducible refine' wpList_load_row rfl 34 (.tmp 7) rfl gp rfl 34 _ (0, 0) _ hp4 Try.underlying34 rfl (by rw [szPt, pt_size]) _)); try (simp only [Act.put, List.setIfInBounds_toArray, List.set_cons_zero, List.set_cons_succ]))) | (focus (((with_reducible refine' wpList_store_part rfl 34 (.tmp 6) (.tmp 38) rfl gr 0 (pt 4 0 f []) rfl rfl _ (pt_one _ _ _ _) 34 _ hr4 _ _); (focus (rw [pt_size]; exact szPt)); (focus (rw [pt_size]; decide)); intro wz hz Fz; rw [whole_put _ _ (by rw [pt_size]; decide)] at hz; have hz5 := hz; have F5 := Fz; clear hz Fz; try (simp only [Act.put, List.setIfInBounds_toArray, List.set_cons_zero, List.set_cons_succ])))))
  refine bodyPost_ret (results_cell_row rfl _ _ gr 34 _ (0, 0) _ rfl hz5 Try.underlying34 rfl (by rw [szPt, pt_size])) rfl ?_
  refine ⟨rfl, o2, (H3.out.fr F4 (fun e => by have := HBR.out; have := HGP.out; omega) (fun k hk e => by obtain ⟨ad, e1, e2⟩ := hk; cases e1; have := HGG.out; have := HGP.out; simp at e2; omega)).fr F5 (fun e => by have := HBR.out; omega) (fun k hk e => by obtain ⟨ad, e1, e2⟩ := hk; cases e1; have := HGG.out; simp at e2; omega), ?_⟩
  exact (HF3.out.trans F4 (fun i hi => .inr (by have := HGP.out; have := HGR.out; omega))).trans F5 (fun i hi => .inr (by have := HGR.out; omega))
set_option maxRecDepth 100000 in
set_option maxHeartbeats 1600000 in
theorem nx_text (br c g off : Nat) (z : Int) (f : Nat → UInt8) (t : List UInt8) (ht : t.length ≤ 300) (rest : List UInt8) (w : World) (h : Rd w br (some ⟨g, off, none⟩) c (txt t ++ rest) 0) :
    Calls Try.prog 13 #[.pointer (some ⟨br, 0, none⟩), .int .i64 5, .int .i64 300] w fun e w' => e = .returned (.agg (pt 5 0 (fun _ => 0) t)) ∧ RdPost w w' br g (c - (txt t).length) rest 0 := by
  have hx : txt t ++ rest = b8 t.length 6 :: b8 t.length 7 :: (t ++ rest) := rfl
  have hlen : (txt t).length = 2 + t.length := by rw [txt_length]; omega
  have hcnt : cnt (b8 t.length 6) (b8 t.length 7) = t.length := by
    have e2 : lb t.length = b8 t.length 7 := by
      unfold lb b8
      apply UInt8.toNat_inj.1
      simp
    rw [← e2]
    exact cnt_text t.length (by omega)
  have htk : (t ++ rest).take t.length = t := List.take_left
  have hdr : (t ++ rest).drop t.length = rest := List.drop_left
  rw [hlen]
  rw [hx] at h
  have HCN := Lib.hid hcnt
  have HTK := Lib.hid htk
  have HDR := Lib.hid hdr
  have HT := Lib.hid ht
  clear hx hlen hcnt htk hdr ht
  have HH := Lib.hid h
  have hbr : br < w.heap.size := lt_of_block h.blk
  have HBR := Lib.hid hbr
  have hgg : g < w.heap.size := by
    rcases h.lies with e | ⟨g', o', e, hc⟩
    · simp at e
    · cases e
      exact World.block_lt_of_cell? _ _ (hc 0 (by simp))
  have HGG := Lib.hid hgg
  have K1 := ((Kn.start w).new w.heap.size 35 #[.int .i64 0, .int .i64 0, .int .u8 0, .int .u8 0, .int .u8 0, .int .u8 0, .int .u8 0, .int .u8 0, .int .u8 0, .int .u8 0, .int .u8 0, .int .u8 0, .int .u8 0, .int .u8 0, .int .u8 0, .int .u8 0, .int .u8 0, .int .u8 0, .int .u8 0, .int .u8 0, .int .u8 0, .int .u8 0, .int .u8 0, .int .u8 0, .int .u8 0, .int .u8 0, .int .u8 0, .int .u8 0, .int .u8 0, .int .u8 0, .int .u8 0, .int .u8 0, .int .u8 0, .int .u8 0, .string ⟨#[]⟩] 34 rfl zPt2).new (w.heap.size + 1) 35 #[.int .i64 0, .int .i64 0, .int .u8 0, .int .u8 0, .int .u8 0, .int .u8 0, .int .u8 0, .int .u8 0, .int .u8 0, .int .u8 0, .int .u8 0, .int .u8 0, .int .u8 0, .int .u8 0, .int .u8 0, .int .u8 0, .int .u8 0, .int .u8 0, .int .u8 0, .int .u8 0, .int .u8 0, .int .u8 0, .int .u8 0, .int .u8 0, .int .u8 0, .int .u8 0, .int .u8 0, .int .u8 0, .int .u8 0, .int .u8 0, .int .u8 0, .int .u8 0, .int .u8 0, .int .u8 0, .string ⟨#[]⟩] 34 (by simp) zPt2
  clear h hbr hgg
  go_enter Try.func13, Try.ntmps13
  go_upto_region 2 with (first | (focus (((with_reducible refine' wpList_store_kn K1 rfl 34 (.tmp 7) (.tmp 9) rfl 0 _ _ _ _ _ rfl rfl szPt _ _ _); rotate_left 2; (focus exact rfl)); (focus exact pt_sz 5 0 (fun _ => 0) []); intro wz Kz; clear K1; have K2 : Kn w [⟨w.heap.size + 1, 35, pt 5 0 (fun _ => 0) [], 34⟩, ⟨w.heap.size, 35, #[.int .i64 0, .int .i64 0, .int .u8 0, .int .u8 0, .int .u8 0, .int .u8 0, .int .u8 0, .int .u8 0, .int .u8 0, .int .u8 0, .int .u8 0, .int .u8 0, .int .u8 0, .int .u8 0, .int .u8 0, .int .u8 0, .int .u8 0, .int .u8 0, .int .u8 0, .int .u8 0, .int .u8 0, .int .u8 0, .int .u8 0, .int .u8 0, .int .u8 0, .int .u8 0, .int .u8 0, .int .u8 0, .int .u8 0, .int .u8 0, .int .u8 0, .int .u8 0, .int .u8 0, .int .u8 0, .string ⟨#[]⟩], 34⟩] wz := Kz; clear Kz; try (simp only [Act.put, List.setIfInBounds_toArray, List.set_cons_zero, List.set_cons_succ]))))
  have hp2 := K2.heap 0 rfl
  have hr2 := K2.heap 1 rfl
  have HF2 := Lib.hid K2.fr
  have H2 := Lib.hid (HH.out.fr K2.fr (fun h => h) (fun _ _ h => h))
  clear K2 HH
  obtain ⟨gr, hgr⟩ : ∃ gr, gr = w.heap.size := ⟨_, rfl⟩
  rw [← hgr] at hp2 hr2 HBR HGG ⊢
  have HGR := Lib.hid hgr
  clear hgr
  obtain ⟨gp, hgp⟩ : ∃ gp, gp = gr + 1 := ⟨_, rfl⟩
  rw [← hgp] at hp2 ⊢
  have HGP := Lib.hid hgp
  have HP2 := Lib.hid hp2
  have HR2 := Lib.hid hr2
  clear hgp hp2 hr2
  go_wp2_with fail
  refine (rtext_ok br c g off _ _ (t ++ rest) 300 _ H2.out (by rw [HCN.out]; have := HT.out; omega) (by rw [HCN.out]; simp)).mono ?_
  rw [HCN.out, HTK.out, HDR.out]
  rintro e w3 ⟨v, rfl, hown, hpost⟩
  obtain ⟨a3, c3, rfl, _⟩ := slice_of_own hown
  have hst := run_str (lies_own hown).2.2.2 c3 9 Try.underlying9
  have HST := Lib.hid hst
  clear hst hown
  obtain ⟨o2, h3, F3⟩ := hpost
  have hp3 := (F3.block gp (lt_of_block HP2.out) (fun e => by have := HBR.out; have := HGP.out; omega)).trans HP2.out
  have hr3 := (F3.block gr (lt_of_block HR2.out) (fun e => by have := HBR.out; omega)).trans HR2.out
  have HF3 := Lib.hid ((HF2.out.mono (fun _ _ h => h.elim)).trans F3 (fun i hi => .inl hi))
  have H3 := Lib.hid h3
  have HR3 := Lib.hid hr3
  clear F3 h3 hr3 HP2 HR2 HF2 H2
  have hst := HST.out
  go_upto_region 14 with (first | (focus (((with_reducible refine' wpList_store_one rfl 9 (.tmp 37) (.tmp 36) rfl gp 34 rfl (.string ⟨t.toArray⟩) rfl rfl rfl szS 34 _ hp3 _ _); (focus (rw [pt_size]; decide)); intro wz hz Fz; rw [pt_set34] at hz; have F4 := Fz; have hp4 := hz; clear Fz hz hp3; try (simp only [Act.put, List.setIfInBounds_toArray, List.set_cons_zero, List.set_cons_succ])))))
  have hr4 := (F4.block gr (lt_of_block HR3.out) (fun e => by have := HGP.out; omega)).trans HR3.out
  go_wp2_with (first | (focus (((with_reducible refine' wpList_load_row rfl 34 (.tmp 7) rfl gp rfl 34 _ (0, 0) _ hp4 Try.underlying34 rfl (by rw [szPt, pt_size]) _)); try (simp only [Act.put, List.setIfInBounds_toArray, List.set_cons_zero, List.set_cons_succ]))) | (focus (((with_reducible refine' wpList_store_part rfl 34 (.tmp 6) (.tmp 38) rfl gr 0 (pt 5 0 (fun _ => 0) t) rfl rfl _ (pt_one _ _ _ _) 34 _ hr4 _ _); (focus (rw [pt_size]; exact szPt)); (focus (rw [pt_size]; decide)); intro wz hz Fz; rw [whole_put _ _ (by rw [pt_size]; decide)] at hz; have hz5 := hz; have F5 := Fz; clear hz Fz; try (simp only [Act.put, List.setIfInBounds_toArray, List.set_cons_zero, List.set_cons_succ])))))
  refine bodyPost_ret (results_cell_row rfl _ _ gr 34 _ (0, 0) _ rfl hz5 Try.underlying34 rfl (by rw [szPt, pt_size])) rfl ?_
  refine ⟨rfl, o2, (H3.out.fr F4 (fun e => by have := HBR.out; have := HGP.out; omega) (fun k hk e => by obtain ⟨ad, e1, e2⟩ := hk; cases e1; have := HGG.out; have := HGP.out; simp at e2; omega)).fr F5 (fun e => by have := HBR.out; omega) (fun k hk e => by obtain ⟨ad, e1, e2⟩ := hk; cases e1; have := HGG.out; simp at e2; omega), ?_⟩
  exact (HF3.out.trans F4 (fun i hi => .inr (by have := HGP.out; have := HGR.out; omega))).trans F5 (fun i hi => .inr (by have := HGR.out; omega))
end Go.Proofs.Ytdlmfodnookmhaa

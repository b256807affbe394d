/-
  The laws' write: each kind of part.
-/
import Derived.Test.YtdlmfodnookmhaaMc
import Derived.Laws.IdiomStrings
namespace Go.Proofs.Ytdlmfodnookmhaa
open Go.RowKit
set_option linter.unusedVariables false
set_option linter.unusedSimpArgs false
def Written (w w2 : World) (bw B : Nat) (v : Value) (xs : List Value) (er : Int) (o : Option (List UInt8)) : Prop :=
  ∃ v2, Wr w2 bw B v2 (xs ++ bv (encd o)) (if o.isSome then er else 5) ∧ Fr (fun k => k = bw ∨ v.ownBlock = some k) w w2 ∧ (v2.ownBlock = v.ownBlock ∨ ∀ k, v2.ownBlock = some k → w.heap.size ≤ k)
theorem Written.ok {w w2 : World} {bw B : Nat} {v : Value} {xs : List Value} {er : Int} {o : Option (List UInt8)} {l : List UInt8} (ho : o = some l) (h : Added w w2 bw B v xs (bv l) er) : Written w w2 bw B v xs er o := by
  subst ho; exact h
theorem Written.bad {w w2 : World} {bw B : Nat} {v : Value} {xs : List Value} {er : Int} {o : Option (List UInt8)} (ho : o = none) (h : Wr w2 bw B v xs 5) (hF : Fr (fun k => k = bw) w w2) : Written w w2 bw B v xs er o := by
  subst ho
  exact ⟨v, by show Wr w2 bw B v (xs ++ []) 5; rwa [List.append_nil], hF.mono (fun i _ e => .inl e), .inl rfl⟩
theorem num_bytes (z : Int) (u : Nat) (hu : IntKind.u64.wrap z = (u : Int)) : numCells z 8 = bv (be8 u) := by
  unfold numCells bv be8
  rw [List.map_map]
  refine List.map_congr_left fun j _ => ?_
  show Value.int .u8 (numB z j) = Value.int .u8 ((b8 u j).toNat : Int)
  rw [← b8_val, ← hu]; rfl
theorem ub_bytes (n : Nat) (f : Nat → UInt8) : (ub n f).toList = bv ((List.range n).map f) := by simp [ub, bv]
theorem txt_bytes (t : List UInt8) (h : t.length ≤ 65535) : [Value.int .u8 ((t.length : Int) / 256), Value.int .u8 ((t.length : Int) % 256)] ++ bv t = bv (txt t) := by
  rw [text_bytes _ h]
  have e1 : hb t.length = b8 t.length 6 := rfl
  have e2 : lb t.length = b8 t.length 7 := by
    unfold lb b8
    apply UInt8.toNat_inj.1
    simp
  rw [e1, e2]; rfl
theorem xor_byte (x y : UInt8) : bits .xor .u8 (x.toNat : Int) (y.toNat : Int) = ((x ^^^ y).toNat : Int) := by
  have h1 := x.toNat_lt
  have h2 := y.toNat_lt
  have x3 : x.toNat ^^^ y.toNat < 2 ^ 8 := Nat.xor_lt_two_pow (by omega) (by omega)
  have e1 : (BitVec.ofInt 8 (x.toNat : Int)).toNat = x.toNat := by
    rw [BitVec.ofInt_natCast, BitVec.toNat_ofNat]; exact Nat.mod_eq_of_lt (by omega)
  have e2 : (BitVec.ofInt 8 (y.toNat : Int)).toNat = y.toNat := by
    rw [BitVec.ofInt_natCast, BitVec.toNat_ofNat]; exact Nat.mod_eq_of_lt (by omega)
  show IntKind.u8.wrap ((BitVec.ofInt 8 (x.toNat : Int) ^^^ BitVec.ofInt 8 (y.toNat : Int)).toNat : Int) = _
  rw [BitVec.toNat_xor, e1, e2, UInt8.toNat_xor, IntKind.wrap_u8]
  omega
/-- A row of bytes, whatever they are, that may be written. -/
def Tb (w : World) (g n : Nat) : Prop := ∃ cs T N, w.heap[g]? = some (.cells cs T (N, N + 1)) ∧ n ≤ N ∧ ∀ j, j < n → ∃ y : UInt8, cs[j]? = some (.int .u8 (y.toNat : Int))
theorem Tb.at {w : World} {g n : Nat} (h : Tb w g n) (j : Nat) (hj : j < n) : ∃ y : UInt8, w.cell? ⟨g, j, none⟩ = some (.int .u8 (y.toNat : Int)) ∧ w.frozen? ⟨g, j, none⟩ = false ∧ ∀ u : UInt8, Tb (w.setCell ⟨g, j, none⟩ (.int .u8 (u.toNat : Int))) g n := by
  obtain ⟨cs, T, N, hg, hN, hc⟩ := h
  obtain ⟨y, hy⟩ := hc j hj
  refine ⟨y, (cell_of_block hg j).trans hy, ?_, fun u => ⟨cs.setIfInBounds j (.int .u8 (u.toNat : Int)), T, N, ?_, hN, fun i hi => ?_⟩⟩
  · simp [World.frozen?, hg]; omega
  · have hlt := lt_of_block hg
    have h' : w.heap[g] = .cells cs T (N, N + 1) := by simpa [Array.getElem?_eq_getElem hlt] using hg
    show (w.heap.modify g _)[g]? = _
    rw [Array.getElem?_eq_getElem (by simpa using hlt), Array.getElem_modify_self, h']
    rfl
  · rw [Array.getElem?_setIfInBounds]
    by_cases e : j = i
    · subst e
      refine ⟨u, ?_⟩
      rw [if_pos rfl, if_pos (Array.getElem?_eq_some_iff.1 hy).1]
    · rw [if_neg e]; exact hc i hi
theorem conv_text (t : List UInt8) (w : World) : ∃ c W', (convert 9 26 (.string ⟨t.toArray⟩)).run Try.prog w = .ok (.slice (some ⟨w.heap.size, 0, none⟩) t.length c) W' ∧ Fr (fun _ => False) w W' ∧ Tb W' w.heap.size t.length ∧ Lies W' (some ⟨w.heap.size, 0, none⟩) t ∧ W'.heap.size = w.heap.size + 1 := by
  have hs := ba_size t
  have hr := run_bytes_of_string (P := Try.prog) w 9 26 5 ⟨t.toArray⟩ Try.underlying9 Try.underlying26 Try.underlying5
  rw [hs] at hr
  have hcell : ∀ (cap j : Nat) (hj : j < t.length), (bytesRow ⟨t.toArray⟩ cap)[j]? = some (.int .u8 ((t[j]'hj).toNat : Int)) := fun cap j hj => by
    unfold bytesRow
    rw [Array.getElem?_append_left (by simp; omega)]
    simp [hj]
  have hn : (w.drew.alloc (.cells (bytesRow ⟨t.toArray⟩ (grownCap w t.length 0 5)) 5 ((bytesRow ⟨t.toArray⟩ (grownCap w t.length 0 5)).size, (bytesRow ⟨t.toArray⟩ (grownCap w t.length 0 5)).size + 1))).heap[w.heap.size]? = some (.cells (bytesRow ⟨t.toArray⟩ (grownCap w t.length 0 5)) 5 ((bytesRow ⟨t.toArray⟩ (grownCap w t.length 0 5)).size, (bytesRow ⟨t.toArray⟩ (grownCap w t.length 0 5)).size + 1)) := heap_alloc_new w.drew _
  refine ⟨_, _, hr, ((Fr.refl _ w).drew).alloc _, ⟨_, _, _, hn, by unfold bytesRow; simp, fun j hj => ⟨_, hcell _ j hj⟩⟩, Or.inr ⟨_, 0, rfl, fun j hj => ?_⟩, by simp⟩
  rw [Nat.zero_add, cell_of_block hn]
  exact hcell _ j hj
set_option maxRecDepth 100000 in
set_option maxHeartbeats 800000 in
theorem wt_byte (bw B : Nat) (v : Value) (er : Int) (xs : List Value) (z : Int) (f : Nat → UInt8) (t : List UInt8) (h0 : 0 ≤ z) (h9 : z ≤ 255) (w : World) (h : Wr w bw B v xs er) (hlen : xs.length + 302 ≤ 140737488355328) :
    Calls Try.prog 9 #[.pointer (some ⟨bw, 0, none⟩), .agg (pt 1 z f t)] w fun e w' => e = .returned (.tuple #[]) ∧ Written w w' bw B v xs er (enc 0 z f t) := by
  have c0 : (w.alloc (.cells (pt 1 z f t) 34)).cell? ⟨w.heap.size, 0, none⟩ = some (.int .i64 1) := (cell_of_block (heap_alloc_new w _) 0).trans (pt_0 _ z f t)
  have c1 : (w.alloc (.cells (pt 1 z f t) 34)).cell? ⟨w.heap.size, 1, none⟩ = some (.int .i64 z) := (cell_of_block (heap_alloc_new w _) 1).trans (pt_1 _ z f t)
  have c34 : (w.alloc (.cells (pt 1 z f t) 34)).cell? ⟨w.heap.size, 34, none⟩ = some (.string ⟨t.toArray⟩) := (cell_of_block (heap_alloc_new w _) 34).trans (pt_34 _ z f t)
  have h1 : Wr (w.alloc (.cells (pt 1 z f t) 34)) bw B v xs er := h.alloc _
  have FA : Fr (fun _ => False) w (w.alloc (.cells (pt 1 z f t) 34)) := (Fr.refl _ w).alloc _
  have HL := Lib.hid hlen
  have HH := Lib.hid h1
  clear hlen h1
  have he : enc 0 z f t = some [UInt8.ofNat z.toNat] := by show (if 0 ≤ z ∧ z ≤ 255 then _ else _) = _; rw [if_pos ⟨h0, h9⟩]
  go_enter Try.func9, Try.ntmps9
  go_wp2_with fail
  refine (byte_ok bw B v er z xs _ HH.out h0 h9 (by have := HL.out; omega)).mono ?_
  rintro e w2 ⟨rfl, ha⟩
  go_wp2_with fail
  go_end0
  exact ⟨rfl, Written.ok he (by rw [← bv_single z h0 (by omega)]; exact ha.behind)⟩
set_option maxRecDepth 100000 in
set_option maxHeartbeats 800000 in
theorem wt_bad (bw B : Nat) (v : Value) (er : Int) (xs : List Value) (z : Int) (f : Nat → UInt8) (t : List UInt8) (h0 : z < 0 ∨ 255 < z) (w : World) (h : Wr w bw B v xs er) (hlen : xs.length + 302 ≤ 140737488355328) :
    Calls Try.prog 9 #[.pointer (some ⟨bw, 0, none⟩), .agg (pt 1 z f t)] w fun e w' => e = .returned (.tuple #[]) ∧ Written w w' bw B v xs er (enc 0 z f t) := by
  have c0 : (w.alloc (.cells (pt 1 z f t) 34)).cell? ⟨w.heap.size, 0, none⟩ = some (.int .i64 1) := (cell_of_block (heap_alloc_new w _) 0).trans (pt_0 _ z f t)
  have c1 : (w.alloc (.cells (pt 1 z f t) 34)).cell? ⟨w.heap.size, 1, none⟩ = some (.int .i64 z) := (cell_of_block (heap_alloc_new w _) 1).trans (pt_1 _ z f t)
  have c34 : (w.alloc (.cells (pt 1 z f t) 34)).cell? ⟨w.heap.size, 34, none⟩ = some (.string ⟨t.toArray⟩) := (cell_of_block (heap_alloc_new w _) 34).trans (pt_34 _ z f t)
  have h1 : Wr (w.alloc (.cells (pt 1 z f t) 34)) bw B v xs er := h.alloc _
  have FA : Fr (fun _ => False) w (w.alloc (.cells (pt 1 z f t) 34)) := (Fr.refl _ w).alloc _
  have HL := Lib.hid hlen
  have HH := Lib.hid h1
  clear hlen h1
  have he : enc 0 z f t = none := by show (if 0 ≤ z ∧ z ≤ 255 then _ else _) = _; rw [if_neg (by omega)]
  have H0 := Lib.hid h0
  clear h0
  go_enter Try.func9, Try.ntmps9
  go_wp2_with fail
  refine (byte_bad bw B v er z xs _ HH.out H0.out).mono ?_
  rintro e w2 ⟨rfl, ha, hF⟩
  go_wp2_with fail
  go_end0
  exact ⟨rfl, Written.bad he ha (((Fr.refl _ w).alloc _).trans hF (fun i hi => .inl hi))⟩
set_option maxRecDepth 100000 in
set_option maxHeartbeats 800000 in
theorem wt_flag (bw B : Nat) (v : Value) (er : Int) (xs : List Value) (z : Int) (f : Nat → UInt8) (t : List UInt8) (w : World) (h : Wr w bw B v xs er) (hlen : xs.length + 302 ≤ 140737488355328) :
    Calls Try.prog 9 #[.pointer (some ⟨bw, 0, none⟩), .agg (pt 2 z f t)] w fun e w' => e = .returned (.tuple #[]) ∧ Written w w' bw B v xs er (enc 1 z f t) := by
  have c0 : (w.alloc (.cells (pt 2 z f t) 34)).cell? ⟨w.heap.size, 0, none⟩ = some (.int .i64 2) := (cell_of_block (heap_alloc_new w _) 0).trans (pt_0 _ z f t)
  have c1 : (w.alloc (.cells (pt 2 z f t) 34)).cell? ⟨w.heap.size, 1, none⟩ = some (.int .i64 z) := (cell_of_block (heap_alloc_new w _) 1).trans (pt_1 _ z f t)
  have c34 : (w.alloc (.cells (pt 2 z f t) 34)).cell? ⟨w.heap.size, 34, none⟩ = some (.string ⟨t.toArray⟩) := (cell_of_block (heap_alloc_new w _) 34).trans (pt_34 _ z f t)
  have h1 : Wr (w.alloc (.cells (pt 2 z f t) 34)) bw B v xs er := h.alloc _
  have FA : Fr (fun _ => False) w (w.alloc (.cells (pt 2 z f t) 34)) := (Fr.refl _ w).alloc _
  have HL := Lib.hid hlen
  have HH := Lib.hid h1
  clear hlen h1
  obtain ⟨hb, hr⟩ := low_eq z
  have he : enc 1 z f t = some [UInt8.ofNat (low z)] := rfl
  rw [he]
  clear he
  generalize low z = r at *
  have hbb : ∀ b : Bool, ((r : Int) == 1) = b → [Value.int .u8 (if b then 1 else 0)] = bv [UInt8.ofNat r] := by
    rintro b rfl
    have : r = 0 ∨ r = 1 := by omega
    rcases this with rfl | rfl <;> rfl
  have HB := Lib.hid hbb
  clear hbb
  obtain ⟨b, hb1⟩ : ∃ b, ((r : Int) == 1) = b := ⟨_, rfl⟩
  have hb2 : decide ((r : Int) = 1) = b := hb1
  have HB1 := Lib.hid hb1
  go_enter Try.func9, Try.ntmps9
  go_wp2_with fail
  refine (flag_any bw B v er b xs _ HH.out (by have := HL.out; omega)).mono ?_
  rintro e w2 ⟨rfl, ha⟩
  go_wp2_with fail
  go_end0
  exact ⟨rfl, Written.ok rfl (by rw [← HB.out b HB1.out]; exact ha.behind)⟩
set_option maxRecDepth 100000 in
set_option maxHeartbeats 800000 in
theorem wt_num (bw B : Nat) (v : Value) (er : Int) (xs : List Value) (z : Int) (f : Nat → UInt8) (t : List UInt8) (w : World) (h : Wr w bw B v xs er) (hlen : xs.length + 302 ≤ 140737488355328) :
    Calls Try.prog 9 #[.pointer (some ⟨bw, 0, none⟩), .agg (pt 3 z f t)] w fun e w' => e = .returned (.tuple #[]) ∧ Written w w' bw B v xs er (enc 2 z f t) := by
  have c0 : (w.alloc (.cells (pt 3 z f t) 34)).cell? ⟨w.heap.size, 0, none⟩ = some (.int .i64 3) := (cell_of_block (heap_alloc_new w _) 0).trans (pt_0 _ z f t)
  have c1 : (w.alloc (.cells (pt 3 z f t) 34)).cell? ⟨w.heap.size, 1, none⟩ = some (.int .i64 z) := (cell_of_block (heap_alloc_new w _) 1).trans (pt_1 _ z f t)
  have c34 : (w.alloc (.cells (pt 3 z f t) 34)).cell? ⟨w.heap.size, 34, none⟩ = some (.string ⟨t.toArray⟩) := (cell_of_block (heap_alloc_new w _) 34).trans (pt_34 _ z f t)
  have h1 : Wr (w.alloc (.cells (pt 3 z f t) 34)) bw B v xs er := h.alloc _
  have FA : Fr (fun _ => False) w (w.alloc (.cells (pt 3 z f t) 34)) := (Fr.refl _ w).alloc _
  have HL := Lib.hid hlen
  have HH := Lib.hid h1
  clear hlen h1
  obtain ⟨u, hu⟩ := wrap_u64_nat z
  have he : enc 2 z f t = some (be8 u) := by show some (be8 _) = _; rw [hu]; rfl
  have HU := Lib.hid hu
  clear hu
  go_enter Try.func9, Try.ntmps9
  go_wp2_with fail
  refine (num_any bw B v er z xs _ HH.out (by have := HL.out; omega)).mono ?_
  rintro e w2 ⟨rfl, ha⟩
  go_wp2_with fail
  go_end0
  exact ⟨rfl, Written.ok he (by rw [← num_bytes z u HU.out]; exact ha.behind)⟩
set_option maxRecDepth 100000 in
set_option maxHeartbeats 800000 in
theorem wt_sum (bw B : Nat) (v : Value) (er : Int) (xs : List Value) (z : Int) (f : Nat → UInt8) (t : List UInt8) (w : World) (h : Wr w bw B v xs er) (hlen : xs.length + 302 ≤ 140737488355328) :
    Calls Try.prog 9 #[.pointer (some ⟨bw, 0, none⟩), .agg (pt 4 z f t)] w fun e w' => e = .returned (.tuple #[]) ∧ Written w w' bw B v xs er (enc 3 z f t) := by
  have c0 : (w.alloc (.cells (pt 4 z f t) 34)).cell? ⟨w.heap.size, 0, none⟩ = some (.int .i64 4) := (cell_of_block (heap_alloc_new w _) 0).trans (pt_0 _ z f t)
  have c1 : (w.alloc (.cells (pt 4 z f t) 34)).cell? ⟨w.heap.size, 1, none⟩ = some (.int .i64 z) := (cell_of_block (heap_alloc_new w _) 1).trans (pt_1 _ z f t)
  have c34 : (w.alloc (.cells (pt 4 z f t) 34)).cell? ⟨w.heap.size, 34, none⟩ = some (.string ⟨t.toArray⟩) := (cell_of_block (heap_alloc_new w _) 34).trans (pt_34 _ z f t)
  have h1 : Wr (w.alloc (.cells (pt 4 z f t) 34)) bw B v xs er := h.alloc _
  have FA : Fr (fun _ => False) w (w.alloc (.cells (pt 4 z f t) 34)) := (Fr.refl _ w).alloc _
  have HL := Lib.hid hlen
  have HH := Lib.hid h1
  clear hlen h1
  have he : enc 3 z f t = some ((List.range 32).map f) := rfl
  have K0 := (Kn.start w).new w.heap.size 35 (pt 4 z f t) 34 rfl (pt_size _ _ _ _)
  go_enter Try.func9, Try.ntmps9
  go_wp2_with (first | (focus (((with_reducible refine' wpList_load_pt K0 rfl 32 (.tmp 31) rfl 0 _ _ 2 32 _ (ub 32 f) _ rfl _ Try.underlying32 rfl szR _ _ _ _); rotate_left 3; (focus exact rfl); (focus exact pt_sum _ _ _ _); (focus exact ub_size _ _)))))
  refine (sum_any bw B v er (ub 32 f) xs _ HH.out (ub_size _ _) (by rw [ub_bytes]; exact bv_one _) (by have := HL.out; omega)).mono ?_
  rintro e w2 ⟨rfl, ha⟩
  go_wp2_with fail
  go_end0
  exact ⟨rfl, Written.ok he (by rw [← ub_bytes]; exact ha.behind)⟩
set_option maxRecDepth 100000 in
set_option maxHeartbeats 800000 in
theorem wt_text (bw B : Nat) (v : Value) (er : Int) (xs : List Value) (z : Int) (f : Nat → UInt8) (t : List UInt8) (ht : t.length ≤ 300) (w : World) (h : Wr w bw B v xs er) (hlen : xs.length + 302 ≤ 140737488355328) :
    Calls Try.prog 9 #[.pointer (some ⟨bw, 0, none⟩), .agg (pt 5 z f t)] w fun e w' => e = .returned (.tuple #[]) ∧ Written w w' bw B v xs er (enc 4 z f t) := by
  have c0 : (w.alloc (.cells (pt 5 z f t) 34)).cell? ⟨w.heap.size, 0, none⟩ = some (.int .i64 5) := (cell_of_block (heap_alloc_new w _) 0).trans (pt_0 _ z f t)
  have c1 : (w.alloc (.cells (pt 5 z f t) 34)).cell? ⟨w.heap.size, 1, none⟩ = some (.int .i64 z) := (cell_of_block (heap_alloc_new w _) 1).trans (pt_1 _ z f t)
  have c34 : (w.alloc (.cells (pt 5 z f t) 34)).cell? ⟨w.heap.size, 34, none⟩ = some (.string ⟨t.toArray⟩) := (cell_of_block (heap_alloc_new w _) 34).trans (pt_34 _ z f t)
  have h1 : Wr (w.alloc (.cells (pt 5 z f t) 34)) bw B v xs er := h.alloc _
  have FA : Fr (fun _ => False) w (w.alloc (.cells (pt 5 z f t) 34)) := (Fr.refl _ w).alloc _
  have HL := Lib.hid hlen
  have HH := Lib.hid h1
  clear hlen h1
  have he : enc 4 z f t = some (txt t) := rfl
  obtain ⟨c, w2, hcv, F2, hT2, hL2, hs2⟩ := conv_text t (w.alloc (.cells (pt 5 z f t) 34))
  have hbw : bw < w.heap.size := lt_of_block h.blk
  have hvo : ∀ k, v.ownBlock = some k → k < w.heap.size := fun k hk => (h.row_lt k hk).2
  have hz1 : (w.alloc (.cells (pt 5 z f t) 34)).heap.size = w.heap.size + 1 := by simp
  rw [hz1] at hcv hT2 hL2 hs2
  have H2 := HH.out.fr F2 (fun h => h) (fun _ _ h => h)
  have HW2 := Lib.hid H2
  have HF2 := Lib.hid (FA.trans F2 (fun _ h => h.elim))
  have HT2 := Lib.hid hT2
  have HLs := Lib.hid hL2
  have HT := Lib.hid ht
  have HBW := Lib.hid hbw
  have HVO := Lib.hid hvo
  have HX := Lib.hid (txt_bytes t (by omega))
  have hgw : w.heap.size ≤ w.heap.size + 1 := by omega
  have hgb : bw < w.heap.size + 1 := by omega
  have hgv : ∀ k, v.ownBlock = some k → k < w.heap.size + 1 := fun k hk => by have := hvo k hk; omega
  generalize w.heap.size + 1 = g at *
  have HGW := Lib.hid hgw
  have HGB := Lib.hid hgb
  have HGV := Lib.hid hgv
  have HS2 := Lib.hid hs2
  clear hgw hgb hgv hs2
  clear HH F2 hT2 hL2 H2 ht hbw hvo FA h
  go_enter Try.func9, Try.ntmps9
  go_wp2_with fail
  refine (text_ok bw B v er t.length c (some ⟨g, 0, none⟩) xs (bv t) w2 HW2.out (fun w3 hF => (HLs.out.fr hF (fun k hk e => by
    have : k = g := by obtain ⟨ad, e1, e2⟩ := hk; cases e1; exact e2.symm
    have h1 := HGB.out
    rcases e with e | e
    · omega
    · have := HGV.out k e; omega)).src c) (by have := HT.out; omega) (by have := HL.out; have := HT.out; omega)).mono ?_
  rintro e w3 ⟨rfl, ha⟩
  rw [HX.out] at ha
  obtain ⟨v4, h4, F4, o4⟩ := ha
  have hT3 : Tb w3 g t.length := by
    obtain ⟨cs, T, N, hg, r⟩ := HT2.out
    refine ⟨cs, T, N, (F4.block g (lt_of_block hg) (fun e => ?_)).trans hg, r⟩
    have h1 := HGB.out
    rcases e with e | e
    · omega
    · have := HGV.out g e; omega
  have H4 := Lib.hid h4
  have HF4 := Lib.hid F4
  have HO4 := Lib.hid o4
  have HT3 := Lib.hid hT3
  clear h4 F4 o4 hT3 hcv c0 c1 c34
  obtain ⟨n, hn⟩ : ∃ n, n = t.length := ⟨_, rfl⟩
  have hn3 : n ≤ 300 := by have := HT.out; omega
  rw [← hn] at HT3 ⊢
  go_wp2_with fail
  go_loopw [5] (fun i wr => ∃ k : Nat, k ≤ n ∧ i = .int .i64 k ∧ Fr (fun k => k = g) w3 wr ∧ Tb wr g n) (fun i _ => n - (intOf i).toNat)
  case atStart => exact ⟨0, by omega, by simp, Fr.refl _ _, HT3.out⟩
  case round =>
    obtain ⟨k, hk, rfl, hF, hTb⟩ := hrel
    by_cases hlt : k < n
    · have q1 : (k : Int) < (n : Int) := by omega
      have q0 : (0 : Int) ≤ (k : Int) := by omega
      obtain ⟨y, hy, hfz, hst⟩ := hTb.at k hlt
      have hx : bits .xor .u8 (y.toNat : Int) 9 = ((y ^^^ 9).toNat : Int) := xor_byte y 9
      have hst2 := hst (y ^^^ 9)
      generalize y ^^^ 9 = y2 at hx hst2
      have HST := Lib.hid hst2
      have HF := Lib.hid hF
      clear hst hst2 hTb hF
      go_wp2_with fail
      exact ⟨⟨k + 1, by omega, rfl, HF.out.setCell (Or.inl rfl) _, HST.out⟩, by simp [intOf]; omega⟩
    · obtain rfl : k = n := by omega
      have HF := Lib.hid hF
      clear hF hTb
      go_wp2_with fail
      go_end0
      have h4w : Wr wr bw B v4 (xs ++ bv (txt t)) er := H4.out.fr HF.out (fun e => by have := HGB.out; omega) (fun j hj e => by
        rcases HO4.out with o | o
        · have := HGV.out j (by rw [← o]; exact hj); omega
        · have := o j hj; have := HS2.out; omega)
      refine ⟨rfl, v4, by rw [he]; exact h4w, ((HF2.out.mono (fun _ _ h => h.elim)).trans HF4.out (fun i hi => .inl hi)).trans HF.out (fun i hi => .inr (by have := HGW.out; omega)), HO4.out.imp_right fun o j hj => ?_⟩
      have := o j hj
      have := HF2.out.size
      omega
theorem write_any (q : Nat) (hq : q < 5) (bw B : Nat) (v : Value) (er : Int) (xs : List Value) (z : Int) (f : Nat → UInt8) (t : List UInt8) (ht : t.length ≤ 300) (w : World) (h : Wr w bw B v xs er) (hlen : xs.length + 302 ≤ 140737488355328) :
    Calls Try.prog 9 #[.pointer (some ⟨bw, 0, none⟩), .agg (pt (1 + (q : Int)) z f t)] w fun e w' => e = .returned (.tuple #[]) ∧ Written w w' bw B v xs er (enc q z f t) := by
  match q, hq with
  | 0, _ =>
    by_cases h0 : z < 0
    · exact wt_bad bw B v er xs z f t (.inl h0) w h hlen
    · by_cases h1 : 255 < z
      · exact wt_bad bw B v er xs z f t (.inr h1) w h hlen
      · exact wt_byte bw B v er xs z f t (by omega) (by omega) w h hlen
  | 1, _ => exact wt_flag bw B v er xs z f t w h hlen
  | 2, _ => exact wt_num bw B v er xs z f t w h hlen
  | 3, _ => exact wt_sum bw B v er xs z f t w h hlen
  | 4, _ => exact wt_text bw B v er xs z f t ht w h hlen
end Go.Proofs.Ytdlmfodnookmhaa

/-
  The document's part: DocPut.
-/
import Derived.Test.YtkigdgkklninoaaWp
import Derived.Test.YtkigdgkklninoaaKz
namespace Go.Proofs.Ytkigdgkklninoaa
open Go.RowKit
set_option linter.unusedVariables false
set_option linter.unusedSimpArgs false
def dpL (sz : Nat) (s t : ByteArray) (L : List (ByteArray × ByteArray)) : List (ByteArray × ByteArray) := ((s, t) :: wo s L).take sz
theorem own_take {w : World} {base : Nat} {T : TypeId} {g n c k : Nat} {L : List (ByteArray × ByteArray)} (O : w.ownsRow base T 2 (.slice (some ⟨g, 0, none⟩) n c) n (ec L)) (hk : k ≤ n) : w.ownsRow base T 2 (.slice (some ⟨g, 0, none⟩) k c) k (ec (L.take k)) := by
  rcases O.2 with ⟨e, _⟩ | ⟨g', cap, gc, e, hb, hg, hnc, hm, hs, ht⟩
  · cases e
  · injection e with e1 e2 e3
    have e1' : g = g' := by injection e1 with e1; injection e1
    subst e1' e3
    have hl := O.1
    rw [ec_len] at hl
    refine ⟨by rw [ec_len, List.length_take]; omega, .inr ⟨g, c, gc, rfl, hb, hg, by omega, hm, hs, ?_⟩⟩
    rw [← ec_take, ← ht, List.take_take, Nat.min_eq_left (by omega)]
set_option maxRecDepth 100000 in
set_option maxHeartbeats 6400000 in
theorem docput_any (w : World) {{base pw off : Nat}} {{T : TypeId}} {{cur : Array Value}} {{sz : Nat}} {{v : Value}} {{L : List (ByteArray × ByteArray)}} {{h m : Int}} (p : RP w base pw off T cur (sz : Int) v L h m) (hb : base ≤ w.heap.size) (hlen : L.length ≤ 999) (hsz : sz ≤ 256) (s t : ByteArray) : Calls Try.prog 15 #[.pointer (some ⟨pw, off, none⟩), .string s, .string t] w fun e w' => e = .returned (.tuple #[]) ∧ ∃ cur' v', RStep w w' base pw off T cur cur' (sz : Int) v v' (dpL sz s t L) h m := by
  have HW := Lib.hid (without_any w p (by omega) s)
  have HP := Lib.hid p
  have HB := Lib.hid hb
  have hwl := wo_len s L
  have HLN := Lib.hid (show (wo s L).length ≤ 999 by omega)
  have HDL := Lib.hid (show dpL sz s t L = ((s, t) :: wo s L).take sz from rfl)
  have HSZ := Lib.hid hsz
  obtain ⟨ti, zv, t1, t2, t3, t4, t5⟩ := pInfo
  have HT := Lib.hid (And.intro t1 (And.intro t2 (And.intro t3 (And.intro t4 t5))))
  clear p hb hlen hwl hsz t1 t2 t3 t4 t5
  generalize dpL sz s t L = DL at *
  generalize whS s L = wh at *
  generalize wo s L = L1 at *
  generalize hasS s L = ok at *
  go_enter Try.func15, Try.ntmps15
  go_wp2_with fail
  refine HW.out.mono ?_
  rintro e W3 ⟨v2, rfl, O3, F3⟩
  have P3 := HP.out.fr F3 (fun h => h) (fun _ _ h => h)
  obtain ⟨a2, c2', rfl⟩ : ∃ a c, v2 = .slice a L1.length c := by
    rcases O3.2 with ⟨e, h0⟩ | ⟨g, cap, gc, e, _⟩
    · exact ⟨none, 0, by rw [e, h0]⟩
    · exact ⟨_, _, e⟩
  have hbs : base ≤ W3.heap.size := by have := F3.size; have := HB.out; omega
  have HP3 := Lib.hid P3
  have HF3 := Lib.hid F3
  have HSR := Lib.hid (srcRow (O3.alloc (.cells #[.string s, .string t] 70)) rfl)
  have HOL := Lib.hid (own_lit W3 base hbs s t)
  have HMX := Lib.hid (show 1 + L1.length ≤ maxLen by have := HLN.out; unfold maxLen; omega)
  have HBY := Lib.hid (show (1 + L1.length) * 32 ≤ 140737488355328 by have := HLN.out; omega)
  have HBS := Lib.hid (show base ≤ (W3.alloc (.cells #[.string s, .string t] 70)).heap.size by simp; omega)
  clear P3 O3 F3 hbs HW
  go_wp2_with (at_builtin; refine wpList_app _ rfl (.tmp 20) (.tmp 21) 37 37 rfl base 70 ti zv 2 32 Try.underlying37 HT.out.1 HT.out.2.1 HT.out.2.2.1 HT.out.2.2.2.1 HT.out.2.2.2.2 (by decide) (.slice (some ⟨W3.heap.size, 0, none⟩) 1 1) 1 [.string s, .string t] rfl HOL.out _ rfl L1.length (ec L1) HSR.out HMX.out HBY.out HBS.out ?_; intro v3 w5 O5 G5 B5; refine Hid.out ?_)
  refine Lib.hid ?_
  obtain ⟨g9, c9, e9⟩ : ∃ g c, v3 = .slice (some ⟨g, 0, none⟩) (L1.length + 1) c := own_succ (by rw [Nat.add_comm]; exact O5)
  have fin := front_fin HP3.out rfl O5 G5 B5
  have hb5 : w5.heap[pw]? = _ := (G5.block pw (by have := lt_of_block HP3.out.blk; simp; omega) (fun e => by have e2 : pw = W3.heap.size := Option.some.inj e; have := lt_of_block HP3.out.blk; omega)).trans ((Below.heap_alloc _ _ _ (lt_of_block HP3.out.blk)).trans HP3.out.blk)
  have k5 : w5.cell? ⟨pw, off + 1, none⟩ = some _ := (cell_of_block hb5 _).trans HP3.out.row
  have f5 := free_of_block hb5 (off + 1)
  subst e9
  obtain ⟨P6, ⟨k6, e6, hk6⟩, F6⟩ := fin
  have HP6 := Lib.hid P6
  have HK6 := Lib.hid (And.intro e6 hk6)
  have HF6 := Lib.hid ((HF3.out.mono (T := fun b => b = pw) (fun _ _ h => h.elim)).trans F6 (fun _ h => .inl h))
  obtain ⟨W6, hW6⟩ : ∃ W6, W6 = w5.setCell ⟨pw, off + 1, none⟩ (.slice (some ⟨g9, 0, none⟩) (L1.length + 1) c9) := ⟨_, rfl⟩
  rw [← hW6] at HP6 HF6
  have HW6 := Lib.hid hW6
  clear hW6 P6 F6 e6 hk6 hb5 O5 G5 B5
  (try simp only [Act.put, List.setIfInBounds_toArray, List.set_cons_zero, List.set_cons_succ])
  go_wp2_with (first | (rw [← HW6.out]))
  have hcap : L1.length + 1 ≤ c9 := by
    rcases HP6.out.own.2 with ⟨e, _⟩ | ⟨g', cap, gc, e, _, _, hnc, _⟩
    · cases e
    · injection e with e1 e2 e3
      rw [e3]; simp at hnc; omega
  clear k5 f5
  have hc9 : ((L1.length : Int) + 1) ≤ (c9 : Int) := by omega
  rcases Nat.lt_or_ge sz (L1.length + 1) with hz | hz
  · have q1 : (sz : Int) < (L1.length : Int) + 1 := by omega
    have q2 : (sz : Int) ≤ (c9 : Int) := by omega
    have q3 : (0 : Int) ≤ (sz : Int) := Int.natCast_nonneg sz
    refine Kz.wp_region_mono (fun _ => False) 18 (sg 0 16 ++ ((16, true) :: (17, true) :: (18, true) :: [])) (by kernel_rfl) (by kernel_rfl) ?_
    refine Kz.Wk.seg 0 16 (by kernel_rfl) (by kernel_rfl) ?_
    apply Exists.intro
    refine ⟨?wk1, ?fin1⟩
    case wk1 =>
      intro γ
      have x1 : ∀ y : Ks.Ws γ, y.w.cell? ⟨pw, off + 1, none⟩ = some (.slice (some ⟨g9, 0, none⟩) (L1.length + 1) c9) := fun y => (cell_of_block (y.blk HP6.out.blk (fun h => h)) _).trans HP6.out.row
      have x0 : ∀ y : Ks.Ws γ, y.w.cell? ⟨pw, off, none⟩ = some (.int .i64 (sz : Int)) := fun y => (cell_of_block (y.blk HP6.out.blk (fun h => h)) _).trans HP6.out.size
      simp only [List.drop_succ_cons, List.drop_zero, List.take_succ_cons, List.take_zero]
      repeat (any_goals (first | go_big_quiet_step (fail) | quiet_step (fail)))
      exact wpQuiet_nil rfl
    case fin1 =>
    (try simp only [Act.put, List.setIfInBounds_toArray, List.set_cons_zero, List.set_cons_succ])
    refine Kz.Wk.one rfl (fun wa Xa => ?_)
    go_wp2_with fail
    refine ⟨Fr.refl _ _, ?_⟩
    refine Kz.Wk.one rfl (fun wb Xb => ?_)
    go_wp2_with fail
    refine ⟨Fr.refl _ _, ?_⟩
    refine Kz.Wk.one rfl (fun wc Xc => ?_)
    have X6c : Fr (fun _ => False) W6 wc := Ex.tr (Ex.tr Xa Xb) Xc
    have hbc := (X6c.block pw (lt_of_block HP6.out.blk) (fun h => h)).trans HP6.out.blk
    have szs : (Try.prog.info? 37).map (·.size) = some 1 := by kernel_rfl
    have hl := (Array.getElem?_eq_some_iff.1 HP6.out.miss).1
    refine wpList_store_one rfl 37 (.tmp 42) (.tmp 40) rfl pw (off + 1) rfl (.slice (some ⟨g9, 0, none⟩) (sz) c9) (by (first | rfl | (simp [Act.eval]))) rfl rfl szs T _ hbc (by omega) (fun wd Dd Fd => ⟨rfl, fun hne => absurd rfl hne, ?_⟩)
    (try simp only [Act.put, List.setIfInBounds_toArray, List.set_cons_zero, List.set_cons_succ])
    intro we Xe
    have F6e : Fr (fun b => b = pw) W6 we := (X6c.mono (T := fun b => b = pw) (fun _ _ h => h.elim)).trans (Fd.trans (Xe.mono (T := fun b => b = pw) (fun _ _ h => h.elim)) (fun _ h => .inl h)) (fun _ h => .inl h)
    have hbe : we.heap[pw]? = _ := (Xe.block pw (by have := lt_of_block hbc; have := Fd.size; omega) (fun h => h)).trans Dd
    have hle : (sz) ≤ L1.length + 1 := by omega
    have htk : ((s, t) :: L1).take sz = ((s, t) :: L1).take sz := rfl
    have hg9 : g9 ≠ pw := fun e => HP6.out.apart (by rw [e]; rfl)
    have O9 := F6e.own (own_take (L := (s, t) :: L1) HP6.out.own (k := (sz)) (by first | omega | (simp; omega))) (fun k e h => hg9 (by have e2 : g9 = k := Option.some.inj e; rw [e2, h]))
    have hln : (((s, t) :: L1).take (sz)).length = (sz) := by rw [List.length_take, List.length_cons]; omega
    have P9 : RP we base pw off T ((cur.setIfInBounds (off + 1) (.slice (some ⟨g9, 0, none⟩) (L1.length + 1) c9)).setIfInBounds (off + 1) (.slice (some ⟨g9, 0, none⟩) (sz) c9)) (sz : Int) (.slice (some ⟨g9, 0, none⟩) (sz) c9) (((s, t) :: L1).take (sz)) h m :=
      ⟨hbe, set_one HP6.out.size (by omega), set_here (by omega), set_one HP6.out.hits (by omega), set_one HP6.out.miss (by omega), by rw [hln]; exact O9, HP6.out.apart⟩
    rw [htk, ← HDL.out] at P9
    have HP9 := Lib.hid P9
    have HF9 := Lib.hid (HF6.out.trans F6e (fun _ h => .inl h))
    clear P9 hln O9 hg9 htk hle hbe F6e Xe Fd Dd hl hbc X6c Xc Xb Xa
    go_wp2_with fail
    go_end0
    exact ⟨rfl, _, _, HP9.out, by simp, fun j hj => by simp only [Array.getElem?_setIfInBounds]; rw [if_neg (by omega), if_neg (by omega)], own_of (.inr ⟨k6, HK6.out.1, Nat.le_trans HF3.out.size HK6.out.2⟩), HF9.out⟩
  · have q1 : ¬ ((sz : Int) < (L1.length : Int) + 1) := by omega
    have q2 : ((L1.length + 1 : Nat) : Int) ≤ (c9 : Int) := by omega
    have q3 : (0 : Int) ≤ ((L1.length + 1 : Nat) : Int) := Int.natCast_nonneg _
    refine Kz.wp_region_mono (fun _ => False) 18 (sg 0 16 ++ ((16, true) :: (17, true) :: (18, true) :: [])) (by kernel_rfl) (by kernel_rfl) ?_
    refine Kz.Wk.seg 0 16 (by kernel_rfl) (by kernel_rfl) ?_
    apply Exists.intro
    refine ⟨?wk1, ?fin1⟩
    case wk1 =>
      intro γ
      have x1 : ∀ y : Ks.Ws γ, y.w.cell? ⟨pw, off + 1, none⟩ = some (.slice (some ⟨g9, 0, none⟩) (L1.length + 1) c9) := fun y => (cell_of_block (y.blk HP6.out.blk (fun h => h)) _).trans HP6.out.row
      have x0 : ∀ y : Ks.Ws γ, y.w.cell? ⟨pw, off, none⟩ = some (.int .i64 (sz : Int)) := fun y => (cell_of_block (y.blk HP6.out.blk (fun h => h)) _).trans HP6.out.size
      simp only [List.drop_succ_cons, List.drop_zero, List.take_succ_cons, List.take_zero]
      repeat (any_goals (first | go_big_quiet_step (fail) | quiet_step (fail)))
      exact wpQuiet_nil rfl
    case fin1 =>
    (try simp only [Act.put, List.setIfInBounds_toArray, List.set_cons_zero, List.set_cons_succ])
    refine Kz.Wk.one rfl (fun wa Xa => ?_)
    go_wp2_with fail
    refine ⟨Fr.refl _ _, ?_⟩
    refine Kz.Wk.one rfl (fun wb Xb => ?_)
    go_wp2_with fail
    refine ⟨Fr.refl _ _, ?_⟩
    refine Kz.Wk.one rfl (fun wc Xc => ?_)
    have X6c : Fr (fun _ => False) W6 wc := Ex.tr (Ex.tr Xa Xb) Xc
    have hbc := (X6c.block pw (lt_of_block HP6.out.blk) (fun h => h)).trans HP6.out.blk
    have szs : (Try.prog.info? 37).map (·.size) = some 1 := by kernel_rfl
    have hl := (Array.getElem?_eq_some_iff.1 HP6.out.miss).1
    refine wpList_store_one rfl 37 (.tmp 42) (.tmp 40) rfl pw (off + 1) rfl (.slice (some ⟨g9, 0, none⟩) (L1.length + 1) c9) (by (first | rfl | (simp [Act.eval]))) rfl rfl szs T _ hbc (by omega) (fun wd Dd Fd => ⟨rfl, fun hne => absurd rfl hne, ?_⟩)
    (try simp only [Act.put, List.setIfInBounds_toArray, List.set_cons_zero, List.set_cons_succ])
    intro we Xe
    have F6e : Fr (fun b => b = pw) W6 we := (X6c.mono (T := fun b => b = pw) (fun _ _ h => h.elim)).trans (Fd.trans (Xe.mono (T := fun b => b = pw) (fun _ _ h => h.elim)) (fun _ h => .inl h)) (fun _ h => .inl h)
    have hbe : we.heap[pw]? = _ := (Xe.block pw (by have := lt_of_block hbc; have := Fd.size; omega) (fun h => h)).trans Dd
    have hle : (L1.length + 1) ≤ L1.length + 1 := by omega
    have htk : ((s, t) :: L1).take (L1.length + 1) = ((s, t) :: L1).take sz := by rw [List.take_of_length_le (by simp), List.take_of_length_le (by simp; omega)]
    have hg9 : g9 ≠ pw := fun e => HP6.out.apart (by rw [e]; rfl)
    have O9 := F6e.own (own_take (L := (s, t) :: L1) HP6.out.own (k := (L1.length + 1)) (by first | omega | (simp; omega))) (fun k e h => hg9 (by have e2 : g9 = k := Option.some.inj e; rw [e2, h]))
    have hln : (((s, t) :: L1).take (L1.length + 1)).length = (L1.length + 1) := by rw [List.length_take, List.length_cons]; omega
    have P9 : RP we base pw off T ((cur.setIfInBounds (off + 1) (.slice (some ⟨g9, 0, none⟩) (L1.length + 1) c9)).setIfInBounds (off + 1) (.slice (some ⟨g9, 0, none⟩) (L1.length + 1) c9)) (sz : Int) (.slice (some ⟨g9, 0, none⟩) (L1.length + 1) c9) (((s, t) :: L1).take (L1.length + 1)) h m :=
      ⟨hbe, set_one HP6.out.size (by omega), set_here (by omega), set_one HP6.out.hits (by omega), set_one HP6.out.miss (by omega), by rw [hln]; exact O9, HP6.out.apart⟩
    rw [htk, ← HDL.out] at P9
    have HP9 := Lib.hid P9
    have HF9 := Lib.hid (HF6.out.trans F6e (fun _ h => .inl h))
    clear P9 hln O9 hg9 htk hle hbe F6e Xe Fd Dd hl hbc X6c Xc Xb Xa
    go_wp2_with fail
    go_end0
    exact ⟨rfl, _, _, HP9.out, by simp, fun j hj => by simp only [Array.getElem?_setIfInBounds]; rw [if_neg (by omega), if_neg (by omega)], own_of (.inr ⟨k6, HK6.out.1, Nat.le_trans HF3.out.size HK6.out.2⟩), HF9.out⟩
end Go.Proofs.Ytkigdgkklninoaa

/-
  A schedule of any length: Add; New, Now.
-/
import Derived.Test.YtcpapielklplcaaAf
namespace Go.Proofs.Ytcpapielklplcaa
open Go.RowKit
set_option linter.unusedVariables false
set_option linter.unusedSimpArgs false
set_option maxRecDepth 100000 in
set_option maxHeartbeats 1600000 in
theorem new5 (w : World) : Calls Try.prog 4 #[.int .i64 5] w fun e w' => e = .returned (.tuple #[.pointer (some ⟨w.heap.size, 0, none⟩), .int .i64 0]) ∧ Sd w' w.heap.size w.heap.size 5 (.slice none 0 0) [] ∧ Fr (fun _ => False) w w' := by
  go_enter Try.func4, Try.ntmps4
  go_wp2_with fail
  go_returns
  exact ⟨rfl, ⟨heap_alloc_new w _, World.ownsRow_nil _ _ _ _, by simp [Value.ownBlock], Nat.le_refl _⟩, (Fr.refl _ w).alloc _⟩
set_option maxRecDepth 100000 in
set_option maxHeartbeats 1600000 in
theorem new0 (w : World) : Calls Try.prog 4 #[.int .i64 0] w fun e w' => e = .returned (.tuple #[.pointer (some ⟨w.heap.size, 0, none⟩), .int .i64 0]) ∧ Sd w' w.heap.size w.heap.size 0 (.slice none 0 0) [] ∧ Fr (fun _ => False) w w' := by
  go_enter Try.func4, Try.ntmps4
  go_wp2_with fail
  go_returns
  exact ⟨rfl, ⟨heap_alloc_new w _, World.ownsRow_nil _ _ _ _, by simp [Value.ownBlock], Nat.le_refl _⟩, (Fr.refl _ w).alloc _⟩
set_option maxRecDepth 100000 in
set_option maxHeartbeats 1600000 in
theorem now_any (ps : Nat) (now : Int) (v : Value) (w : World) (h : SB w ps now v) : Calls Try.prog 11 #[.pointer (some ⟨ps, 0, none⟩)] w fun e w' => e = .returned (.int .i64 now) ∧ w = w' := by
  obtain ⟨c0, _, _⟩ := h.c
  go_enter Try.func11, Try.ntmps11
  go_wp2_with fail
  go_ret
  exact ⟨rfl, rfl⟩
set_option maxRecDepth 100000 in
set_option maxHeartbeats 1600000 in
theorem add_bad (ps : Nat) (s : ByteArray) (p a : Int) (w : World) (hbad : p < 1 ∨ 1000 < p ∨ a < 0) : Calls Try.prog 5 #[.pointer (some ⟨ps, 0, none⟩), .string s, .int .i64 p, .int .i64 a] w fun e w' => e = .returned (.int .i64 1) ∧ w = w' := by
  by_cases h1 : p < 1
  · clear hbad
    go_enter Try.func5, Try.ntmps5
    go_wp2_with fail
    go_ret
    exact ⟨rfl, rfl⟩
  by_cases h2 : 1000 < p
  · clear hbad
    go_enter Try.func5, Try.ntmps5
    go_wp2_with fail
    go_ret
    exact ⟨rfl, rfl⟩
  have h3 : a < 0 := by omega
  clear hbad
  go_enter Try.func5, Try.ntmps5
  go_wp2_with fail
  go_ret
  exact ⟨rfl, rfl⟩
/-- What Add leaves. -/
def AddPost (base ps : Nat) (now : Int) (v : Value) (L : List Mb) (x : Mb) (w : World) (e : Ending) (w' : World) : Prop := ∃ er v' L', e = .returned (.int .i64 er) ∧ Sd w' base ps now v' L' ∧ ((er = 11 ∧ L' = L ∧ ∃ m, m ∈ L ∧ m.id.toList = x.id.toList) ∨ (er = 0 ∧ ∃ i, i ≤ L.length ∧ L' = ins L i x)) ∧ (v'.ownBlock = v.ownBlock ∨ ∃ k, v'.ownBlock = some k ∧ w.heap.size ≤ k) ∧ Fr (fun k => k = ps ∨ v.ownBlock = some k) w w'
set_option maxRecDepth 100000 in
set_option maxHeartbeats 1600000 in
theorem add_good (ps base : Nat) (now : Int) (v : Value) (L : List Mb) (s : ByteArray) (p a : Int) (w : World) (h : Sd w base ps now v L) (hl : L.length ≤ 999) (p1 : 1 ≤ p) (p2 : p ≤ 1000) (a0 : 0 ≤ a) : Calls Try.prog 5 #[.pointer (some ⟨ps, 0, none⟩), .string s, .int .i64 p, .int .i64 a] w (AddPost base ps now v L ⟨s, p, a⟩ w) := by
  have n1 : ¬ (p < 1) := by omega
  have n2 : ¬ (1000 < p) := by omega
  have n3 : ¬ (a < 0) := by omega
  have HS := Lib.hid h
  have HL := Lib.hid hl
  obtain ⟨a9, c9, rfl⟩ := mr_form h.own
  clear h p1 p2 a0 hl
  go_enter Try.func5, Try.ntmps5
  go_wp2_with fail
  refine (find_any ps now _ L s base w HS.out (by have := HL.out; omega)).mono ?_
  rintro e w1 ⟨⟨k, b, rfl, hk, hb⟩, F1⟩
  have HS1 := Lib.hid (HS.out.ext F1)
  have HF1 := Lib.hid F1
  have HK := Lib.hid hk
  have HBB := Lib.hid hb
  clear F1 hk hb
  cases b with
  | true =>
    obtain ⟨m, hm, e⟩ := HBB.out rfl
    have HM := Lib.hid (And.intro hm e)
    clear hm e HBB
    go_wp2_with fail
    go_ret
    exact ⟨11, _, L, rfl, HS1.out, .inl ⟨rfl, rfl, m, List.mem_of_getElem? HM.out.1, HM.out.2⟩, .inl rfl, HF1.out.mono (fun _ _ h => h.elim)⟩
  | false =>
    obtain ⟨_, c1, _⟩ := HS1.out.blk.c
    go_wp2_with fail
    have A1 := (Fr.refl (fun _ => False) w1).alloc (.cells #[.string s, .int .i64 p, .int .i64 a] 43)
    have HA1 := Lib.hid (HS1.out.ext A1)
    have hbs : base ≤ (w1.alloc (.cells #[.string s, .int .i64 p, .int .i64 a] 43)).heap.size := by
      have h1 := lt_of_block HA1.out.blk; have h2 := HA1.out.b; omega
    refine (ins_any w1.heap.size k ⟨s, p, a⟩ _ L base _ HA1.out.own HK.out (by have := HL.out; omega) hbs (heap_alloc_new w1 _) (fun e => by have := (HS1.out.own.lt _ e).2; omega)).mono ?_
    rintro e w2 ⟨v2, rfl, hO, hB, F2⟩
    obtain ⟨a8, c8, rfl⟩ := mr_form hO
    have HB2 := Lib.hid (HA1.out.blk.fr F2 (fun e => HS1.out.ne e))
    obtain ⟨_, c1', _, f1'⟩ := HB2.out.c
    have HO := Lib.hid hO
    have HB := Lib.hid hB
    have HF2 := Lib.hid ((HF1.out.mono (T := fun k => (Value.slice a9 L.length c9).ownBlock = some k) (fun _ _ h => h.elim)).trans ((A1.mono (T := fun k => (Value.slice a9 L.length c9).ownBlock = some k) (fun _ _ h => h.elim)).trans F2 (fun _ h => .inl h)) (fun _ h => .inl h))
    have HSZ := Lib.hid HF1.out.size
    have HA1s := Lib.hid A1.size
    clear A1 hbs hO hB F2 c1
    go_wp2_with fail
    go_ret
    have hps : ps < w.heap.size := lt_of_block HS.out.blk
    have hne : (Value.slice a8 (ins L k ⟨s, p, a⟩).length c8).ownBlock ≠ some ps := fun e => by
      rcases HB.out with h | ⟨j, h, hj⟩
      · exact HS.out.ne (h ▸ e)
      · have : j = ps := by rw [h] at e; simpa using e
        have h1 := HSZ.out
        have h2 := HA1s.out
        omega
    have FS : Fr (fun k => k = ps) w2 (w2.setCell ⟨ps, 1, none⟩ (.slice a8 (ins L k ⟨s, p, a⟩).length c8)) := Fr.setCell (S := fun k => k = ps) (Fr.refl _ w2) (Or.inl rfl) _
    refine ⟨0, _, _, rfl, ⟨HB2.out.set1 _, FS.own HO.out (fun j e h => hne (h ▸ e)), hne, HS.out.b⟩, .inr ⟨rfl, k, HK.out, rfl⟩, ?_, ?_⟩
    · rcases HB.out with h | ⟨j, h, hj⟩
      · exact .inl h
      · exact .inr ⟨j, h, Nat.le_trans (Nat.le_trans HSZ.out HA1s.out) hj⟩
    · exact (HF2.out.mono (fun _ _ h => .inr h)).trans FS (fun _ h => .inl (.inl h))
end Go.Proofs.Ytcpapielklplcaa

/-
  take, as what it does to a part; Put, Get.
-/
import Derived.Test.YtkigdgkklninoaaWc
namespace Go.Proofs.Ytkigdgkklninoaa
open Go.RowKit
set_option linter.unusedVariables false
set_option linter.unusedSimpArgs false
set_option maxRecDepth 100000 in
set_option maxHeartbeats 6400000 in
theorem take_nil (w : World) (base pb off : Nat) (cur : Array Value) (h m : Int) (p : Pt w base pb off cur (.slice none 0 0) [] h m) (s : ByteArray) : Calls Try.prog 18 #[.pointer (some ⟨pb, off, none⟩), .string s] w fun e w' => e = .returned (.tuple #[.agg #[.string ⟨#[]⟩, .string ⟨#[]⟩], .bool false]) ∧ Fr (fun _ => False) w w' := by
  have F1 := (Fr.refl (fun _ => False) w).alloc (.cells #[.string ⟨#[]⟩, .string ⟨#[]⟩] 54)
  have p1 := p.fr F1 (fun h => h) (fun _ _ h => h)
  obtain ⟨c0, _⟩ := p1.c
  obtain ⟨FB, hFB⟩ : ∃ E, E = w.heap.size := ⟨_, rfl⟩
  have hal := heap_alloc_new w (.cells #[.string ⟨#[]⟩, .string ⟨#[]⟩] 54)
  rw [← hFB] at hal
  have HFB := Lib.hid hal
  have HF1 := Lib.hid F1
  have HE := Lib.hid hFB
  clear p p1 hal F1 hFB
  go_enter Try.func18, Try.ntmps18
  go_wp2_with fail
  go_loopw [13] (fun i wr => i = .int .i64 0 ∧ wr = w.alloc (.cells #[.string ⟨#[]⟩, .string ⟨#[]⟩] 54)) (fun _ _ => 0)
  case atStart => exact ⟨rfl, rfl⟩
  case round =>
    obtain ⟨rfl, rfl⟩ := hrel
    have hEe := HE.out
    rw [← hEe]
    clear hEe
    go_wp2_with (first | (focus (refine wpList_store_row rfl 54 (.tmp 4) (.tmp 35) rfl FB #[.string ⟨#[]⟩, .string ⟨#[]⟩] rfl rfl 54 _ HFB.out (by rw [szE]; rfl) rfl (oneE (⟨#[]⟩, ⟨#[]⟩)) ?_; try (simp only [Act.put, List.setIfInBounds_toArray, List.set_cons_zero, List.set_cons_succ]))))
    refine bodyPost_ret (results_row_tmp (setRow_heap _ FB _ _ _ _ HFB.out) rfl _ rfl rfl _ Try.underlying54 rfl (by rw [szE]; rfl)) rfl ?_
    exact ⟨rfl, HF1.out.trans (Fr.sr (S := fun b => b = FB) (Fr.refl _ _) rfl _) (fun i e => .inr (by rw [e, HE.out]; exact Nat.le_refl _))⟩
set_option maxRecDepth 100000 in
set_option maxHeartbeats 6400000 in
theorem take_none (w : World) (base pb off : Nat) (cur : Array Value) (v : Value) (L : List (ByteArray × ByteArray)) (h m : Int) (p : Pt w base pb off cur v L h m) (s : ByteArray) (hno : ∀ j x, j < L.length → L[j]? = some x → nm s x = false) : Calls Try.prog 18 #[.pointer (some ⟨pb, off, none⟩), .string s] w fun e w' => e = .returned (.tuple #[.agg #[.string ⟨#[]⟩, .string ⟨#[]⟩], .bool false]) ∧ Fr (fun _ => False) w w' := by
  obtain ⟨hl, hv⟩ := p.own
  rcases hv with ⟨rfl, hn0⟩ | ⟨g, cap, gc, rfl, hbg, hg, hnc, hcm, hcs, htk⟩
  · obtain rfl : L = [] := List.eq_nil_of_length_eq_zero hn0
    exact take_nil w base pb off cur h m p s
  · have hpg : pb ≠ g := fun e => p.apart (by rw [e]; rfl)
    have F1 := (Fr.refl (fun _ => False) w).alloc (.cells #[.string ⟨#[]⟩, .string ⟨#[]⟩] 54)
    have p1 := p.fr F1 (fun h => h) (fun _ _ h => h)
    obtain ⟨c0, _⟩ := p1.c
    obtain ⟨FB, hFB⟩ : ∃ E, E = w.heap.size := ⟨_, rfl⟩
    have hal := heap_alloc_new w (.cells #[.string ⟨#[]⟩, .string ⟨#[]⟩] 54)
    rw [← hFB] at hal
    have HFB := Lib.hid hal
    have HF1 := Lib.hid F1
    have HE := Lib.hid hFB
    have HP := Lib.hid p
    have HP1 := Lib.hid p1
    have hgl := lt_of_block hg
    have hpl := lt_of_block p.blk
    have HG := Lib.hid (And.intro hg (And.intro hnc (And.intro hcm (And.intro hcs htk))))
    have HNE := Lib.hid (show pb ≠ g ∧ FB ≠ g ∧ FB ≠ pb from ⟨hpg, by omega, by omega⟩)
    have HBG := Lib.hid hbg
    have HNO := Lib.hid hno
    clear p p1 hal F1 hFB hl hbg hg hnc hcm hcs htk hpg hgl hpl
    go_enter Try.func18, Try.ntmps18
    go_wp2_with fail
    have hEe := HE.out
    rw [← hEe]
    clear hEe
    refine take_loop (m := L.length) (pb := pb) (off := off) (fb := FB) (s := s) (L := L) ((HF1.out.block g (lt_of_block HG.out.1) (fun h => h)).trans HG.out.1) rfl HG.out.2.1 HG.out.2.2.1 HG.out.2.2.2.1 HG.out.2.2.2.2 HP1.out.blk HP1.out.kept HNE.out.1 HFB.out HNE.out.2.1 HNE.out.2.2 (Nat.le_refl _) HNO.out (fun x hx => by rw [List.getElem?_eq_none (Nat.le_refl _)] at hx; cases hx) _ rfl rfl rfl rfl rfl rfl rfl rfl ?_ ?_
    · intro t w2 _ hn p0 p1 p4 p5 p11 p12 p13 F2
      have hb2 := Lib.hid ((F2.block FB (lt_of_block HFB.out) (fun h => h)).trans HFB.out)
      have HF2 := Lib.hid F2
      clear F2
      obtain ⟨f, hff, rfl⟩ := frame_open hn
      have e0 := hff 0 _ p0
      have e1 := hff 1 _ p1
      have e4 := hff 4 _ p4
      have e5 := hff 5 _ p5
      have e11 := hff 11 _ p11
      have e12 := hff 12 _ p12
      have e13 := hff 13 _ p13
      clear hff hn p0 p1 p4 p5 p11 p12 p13
      rw [lit36, e0, e1, e4, e5, e11, e12, e13]
      clear e0 e1 e4 e5 e11 e12 e13
      clear HFB
      have HFB := hb2
      clear hb2
      go_wp2_with (first | (focus (refine wpList_store_row rfl 54 (.tmp 4) (.tmp 35) rfl FB #[.string ⟨#[]⟩, .string ⟨#[]⟩] rfl rfl 54 _ HFB.out (by rw [szE]; rfl) rfl (oneE (⟨#[]⟩, ⟨#[]⟩)) ?_; try (simp only [Act.put, List.setIfInBounds_toArray, List.set_cons_zero, List.set_cons_succ]))))
      refine bodyPost_ret (results_row_tmp (setRow_heap _ FB _ _ _ _ HFB.out) rfl _ rfl rfl _ Try.underlying54 rfl (by rw [szE]; rfl)) rfl ?_
      exact ⟨rfl, (HF1.out.trans HF2.out (fun _ h => h.elim)).trans (Fr.sr (S := fun b => b = FB) (Fr.refl _ _) rfl _) (fun i e => .inr (by rw [e, HE.out]; exact Nat.le_refl _))⟩
    · intro t w2 cur' x hx
      rw [List.getElem?_eq_none (Nat.le_refl _)] at hx; cases hx
set_option maxRecDepth 100000 in
set_option maxHeartbeats 6400000 in
theorem take_some (w : World) (base pb off : Nat) (cur : Array Value) (v : Value) (L : List (ByteArray × ByteArray)) (h m : Int) (p : Pt w base pb off cur v L h m) (s : ByteArray) (k : Nat) (x : ByteArray × ByteArray) (hk : L[k]? = some x) (hx : nm s x = true) (hno : ∀ j x, j < k → L[j]? = some x → nm s x = false) : Calls Try.prog 18 #[.pointer (some ⟨pb, off, none⟩), .string s] w fun e w' => e = .returned (.tuple #[.agg #[.string x.1, .string x.2], .bool true]) ∧ ∃ v', Pt w' base pb off (cur.setIfInBounds off v') v' (L.eraseIdx k) h m ∧ v'.ownBlock = v.ownBlock ∧ Fr (fun b => b = pb ∨ v.ownBlock = some b) w w' := by
  have hkl := (List.getElem?_eq_some_iff.1 hk).1
  obtain ⟨hl, hv⟩ := p.own
  rcases hv with ⟨rfl, hn0⟩ | ⟨g, cap, gc, rfl, hbg, hg, hnc, hcm, hcs, htk⟩
  · omega
  · have hpg : pb ≠ g := fun e => p.apart (by rw [e]; rfl)
    have F1 := (Fr.refl (fun _ => False) w).alloc (.cells #[.string ⟨#[]⟩, .string ⟨#[]⟩] 54)
    have p1 := p.fr F1 (fun h => h) (fun _ _ h => h)
    obtain ⟨c0, _⟩ := p1.c
    obtain ⟨FB, hFB⟩ : ∃ E, E = w.heap.size := ⟨_, rfl⟩
    have hal := heap_alloc_new w (.cells #[.string ⟨#[]⟩, .string ⟨#[]⟩] 54)
    rw [← hFB] at hal
    have HFB := Lib.hid hal
    have HF1 := Lib.hid F1
    have HE := Lib.hid hFB
    have HP := Lib.hid p
    have HP1 := Lib.hid p1
    have hgl := lt_of_block hg
    have hpl := lt_of_block p.blk
    have HG := Lib.hid (And.intro hg (And.intro hnc (And.intro hcm (And.intro hcs htk))))
    have HNE := Lib.hid (show pb ≠ g ∧ FB ≠ g ∧ FB ≠ pb from ⟨hpg, by omega, by omega⟩)
    have HBG := Lib.hid hbg
    have HNO := Lib.hid hno
    clear p p1 hal F1 hFB hl hbg hg hnc hcm hcs htk hpg hgl hpl
    go_enter Try.func18, Try.ntmps18
    go_wp2_with fail
    have hEe := HE.out
    rw [← hEe]
    clear hEe
    refine take_loop (m := k) (pb := pb) (off := off) (fb := FB) (s := s) (L := L) ((HF1.out.block g (lt_of_block HG.out.1) (fun h => h)).trans HG.out.1) rfl HG.out.2.1 HG.out.2.2.1 HG.out.2.2.2.1 HG.out.2.2.2.2 HP1.out.blk HP1.out.kept HNE.out.1 HFB.out HNE.out.2.1 HNE.out.2.2 (by omega) HNO.out (fun y hy => by rw [hk] at hy; cases hy; exact hx) _ rfl rfl rfl rfl rfl rfl rfl rfl ?_ ?_
    · intro t w2 e
      omega
    · intro t w2 cur' y hy hn p4 p5 hf hb hgg hs ht F2
      obtain rfl : x = y := by rw [hk] at hy; exact Option.some.inj hy
      go_wp2_with fail
      refine bodyPost_ret (results_row_tmp hf rfl _ p4 p5 _ Try.underlying54 rfl (by rw [szE]; rfl)) rfl ?_
      have hle : (L.eraseIdx k).length = L.length - 1 := by rw [List.length_eraseIdx, if_pos hkl]
      refine ⟨rfl, _, HP1.out.turn hb ⟨ec_len _, .inr ⟨g, cap, cur', by rw [hle], HBG.out, hgg, by have := HG.out.2.1; omega, HG.out.2.2.1, hs, by rw [hle]; exact ht⟩⟩ (by simp [Value.ownBlock]; exact fun e => HNE.out.1 e.symm), rfl, ?_⟩
      refine (HF1.out.mono (T := fun b => b = pb ∨ Value.ownBlock (.slice (some ⟨g, 0, none⟩) L.length cap) = some b) (fun _ _ h => h.elim)).trans F2 (fun i e => ?_)
      rcases e with e | e | e
      · exact .inl (.inr (by rw [e]; rfl))
      · exact .inl (.inl e)
      · exact .inr (by rw [e, HE.out]; exact Nat.le_refl _)
end Go.Proofs.Ytkigdgkklninoaa

/-
  CodecLong: a text has at most 65535 bytes, and not one more; it is read if it isn't longer than is asked.
-/
import Derived.Test.YtebmbhlhfojpeabCt
import Derived.Lib.SlBytesConst
namespace Go.Proofs.Ytebmbhlhfojpeab
open Go.RowKit
set_option linter.unusedVariables false


set_option maxRecDepth 100000 in
set_option maxHeartbeats 1600000 in
theorem codes_any (w : World) : Calls Try.prog 12 #[] w fun e w' => e = .returned (.bool true) ∧ Fr (fun _ => False) w w' := by
  have kc := fun (w : World) (C : Array Value) (n c : Nat) => Lib.run_convert_bytes_const (P := Try.prog) w 26 5 C n c Try.underlying26 Try.underlying5
  go_enter Try.func12, Try.ntmps12
  go_wp2_with fail
  have h0 : Wr (w.alloc (.cells #[.slice none 0 0, .int .i64 0] 31)) w.heap.size w.heap.size (.slice none 0 0) [] 0 :=
    ⟨heap_alloc_new w _, World.ownsRow_nil _ _ _ _, by simp⟩
  have F0 : Fr (fun _ => False) w (w.alloc (.cells #[.slice none 0 0, .int .i64 0] 31)) := (Fr.refl _ w).alloc _
  refine (byte_ok w.heap.size w.heap.size (.slice none 0 0) 0 5 [] _ h0 (by decide) (by decide) (by decide)).mono ?_
  rintro e w1 ⟨rfl, v1, h1, F1, g1⟩
  go_wp2_with fail
  have s1 : ∀ w2 : World, Fr (fun k => k = w.heap.size ∨ v1.ownBlock = some k) (w1.alloc (.cells #[.int .u8 97, .int .u8 98] 5 (2, 3))) w2 → Src Try.prog 1 26 (.slice (some ⟨w1.heap.size, 0, none⟩) 2 2) 2 [.int .u8 97, .int .u8 98] w2 := by
    intro w2 hF
    refine src_block (cs := #[.int .u8 97, .int .u8 98]) (t := 5) ((hF.block w1.heap.size (by simp) ?_).trans (heap_alloc_new w1 _)) (by simp [Value.oneCell']) 2
    rintro (e | e)
    · have := lt_of_block h1.blk; omega
    · have := h1.row_lt _ e; omega
  refine (text_ok w.heap.size w.heap.size v1 0 2 2 _ _ [.int .u8 97, .int .u8 98] _ (h1.alloc _) s1 (by decide) (by simp)).mono ?_
  rintro e w2 ⟨rfl, v2, h2, F2, g2⟩
  go_wp2_with fail
  refine (bytes_any w.heap.size w.heap.size v2 0 _ _ h2 (by simp [Value.oneCell']) (by simp)).mono ?_
  rintro e w3 ⟨v3, rfl, hown, F3⟩
  obtain ⟨a3, c3, rfl, _⟩ := slice_of_own hown
  have hl := (lies_own (l := [5, 0, 2, 97, 98]) hown).2.2.2
  have hst : (convert 26 9 (.slice a3 5 c3)).run Try.prog w3 = .ok (.string ⟨#[5, 0, 2, 97, 98]⟩) w3 := run_str hl c3 9 Try.underlying9
  go_wp2
  go_ret
  have G1 : Fr (fun _ => False) w w1 := F0.trans F1 (fun i hi => Or.inr (by rcases hi with e | e; omega; cases e))
  have G2 : Fr (fun _ => False) w w2 := (G1.alloc _).trans F2 (fun i hi => Or.inr (by rcases hi with e | e; omega; exact (h1.row_lt _ e).1))
  exact ⟨rfl, G2.trans F3 (fun i hi => hi.elim)⟩

theorem u64_nat (n : Int) : ∃ u : Nat, IntKind.u64.wrap n = (u : Int) := ⟨(IntKind.u64.wrap n).toNat, by rw [IntKind.wrap_u64]; omega⟩

/-- So many noughts. -/
def noughts (n : Nat) : List UInt8 := List.replicate n 0
theorem made_noughts (n : Nat) : (madeCells #[Value.int .u8 0] n).toList = bv (noughts n) := by
  apply List.ext_getElem
  · simp [madeCells, noughts, bv]
  · intro i h1 h2
    simp [madeCells, noughts, bv, Nat.mod_one]

/-- The two bytes of a count. -/
def hb (m : Nat) : UInt8 := UInt8.ofNat (m / 256)
def lb (m : Nat) : UInt8 := UInt8.ofNat (m % 256)
theorem text_bytes (m : Nat) (h : m ≤ 65535) (l : List UInt8) : [Value.int .u8 (m / 256), Value.int .u8 (m % 256)] ++ bv l = bv (hb m :: lb m :: l) := by
  have h1 : (hb m).toNat = m / 256 := by unfold hb; rw [UInt8.toNat_ofNat']; omega
  have h2 : (lb m).toNat = m % 256 := by unfold lb; rw [UInt8.toNat_ofNat']; omega
  rw [bv_cons, bv_cons, h1, h2]
  simp
theorem cnt_text (m : Nat) (h : m ≤ 65535) : cnt (hb m) (lb m) = m := by
  have h1 : (hb m).toNat = m / 256 := by unfold hb; rw [UInt8.toNat_ofNat']; omega
  have h2 : (lb m).toNat = m % 256 := by unfold lb; rw [UInt8.toNat_ofNat']; omega
  unfold cnt
  rw [h1, h2]; omega

set_option maxRecDepth 100000 in
set_option maxHeartbeats 1600000 in
theorem long_big (n most : Int) (u : Nat) (hu : IntKind.u64.wrap n = (u : Int)) (w : World) (h : 6 ≤ u % 10) :
    Calls Try.prog 5 #[.int .i64 n, .int .i64 most] w fun e w' => e = .returned (.bool true) ∧ Fr (fun _ => False) w w' := by
  obtain ⟨i0, hi, hz0, hz1, hz2⟩ := info_parts Try.infoB
  have b0 : (0 : Int) ≤ (u : Int) := by omega
  have b1 : (0 : Int) ≤ (u : Int) % 10 := by omega
  have b2 : (u : Int) % 10 < 10 := by omega
  go_enter Try.func5, Try.ntmps5
  go_wp2_with (at_make; refine wpList_make_full _ rfl (.tmp 18) (.tmp 18) 26 rfl w.heap.size 5 i0 (.int .u8 0) 1 Try.underlying26 hi hz0 hz1 .i64 .i64 _ _ (65530 + u % 10) rfl rfl (by omega) (by omega) (by rw [hz2]; omega) (by unfold maxLen; omega) (by simp) ?k)
  case k =>
  intro w1 hown hgrow
  have h0 : Wr w1 w.heap.size w.heap.size (.slice none 0 0) [] 0 := by
    have h0 : Wr (w.alloc (.cells #[.slice none 0 0, .int .i64 0] 31)) w.heap.size w.heap.size (.slice none 0 0) [] 0 :=
      ⟨heap_alloc_new w _, World.ownsRow_nil _ _ _ _, by simp⟩
    exact h0.fr (Fr.ofGrown hgrow) (fun h => by cases h) (fun _ _ h => by cases h)
  have F1 : Fr (fun _ => False) w w1 := ((Fr.refl _ w).alloc _).trans (Fr.ofGrown hgrow) (fun i hi => by cases hi)
  go_wp2_with fail
  refine (text_bad w.heap.size w.heap.size _ 0 (65530 + u % 10) (65530 + u % 10) _ _ _ h0 (by omega) (by unfold maxLen; omega)).mono ?_
  rintro e w2 ⟨rfl, h2, F2⟩
  go_wp2_with fail
  refine (bytes_any w.heap.size w.heap.size _ 5 _ _ h2 (by simp) (by simp)).mono ?_
  rintro e w3 ⟨v3, rfl, hown3, F3⟩
  obtain ⟨a3, c3, rfl, _⟩ := slice_of_own hown3
  go_wp2_with fail
  refine (codes_any _).mono ?_
  rintro e w4 ⟨rfl, F4⟩
  have hgt : decide ((65535 : Int) < 65530 + (u : Int) % 10) = true := by simp; omega
  go_wp2_with fail
  refine (codes_any _).mono ?_
  rintro e w5 ⟨rfl, F5⟩
  go_wp2
  go_ret
  exact ⟨rfl, (((F1.trans F2 (fun i hi => Or.inr (by omega))).trans F3 (fun i hi => hi.elim)).trans F4 (fun i hi => hi.elim)).trans F5 (fun i hi => hi.elim)⟩

set_option maxRecDepth 100000 in
set_option maxHeartbeats 1600000 in
theorem long_ok (n most : Int) (u v : Nat) (hu : IntKind.u64.wrap n = (u : Int)) (hv : IntKind.u64.wrap most = (v : Int)) (w : World) (h : u % 10 ≤ 5) :
    Calls Try.prog 5 #[.int .i64 n, .int .i64 most] w fun e w' => e = .returned (.bool true) ∧ Fr (fun _ => False) w w' := by
  obtain ⟨i0, hi, hz0, hz1, hz2⟩ := info_parts Try.infoB
  have b0 : (0 : Int) ≤ (u : Int) := by omega
  have b1 : (0 : Int) ≤ (u : Int) % 10 := by omega
  have b2 : (u : Int) % 10 < 10 := by omega
  have b3 : (0 : Int) ≤ (v : Int) := by omega
  have b4 : (0 : Int) ≤ (v : Int) % 5 := by omega
  have b5 : (v : Int) % 5 < 5 := by omega
  go_enter Try.func5, Try.ntmps5
  go_wp2_with (at_make; refine wpList_make_full _ rfl (.tmp 18) (.tmp 18) 26 rfl w.heap.size 5 i0 (.int .u8 0) 1 Try.underlying26 hi hz0 hz1 .i64 .i64 _ _ (65530 + u % 10) rfl rfl (by omega) (by omega) (by rw [hz2]; omega) (by unfold maxLen; omega) (by simp) ?k)
  case k =>
  intro w1 hown hgrow
  rw [made_noughts] at hown
  have hlies := (lies_own hown).2.2.2
  have h0 : Wr w1 w.heap.size w.heap.size (.slice none 0 0) [] 0 := by
    have h0 : Wr (w.alloc (.cells #[.slice none 0 0, .int .i64 0] 31)) w.heap.size w.heap.size (.slice none 0 0) [] 0 :=
      ⟨heap_alloc_new w _, World.ownsRow_nil _ _ _ _, by simp⟩
    exact h0.fr (Fr.ofGrown hgrow) (fun h => by cases h) (fun _ _ h => by cases h)
  have F1 : Fr (fun _ => False) w w1 := ((Fr.refl _ w).alloc _).trans (Fr.ofGrown hgrow) (fun i hi => by cases hi)
  have hl65 : 65530 + u % 10 ≤ 65535 := by omega
  obtain ⟨m, hm⟩ : ∃ m : Nat, m = 65530 + u % 10 := ⟨_, rfl⟩
  have e1 : (65530 : Int) + (u : Int) % 10 = (m : Int) := by omega
  have e2 : 65530 + u % 10 = m := hm.symm
  rw [e1, e2]
  rw [e2] at hown hlies
  have Hm := Lib.hid hm
  have hm1 : m ≤ 65535 := by omega
  have hm2 : 65530 ≤ m := by omega
  clear hm e1 e2 hl65
  go_wp2_with fail
  refine (text_ok w.heap.size w.heap.size _ 0 m m _ _ (bv (noughts m)) _ h0 ?s (by omega) (by simp; omega)).mono ?_
  case s =>
    intro w2 hF
    have := (hlies.fr hF (fun k hk => by
      obtain ⟨ad, e1, e2⟩ := hk
      cases e1
      rintro (e | e)
      · simp at e2; omega
      · cases e)).src m
    simpa [noughts] using this
  rintro e w2 ⟨rfl, v2, h2', F2, g2⟩
  rw [List.nil_append, text_bytes m hm1] at h2'
  have hnl : (noughts m).length = m := by simp [noughts]
  go_wp2_with fail
  refine (bytes_any w.heap.size w.heap.size _ 0 _ _ h2' (bv_one _) (by simp; omega)).mono ?_
  rintro e w3 ⟨v3, rfl, hown3, F3⟩
  obtain ⟨a3, c3, rfl, ha3⟩ := slice_of_own hown3
  obtain ⟨hlen3, _, _, hlies3⟩ := lies_own hown3
  have ha3' : a3 ≠ none := fun e => by have := ha3 e; simp at this
  have Hlen3 := Lib.hid hlen3
  clear hlen3
  have Ha3 := Lib.hid ha3
  clear ha3
  go_wp2_with fail
  refine (codes_any _).mono ?_
  rintro e w4 ⟨rfl, F4⟩
  have hlies4 := hlies3.fr F4 (fun _ _ h => h)
  go_wp2_with fail
  refine (read_any a3 c3 (hb m :: lb m :: noughts m) _ (by simp [hnl]) w4 hlies4 (fun h => absurd h ha3') (by omega)).mono ?_
  rintro e w5 ⟨br, a5, c5, rfl, hr5, hne5, hlt5, hlt6, F5⟩
  obtain ⟨g5, o5, rfl⟩ : ∃ g o, a5 = some ⟨g, o, none⟩ := by
    rcases hne5 with h | h
    · cases h
    · exact h
  have hcm := cnt_text m hm1
  have Hcm := Lib.hid hcm
  clear hcm hne5
  have FF4 : Fr (fun _ => False) w w4 := ((F1.trans F2 (fun i hi => Or.inr (by rcases hi with e | e; omega; cases e))).trans F3 (fun i hi => hi.elim)).trans F4 (fun i hi => hi.elim)
  have FF : Fr (fun _ => False) w w5 := FF4.trans F5 (fun i hi => hi.elim)
  have t1 : ((m : Int) + 1 + 1 == (m : Int) + 2) = true := by simp; omega
  by_cases h2 : 2 ≤ v % 5
  · have t2 : decide ((m : Int) ≤ (m : Int) - 2 + (v : Int) % 5) = true := by simp; omega
    go_wp2_with fail
    refine (rtext_ok br c5 g5 o5 (hb m) (lb m) (noughts m) _ w5 hr5 (by rw [Hcm.out]; omega) (by rw [Hcm.out]; omega)).mono ?_
    rintro e w6 ⟨v6, rfl, hown6, o6, hr6, F6⟩
    obtain ⟨a6, c6, rfl, ha6⟩ := slice_of_own hown6
    rw [Hcm.out] at hr6 hown6 ⊢
    have hd : (noughts m).drop m = [] := by simp [noughts]
    rw [hd] at hr6
    clear hd
    go_wp2_with fail
    refine (end_ok br _ _ w6 hr6).mono ?_
    rintro e w7 ⟨rfl, rfl⟩
    go_wp2
    go_ret
    exact ⟨rfl, FF.trans F6 (fun i hi => Or.inr (by have := FF4.size; omega))⟩
  · have t2 : decide ((m : Int) ≤ (m : Int) - 2 + (v : Int) % 5) = false := by simp; omega
    have t3 : decide ((m : Int) - 2 + (v : Int) % 5 < (m : Int)) = true := by simp; omega
    go_wp2_with fail
    refine (rtext_big br c5 g5 o5 (hb m) (lb m) (noughts m) _ w5 hr5 (by rw [Hcm.out]; omega)).mono ?_
    rintro e w6 ⟨rfl, hr6, F6⟩
    go_wp2_with fail
    refine (end_err br _ _ _ 5 w6 hr6 (by decide)).mono ?_
    rintro e w7 ⟨rfl, rfl⟩
    go_wp2_with fail
    refine (left_any br _ _ _ 5 w6 hr6).mono ?_
    rintro e w7 ⟨rfl, rfl⟩
    go_wp2
    go_ret
    exact ⟨rfl, FF.trans F6 (fun i hi => Or.inr (by have := FF4.size; omega))⟩

/-- The law, at every input. -/
theorem long_any (n most : Int) (w : World) : Calls Try.prog 5 #[.int .i64 n, .int .i64 most] w fun e w' => e = .returned (.bool true) ∧ Fr (fun _ => False) w w' := by
  obtain ⟨u, hu⟩ := u64_nat n
  obtain ⟨v, hv⟩ := u64_nat most
  by_cases h : u % 10 ≤ 5
  · exact long_ok n most u v hu hv w h
  · exact long_big n most u hu w (by omega)
end Go.Proofs.Ytebmbhlhfojpeab

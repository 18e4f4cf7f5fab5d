/-
  Contracts of layer 2's methods that only read, further: fields, field, Get, Kind, Len. Conditions: the arena's rows are as the document's list of things says, a word lies in 64 bits.
-/
import Derived.Test.YtcfepiihjbbnaaaArenaWalks1
namespace Go.Proofs.Ytcfepiihjbbnaaa
open Go.RowKit
namespace AW
theorem ret_s {ad : Option Addr} {a b : Nat} (h : a = b) : Ending.returned (.slice ad a a) = .returned (.slice ad b b) := by rw [h]
section
variable {w : World} {p g h n : Nat} {ts : List AP.Th}
/-- What is known of a thing that lies at place a. -/
theorem at_len (hA : Ar w p g h n ts) {i a : Nat} (hi : AP.idx ts a = some i) :
    w.cell? ⟨g, a, none⟩ = some (.int .u64 ((AP.th ts i).l.length : Int)) ∧ a + (AP.th ts i).l.length + 1 ≤ AP.sz ts ∧ AP.sz ts ≤ n ∧ n ≤ 65536 ∧ (AP.th ts i).l.length ≤ 255 ∧ i < ts.length := by
  have h0 := AP.idx_some hi
  refine ⟨hA.words.at (by unfold U64s; rw [List.getElem?_map, (AP.words_at hi).1]; rfl), h0.2.2, hA.ok.room, hA.ok.size, (hA.ok.each i h0.1).2.2.1, h0.1⟩
theorem at_word (hA : Ar w p g h n ts) {i a : Nat} (hi : AP.idx ts a = some i) {j : Nat} (hj : j < (AP.th ts i).l.length) :
    w.cell? ⟨g, a + 1 + j, none⟩ = some (.int .u64 ((AP.th ts i).l[j])) := by
  refine hA.words.at ?_
  unfold U64s
  rw [List.getElem?_map, (AP.words_at hi).2 j hj, List.getElem?_eq_getElem hj]; rfl
theorem fields_pos (hA : Ar w p g h n ts) (i a : Nat) (hi : AP.idx ts a = some i) (L : Nat) (hL : (AP.th ts i).l.length = L) (hp : 0 < L) :
    Calls Try.prog 30 #[ptr p, .int .i64 a] w fun e w' => e = .returned (.slice (some ⟨g, a + 1, none⟩) L L) ∧ w = w' := by
  obtain ⟨hc, h1, h2, h3, h4, h5⟩ := at_len hA hi
  have h0 := hA.head.at (i := 0) rfl
  rw [hL] at hc h1 h4
  clear hA hi hL
  go_enter Try.func30, Try.ntmps30
  go_wp2
  go_ret
  exact ⟨ret_s (by omega), rfl⟩
theorem fields_zero (hA : Ar w p g h n ts) (i a : Nat) (hi : AP.idx ts a = some i) (hL : (AP.th ts i).l.length = 0) :
    Calls Try.prog 30 #[ptr p, .int .i64 a] w fun e w' => (∃ ad, e = .returned (.slice ad 0 0)) ∧ w = w' := by
  obtain ⟨hc, h1, h2, h3, h4, h5⟩ := at_len hA hi
  have h0 := hA.head.at (i := 0) rfl
  rw [hL] at hc h1 h4
  clear hA hi hL
  go_enter Try.func30, Try.ntmps30
  go_wp2
  go_ret
  exact ⟨⟨_, rfl⟩, rfl⟩
/-! ### field -/
theorem field_none (hA : Ar w p g h n ts) (x : Int) (hx : WP.U x) (j : Int) (hn : look ts x = none) :
    Calls Try.prog 31 #[ptr p, .int .u64 x, .int .i64 j] w fun e w' => e = .returned (.tuple #[.pointer none, .int .i64 2]) ∧ w = w' := by
  have HX := Lib.hid hx
  have HA := Lib.hid hA
  have HN := Lib.hid hn
  clear hx hA hn
  go_enter Try.func31, Try.ntmps31
  go_wp2_with (first | (go_at_call 28; refine (find_no HA.out _ HX.out HN.out).mono ?_; rintro e w' ⟨rfl, rfl⟩))
  go_ret2
  exact ⟨rfl, rfl⟩
theorem field_out (hA : Ar w p g h n ts) (x : Int) (hx : WP.U x) (j : Int) (i : Nat) (hi : look ts x = some i) (hj : ¬ (0 ≤ j ∧ j < (AP.th ts i).l.length)) :
    Calls Try.prog 31 #[ptr p, .int .u64 x, .int .i64 j] w fun e w' => e = .returned (.tuple #[.pointer none, .int .i64 1]) ∧ w = w' := by
  obtain ⟨a, ha, hal⟩ := toN_nat x hx
  have hi2 : AP.idx ts a = some i := by
    unfold look at hi
    split at hi
    · rw [ha] at hi; simpa using hi
    · cases hi
  have HI2 := Lib.hid hi2
  have HX := Lib.hid hx
  have HA := Lib.hid hA
  have HN := Lib.hid hi
  have HP := Lib.hid ha
  obtain ⟨L, hL⟩ : ∃ L, (AP.th ts i).l.length = L := ⟨_, rfl⟩
  have hb := (at_len hA hi2).2
  rw [hL] at hj hb
  have hL6 : L ≤ 255 := by omega
  have HL := Lib.hid hL
  clear hx hA hi hi2 ha hL hb
  by_cases hjn : j < 0
  · clear hj
    go_enter Try.func31, Try.ntmps31
    rcases Nat.eq_zero_or_pos L with h0 | h0
    · subst h0
      go_wp2_with (first | (go_at_call 28; refine (find_yes HA.out _ HX.out i a HN.out HP.out).mono ?_; rintro e w' ⟨rfl, rfl⟩) | (go_at_call 30; refine (fields_zero HA.out i a HI2.out HL.out).mono ?_; rintro e w' ⟨⟨ad, rfl⟩, rfl⟩))
      go_ret2
      exact ⟨rfl, rfl⟩
    · go_wp2_with (first | (go_at_call 28; refine (find_yes HA.out _ HX.out i a HN.out HP.out).mono ?_; rintro e w' ⟨rfl, rfl⟩) | (go_at_call 30; refine (fields_pos HA.out i a HI2.out L HL.out h0).mono ?_; rintro e w' ⟨rfl, rfl⟩))
      go_ret2
      exact ⟨rfl, rfl⟩
  · have hj2 : (L : Int) ≤ j := by omega
    clear hj
    go_enter Try.func31, Try.ntmps31
    rcases Nat.eq_zero_or_pos L with h0 | h0
    · subst h0
      have hj3 : 0 ≤ j := by omega
      go_wp2_with (first | (go_at_call 28; refine (find_yes HA.out _ HX.out i a HN.out HP.out).mono ?_; rintro e w' ⟨rfl, rfl⟩) | (go_at_call 30; refine (fields_zero HA.out i a HI2.out HL.out).mono ?_; rintro e w' ⟨⟨ad, rfl⟩, rfl⟩))
      go_ret2
      exact ⟨rfl, rfl⟩
    · go_wp2_with (first | (go_at_call 28; refine (find_yes HA.out _ HX.out i a HN.out HP.out).mono ?_; rintro e w' ⟨rfl, rfl⟩) | (go_at_call 30; refine (fields_pos HA.out i a HI2.out L HL.out h0).mono ?_; rintro e w' ⟨rfl, rfl⟩))
      go_ret2
      exact ⟨rfl, rfl⟩
theorem field_in (hA : Ar w p g h n ts) (x : Int) (hx : WP.U x) (j : Nat) (i a : Nat) (hi : look ts x = some i) (ha : WP.toN 1 x = a) (hj : j < (AP.th ts i).l.length) :
    Calls Try.prog 31 #[ptr p, .int .u64 x, .int .i64 j] w fun e w' => e = .returned (.tuple #[.pointer (some ⟨g, a + 1 + j, none⟩), .int .i64 0]) ∧ w = w' := by
  have hi2 : AP.idx ts a = some i := by
    unfold look at hi
    split at hi
    · rw [ha] at hi; simpa using hi
    · cases hi
  have HI2 := Lib.hid hi2
  have HX := Lib.hid hx
  have HA := Lib.hid hA
  have HN := Lib.hid hi
  have HP := Lib.hid ha
  obtain ⟨L, hL⟩ : ∃ L, (AP.th ts i).l.length = L := ⟨_, rfl⟩
  have hb := (at_len hA hi2).2
  rw [hL] at hj hb
  have hL6 : L ≤ 255 := by omega
  have h0 : 0 < L := by omega
  have HL := Lib.hid hL
  clear hx hA hi hi2 ha hL hb
  go_enter Try.func31, Try.ntmps31
  go_wp2_with (first | (go_at_call 28; refine (find_yes HA.out _ HX.out i a HN.out HP.out).mono ?_; rintro e w' ⟨rfl, rfl⟩) | (go_at_call 30; refine (fields_pos HA.out i a HI2.out L HL.out h0).mono ?_; rintro e w' ⟨rfl, rfl⟩))
  go_ret2
  exact ⟨rfl, rfl⟩
end
end AW
end Go.Proofs.Ytcfepiihjbbnaaa

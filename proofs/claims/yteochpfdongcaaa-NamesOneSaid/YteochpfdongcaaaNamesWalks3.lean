/-
  Contracts of layer 4's Put and Text, whatever the name and the number, and the document's examples. Conditions: the table's blocks are as the row of names says; a text is no longer than 2^47 bytes.
-/
import Derived.Test.YteochpfdongcaaaNamesWalks2
import Derived.Test.YteochpfdongcaaaLawPost
namespace Go.Proofs.Yteochpfdongcaaa
open Go.RowKit Go.Maps
namespace NW
section
variable {w : World} {g : Nat} {S : List Nat} {L : List ByteArray} {mv sv : Value}
theorem Nm.same (h : Nm w g S L mv sv) : Nxt w g S L w := ⟨S, mv, sv, h, MM.Far.refl _ _, fun _ hb => .inl hb⟩
theorem Nm.nil_next {w' : World} (h : Nm w g S L mv sv) (hF : MM.Far [] w w') : Nxt w g S L w' := ⟨S, mv, sv, h.nil hF, hF.mono (by simp), fun _ hb => .inl hb⟩
theorem add_any (h : Nm w g S L mv sv) (s : ByteArray) (hs : NP.fits s) (hL : s ∉ L) (hn : L.length < 4096) :
    Calls Try.prog 19 #[ptr g, .string s] w fun e w' => e = .returned (.int .i64 L.length) ∧ Nxt w g S (L ++ [s]) w' := by
  have h0 := h.map
  unfold Mp at h0
  rcases h0 with ⟨e, _⟩ | ⟨b, D, e, _⟩
  · rw [e] at h; exact add_none h s hs hL hn
  · rw [e] at h; exact add_some h s hs hL hn
theorem put_nil (s : ByteArray) (w : World) : Calls Try.prog 13 #[.pointer none, .string s] w fun e w' => e = .returned (.tuple #[.int .i64 0, .int .i64 2]) ∧ w = w' := by
  go_enter Try.func13, Try.ntmps13
  go_wp2
  go_ret2
  exact ⟨rfl, rfl⟩
theorem put_short (s : ByteArray) (w : World) (hs : s.size < 1) : Calls Try.prog 13 #[ptr g, .string s] w fun e w' => e = .returned (.tuple #[.int .i64 0, .int .i64 1]) ∧ w = w' := by
  go_enter Try.func13, Try.ntmps13
  go_wp2
  go_ret2
  exact ⟨rfl, rfl⟩
theorem put_long (s : ByteArray) (w : World) (hm : s.size ≤ maxLen) (hs : 32 < s.size) : Calls Try.prog 13 #[ptr g, .string s] w fun e w' => e = .returned (.tuple #[.int .i64 0, .int .i64 1]) ∧ w = w' := by
  unfold maxLen at hm
  go_enter Try.func13, Try.ntmps13
  go_wp2
  go_ret2
  exact ⟨rfl, rfl⟩
theorem find_yes (h : Nm w g S L mv sv) (s : ByteArray) (hs : s.size ≤ maxLen) (hL : s ∈ L) (i : Int) (hi : (L.idxOf s : Int) = i) : Calls Try.prog 11 #[ptr g, .string s] w fun e w' => e = .returned (.tuple #[.int .i64 i, .bool true]) ∧ w = w' := by
  subst hi
  have := find_any h s hs
  rwa [NP.findI_yes hL, NP.findB_yes hL] at this
theorem find_no (h : Nm w g S L mv sv) (s : ByteArray) (hs : s.size ≤ maxLen) (hL : s ∉ L) : Calls Try.prog 11 #[ptr g, .string s] w fun e w' => e = .returned (.tuple #[.int .i64 0, .bool false]) ∧ w = w' := by
  have := find_any h s hs
  rwa [NP.findI_no hL, NP.findB_no hL] at this
set_option maxHeartbeats 1000000 in
theorem put_any (h : Nm w g S L mv sv) (s : ByteArray) (hm : s.size ≤ maxLen) :
    Calls Try.prog 13 #[ptr g, .string s] w fun e w' => e = .returned (.tuple #[.int .i64 (NP.putI L s), .int .i64 (NP.putE L s)]) ∧ Nxt w g S (NP.putL L s) w' := by
  by_cases hf : NP.fits s
  · have H := Lib.hid h
    by_cases hL : s ∈ L
    · have e1 : NP.putI L s = (L.idxOf s : Nat) := by simp [NP.putI, hf, hL]
      have e2 : NP.putE L s = 0 := by simp [NP.putE, hf, hL]
      have e3 : NP.putL L s = L := by simp [NP.putL, hL]
      rw [e1, e2, e3]
      obtain ⟨i, hi⟩ : ∃ i : Int, (L.idxOf s : Int) = i := ⟨_, rfl⟩
      rw [hi]
      have HI := Lib.hid hi
      have HL := Lib.hid hL
      have HM := Lib.hid hm
      obtain ⟨g1, g2⟩ := hf
      clear h hi hL e1 e2 e3 hm
      go_enter Try.func13, Try.ntmps13
      go_wp2_with (go_at_call 11; refine (find_yes H.out s HM.out HL.out i HI.out).mono ?_; rintro e w' ⟨rfl, rfl⟩)
      go_ret2
      exact ⟨rfl, H.out.same⟩
    · by_cases hn : L.length < 4096
      · have e1 : NP.putI L s = (L.length : Nat) := by simp [NP.putI, hf, hL, hn]
        have e2 : NP.putE L s = 0 := by simp [NP.putE, hf, hL, hn]
        have e3 : NP.putL L s = L ++ [s] := by simp [NP.putL, hf, hL, hn]
        rw [e1, e2, e3]
        have HL := Lib.hid hL
        have HM := Lib.hid hm
        have HF := Lib.hid hf
        have HN := Lib.hid hn
        have ht : decide ((4096 : Int) ≤ (L.length : Int)) = false := by simp; omega
        obtain ⟨g1, g2⟩ := hf
        clear h hL e1 e2 e3 hm hn
        go_enter Try.func13, Try.ntmps13
        go_wp2_with (first | (go_at_call 11; refine (find_no H.out s HM.out HL.out).mono ?_; rintro e w' ⟨rfl, rfl⟩) | (go_at_call 17; refine (len_any H.out).mono ?_; rintro e w' ⟨rfl, rfl⟩) | (go_at_call 19; refine (add_any H.out s HF.out HL.out HN.out).mono ?_; rintro e w1 ⟨rfl, hX⟩; have HX := Lib.hid hX; clear hX))
        go_ret2
        exact ⟨rfl, HX.out⟩
      · have e1 : NP.putI L s = 0 := by simp [NP.putI, hf, hL, hn]
        have e2 : NP.putE L s = 3 := by simp [NP.putE, hf, hL, hn]
        have e3 : NP.putL L s = L := by simp [NP.putL, hn]
        rw [e1, e2, e3]
        have HL := Lib.hid hL
        have HM := Lib.hid hm
        have ht : decide ((4096 : Int) ≤ (L.length : Int)) = true := by simp; omega
        obtain ⟨g1, g2⟩ := hf
        clear h hL e1 e2 e3 hm hn
        go_enter Try.func13, Try.ntmps13
        go_wp2_with (first | (go_at_call 11; refine (find_no H.out s HM.out HL.out).mono ?_; rintro e w' ⟨rfl, rfl⟩) | (go_at_call 17; refine (len_any H.out).mono ?_; rintro e w' ⟨rfl, rfl⟩))
        go_ret2
        exact ⟨rfl, H.out.same⟩
  · have e1 : NP.putI L s = 0 := by simp [NP.putI, hf]
    have e2 : NP.putE L s = 1 := by simp [NP.putE, hf]
    have e3 : NP.putL L s = L := by simp [NP.putL, hf]
    rw [e1, e2, e3]
    have hc : s.size < 1 ∨ 32 < s.size := by unfold NP.fits at hf; omega
    rcases hc with hc | hc
    · exact (put_short s w hc).mono fun e w' ⟨h1, h2⟩ => ⟨h1, h2 ▸ h.same⟩
    · exact (put_long s w hm hc).mono fun e w' ⟨h1, h2⟩ => ⟨h1, h2 ▸ h.same⟩
theorem text_any (h : Nm w g S L mv sv) (i : Int) : Calls Try.prog 15 #[ptr g, .int .i64 i] w fun e w' => e = .returned (.tuple #[.string (NP.textS L i), .bool (NP.textB L i)]) ∧ MM.Far [] w w' := by
  by_cases hi : 0 ≤ i ∧ i < L.length
  · obtain ⟨k, rfl⟩ := Int.eq_ofNat_of_zero_le hi.1
    have hk : k < L.length := by omega
    have := text_yes h k hk _ (List.getElem?_eq_getElem hk)
    simp only [NP.textS, NP.textB, hi, Int.toNat_natCast, List.getD_eq_getElem?_getD, List.getElem?_eq_getElem hk, Option.getD_some]
    simpa using this
  · refine (text_no h i hi).mono fun e w' ⟨h1, h2⟩ => ⟨?_, h2 ▸ MM.Far.refl _ _⟩
    rw [h1]
    simp [NP.textS, NP.textB, hi, NP.none]
end
end NW
end Go.Proofs.Yteochpfdongcaaa

/-
  The document's examples of layer 4 come out as the statements' head says. No condition.
-/
import Derived.Test.YteochpfdongcaaaNamesWalks3
namespace Go.Proofs.Yteochpfdongcaaa
open Go.RowKit Go.Maps
namespace NW
section
variable {w : World} {g : Nat} {S : List Nat} {L : List ByteArray} {mv sv : Value}
/-- Put, its answers spelled as the caller wants them. -/
theorem put_to (h : Nm w g S L mv sv) (s : ByteArray) (hm : s.size ≤ maxLen) (i e : Int) (T : List ByteArray) (h1 : NP.putI L s = i) (h2 : NP.putE L s = e) (h3 : NP.putL L s = T) :
    Calls Try.prog 13 #[ptr g, .string s] w fun x w' => x = .returned (.tuple #[.int .i64 i, .int .i64 e]) ∧ Nxt w g S T w' := by
  subst h1 h2 h3
  exact put_any h s hm
theorem text_to (h : Nm w g S L mv sv) (i : Int) (s : ByteArray) (b : Bool) (h1 : NP.textS L i = s) (h2 : NP.textB L i = b) : Calls Try.prog 15 #[ptr g, .int .i64 i] w fun e w' => e = .returned (.tuple #[.string s, .bool b]) ∧ MM.Far [] w w' := by
  subst h1 h2
  exact text_any h i
theorem find_to (h : Nm w g S L mv sv) (s : ByteArray) (hs : s.size ≤ maxLen) (i : Int) (b : Bool) (h1 : NP.findI L s = i) (h2 : NP.findB L s = b) : Calls Try.prog 11 #[ptr g, .string s] w fun e w' => e = .returned (.tuple #[.int .i64 i, .bool b]) ∧ w = w' := by
  subst h1 h2
  exact find_any h s hs
theorem len_to (h : Nm w g S L mv sv) (n : Int) (hn : (L.length : Int) = n) : Calls Try.prog 17 #[ptr g] w fun e w' => e = .returned (.int .i64 n) ∧ w = w' := by
  subst hn
  exact len_any h
end
set_option maxHeartbeats 1000000 in
theorem shown_any (w : World) : Calls Try.prog 8 #[] w fun e w' => e = .returned (.bool true) ∧ MM.Far [] w w' := by
  go_enter Try.func8, Try.ntmps8
  go_wp2_with (fail)
  refine (new_any w).mono ?_
  rintro e w1 ⟨g, rfl, hg, hN1, hF1⟩
  go_wp2_with (fail)
  refine (put_to hN1 ⟨#[97]⟩ (by decide) 0 0 [⟨#[97]⟩] (by decide) (by decide) (by decide)).mono ?_
  rintro e w2 ⟨rfl, S2, m2, s2, hN2, hF2, hS2⟩
  go_wp2_with (fail)
  refine (put_to hN2 ⟨#[98]⟩ (by decide) 1 0 [⟨#[97]⟩, ⟨#[98]⟩] (by decide) (by decide) (by decide)).mono ?_
  rintro e w3 ⟨rfl, S3, m3, s3, hN3, hF3, hS3⟩
  go_wp2_with (fail)
  refine (put_to hN3 ⟨#[97]⟩ (by decide) 0 0 [⟨#[97]⟩, ⟨#[98]⟩] (by decide) (by decide) (by decide)).mono ?_
  rintro e w4 ⟨rfl, S4, m4, s4, hN4, hF4, hS4⟩
  go_wp2_with (fail)
  refine (text_to hN4 1 ⟨#[98]⟩ true (by decide) (by decide)).mono ?_
  rintro e w5 ⟨rfl, hF5⟩
  go_wp2_with (fail)
  refine (len_to (hN4.nil hF5) 2 rfl).mono ?_
  rintro e w' ⟨rfl, rfl⟩
  go_wp2
  go_ret
  refine ⟨rfl, ?_⟩
  have k1 := hF1.size
  have k2 := hF2.size
  have k3 := hF3.size
  have g1 : ∀ b, b ∈ [g] → w.heap.size ≤ b := by simp; omega
  have g2 : ∀ b, b ∈ S2 → w.heap.size ≤ b := fun b hb => by rcases hS2 b hb with h | h; exact g1 b h; omega
  have g3 : ∀ b, b ∈ S3 → w.heap.size ≤ b := fun b hb => by rcases hS3 b hb with h | h; exact g2 b h; omega
  exact (((hF1.trans hF2 (fun b hb hl => by have := g1 b hb; omega)).trans hF3 (fun b hb hl => by have := g2 b hb; omega)).trans hF4 (fun b hb hl => by have := g3 b hb; omega)).trans hF5 (by simp)
end NW
end Go.Proofs.Yteochpfdongcaaa

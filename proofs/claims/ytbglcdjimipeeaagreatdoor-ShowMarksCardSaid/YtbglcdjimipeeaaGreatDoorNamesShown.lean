/-
  The document's examples of layer 4 come out as the statements' head says. No condition.
-/
import Derived.Test.YtbglcdjimipeeaaGreatDoorNamesAll
namespace Go.Proofs.YtbglcdjimipeeaaGreatDoor
open Go.RowKit Go.Maps
namespace NW
section
variable {w : World} {g : Nat} {S : List Nat} {L : List ByteArray} {mv sv : Value}
/-- Put, its answers spelled as the caller wants them. -/
theorem put_to (h : Nm w g S L mv sv) (s : ByteArray) (hm : s.size ≤ maxLen) (i e : Int) (T : List ByteArray) (h1 : NP.putI L s = i) (h2 : NP.putE L s = e) (h3 : NP.putL L s = T) :
    Calls Tryz.prog 19 #[ptr g, .string s] w fun x w' => x = .returned (.tuple #[.int .i64 i, .int .i64 e]) ∧ Nxt w g S T w' := by
  subst h1 h2 h3
  exact put_any h s hm
theorem text_to (h : Nm w g S L mv sv) (i : Int) (s : ByteArray) (b : Bool) (h1 : NP.textS L i = s) (h2 : NP.textB L i = b) : Calls Tryz.prog 97 #[ptr g, .int .i64 i] w fun e w' => e = .returned (.tuple #[.string s, .bool b]) ∧ MM.Far [] w w' := by
  subst h1 h2
  exact text_any h i
theorem find_to (h : Nm w g S L mv sv) (s : ByteArray) (hs : s.size ≤ maxLen) (i : Int) (b : Bool) (h1 : NP.findI L s = i) (h2 : NP.findB L s = b) : Calls Tryz.prog 39 #[ptr g, .string s] w fun e w' => e = .returned (.tuple #[.int .i64 i, .bool b]) ∧ w = w' := by
  subst h1 h2
  exact find_any h s hs
theorem len_to (h : Nm w g S L mv sv) (n : Int) (hn : (L.length : Int) = n) : Calls Tryz.prog 40 #[ptr g] w fun e w' => e = .returned (.int .i64 n) ∧ w = w' := by
  subst hn
  exact len_any h
end
end NW
end Go.Proofs.YtbglcdjimipeeaaGreatDoor

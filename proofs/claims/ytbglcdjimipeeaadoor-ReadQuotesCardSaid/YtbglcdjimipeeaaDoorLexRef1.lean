/-
  Contracts of the document's own parts of layer 5: letter, mark, word. Condition: a text is no longer than 2^47 bytes.
-/
import Derived.Test.YtbglcdjimipeeaaDoorProg
import Derived.Test.YtbglcdjimipeeaaDoorMem
import Derived.Test.YtbglcdjimipeeaaDoorLexPlain
import Derived.Lib.Hide
import Derived.Lib.Strings
import Derived.WalkKit
import Derived.WalkSpells
import Derived.WalkLawsBesides
namespace Go.Proofs.YtbglcdjimipeeaaDoor
open Go.RowKit
namespace LW
open LX
theorem data_at (s : ByteArray) (k : Nat) (h : k < s.size) : (bts s)[k]? = some s[k] := by
  unfold bts
  have h1 : k < s.data.size := h
  rw [Array.getElem?_toList, Array.getElem?_eq_getElem h1]; rfl
theorem bts_len (s : ByteArray) : (bts s).length = s.size := by unfold bts; rw [Array.length_toList]; rfl
def mks : ByteArray := ⟨#[33, 36, 37, 38, 42, 43, 45, 47, 58, 60, 61, 62, 63, 94, 95, 126]⟩
def NoneOf (m : ByteArray) (c : UInt8) (k : Nat) : Prop := ∀ j, j < k → (bts m)[j]? ≠ some c
theorem noneof_hit {m : ByteArray} {c : UInt8} {k : Nat} (h : k < m.size) (e : m[k] = c) : decide (c ∈ bts m) = true := by
  have h1 := data_at m k h
  rw [e] at h1
  simp [List.mem_of_getElem? h1]
theorem noneof_step {m : ByteArray} {c : UInt8} {k : Nat} (hn : NoneOf m c k) (h : k < m.size) (e : m[k] ≠ c) : NoneOf m c (k + 1) := by
  intro j hj
  by_cases hjk : j = k
  · subst hjk; rw [data_at m j h]; simpa using e
  · exact hn j (by omega)
theorem noneof_all {m : ByteArray} {c : UInt8} (hn : NoneOf m c m.size) : decide (c ∈ bts m) = false := by
  have h1 : c ∉ bts m := by
    intro hm
    obtain ⟨j, hj, e⟩ := List.mem_iff_getElem.1 hm
    exact hn j (by rw [← bts_len]; exact hj) (by rw [List.getElem?_eq_getElem hj, e])
  simp [h1]
end LW
end Go.Proofs.YtbglcdjimipeeaaDoor

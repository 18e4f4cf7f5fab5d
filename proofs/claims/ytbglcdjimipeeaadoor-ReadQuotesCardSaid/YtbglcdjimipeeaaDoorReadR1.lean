/-
  Contracts of the document's reader: close, put, whatever is open. Conditions: there are no more than 20000 data.
-/
import Derived.Test.YtbglcdjimipeeaaDoorReadPut
import Derived.Test.YtbglcdjimipeeaaDoorReadC1
import Derived.IntWalk
namespace Go.Proofs.YtbglcdjimipeeaaDoor
open Go.RowKit
namespace RM6
open LX RX RW6
section
variable {w0 w : World} {q : Nat} {rv tv ov : Value} {rs : List (Nd × Value)} {tops : List Nat} {os : List (Pt × Value)} {ex : List (Value × List Nat)}
theorem ptC_one (os : List (Pt × Value)) (h : ∀ z ∈ os, ∃ A c, z.2 = .slice A z.1.l.length c) : ∀ u ∈ ptC os, u.oneCell' = true := by
  intro u hu
  unfold ptC at hu
  obtain ⟨z, hz, hu⟩ := List.mem_flatMap.1 hu
  obtain ⟨A, c, e⟩ := h z hz
  simp only [List.mem_cons, List.not_mem_nil, or_false] at hu
  rcases hu with rfl | rfl | rfl
  · rfl
  · rfl
  · rw [e]; rfl
end
end RM6
end Go.Proofs.YtbglcdjimipeeaaDoor

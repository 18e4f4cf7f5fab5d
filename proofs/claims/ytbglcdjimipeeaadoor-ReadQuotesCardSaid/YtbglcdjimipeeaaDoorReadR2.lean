/-
  Contracts of the document's reader: put, close, token. Conditions: there are no more than 20000 data; tokens of the six kinds.
-/
import Derived.Test.YtbglcdjimipeeaaDoorReadR1
import Derived.Test.YtbglcdjimipeeaaDoorReadTop
namespace Go.Proofs.YtbglcdjimipeeaaDoor
open Go.RowKit
namespace RM6
open LX RX RW6
section
variable {w0 w : World} {q : Nat} {rv tv ov : Value} {rs : List (Nd × Value)} {tops : List Nat} {os : List (Pt × Value)} {ex : List (Value × List Nat)}
theorem pt_one (a : Int) (b : Bool) : ∀ u ∈ [Value.int .i64 a, .bool b, .slice none 0 0], u.oneCell' = true := by
  intro u hu
  simp only [List.mem_cons, List.not_mem_nil, or_false] at hu
  rcases hu with rfl | rfl | rfl <;> rfl
end
end RM6
end Go.Proofs.YtbglcdjimipeeaaDoor

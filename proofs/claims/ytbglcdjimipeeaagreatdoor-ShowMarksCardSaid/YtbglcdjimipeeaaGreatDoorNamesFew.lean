/-
  Layer 4's helpers of the statements: the document's examples, and the first names, cut. No condition.
-/
import Derived.Test.YtbglcdjimipeeaaGreatDoorNamesAll
import Derived.Test.YtbglcdjimipeeaaGreatDoorReadStr
namespace Go.Proofs.YtbglcdjimipeeaaGreatDoor
open Go.RowKit Go.Maps
namespace NP
/-- A text that is cut behind 40 bytes. -/
def cut (s : ByteArray) : ByteArray := s.extract 0 (min (s.size : Int) 40).toNat
def few (l : List ByteArray) : List ByteArray := (l.take 100).map cut
theorem few_snoc (l : List ByteArray) (k : Nat) (h : k < l.length) (hk : k < 100) : few (l.take (k + 1)) = few (l.take k) ++ [cut (l[k]'h)] := by
  unfold few
  rw [List.take_take, List.take_take, Nat.min_eq_right (by omega), Nat.min_eq_right (by omega), List.take_succ_eq_append_getElem h, List.map_append]; rfl
theorem few_more (l : List ByteArray) (k : Nat) (hk : 100 ≤ k) : few (l.take k) = few l := by
  unfold few
  rw [List.take_take, Nat.min_eq_left hk]
end NP
namespace NW
open MM
def Few (w : World) (zs : List ByteArray) (len : Nat) (v i : Value) (wr : World) : Prop :=
  ∃ k : Nat, k ≤ len ∧ i = .int .i64 (k : Int) ∧ wr.ownsRow w.heap.size 9 1 v (NP.few (zs.take k)).length (strs (NP.few (zs.take k))) ∧ Far [] w wr
end NW
end Go.Proofs.YtbglcdjimipeeaaGreatDoor

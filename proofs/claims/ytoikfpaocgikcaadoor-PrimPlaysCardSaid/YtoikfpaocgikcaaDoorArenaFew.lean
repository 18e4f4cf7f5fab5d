/-
  The contract of few: the first 80 acts, of up to 260 words each, in a row of the call's own. Condition: the argument's reading.
-/
import Derived.Test.YtoikfpaocgikcaaDoorArenaActs
import Derived.Deep.DeepCutAuto
namespace Go.Proofs.YtoikfpaocgikcaaDoor
open Go.RowKit
namespace AL
open AW
/-- What few has gathered of the first k acts. -/
def gathered (tl : List Act) (k : Nat) : List Act := (tl.take (min k 80)).map Act.cut
theorem gathered_next (tl : List Act) (k : Nat) (hk : k < tl.length) (h80 : k < 80) : gathered tl (k + 1) = gathered tl k ++ [(tl[k]).cut] := by
  unfold gathered
  rw [show min (k + 1) 80 = min k 80 + 1 from by omega, show min k 80 = k from by omega, List.take_succ_eq_append_getElem hk, List.map_append]
  rfl
theorem gathered_stay (tl : List Act) (k : Nat) (h80 : ¬ k < 80) : gathered tl (k + 1) = gathered tl k := by
  unfold gathered
  rw [show min (k + 1) 80 = min k 80 from by omega]
theorem gathered_le (tl : List Act) (k : Nat) : (gathered tl k).length ≤ 80 := by
  unfold gathered
  rw [List.length_map, List.length_take]; omega
theorem cells_one (t : Act) : ∀ u ∈ t.cells, u.oneCell' = true := by
  intro u hu
  simp only [Act.cells, List.mem_cons, List.not_mem_nil, or_false] at hu
  rcases hu with rfl | rfl | rfl | rfl | rfl | rfl <;> rfl
end AL
end Go.Proofs.YtoikfpaocgikcaaDoor

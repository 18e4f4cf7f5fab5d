/-
  Layer 9's ScopeNames: its own map of two errors. No condition.
-/
import Derived.Test.YtedbaegdmianaaaDoorMemAll
import Derived.Maps.OwnOps
import Derived.Maps.Views
import Derived.Maps.StringElems
import Derived.Carry
namespace Go.Proofs.YtedbaegdmianaaaDoor
open Go.RowKit
set_option linter.unusedVariables false
namespace SM
theorem int_zero (w : World) : (zeroValue 25).run Tryd.prog w = .ok (.int .i64 0) w := by kernel_rfl
theorem errs_map (W0 : World) (c : Bool) : ∃ w1 w2,
    (Instr.mapUpdate 41 (.map (some W0.heap.size)) (.bool true) (.int .i64 90)).run Tryd.prog (W0.alloc (.map #[] 0)) = .ok () w1 ∧
    (Instr.mapUpdate 41 (.map (some W0.heap.size)) (.bool false) (.int .i64 91)).run Tryd.prog w1 = .ok () w2 ∧
    (Instr.lookup 41 (.map (some W0.heap.size)) (.bool c) false).run Tryd.prog w2 = .ok (.int .i64 (if c = true then 90 else 91)) w2 ∧ MM.Far [] W0 w2 := by
  have K : Maps.Keyed Tryd.prog 4 := Maps.bool_keyed Tryd.underlying4
  have h0 := World.ownsMap_made W0 Tryd.prog 4 (plainElem (H := Unit) Tryd.prog 25)
  obtain ⟨w1, r1, h1, g1⟩ := h0.update K Tryd.underlying41 (by unfold maxLen; omega) (Maps.keyOf_bool_mk Tryd.underlying4 true) (plainElem_int Tryd.underlying25 (a := 90) (by decide))
  obtain ⟨w2, r2, h2, g2⟩ := h1.update K Tryd.underlying41 (by unfold maxLen; omega) (Maps.keyOf_bool_mk Tryd.underlying4 false) (plainElem_int Tryd.underlying25 (a := 91) (by decide))
  obtain ⟨v, ps, r3, hv⟩ := h2.lookup K Tryd.underlying41 (int_zero w2) (plainElem_int Tryd.underlying25 (a := 0) (by decide)) (Maps.keyOf_bool_mk Tryd.underlying4 c)
  obtain ⟨s, rfl, hs, _⟩ := plainElem_int_inv Tryd.underlying25 hv
  simp only [Prod.mk.injEq] at hs
  have hs := hs.1
  have e : s = if c = true then 90 else 91 := by
    cases c with
    | true => exact (Lit.int.inj (DataW.lit.inj (show DataW.lit (H := Unit) (.int .i64 90) = _ from hs))).2.symm
    | false => exact (Lit.int.inj (DataW.lit.inj (show DataW.lit (H := Unit) (.int .i64 91) = _ from hs))).2.symm
  rw [e] at r3
  refine ⟨w1, w2, r1, r2, r3, ?_⟩
  have F1 : MM.Far [W0.heap.size] (W0.alloc (.map #[] 0)) w1 := MM.Far.of_grown g1 (fun b hb _ => by simp at hb; simp [hb])
  have F2 : MM.Far [W0.heap.size] w1 w2 := MM.Far.of_grown g2 (fun b hb _ => by simp at hb; simp [hb])
  exact (((MM.Far.refl [] W0).alloc _).trans F1 (fun b hb hl => by simp at hb; omega)).trans F2 (fun b hb hl => by simp at hb; omega)
end SM
end Go.Proofs.YtedbaegdmianaaaDoor

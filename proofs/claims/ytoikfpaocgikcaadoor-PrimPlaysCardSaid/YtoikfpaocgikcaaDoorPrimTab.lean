/-
  From what a row lists of the two tables to what the contracts ask. No condition.
-/
import Derived.Test.YtoikfpaocgikcaaDoorPrimShown
namespace Go.Proofs.YtoikfpaocgikcaaDoor
open Go.RowKit
namespace PW
theorem laid_at {P : Program} {w : World} : ∀ (L : List (String × DataW Unit)) (ps : List MemPlace) (i : Nat) (n : String) (d : DataW Unit), DataW.LaidVars P w L ps → L[i]? = some (n, d) →
    ∃ g t cs fuel p, P.globalNamed n = some g ∧ (P.globals[g]?).map (·.type) = some t ∧ w.var? P n = some cs ∧ DataW.trod (fun _ => ()) P w 0 (fun _ => true) false fuel t cs.toList = some (d, p) := by
  intro L
  induction L with
  | nil => intro ps i n d _ h; simp at h
  | cons x L ih =>
    intro ps i n d h hi
    obtain ⟨m, e⟩ := x
    obtain ⟨g, t, cs, fuel, p, q, h1, h2, h3, h4, h5, _⟩ := h
    cases i with
    | zero =>
      simp only [List.getElem?_cons_zero, Option.some.injEq, Prod.mk.injEq] at hi
      obtain ⟨rfl, rfl⟩ := hi
      exact ⟨g, t, cs, fuel, p, h1, h2, h3, h4⟩
    | succ i => exact ih q i n d h5 (by simpa using hi)
theorem cnt_type : (Tryd.prog.globals[(Tryd.prog.globalNamed "eddywheel/prim.counts").getD 0]?).map (·.type) = some 60 := by kernel_rfl
theorem sgn_type : (Tryd.prog.globals[(Tryd.prog.globalNamed "eddywheel/prim.signs").getD 0]?).map (·.type) = some 66 := by kernel_rfl
theorem ct_of {W : World} {L : List (String × DataW Unit)} (h : laidMetH Tryd.prog L W) (hH : (L.filter fun x => x.2.handleName?.isSome) = []) (i j : Nat) (hi : L[i]? = some ("eddywheel/prim.counts", Lib.tabData .i64 PP.cntL)) (hj : L[j]? = some ("eddywheel/prim.signs", Lib.tabData .u8 PP.sgnL)) : CT W := by
  unfold laidMetH at h
  rw [hH] at h
  obtain ⟨ps, hv, _⟩ := h
  constructor
  · obtain ⟨g, t, cs, fuel, p, h1, h2, h3, h4⟩ := laid_at _ _ _ _ _ hv hi
    have ht := cnt_type
    rw [h1] at ht
    obtain rfl := Option.some.inj (ht.symm.trans h2)
    unfold Lib.TabIs
    rw [h3, ← Lib.cells_of_tab Tryd.underlying60 Tryd.underlying3 (by kernel_rfl) (by kernel_rfl) h4]
  · obtain ⟨g, t, cs, fuel, p, h1, h2, h3, h4⟩ := laid_at _ _ _ _ _ hv hj
    have ht := sgn_type
    rw [h1] at ht
    obtain rfl := Option.some.inj (ht.symm.trans h2)
    unfold Lib.TabIs
    rw [h3, ← Lib.cells_of_tab Tryd.underlying66 Tryd.underlying5 (by kernel_rfl) (by kernel_rfl) h4]
end PW
end Go.Proofs.YtoikfpaocgikcaaDoor

/-
  From what a row lists of the numbers' table to what the contracts ask. No condition.
-/
import Derived.Test.YtpbfgfadickgbaaGreatDoorShowItoa
import Derived.Lib.LaidTab
namespace Go.Proofs.YtpbfgfadickgbaaGreatDoor
open Go.RowKit
namespace SW
theorem laid_at {P : Program} {w : World} : ∀ (L : List (String × DataW Unit)) (ps : List MemPlace) (i : Nat) (n : String) (d : DataW Unit), DataW.LaidVars P w L ps → L[i]? = some (n, d) →
    ∃ g t cs fuel p, P.globalNamed n = some g ∧ (P.globals[g]?).map (·.type) = some t ∧ w.var? P n = some cs ∧ DataW.trod (fun _ => ()) P w 0 (fun _ => true) false fuel t cs.toList = some (d, p) := by
  intro L
  induction L with
  | nil => intro ps i n d _ h; simp at h
  | cons x L ih =>
    intro ps i n d h hi
    obtain ⟨m, e⟩ := x
    obtain ⟨g, t, cs, fuel, p, q, h1, h2, h3, h4, h5, _⟩ := h
    cases i with
    | zero =>
      simp only [List.getElem?_cons_zero, Option.some.injEq, Prod.mk.injEq] at hi
      obtain ⟨rfl, rfl⟩ := hi
      exact ⟨g, t, cs, fuel, p, h1, h2, h3, h4⟩
    | succ i => exact ih q i n d h5 (by simpa using hi)
theorem tab_type : (Tryz.prog.globals[(Tryz.prog.globalNamed "internal/strconv.uint64pow10").getD 0]?).map (·.type) = some 158 := by kernel_rfl
theorem tab_of {W : World} {L : List (String × DataW Unit)} (h : laidMetH Tryz.prog L W) (hH : (L.filter fun x => x.2.handleName?.isSome) = []) (i : Nat) (hi : L[i]? = some ("internal/strconv.uint64pow10", Lib.tabData .u64 Lib.pow10Tab)) : Tab W := by
  unfold laidMetH at h
  rw [hH] at h
  obtain ⟨ps, hv, _⟩ := h
  obtain ⟨g, t, cs, fuel, p, h1, h2, h3, h4⟩ := laid_at _ _ _ _ _ hv hi
  have ht := tab_type
  rw [h1] at ht
  obtain rfl := Option.some.inj (ht.symm.trans h2)
  unfold Tab Lib.TabIs
  rw [h3, ← Lib.cells_of_tab Tryz.underlying158 Tryz.underlying34 (by kernel_rfl) (by kernel_rfl) h4]
end SW
end Go.Proofs.YtpbfgfadickgbaaGreatDoor

/-
  Contracts of layer 10's code: a part of a Pair; Do. Conditions: the arena's rows are as the list of things says, words lie in 64 bits, the tables are as laid.
-/
import Derived.Test.YtoikfpaocgikcaaDoorPrimC1
import Derived.Deep.RegionWith
import Derived.Deep.RegionHeld3
namespace Go.Proofs.YtoikfpaocgikcaaDoor
open Go.RowKit
set_option linter.unusedVariables false
namespace PW
open AW
section
variable {w : World} {p g h n : Nat} {ts : List AP.Th}
theorem part_any (hA : Ar w p g h n ts) (x : Int) (hx : WP.U x) (j : Int) : Calls Tryd.prog 25 #[ptr p, .int .u64 x, .int .i64 j] w fun e w' =>
    e = .returned (.tuple #[.int .u64 (if PP.pairB ts x then getW ts x j else 0), .int .i64 (if PP.pairB ts x then getE ts x j else 100)]) ∧ MM.Far [] w w' := by
  have hcf : ∀ (b : Nat) (W : World), (callFunc 43 #[.int .u64 x, ptr b]).run Tryd.prog W = .ok (.enter 43 #[.int .u64 x, ptr b]) W := fun b W => by kernel_rfl
  have hF := (MM.Far.refl [] w).alloc (.cells #[ptr p] 25)
  have hA2 := hA.far hF (by simp) (by simp) (by simp)
  have HP := Lib.hid (isPair1_any hA2 w.heap.size x hx ((MM.Row.new w 25 [ptr p]).at (i := 0) rfl))
  have HG := Lib.hid (get_any hA2 x hx j)
  have HF := Lib.hid hF
  generalize PP.pairB ts x = r at *
  generalize getW ts x j = gw at *
  generalize getE ts x j = ge at *
  clear hA hx hA2 hF
  cases r
  · go_enter Tryd.func25, Tryd.ntmps25
    go_wp2_with (first | (go_at_call 24; refine (isPair_any p _).mono ?_; rintro e w' ⟨rfl, rfl⟩) | (refine HP.out.mono ?_; rintro e w' ⟨rfl, rfl⟩))
    go_ret2
    exact ⟨rfl, HF.out⟩
  · go_enter Tryd.func25, Tryd.ntmps25
    go_wp2_with (first | (go_at_call 24; refine (isPair_any p _).mono ?_; rintro e w' ⟨rfl, rfl⟩) | (go_at_call 46; refine HG.out.mono ?_; rintro e w' ⟨rfl, rfl⟩) | (refine HP.out.mono ?_; rintro e w' ⟨rfl, rfl⟩))
    go_ret2
    exact ⟨rfl, HF.out⟩
end
end PW
end Go.Proofs.YtoikfpaocgikcaaDoor

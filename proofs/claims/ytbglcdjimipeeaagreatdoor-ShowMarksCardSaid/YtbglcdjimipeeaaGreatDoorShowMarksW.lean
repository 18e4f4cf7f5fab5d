/-
  P7.2's law of marks, as its row asks. Conditions: the arguments' reading; the numbers' table.
-/
import Derived.Test.YtbglcdjimipeeaaGreatDoorShowLaws7
namespace Go.Proofs.YtbglcdjimipeeaaGreatDoor
open Go.RowKit
namespace SW
theorem marks_any (a0 a1 : Int) (w : World) (h0 : (Lit.int .u16 a0).wf = true) (h1 : (Lit.int .u8 a1).wf = true) (hT : Tab w) :
    Calls Tryz.prog 8 #[.int .u16 a0, .int .u8 a1] w fun e w' => e = .returned (.bool true) ∧ Below w.heap.size w w' := by
  simp [Lit.wf, IntKind.min, IntKind.max, IntKind.signed, IntKind.bits] at h0 h1
  have := marks_law a0.toNat a1.toNat (by omega) (by omega) w hT
  rw [show ((a0.toNat : Nat) : Int) = a0 by omega, show ((a1.toNat : Nat) : Int) = a1 by omega] at this
  exact this
end SW
end Go.Proofs.YtbglcdjimipeeaaGreatDoor

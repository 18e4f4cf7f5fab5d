/-
  The document's examples of layer 2 come out as the statements' head says. No condition.
-/
import Derived.Test.YtbglcdjimipeeaaGreatDoorArenaWalks5
import Derived.Deep.DeepCutAuto
namespace Go.Proofs.YtbglcdjimipeeaaGreatDoor
open Go.RowKit
namespace AW
theorem new_int (w : World) (k : Int) (h1 : 1 ≤ k) (h2 : k ≤ 65536) : Calls Tryz.prog 14 #[.int .i64 k] w (Made w k.toNat) := by
  obtain ⟨n, rfl⟩ : ∃ n : Nat, k = n := ⟨k.toNat, by omega⟩
  rw [Int.toNat_natCast]
  exact new_ok w n (by omega) (by omega)
/-- Alloc, its answers spelled as the caller wants them. -/
theorem alloc_to {w : World} {p g h n : Nat} {ts : List AP.Th} (hA : Ar w p g h n ts) (k : Int) (A : Option Addr) (m c : Nat) (fs : List Int) (W E : Int) (T : List AP.Th) (hm : fs.length = m) (hm3 : m ≤ 9223372036854775807) (hu : ∀ x ∈ fs, WP.U x)
    (hW : allW n ts k m = W) (hE : allE n ts k m = E) (hT : allT n ts k fs = T) (hs : MM.Src w [p, g, h] A (U64s fs)) :
    Calls Tryz.prog 17 #[ptr p, .int .i64 k, .slice A m c] w fun e w' => e = .returned (.tuple #[.int .u64 W, .int .i64 E]) ∧ Ar w' p g h n T ∧ MM.Far [p, g, h] w w' := by
  subst hm hW hE hT
  exact alloc_any hA k A c fs hm3 hu hs
theorem u_all (l : List Int) (h : l.all (fun x => decide (0 ≤ x) && decide (x < 18446744073709551616)) = true) : ∀ x ∈ l, WP.U x := by
  intro x hx
  have := List.all_eq_true.1 h x hx
  simp at this
  exact this
end AW
end Go.Proofs.YtbglcdjimipeeaaGreatDoor

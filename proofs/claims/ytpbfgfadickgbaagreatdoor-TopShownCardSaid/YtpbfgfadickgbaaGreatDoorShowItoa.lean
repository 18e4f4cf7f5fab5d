/-
  strconv.Itoa at every number, its table being as the program lays it. Condition: the table.
-/
import Derived.Test.YtpbfgfadickgbaaGreatDoorShelf
import Derived.Test.YtpbfgfadickgbaaGreatDoorMemAll
import Derived.Test.YtpbfgfadickgbaaGreatDoorLexPure
import Derived.Lib.ItoaLen
import Derived.Lib.AppendIntMem
namespace Go.Proofs.YtpbfgfadickgbaaGreatDoor
open Go.RowKit
namespace SW
open LX
def Tab (w : World) : Prop := Lib.TabIs Tryz.prog w "internal/strconv.uint64pow10" .u64 Lib.pow10Tab
theorem tab_named : ∃ g, Tryz.prog.globalNamed "internal/strconv.uint64pow10" = some g := Option.isSome_iff_exists.1 (show (Tryz.prog.globalNamed "internal/strconv.uint64pow10").isSome = true by kernel_rfl)
theorem Tab.far {W w : World} (h : Tab W) (f : MM.Far [] W w) : Tab w := by
  unfold Tab Lib.TabIs World.var? at *
  obtain ⟨g, hg⟩ := tab_named
  rw [hg] at h ⊢
  simp only [Option.bind_some] at h ⊢
  have hlt : g < W.heap.size := by
    rcases Nat.lt_or_ge g W.heap.size with hb | hb
    · exact hb
    · rw [Array.getElem?_eq_none hb] at h; cases h
  rw [f.block g hlt (by simp)]
  exact h
theorem itoa_any (n : Int) (h0 : -9223372036854775808 ≤ n) (h1 : n ≤ 9223372036854775807) (w : World) (h : Tab w) : Calls Tryz.prog 32 #[.int .i64 n] w fun e w' => e = .returned (.string (str (Lib.itoa n))) ∧ MM.Far [] w w' := by
  refine (Tryz.strconv_Itoa n h0 h1 w h).mono ?_
  rintro e w' ⟨rfl, k, os, rfl⟩
  exact ⟨rfl, MM.Far.of_below (Lib.below_grow w.heap.size w (Nat.le_refl _) k os) []⟩
end SW
end Go.Proofs.YtpbfgfadickgbaaGreatDoor

/-
  DERIVED. GIVEN WITH THE SEED: THE PROGRAM's TIES (one call each: nine closed facts by the kernel) AND EACH ROW's TIE, after the 31st guide's Derived/Test/Toyas{Tie, Card}.lean. No idea stands in it: it is a product of the set-up. Laid BY PROGRAM, IN A SANDBOX (cutbox-door.mjs). By AI agents, Wed Nov 11 2026. No macro, syntax, notation, axiom, sorry.
-/
import Derived.Test.YthhibcfljekibaaDoorRows
import Derived.LaidByTextLater
import Derived.SevenTiedAt
import Derived.LaidSub
import Derived.LaidOnce
namespace Go.Proofs.YthhibcfljekibaaDoor
open Go
set_option maxRecDepth 100000
theorem seatTie1 : Tryd.prog.laidByTextLater [("unicode.White_Space", Rows.laid_unicode_White_Space), ("strings.asciiSpace", Rows.laid_strings_asciiSpace), ("eddywheel/scope.primitives", Rows.laid_eddywheel_scope_primitives), ("eddywheel/code.fields", Rows.laid_eddywheel_code_fields)] [.listed, .data, .data, .data] true :=
  Program.laidByTextLater_by_one 89 8 257 (by kernel_rfl) (by kernel_rfl) (by kernel_rfl) (by kernel_rfl) (by kernel_rfl) (by kernel_rfl) (fun _ _ => by kernel_rfl)
theorem noOwnUnsafe : Tryd.pinned.checked.prog.headLifts.contains "ownunsafe" = false := by kernel_rfl
theorem tie : Tryd.prog.laidByTextLater [("unicode.White_Space", Rows.laid_unicode_White_Space), ("strings.asciiSpace", Rows.laid_strings_asciiSpace), ("eddywheel/scope.primitives", Rows.laid_eddywheel_scope_primitives), ("eddywheel/code.fields", Rows.laid_eddywheel_code_fields)] [.listed, .data, .data, .data] true :=
  Program.laidByTextLater.sub seatTie1 ["unicode.White_Space", "strings.asciiSpace", "eddywheel/scope.primitives", "eddywheel/code.fields"] (by kernel_rfl) (by kernel_rfl)
theorem codeWays_row_tie : Rows.codeWaysRow.laidByTextAt .later Tryd.pinned [.listed, .data, .data, .data] true :=
  OpenClaim.laidByTextAt_later rfl rfl tie noOwnUnsafe
theorem codeChanged_row_tie : Rows.codeChangedRow.laidByTextAt .later Tryd.pinned [.listed, .data, .data, .data] true :=
  OpenClaim.laidByTextAt_later rfl rfl tie noOwnUnsafe
theorem codeRows_row_tie : Rows.codeRowsRow.laidByTextAt .later Tryd.pinned [.listed, .data, .data, .data] true :=
  OpenClaim.laidByTextAt_later rfl rfl tie noOwnUnsafe
theorem codePushes_row_tie : Rows.codePushesRow.laidByTextAt .later Tryd.pinned [.listed, .data, .data, .data] true :=
  OpenClaim.laidByTextAt_later rfl rfl tie noOwnUnsafe
theorem codeJumps_row_tie : Rows.codeJumpsRow.laidByTextAt .later Tryd.pinned [.listed, .data, .data, .data] true :=
  OpenClaim.laidByTextAt_later rfl rfl tie noOwnUnsafe
theorem codeWaysUpto_row_tie : Rows.codeWaysUptoRow.laidByTextAt .later Tryd.pinned [.listed, .data, .data, .data] true :=
  OpenClaim.laidByTextAt_later rfl rfl tie noOwnUnsafe
theorem codeChangedUpto_row_tie : Rows.codeChangedUptoRow.laidByTextAt .later Tryd.pinned [.listed, .data, .data, .data] true :=
  OpenClaim.laidByTextAt_later rfl rfl tie noOwnUnsafe
theorem codeRowsUpto_row_tie : Rows.codeRowsUptoRow.laidByTextAt .later Tryd.pinned [.listed, .data, .data, .data] true :=
  OpenClaim.laidByTextAt_later rfl rfl tie noOwnUnsafe
theorem codePushesUpto_row_tie : Rows.codePushesUptoRow.laidByTextAt .later Tryd.pinned [.listed, .data, .data, .data] true :=
  OpenClaim.laidByTextAt_later rfl rfl tie noOwnUnsafe
theorem codeJumpsUpto_row_tie : Rows.codeJumpsUptoRow.laidByTextAt .later Tryd.pinned [.listed, .data, .data, .data] true :=
  OpenClaim.laidByTextAt_later rfl rfl tie noOwnUnsafe
end Go.Proofs.YthhibcfljekibaaDoor

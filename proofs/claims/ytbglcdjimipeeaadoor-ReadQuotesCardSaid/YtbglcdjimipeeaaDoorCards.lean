/-
  DERIVED. GIVEN WITH THE SEED: THE CARDS: each row of YtbglcdjimipeeaaDoorRows.lean that lists a variable, with what it lists TIED to the program's text (the seventh form; the later family's looks); each row that meets fmt, with fmt's text TOLD by the authors' own Lean function (tested against real Go, not proved from fmt's source: count such statements apart). THE CARD IS WHAT COUNTS. Prove the row's statement (the work); the ties are given (YtbglcdjimipeeaaDoorTie.lean); close each card by the builder's one call (the guide's Derived/Test/ToyasCard.lean, 'card_holds'). Laid BY PROGRAM, IN A SANDBOX (cutbox-door.mjs). By AI agents, Wed Nov 11 2026. No macro, syntax, notation, axiom, sorry.
-/
import Derived.Test.YtbglcdjimipeeaaDoorRows
import GoSem.ClaimSeven
namespace Go.Proofs.YtbglcdjimipeeaaDoor
namespace Rows

/-- THE TIED CARD OF 'eddywheellaw06.ReadQuotes'. -/
def readQuotesCard : Claim7 := { stood := { row := readQuotesRow, standIns := [], harness := (true, "947d77d2c4002e9f51c88515e0dda7b2ce28636be5893be7f096efe15e35e1d5"), looks := true }, kinds := [], alts := [], laidByText := true, laidKinds := [.data, .data, .data, .sentinel, .sentinel], laidTests := true, laidLooks := .later }
def ReadQuotesCardSaid : Prop := Claim7.holds Tryd.pinned (.plain (OpenSpec.ofChange readQuotesSpec)) readQuotesCard

/-- THE SECOND FORM's CARD OF 'eddywheellaw06.ReadQuotes'. -/
def readQuotesUptoCard : Claim7 := { stood := { row := readQuotesUptoRow, standIns := [], harness := (true, "947d77d2c4002e9f51c88515e0dda7b2ce28636be5893be7f096efe15e35e1d5"), looks := true }, kinds := [], alts := [], laidByText := true, laidKinds := [.data, .data, .data, .sentinel, .sentinel], laidTests := true, laidLooks := .later }
def ReadQuotesUptoCardSaid : Prop := Claim7.holds Tryd.pinned (.plain (OpenSpec.upto readQuotesSpec)) readQuotesUptoCard
end Rows
end Go.Proofs.YtbglcdjimipeeaaDoor

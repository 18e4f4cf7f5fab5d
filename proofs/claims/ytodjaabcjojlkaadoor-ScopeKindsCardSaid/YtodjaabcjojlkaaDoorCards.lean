/-
  DERIVED. GIVEN WITH THE SEED: THE CARDS: each row of YtodjaabcjojlkaaDoorRows.lean that lists a variable, with what it lists TIED to the program's text (the seventh form; the later family's looks); each row that meets fmt, with fmt's text TOLD by the authors' own Lean function (tested against real Go, not proved from fmt's source: count such statements apart). THE CARD IS WHAT COUNTS. Prove the row's statement (the work); the ties are given (YtodjaabcjojlkaaDoorTie.lean); close each card by the builder's one call (the guide's Derived/Test/ToyasCard.lean, 'card_holds'). Laid BY PROGRAM, IN A SANDBOX (cutbox-door.mjs). By AI agents, Wed Nov 11 2026. No macro, syntax, notation, axiom, sorry.
-/
import Derived.Test.YtodjaabcjojlkaaDoorRows
import GoSem.ClaimSeven
namespace Go.Proofs.YtodjaabcjojlkaaDoor
namespace Rows

/-- THE TIED CARD OF 'eddywheellaw09.ScopeKinds'. -/
def scopeKindsCard : Claim7 := { stood := { row := scopeKindsRow, standIns := [], harness := (true, "b175629804d64d3a5806a9094a25b56164da249b5a41bf59ff3933bfd8d4272d"), looks := false }, kinds := [], alts := [], laidByText := true, laidKinds := [.data], laidTests := true, laidLooks := .later }
def ScopeKindsCardSaid : Prop := Claim7.holds Tryd.pinned (.plain (OpenSpec.ofChange scopeKindsSpec)) scopeKindsCard

/-- THE SECOND FORM's CARD OF 'eddywheellaw09.ScopeKinds'. -/
def scopeKindsUptoCard : Claim7 := { stood := { row := scopeKindsUptoRow, standIns := [], harness := (true, "b175629804d64d3a5806a9094a25b56164da249b5a41bf59ff3933bfd8d4272d"), looks := false }, kinds := [], alts := [], laidByText := true, laidKinds := [.data], laidTests := true, laidLooks := .later }
def ScopeKindsUptoCardSaid : Prop := Claim7.holds Tryd.pinned (.plain (OpenSpec.upto scopeKindsSpec)) scopeKindsUptoCard
end Rows
end Go.Proofs.YtodjaabcjojlkaaDoor

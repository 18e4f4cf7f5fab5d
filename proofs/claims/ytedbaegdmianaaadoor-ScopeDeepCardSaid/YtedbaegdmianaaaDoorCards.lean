/-
  DERIVED. GIVEN WITH THE SEED: THE CARDS: each row of YtedbaegdmianaaaDoorRows.lean that lists a variable, with what it lists TIED to the program's text (the seventh form; the later family's looks); each row that meets fmt, with fmt's text TOLD by the authors' own Lean function (tested against real Go, not proved from fmt's source: count such statements apart). THE CARD IS WHAT COUNTS. Prove the row's statement (the work); the ties are given (YtedbaegdmianaaaDoorTie.lean); close each card by the builder's one call (the guide's Derived/Test/ToyasCard.lean, 'card_holds'). Laid BY PROGRAM, IN A SANDBOX (cutbox-door.mjs). By AI agents, Wed Nov 11 2026. No macro, syntax, notation, axiom, sorry.
-/
import Derived.Test.YtedbaegdmianaaaDoorRows
import GoSem.ClaimSeven
namespace Go.Proofs.YtedbaegdmianaaaDoor
namespace Rows

/-- THE TIED CARD OF 'eddywheellaw09.ScopeKinds'. -/
def scopeKindsCard : Claim7 := { stood := { row := scopeKindsRow, standIns := [], harness := (true, "4ebfb2be72699ad6f95e7011a116734447769efff9f77b385299bf66f74237f0"), looks := false }, kinds := [], alts := [], laidByText := true, laidKinds := [.data], laidTests := true, laidLooks := .later }
def ScopeKindsCardSaid : Prop := Claim7.holds Tryd.pinned (.plain (OpenSpec.ofChange scopeKindsSpec)) scopeKindsCard

/-- THE TIED CARD OF 'eddywheellaw09.ScopeNames'. -/
def scopeNamesCard : Claim7 := { stood := { row := scopeNamesRow, standIns := [], harness := (true, "4ebfb2be72699ad6f95e7011a116734447769efff9f77b385299bf66f74237f0"), looks := false }, kinds := [], alts := [], laidByText := true, laidKinds := [.data], laidTests := true, laidLooks := .later }
def ScopeNamesCardSaid : Prop := Claim7.holds Tryd.pinned (.plain (OpenSpec.ofChange scopeNamesSpec)) scopeNamesCard

/-- THE TIED CARD OF 'eddywheellaw09.ScopeDeep'. -/
def scopeDeepCard : Claim7 := { stood := { row := scopeDeepRow, standIns := [], harness := (true, "4ebfb2be72699ad6f95e7011a116734447769efff9f77b385299bf66f74237f0"), looks := false }, kinds := [], alts := [], laidByText := true, laidKinds := [.data], laidTests := true, laidLooks := .later }
def ScopeDeepCardSaid : Prop := Claim7.holds Tryd.pinned (.plain (OpenSpec.ofChange scopeDeepSpec)) scopeDeepCard

/-- THE TIED CARD OF 'eddywheellaw09.ScopeQuotes'. -/
def scopeQuotesCard : Claim7 := { stood := { row := scopeQuotesRow, standIns := [], harness := (true, "4ebfb2be72699ad6f95e7011a116734447769efff9f77b385299bf66f74237f0"), looks := false }, kinds := [], alts := [], laidByText := true, laidKinds := [.data], laidTests := true, laidLooks := .later }
def ScopeQuotesCardSaid : Prop := Claim7.holds Tryd.pinned (.plain (OpenSpec.ofChange scopeQuotesSpec)) scopeQuotesCard

/-- THE TIED CARD OF 'eddywheellaw09.ScopePrims'. -/
def scopePrimsCard : Claim7 := { stood := { row := scopePrimsRow, standIns := [], harness := (true, "4ebfb2be72699ad6f95e7011a116734447769efff9f77b385299bf66f74237f0"), looks := false }, kinds := [], alts := [], laidByText := true, laidKinds := [.data], laidTests := true, laidLooks := .later }
def ScopePrimsCardSaid : Prop := Claim7.holds Tryd.pinned (.plain (OpenSpec.ofChange scopePrimsSpec)) scopePrimsCard

/-- THE SECOND FORM's CARD OF 'eddywheellaw09.ScopeKinds'. -/
def scopeKindsUptoCard : Claim7 := { stood := { row := scopeKindsUptoRow, standIns := [], harness := (true, "4ebfb2be72699ad6f95e7011a116734447769efff9f77b385299bf66f74237f0"), looks := false }, kinds := [], alts := [], laidByText := true, laidKinds := [.data], laidTests := true, laidLooks := .later }
def ScopeKindsUptoCardSaid : Prop := Claim7.holds Tryd.pinned (.plain (OpenSpec.upto scopeKindsSpec)) scopeKindsUptoCard

/-- THE SECOND FORM's CARD OF 'eddywheellaw09.ScopeNames'. -/
def scopeNamesUptoCard : Claim7 := { stood := { row := scopeNamesUptoRow, standIns := [], harness := (true, "4ebfb2be72699ad6f95e7011a116734447769efff9f77b385299bf66f74237f0"), looks := false }, kinds := [], alts := [], laidByText := true, laidKinds := [.data], laidTests := true, laidLooks := .later }
def ScopeNamesUptoCardSaid : Prop := Claim7.holds Tryd.pinned (.plain (OpenSpec.upto scopeNamesSpec)) scopeNamesUptoCard

/-- THE SECOND FORM's CARD OF 'eddywheellaw09.ScopeDeep'. -/
def scopeDeepUptoCard : Claim7 := { stood := { row := scopeDeepUptoRow, standIns := [], harness := (true, "4ebfb2be72699ad6f95e7011a116734447769efff9f77b385299bf66f74237f0"), looks := false }, kinds := [], alts := [], laidByText := true, laidKinds := [.data], laidTests := true, laidLooks := .later }
def ScopeDeepUptoCardSaid : Prop := Claim7.holds Tryd.pinned (.plain (OpenSpec.upto scopeDeepSpec)) scopeDeepUptoCard

/-- THE SECOND FORM's CARD OF 'eddywheellaw09.ScopeQuotes'. -/
def scopeQuotesUptoCard : Claim7 := { stood := { row := scopeQuotesUptoRow, standIns := [], harness := (true, "4ebfb2be72699ad6f95e7011a116734447769efff9f77b385299bf66f74237f0"), looks := false }, kinds := [], alts := [], laidByText := true, laidKinds := [.data], laidTests := true, laidLooks := .later }
def ScopeQuotesUptoCardSaid : Prop := Claim7.holds Tryd.pinned (.plain (OpenSpec.upto scopeQuotesSpec)) scopeQuotesUptoCard

/-- THE SECOND FORM's CARD OF 'eddywheellaw09.ScopePrims'. -/
def scopePrimsUptoCard : Claim7 := { stood := { row := scopePrimsUptoRow, standIns := [], harness := (true, "4ebfb2be72699ad6f95e7011a116734447769efff9f77b385299bf66f74237f0"), looks := false }, kinds := [], alts := [], laidByText := true, laidKinds := [.data], laidTests := true, laidLooks := .later }
def ScopePrimsUptoCardSaid : Prop := Claim7.holds Tryd.pinned (.plain (OpenSpec.upto scopePrimsSpec)) scopePrimsUptoCard
end Rows
end Go.Proofs.YtedbaegdmianaaaDoor

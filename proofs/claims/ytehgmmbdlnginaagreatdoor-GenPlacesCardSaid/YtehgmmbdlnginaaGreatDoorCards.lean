/-
  DERIVED. GIVEN WITH THE SEED: THE CARDS: each row of YtehgmmbdlnginaaGreatDoorRows.lean that lists a variable, with what it lists TIED to the program's text (the seventh form; the later family's looks); each row that meets fmt, with fmt's text TOLD by the authors' own Lean function (tested against real Go, not proved from fmt's source: count such statements apart). THE CARD IS WHAT COUNTS. Prove the row's statement (the work); the ties are given (YtehgmmbdlnginaaGreatDoorTie.lean); close each card by the builder's one call (the guide's Derived/Test/ToyasCard.lean, 'card_holds'). Laid BY PROGRAM, IN A SANDBOX (cutbox-door.mjs). By AI agents, Wed Nov 11 2026. No macro, syntax, notation, axiom, sorry.
-/
import Derived.Test.YtehgmmbdlnginaaGreatDoorRows
import GoSem.ClaimSeven
namespace Go.Proofs.YtehgmmbdlnginaaGreatDoor
namespace Rows

/-- THE TIED CARD OF 'eddywheellaw12.GenText'. -/
def genTextCard : Claim7 := { stood := { row := genTextRow, standIns := [], harness := (true, "bc491151ffc5a6e2a786dfec94deeb716f62b161d91c2f783d186a098514030b"), looks := false }, kinds := [], alts := [], laidByText := true, laidKinds := [.data, .listed, .data, .data, .data, .pinned], laidTests := true, laidLooks := .later }
def GenTextCardSaid : Prop := Claim7.holds Tryz.pinned (.plain (OpenSpec.ofChange genTextSpec)) genTextCard

/-- THE TIED CARD OF 'eddywheellaw12.GenBlocks'. -/
def genBlocksCard : Claim7 := { stood := { row := genBlocksRow, standIns := [], harness := (true, "bc491151ffc5a6e2a786dfec94deeb716f62b161d91c2f783d186a098514030b"), looks := false }, kinds := [], alts := [], laidByText := true, laidKinds := [.data, .listed, .data, .data, .data, .pinned], laidTests := true, laidLooks := .later }
def GenBlocksCardSaid : Prop := Claim7.holds Tryz.pinned (.plain (OpenSpec.ofChange genBlocksSpec)) genBlocksCard

/-- THE TIED CARD OF 'eddywheellaw12.GenEnds'. -/
def genEndsCard : Claim7 := { stood := { row := genEndsRow, standIns := [], harness := (true, "bc491151ffc5a6e2a786dfec94deeb716f62b161d91c2f783d186a098514030b"), looks := false }, kinds := [], alts := [], laidByText := true, laidKinds := [.data, .listed, .data, .data, .data, .pinned], laidTests := true, laidLooks := .later }
def GenEndsCardSaid : Prop := Claim7.holds Tryz.pinned (.plain (OpenSpec.ofChange genEndsSpec)) genEndsCard

/-- THE TIED CARD OF 'eddywheellaw12.GenJoins'. -/
def genJoinsCard : Claim7 := { stood := { row := genJoinsRow, standIns := [], harness := (true, "bc491151ffc5a6e2a786dfec94deeb716f62b161d91c2f783d186a098514030b"), looks := false }, kinds := [], alts := [], laidByText := true, laidKinds := [.data, .listed, .data, .data, .data, .pinned], laidTests := true, laidLooks := .later }
def GenJoinsCardSaid : Prop := Claim7.holds Tryz.pinned (.plain (OpenSpec.ofChange genJoinsSpec)) genJoinsCard

/-- THE TIED CARD OF 'eddywheellaw12.GenPlaces'. -/
def genPlacesCard : Claim7 := { stood := { row := genPlacesRow, standIns := [], harness := (true, "bc491151ffc5a6e2a786dfec94deeb716f62b161d91c2f783d186a098514030b"), looks := false }, kinds := [], alts := [], laidByText := true, laidKinds := [.data, .listed, .data, .data, .data, .pinned], laidTests := true, laidLooks := .later }
def GenPlacesCardSaid : Prop := Claim7.holds Tryz.pinned (.plain (OpenSpec.ofChange genPlacesSpec)) genPlacesCard

/-- THE TIED CARD OF 'eddywheellaw12.GenArgs'. -/
def genArgsCard : Claim7 := { stood := { row := genArgsRow, standIns := [], harness := (true, "bc491151ffc5a6e2a786dfec94deeb716f62b161d91c2f783d186a098514030b"), looks := false }, kinds := [], alts := [], laidByText := true, laidKinds := [.data, .listed, .data, .data, .data, .pinned], laidTests := true, laidLooks := .later }
def GenArgsCardSaid : Prop := Claim7.holds Tryz.pinned (.plain (OpenSpec.ofChange genArgsSpec)) genArgsCard

/-- THE SECOND FORM's CARD OF 'eddywheellaw12.GenText'. -/
def genTextUptoCard : Claim7 := { stood := { row := genTextUptoRow, standIns := [], harness := (true, "bc491151ffc5a6e2a786dfec94deeb716f62b161d91c2f783d186a098514030b"), looks := false }, kinds := [], alts := [], laidByText := true, laidKinds := [.data, .listed, .data, .data, .data, .pinned], laidTests := true, laidLooks := .later }
def GenTextUptoCardSaid : Prop := Claim7.holds Tryz.pinned (.plain (OpenSpec.upto genTextSpec)) genTextUptoCard

/-- THE SECOND FORM's CARD OF 'eddywheellaw12.GenBlocks'. -/
def genBlocksUptoCard : Claim7 := { stood := { row := genBlocksUptoRow, standIns := [], harness := (true, "bc491151ffc5a6e2a786dfec94deeb716f62b161d91c2f783d186a098514030b"), looks := false }, kinds := [], alts := [], laidByText := true, laidKinds := [.data, .listed, .data, .data, .data, .pinned], laidTests := true, laidLooks := .later }
def GenBlocksUptoCardSaid : Prop := Claim7.holds Tryz.pinned (.plain (OpenSpec.upto genBlocksSpec)) genBlocksUptoCard

/-- THE SECOND FORM's CARD OF 'eddywheellaw12.GenEnds'. -/
def genEndsUptoCard : Claim7 := { stood := { row := genEndsUptoRow, standIns := [], harness := (true, "bc491151ffc5a6e2a786dfec94deeb716f62b161d91c2f783d186a098514030b"), looks := false }, kinds := [], alts := [], laidByText := true, laidKinds := [.data, .listed, .data, .data, .data, .pinned], laidTests := true, laidLooks := .later }
def GenEndsUptoCardSaid : Prop := Claim7.holds Tryz.pinned (.plain (OpenSpec.upto genEndsSpec)) genEndsUptoCard

/-- THE SECOND FORM's CARD OF 'eddywheellaw12.GenJoins'. -/
def genJoinsUptoCard : Claim7 := { stood := { row := genJoinsUptoRow, standIns := [], harness := (true, "bc491151ffc5a6e2a786dfec94deeb716f62b161d91c2f783d186a098514030b"), looks := false }, kinds := [], alts := [], laidByText := true, laidKinds := [.data, .listed, .data, .data, .data, .pinned], laidTests := true, laidLooks := .later }
def GenJoinsUptoCardSaid : Prop := Claim7.holds Tryz.pinned (.plain (OpenSpec.upto genJoinsSpec)) genJoinsUptoCard

/-- THE SECOND FORM's CARD OF 'eddywheellaw12.GenPlaces'. -/
def genPlacesUptoCard : Claim7 := { stood := { row := genPlacesUptoRow, standIns := [], harness := (true, "bc491151ffc5a6e2a786dfec94deeb716f62b161d91c2f783d186a098514030b"), looks := false }, kinds := [], alts := [], laidByText := true, laidKinds := [.data, .listed, .data, .data, .data, .pinned], laidTests := true, laidLooks := .later }
def GenPlacesUptoCardSaid : Prop := Claim7.holds Tryz.pinned (.plain (OpenSpec.upto genPlacesSpec)) genPlacesUptoCard

/-- THE SECOND FORM's CARD OF 'eddywheellaw12.GenArgs'. -/
def genArgsUptoCard : Claim7 := { stood := { row := genArgsUptoRow, standIns := [], harness := (true, "bc491151ffc5a6e2a786dfec94deeb716f62b161d91c2f783d186a098514030b"), looks := false }, kinds := [], alts := [], laidByText := true, laidKinds := [.data, .listed, .data, .data, .data, .pinned], laidTests := true, laidLooks := .later }
def GenArgsUptoCardSaid : Prop := Claim7.holds Tryz.pinned (.plain (OpenSpec.upto genArgsSpec)) genArgsUptoCard
end Rows
end Go.Proofs.YtehgmmbdlnginaaGreatDoor

/-
  DERIVED. GIVEN WITH THE SEED: THE CARDS: each row of YtoikfpaocgikcaaDoorRows.lean that lists a variable, with what it lists TIED to the program's text (the seventh form; the later family's looks); each row that meets fmt, with fmt's text TOLD by the authors' own Lean function (tested against real Go, not proved from fmt's source: count such statements apart). THE CARD IS WHAT COUNTS. Prove the row's statement (the work); the ties are given (YtoikfpaocgikcaaDoorTie.lean); close each card by the builder's one call (the guide's Derived/Test/ToyasCard.lean, 'card_holds'). Laid BY PROGRAM, IN A SANDBOX (cutbox-door.mjs). By AI agents, Wed Nov 11 2026. No macro, syntax, notation, axiom, sorry.
-/
import Derived.Test.YtoikfpaocgikcaaDoorRows
import GoSem.ClaimSeven
namespace Go.Proofs.YtoikfpaocgikcaaDoor
namespace Rows

/-- THE TIED CARD OF 'eddywheellaw10.PrimPlays'. -/
def primPlaysCard : Claim7 := { stood := { row := primPlaysRow, standIns := [], harness := (true, "718ba6080c9141ec50e6272691d51d4be0985ec61404bcc7cb776d018cfdfec9"), looks := false }, kinds := [], alts := [], laidByText := true, laidKinds := [.data, .data], laidTests := true, laidLooks := .later }
def PrimPlaysCardSaid : Prop := Claim7.holds Tryd.pinned (.plain (OpenSpec.ofChange primPlaysSpec)) primPlaysCard

/-- THE TIED CARD OF 'eddywheellaw10.PrimPairs'. -/
def primPairsCard : Claim7 := { stood := { row := primPairsRow, standIns := [], harness := (true, "718ba6080c9141ec50e6272691d51d4be0985ec61404bcc7cb776d018cfdfec9"), looks := false }, kinds := [], alts := [], laidByText := true, laidKinds := [.data, .data], laidTests := true, laidLooks := .later }
def PrimPairsCardSaid : Prop := Claim7.holds Tryd.pinned (.plain (OpenSpec.ofChange primPairsSpec)) primPairsCard

/-- THE TIED CARD OF 'eddywheellaw10.PrimTells'. -/
def primTellsCard : Claim7 := { stood := { row := primTellsRow, standIns := [], harness := (true, "718ba6080c9141ec50e6272691d51d4be0985ec61404bcc7cb776d018cfdfec9"), looks := false }, kinds := [], alts := [], laidByText := true, laidKinds := [.data, .data], laidTests := true, laidLooks := .later }
def PrimTellsCardSaid : Prop := Claim7.holds Tryd.pinned (.plain (OpenSpec.ofChange primTellsSpec)) primTellsCard

/-- THE TIED CARD OF 'eddywheellaw10.PrimRoom'. -/
def primRoomCard : Claim7 := { stood := { row := primRoomRow, standIns := [], harness := (true, "718ba6080c9141ec50e6272691d51d4be0985ec61404bcc7cb776d018cfdfec9"), looks := false }, kinds := [], alts := [], laidByText := true, laidKinds := [.data, .data], laidTests := true, laidLooks := .later }
def PrimRoomCardSaid : Prop := Claim7.holds Tryd.pinned (.plain (OpenSpec.ofChange primRoomSpec)) primRoomCard

/-- THE TIED CARD OF 'eddywheellaw10.PrimSums'. -/
def primSumsCard : Claim7 := { stood := { row := primSumsRow, standIns := [], harness := (true, "718ba6080c9141ec50e6272691d51d4be0985ec61404bcc7cb776d018cfdfec9"), looks := false }, kinds := [], alts := [], laidByText := true, laidKinds := [.data, .data], laidTests := true, laidLooks := .later }
def PrimSumsCardSaid : Prop := Claim7.holds Tryd.pinned (.plain (OpenSpec.ofChange primSumsSpec)) primSumsCard

/-- THE TIED CARD OF 'eddywheellaw10.PrimShares'. -/
def primSharesCard : Claim7 := { stood := { row := primSharesRow, standIns := [], harness := (true, "718ba6080c9141ec50e6272691d51d4be0985ec61404bcc7cb776d018cfdfec9"), looks := false }, kinds := [], alts := [], laidByText := true, laidKinds := [.data, .data], laidTests := true, laidLooks := .later }
def PrimSharesCardSaid : Prop := Claim7.holds Tryd.pinned (.plain (OpenSpec.ofChange primSharesSpec)) primSharesCard

/-- THE SECOND FORM's CARD OF 'eddywheellaw10.PrimPlays'. -/
def primPlaysUptoCard : Claim7 := { stood := { row := primPlaysUptoRow, standIns := [], harness := (true, "718ba6080c9141ec50e6272691d51d4be0985ec61404bcc7cb776d018cfdfec9"), looks := false }, kinds := [], alts := [], laidByText := true, laidKinds := [.data, .data], laidTests := true, laidLooks := .later }
def PrimPlaysUptoCardSaid : Prop := Claim7.holds Tryd.pinned (.plain (OpenSpec.upto primPlaysSpec)) primPlaysUptoCard

/-- THE SECOND FORM's CARD OF 'eddywheellaw10.PrimPairs'. -/
def primPairsUptoCard : Claim7 := { stood := { row := primPairsUptoRow, standIns := [], harness := (true, "718ba6080c9141ec50e6272691d51d4be0985ec61404bcc7cb776d018cfdfec9"), looks := false }, kinds := [], alts := [], laidByText := true, laidKinds := [.data, .data], laidTests := true, laidLooks := .later }
def PrimPairsUptoCardSaid : Prop := Claim7.holds Tryd.pinned (.plain (OpenSpec.upto primPairsSpec)) primPairsUptoCard

/-- THE SECOND FORM's CARD OF 'eddywheellaw10.PrimTells'. -/
def primTellsUptoCard : Claim7 := { stood := { row := primTellsUptoRow, standIns := [], harness := (true, "718ba6080c9141ec50e6272691d51d4be0985ec61404bcc7cb776d018cfdfec9"), looks := false }, kinds := [], alts := [], laidByText := true, laidKinds := [.data, .data], laidTests := true, laidLooks := .later }
def PrimTellsUptoCardSaid : Prop := Claim7.holds Tryd.pinned (.plain (OpenSpec.upto primTellsSpec)) primTellsUptoCard

/-- THE SECOND FORM's CARD OF 'eddywheellaw10.PrimRoom'. -/
def primRoomUptoCard : Claim7 := { stood := { row := primRoomUptoRow, standIns := [], harness := (true, "718ba6080c9141ec50e6272691d51d4be0985ec61404bcc7cb776d018cfdfec9"), looks := false }, kinds := [], alts := [], laidByText := true, laidKinds := [.data, .data], laidTests := true, laidLooks := .later }
def PrimRoomUptoCardSaid : Prop := Claim7.holds Tryd.pinned (.plain (OpenSpec.upto primRoomSpec)) primRoomUptoCard

/-- THE SECOND FORM's CARD OF 'eddywheellaw10.PrimSums'. -/
def primSumsUptoCard : Claim7 := { stood := { row := primSumsUptoRow, standIns := [], harness := (true, "718ba6080c9141ec50e6272691d51d4be0985ec61404bcc7cb776d018cfdfec9"), looks := false }, kinds := [], alts := [], laidByText := true, laidKinds := [.data, .data], laidTests := true, laidLooks := .later }
def PrimSumsUptoCardSaid : Prop := Claim7.holds Tryd.pinned (.plain (OpenSpec.upto primSumsSpec)) primSumsUptoCard

/-- THE SECOND FORM's CARD OF 'eddywheellaw10.PrimShares'. -/
def primSharesUptoCard : Claim7 := { stood := { row := primSharesUptoRow, standIns := [], harness := (true, "718ba6080c9141ec50e6272691d51d4be0985ec61404bcc7cb776d018cfdfec9"), looks := false }, kinds := [], alts := [], laidByText := true, laidKinds := [.data, .data], laidTests := true, laidLooks := .later }
def PrimSharesUptoCardSaid : Prop := Claim7.holds Tryd.pinned (.plain (OpenSpec.upto primSharesSpec)) primSharesUptoCard
end Rows
end Go.Proofs.YtoikfpaocgikcaaDoor

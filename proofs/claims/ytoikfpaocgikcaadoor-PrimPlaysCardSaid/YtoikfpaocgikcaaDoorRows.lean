/-
  NARROWER THAN 'FOR EVERY INPUT', by the rows' own cells (each row's printed sentence says how): PrimPlays: laid · PrimPairs: laid · PrimTells: laid · PrimRoom: laid · PrimSums: laid · PrimShares: laid.
  DERIVED. THE GIVEN ROWS OF THIS SEAT. 6 by the template 'for every input the law returns true; each argument reads behind the call as it read before'; 0 by the template 'total and deterministic' (their statements: YtoikfpaocgikcaaDoorTotals.lean).
  GIVEN WITH THE SEED: the statements are not yours to turn. If you find one false, say at which input.
  Laid BY PROGRAM, IN A SANDBOX (cutbox-rows.mjs): the forced cells as the released guide's own fill.sh prints them over the translation fc20755cea8f34a1… (all of the seat's roots in one cut). By AI agents, Wed Nov 11 2026. No macro, syntax, notation, axiom, sorry.
-/
import Derived.Test.YtoikfpaocgikcaaDoorChecked
import GoSem.Claim
import GoSem.ClaimJoined
import GoSem.ClaimMapViews
import Derived.JoinedTies
import Derived.KernelRfl
namespace Go.Proofs.YtoikfpaocgikcaaDoor
/- THE CELL 'sum', in the pinned program and in every row, IS THE sha256 OF THE DUMP (.gsa) THAT YtoikfpaocgikcaaDoorProg.lean LOADS. Nothing in Lean hashes anything: it is a label: what it is worth is what the hold of that sum in a sandbox is worth. -/
noncomputable def Tryd.pinned : Pinned := { name := "ytoikfpaocgikcaadoor", sum := "fc20755cea8f34a17cc5be1b57991e366d8fcbff54b90d2c9cd0670f9553f05a", checked := Tryd.checked }
namespace Rows
def none {H : Type} : Left H := { results := [], args := [] }

/- WHAT THE LISTED PACKAGE-LEVEL VARIABLES READ AS WHEN THE CALL BEGINS. Each datum BY PROGRAM (the guide's laid-datum.mjs) off the statement by which the dump's own 'gosem.cut.vars' lays the variable. In a bare row this is a premise. The card (YtoikfpaocgikcaaDoorCards.lean) ties it to the program's text. -/
def laid_eddywheel_prim_counts {H : Type} : DataW H := .agg [.lit (.int .i64 0), .lit (.int .i64 2), .lit (.int .i64 2), .lit (.int .i64 2), .lit (.int .i64 2), .lit (.int .i64 2), .lit (.int .i64 2), .lit (.int .i64 2), .lit (.int .i64 2), .lit (.int .i64 1), .lit (.int .i64 1), .lit (.int .i64 1), .lit (.int .i64 2), .lit (.int .i64 1), .lit (.int .i64 1), .lit (.int .i64 1), .lit (.int .i64 1), .lit (.int .i64 1)]
def laid_eddywheel_prim_signs {H : Type} : DataW H := .agg [.lit (.int .u8 0), .lit (.int .u8 43), .lit (.int .u8 45), .lit (.int .u8 42), .lit (.int .u8 47), .lit (.int .u8 37), .lit (.int .u8 60), .lit (.int .u8 61)]

/-- 'eddywheellaw10.PrimPlays': WHATEVER THE INPUT: true; the input reads as it did. -/
def primPlaysSpec : ChangeSpec := { name := "primPlays", fn := fun _ => fun
  | [d1, d2, d3] => { results := [.lit (.bool true)], args := [d1, d2, d3] }
  | _ => none }
def primPlaysRow : OpenClaim := { program := "ytoikfpaocgikcaadoor", sum := "fc20755cea8f34a17cc5be1b57991e366d8fcbff54b90d2c9cd0670f9553f05a", func := "eddywheel/eddywheellaw10.PrimPlays", spec := "primPlays", unfollowed := true, recurses := true, named := ["eddywheel/prim.counts", "eddywheel/prim.signs"], apart := false, laid := [("eddywheel/prim.counts", laid_eddywheel_prim_counts), ("eddywheel/prim.signs", laid_eddywheel_prim_signs)] }
def PrimPlaysSaid : Prop := primPlaysRow.holds Tryd.pinned (OpenSpec.ofChange primPlaysSpec)

/-- ITS FALSE NEIGHBOUR: 'it returns false'. Refute it at one input. -/
def primPlaysWrong : ChangeSpec := { name := "primPlays", fn := fun _ => fun
  | [d1, d2, d3] => { results := [.lit (.bool false)], args := [d1, d2, d3] }
  | _ => none }
def PrimPlaysWrongFalsely : Prop := primPlaysRow.holds Tryd.pinned (OpenSpec.ofChange primPlaysWrong)

/-- 'eddywheellaw10.PrimPairs': WHATEVER THE INPUT: true; the input reads as it did. -/
def primPairsSpec : ChangeSpec := { name := "primPairs", fn := fun _ => fun
  | [d] => { results := [.lit (.bool true)], args := [d] }
  | _ => none }
def primPairsRow : OpenClaim := { program := "ytoikfpaocgikcaadoor", sum := "fc20755cea8f34a17cc5be1b57991e366d8fcbff54b90d2c9cd0670f9553f05a", func := "eddywheel/eddywheellaw10.PrimPairs", spec := "primPairs", unfollowed := true, recurses := true, named := ["eddywheel/prim.counts", "eddywheel/prim.signs"], apart := false, laid := [("eddywheel/prim.counts", laid_eddywheel_prim_counts), ("eddywheel/prim.signs", laid_eddywheel_prim_signs)] }
def PrimPairsSaid : Prop := primPairsRow.holds Tryd.pinned (OpenSpec.ofChange primPairsSpec)

/-- ITS FALSE NEIGHBOUR: 'it returns false'. Refute it at one input. -/
def primPairsWrong : ChangeSpec := { name := "primPairs", fn := fun _ => fun
  | [d] => { results := [.lit (.bool false)], args := [d] }
  | _ => none }
def PrimPairsWrongFalsely : Prop := primPairsRow.holds Tryd.pinned (OpenSpec.ofChange primPairsWrong)

/-- 'eddywheellaw10.PrimTells': WHATEVER THE INPUT: true; the input reads as it did. -/
def primTellsSpec : ChangeSpec := { name := "primTells", fn := fun _ => fun
  | [d1, d2] => { results := [.lit (.bool true)], args := [d1, d2] }
  | _ => none }
def primTellsRow : OpenClaim := { program := "ytoikfpaocgikcaadoor", sum := "fc20755cea8f34a17cc5be1b57991e366d8fcbff54b90d2c9cd0670f9553f05a", func := "eddywheel/eddywheellaw10.PrimTells", spec := "primTells", unfollowed := true, recurses := true, named := ["eddywheel/prim.counts", "eddywheel/prim.signs"], apart := false, laid := [("eddywheel/prim.counts", laid_eddywheel_prim_counts), ("eddywheel/prim.signs", laid_eddywheel_prim_signs)] }
def PrimTellsSaid : Prop := primTellsRow.holds Tryd.pinned (OpenSpec.ofChange primTellsSpec)

/-- ITS FALSE NEIGHBOUR: 'it returns false'. Refute it at one input. -/
def primTellsWrong : ChangeSpec := { name := "primTells", fn := fun _ => fun
  | [d1, d2] => { results := [.lit (.bool false)], args := [d1, d2] }
  | _ => none }
def PrimTellsWrongFalsely : Prop := primTellsRow.holds Tryd.pinned (OpenSpec.ofChange primTellsWrong)

/-- 'eddywheellaw10.PrimRoom': WHATEVER THE INPUT: true; the input reads as it did. -/
def primRoomSpec : ChangeSpec := { name := "primRoom", fn := fun _ => fun
  | [d1, d2, d3] => { results := [.lit (.bool true)], args := [d1, d2, d3] }
  | _ => none }
def primRoomRow : OpenClaim := { program := "ytoikfpaocgikcaadoor", sum := "fc20755cea8f34a17cc5be1b57991e366d8fcbff54b90d2c9cd0670f9553f05a", func := "eddywheel/eddywheellaw10.PrimRoom", spec := "primRoom", unfollowed := true, recurses := true, named := ["eddywheel/prim.counts", "eddywheel/prim.signs"], apart := false, laid := [("eddywheel/prim.counts", laid_eddywheel_prim_counts), ("eddywheel/prim.signs", laid_eddywheel_prim_signs)] }
def PrimRoomSaid : Prop := primRoomRow.holds Tryd.pinned (OpenSpec.ofChange primRoomSpec)

/-- ITS FALSE NEIGHBOUR: 'it returns false'. Refute it at one input. -/
def primRoomWrong : ChangeSpec := { name := "primRoom", fn := fun _ => fun
  | [d1, d2, d3] => { results := [.lit (.bool false)], args := [d1, d2, d3] }
  | _ => none }
def PrimRoomWrongFalsely : Prop := primRoomRow.holds Tryd.pinned (OpenSpec.ofChange primRoomWrong)

/-- 'eddywheellaw10.PrimSums': WHATEVER THE INPUT: true; the input reads as it did. -/
def primSumsSpec : ChangeSpec := { name := "primSums", fn := fun _ => fun
  | [d1, d2, d3] => { results := [.lit (.bool true)], args := [d1, d2, d3] }
  | _ => none }
def primSumsRow : OpenClaim := { program := "ytoikfpaocgikcaadoor", sum := "fc20755cea8f34a17cc5be1b57991e366d8fcbff54b90d2c9cd0670f9553f05a", func := "eddywheel/eddywheellaw10.PrimSums", spec := "primSums", unfollowed := true, recurses := true, named := ["eddywheel/prim.counts", "eddywheel/prim.signs"], apart := false, laid := [("eddywheel/prim.counts", laid_eddywheel_prim_counts), ("eddywheel/prim.signs", laid_eddywheel_prim_signs)] }
def PrimSumsSaid : Prop := primSumsRow.holds Tryd.pinned (OpenSpec.ofChange primSumsSpec)

/-- ITS FALSE NEIGHBOUR: 'it returns false'. Refute it at one input. -/
def primSumsWrong : ChangeSpec := { name := "primSums", fn := fun _ => fun
  | [d1, d2, d3] => { results := [.lit (.bool false)], args := [d1, d2, d3] }
  | _ => none }
def PrimSumsWrongFalsely : Prop := primSumsRow.holds Tryd.pinned (OpenSpec.ofChange primSumsWrong)

/-- 'eddywheellaw10.PrimShares': WHATEVER THE INPUT: true; the input reads as it did. -/
def primSharesSpec : ChangeSpec := { name := "primShares", fn := fun _ => fun
  | [d1, d2] => { results := [.lit (.bool true)], args := [d1, d2] }
  | _ => none }
def primSharesRow : OpenClaim := { program := "ytoikfpaocgikcaadoor", sum := "fc20755cea8f34a17cc5be1b57991e366d8fcbff54b90d2c9cd0670f9553f05a", func := "eddywheel/eddywheellaw10.PrimShares", spec := "primShares", unfollowed := true, recurses := true, named := ["eddywheel/prim.counts", "eddywheel/prim.signs"], apart := false, laid := [("eddywheel/prim.counts", laid_eddywheel_prim_counts), ("eddywheel/prim.signs", laid_eddywheel_prim_signs)] }
def PrimSharesSaid : Prop := primSharesRow.holds Tryd.pinned (OpenSpec.ofChange primSharesSpec)

/-- ITS FALSE NEIGHBOUR: 'it returns false'. Refute it at one input. -/
def primSharesWrong : ChangeSpec := { name := "primShares", fn := fun _ => fun
  | [d1, d2] => { results := [.lit (.bool false)], args := [d1, d2] }
  | _ => none }
def PrimSharesWrongFalsely : Prop := primSharesRow.holds Tryd.pinned (OpenSpec.ofChange primSharesWrong)

/- THE SECOND FORM. 'bulk': how many values and letters a reading holds, each counted each time it is reached (what is shared counts as often as it is met; a slice's spare places count too). A statement '..UptoSaid' is the law's where the arguments, and the package variables that the reading takes, are together of bulk at most 1048576: NARROWER than '..Said'. Prove '..Said' where nothing that the law and all that it calls make is longer than what came in: it says more and counts as full. Else prove '..UptoSaid'. A law counts once. -/
mutual
def uptoBulk {H : Type} : DataW H → Nat
  | .lit (.string bytes) => bytes.length + 1
  | .lit _ => 1
  | .nil => 1
  | .ptr d => uptoBulk d + 1
  | .slice elems spare => uptoBulkAll elems + uptoBulkAll spare + 1
  | .agg parts => uptoBulkAll parts + 1
  | .iface _ d => uptoBulk d + 1
  | .map entries => uptoBulkEntries entries + 1
  | .held _ => 1
def uptoBulkAll {H : Type} : List (DataW H) → Nat
  | [] => 0
  | d :: r => uptoBulk d + uptoBulkAll r
def uptoBulkEntries {H : Type} : List (Lit × DataW H) → Nat
  | [] => 0
  | x :: r => uptoBulkEntry x + uptoBulkEntries r
def uptoBulkEntry {H : Type} : Lit × DataW H → Nat
  | (.string bytes, d) => bytes.length + uptoBulk d + 1
  | (_, d) => uptoBulk d + 1
 end
def uptoSmall : (H : Type) → List (DataW H) → Bool := fun _ ds => decide (uptoBulkAll ds ≤ 1048576)
def OpenSpec.upto (s : _root_.Go.ChangeSpec) : _root_.Go.OpenSpec := { _root_.Go.OpenSpec.ofChange s with cond := some uptoSmall }

/-- 'eddywheellaw10.PrimPlays', WHERE WHAT IT READS IS OF BULK AT MOST 1048576: true; the input reads as it did. -/
def primPlaysUptoRow : OpenClaim := { program := "ytoikfpaocgikcaadoor", sum := "fc20755cea8f34a17cc5be1b57991e366d8fcbff54b90d2c9cd0670f9553f05a", func := "eddywheel/eddywheellaw10.PrimPlays", spec := "primPlays", unfollowed := true, recurses := true, named := ["eddywheel/prim.counts", "eddywheel/prim.signs"], apart := false, laid := [("eddywheel/prim.counts", laid_eddywheel_prim_counts), ("eddywheel/prim.signs", laid_eddywheel_prim_signs)], narrowed := true }
def PrimPlaysUptoSaid : Prop := primPlaysUptoRow.holds Tryd.pinned (OpenSpec.upto primPlaysSpec)

/-- 'eddywheellaw10.PrimPairs', WHERE WHAT IT READS IS OF BULK AT MOST 1048576: true; the input reads as it did. -/
def primPairsUptoRow : OpenClaim := { program := "ytoikfpaocgikcaadoor", sum := "fc20755cea8f34a17cc5be1b57991e366d8fcbff54b90d2c9cd0670f9553f05a", func := "eddywheel/eddywheellaw10.PrimPairs", spec := "primPairs", unfollowed := true, recurses := true, named := ["eddywheel/prim.counts", "eddywheel/prim.signs"], apart := false, laid := [("eddywheel/prim.counts", laid_eddywheel_prim_counts), ("eddywheel/prim.signs", laid_eddywheel_prim_signs)], narrowed := true }
def PrimPairsUptoSaid : Prop := primPairsUptoRow.holds Tryd.pinned (OpenSpec.upto primPairsSpec)

/-- 'eddywheellaw10.PrimTells', WHERE WHAT IT READS IS OF BULK AT MOST 1048576: true; the input reads as it did. -/
def primTellsUptoRow : OpenClaim := { program := "ytoikfpaocgikcaadoor", sum := "fc20755cea8f34a17cc5be1b57991e366d8fcbff54b90d2c9cd0670f9553f05a", func := "eddywheel/eddywheellaw10.PrimTells", spec := "primTells", unfollowed := true, recurses := true, named := ["eddywheel/prim.counts", "eddywheel/prim.signs"], apart := false, laid := [("eddywheel/prim.counts", laid_eddywheel_prim_counts), ("eddywheel/prim.signs", laid_eddywheel_prim_signs)], narrowed := true }
def PrimTellsUptoSaid : Prop := primTellsUptoRow.holds Tryd.pinned (OpenSpec.upto primTellsSpec)

/-- 'eddywheellaw10.PrimRoom', WHERE WHAT IT READS IS OF BULK AT MOST 1048576: true; the input reads as it did. -/
def primRoomUptoRow : OpenClaim := { program := "ytoikfpaocgikcaadoor", sum := "fc20755cea8f34a17cc5be1b57991e366d8fcbff54b90d2c9cd0670f9553f05a", func := "eddywheel/eddywheellaw10.PrimRoom", spec := "primRoom", unfollowed := true, recurses := true, named := ["eddywheel/prim.counts", "eddywheel/prim.signs"], apart := false, laid := [("eddywheel/prim.counts", laid_eddywheel_prim_counts), ("eddywheel/prim.signs", laid_eddywheel_prim_signs)], narrowed := true }
def PrimRoomUptoSaid : Prop := primRoomUptoRow.holds Tryd.pinned (OpenSpec.upto primRoomSpec)

/-- 'eddywheellaw10.PrimSums', WHERE WHAT IT READS IS OF BULK AT MOST 1048576: true; the input reads as it did. -/
def primSumsUptoRow : OpenClaim := { program := "ytoikfpaocgikcaadoor", sum := "fc20755cea8f34a17cc5be1b57991e366d8fcbff54b90d2c9cd0670f9553f05a", func := "eddywheel/eddywheellaw10.PrimSums", spec := "primSums", unfollowed := true, recurses := true, named := ["eddywheel/prim.counts", "eddywheel/prim.signs"], apart := false, laid := [("eddywheel/prim.counts", laid_eddywheel_prim_counts), ("eddywheel/prim.signs", laid_eddywheel_prim_signs)], narrowed := true }
def PrimSumsUptoSaid : Prop := primSumsUptoRow.holds Tryd.pinned (OpenSpec.upto primSumsSpec)

/-- 'eddywheellaw10.PrimShares', WHERE WHAT IT READS IS OF BULK AT MOST 1048576: true; the input reads as it did. -/
def primSharesUptoRow : OpenClaim := { program := "ytoikfpaocgikcaadoor", sum := "fc20755cea8f34a17cc5be1b57991e366d8fcbff54b90d2c9cd0670f9553f05a", func := "eddywheel/eddywheellaw10.PrimShares", spec := "primShares", unfollowed := true, recurses := true, named := ["eddywheel/prim.counts", "eddywheel/prim.signs"], apart := false, laid := [("eddywheel/prim.counts", laid_eddywheel_prim_counts), ("eddywheel/prim.signs", laid_eddywheel_prim_signs)], narrowed := true }
def PrimSharesUptoSaid : Prop := primSharesUptoRow.holds Tryd.pinned (OpenSpec.upto primSharesSpec)

end Rows
end Go.Proofs.YtoikfpaocgikcaaDoor

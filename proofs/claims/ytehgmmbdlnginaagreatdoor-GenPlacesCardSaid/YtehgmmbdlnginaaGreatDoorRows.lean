/-
  NARROWER THAN 'FOR EVERY INPUT', by the rows' own cells (each row's printed sentence says how): GenText: laid · GenBlocks: laid · GenEnds: laid · GenJoins: laid · GenPlaces: laid · GenArgs: laid.
  DERIVED. THE GIVEN ROWS OF THIS SEAT. 6 by the template 'for every input the law returns true; each argument reads behind the call as it read before'; 0 by the template 'total and deterministic' (their statements: YtehgmmbdlnginaaGreatDoorTotals.lean).
  GIVEN WITH THE SEED: the statements are not yours to turn. If you find one false, say at which input.
  Laid BY PROGRAM, IN A SANDBOX (cutbox-rows.mjs): the forced cells as the released guide's own fill.sh prints them over the translation 082c92884cf1c7e5… (all of the seat's roots in one cut). By AI agents, Wed Nov 11 2026. No macro, syntax, notation, axiom, sorry.
-/
import Derived.Test.YtehgmmbdlnginaaGreatDoorChecked
import GoSem.PinnedTables
import GoSem.Claim
import GoSem.ClaimJoined
import GoSem.ClaimMapViews
import Derived.JoinedTies
import Derived.KernelRfl
namespace Go.Proofs.YtehgmmbdlnginaaGreatDoor
/- THE CELL 'sum', in the pinned program and in every row, IS THE sha256 OF THE DUMP (.gsa) THAT YtehgmmbdlnginaaGreatDoorProg.lean LOADS. Nothing in Lean hashes anything: it is a label: what it is worth is what the hold of that sum in a sandbox is worth. -/
noncomputable def Tryz.pinned : Pinned := { name := "ytehgmmbdlnginaagreatdoor", sum := "082c92884cf1c7e5b30717be67158d663f92faa9c755743d03594f1240e6be16", checked := Tryz.checked }
namespace Rows
def none {H : Type} : Left H := { results := [], args := [] }

/- WHAT THE LISTED PACKAGE-LEVEL VARIABLES READ AS WHEN THE CALL BEGINS. Each datum BY PROGRAM (the guide's laid-datum.mjs) off the statement by which the dump's own 'gosem.cut.vars' lays the variable. In a bare row this is a premise. The card (YtehgmmbdlnginaaGreatDoorCards.lean) ties it to the program's text. -/
def laid_unicode_utf8_acceptRanges {H : Type} : DataW H := .agg [.agg [.lit (.int .u8 128), .lit (.int .u8 191)], .agg [.lit (.int .u8 160), .lit (.int .u8 191)], .agg [.lit (.int .u8 128), .lit (.int .u8 159)], .agg [.lit (.int .u8 144), .lit (.int .u8 191)], .agg [.lit (.int .u8 128), .lit (.int .u8 143)], .agg [.lit (.int .u8 0), .lit (.int .u8 0)], .agg [.lit (.int .u8 0), .lit (.int .u8 0)], .agg [.lit (.int .u8 0), .lit (.int .u8 0)], .agg [.lit (.int .u8 0), .lit (.int .u8 0)], .agg [.lit (.int .u8 0), .lit (.int .u8 0)], .agg [.lit (.int .u8 0), .lit (.int .u8 0)], .agg [.lit (.int .u8 0), .lit (.int .u8 0)], .agg [.lit (.int .u8 0), .lit (.int .u8 0)], .agg [.lit (.int .u8 0), .lit (.int .u8 0)], .agg [.lit (.int .u8 0), .lit (.int .u8 0)], .agg [.lit (.int .u8 0), .lit (.int .u8 0)]]
def laid_unicode_White_Space {H : Type} : DataW H := .ptr (.agg [.slice [.agg [.lit (.int .u16 9), .lit (.int .u16 13), .lit (.int .u16 1)], .agg [.lit (.int .u16 32), .lit (.int .u16 133), .lit (.int .u16 101)], .agg [.lit (.int .u16 160), .lit (.int .u16 5760), .lit (.int .u16 5600)], .agg [.lit (.int .u16 8192), .lit (.int .u16 8202), .lit (.int .u16 1)], .agg [.lit (.int .u16 8232), .lit (.int .u16 8233), .lit (.int .u16 1)], .agg [.lit (.int .u16 8239), .lit (.int .u16 8287), .lit (.int .u16 48)], .agg [.lit (.int .u16 12288), .lit (.int .u16 12288), .lit (.int .u16 1)]] [], .nil, .lit (.int .i64 2)])
def laid_strings_asciiSpace {H : Type} : DataW H := .agg [.lit (.int .u8 0), .lit (.int .u8 0), .lit (.int .u8 0), .lit (.int .u8 0), .lit (.int .u8 0), .lit (.int .u8 0), .lit (.int .u8 0), .lit (.int .u8 0), .lit (.int .u8 0), .lit (.int .u8 1), .lit (.int .u8 1), .lit (.int .u8 1), .lit (.int .u8 1), .lit (.int .u8 1), .lit (.int .u8 0), .lit (.int .u8 0), .lit (.int .u8 0), .lit (.int .u8 0), .lit (.int .u8 0), .lit (.int .u8 0), .lit (.int .u8 0), .lit (.int .u8 0), .lit (.int .u8 0), .lit (.int .u8 0), .lit (.int .u8 0), .lit (.int .u8 0), .lit (.int .u8 0), .lit (.int .u8 0), .lit (.int .u8 0), .lit (.int .u8 0), .lit (.int .u8 0), .lit (.int .u8 0), .lit (.int .u8 1), .lit (.int .u8 0), .lit (.int .u8 0), .lit (.int .u8 0), .lit (.int .u8 0), .lit (.int .u8 0), .lit (.int .u8 0), .lit (.int .u8 0), .lit (.int .u8 0), .lit (.int .u8 0), .lit (.int .u8 0), .lit (.int .u8 0), .lit (.int .u8 0), .lit (.int .u8 0), .lit (.int .u8 0), .lit (.int .u8 0), .lit (.int .u8 0), .lit (.int .u8 0), .lit (.int .u8 0), .lit (.int .u8 0), .lit (.int .u8 0), .lit (.int .u8 0), .lit (.int .u8 0), .lit (.int .u8 0), .lit (.int .u8 0), .lit (.int .u8 0), .lit (.int .u8 0), .lit (.int .u8 0), .lit (.int .u8 0), .lit (.int .u8 0), .lit (.int .u8 0), .lit (.int .u8 0), .lit (.int .u8 0), .lit (.int .u8 0), .lit (.int .u8 0), .lit (.int .u8 0), .lit (.int .u8 0), .lit (.int .u8 0), .lit (.int .u8 0), .lit (.int .u8 0), .lit (.int .u8 0), .lit (.int .u8 0), .lit (.int .u8 0), .lit (.int .u8 0), .lit (.int .u8 0), .lit (.int .u8 0), .lit (.int .u8 0), .lit (.int .u8 0), .lit (.int .u8 0), .lit (.int .u8 0), .lit (.int .u8 0), .lit (.int .u8 0), .lit (.int .u8 0), .lit (.int .u8 0), .lit (.int .u8 0), .lit (.int .u8 0), .lit (.int .u8 0), .lit (.int .u8 0), .lit (.int .u8 0), .lit (.int .u8 0), .lit (.int .u8 0), .lit (.int .u8 0), .lit (.int .u8 0), .lit (.int .u8 0), .lit (.int .u8 0), .lit (.int .u8 0), .lit (.int .u8 0), .lit (.int .u8 0), .lit (.int .u8 0), .lit (.int .u8 0), .lit (.int .u8 0), .lit (.int .u8 0), .lit (.int .u8 0), .lit (.int .u8 0), .lit (.int .u8 0), .lit (.int .u8 0), .lit (.int .u8 0), .lit (.int .u8 0), .lit (.int .u8 0), .lit (.int .u8 0), .lit (.int .u8 0), .lit (.int .u8 0), .lit (.int .u8 0), .lit (.int .u8 0), .lit (.int .u8 0), .lit (.int .u8 0), .lit (.int .u8 0), .lit (.int .u8 0), .lit (.int .u8 0), .lit (.int .u8 0), .lit (.int .u8 0), .lit (.int .u8 0), .lit (.int .u8 0), .lit (.int .u8 0), .lit (.int .u8 0), .lit (.int .u8 0), .lit (.int .u8 0), .lit (.int .u8 0), .lit (.int .u8 0), .lit (.int .u8 0), .lit (.int .u8 0), .lit (.int .u8 0), .lit (.int .u8 0), .lit (.int .u8 0), .lit (.int .u8 0), .lit (.int .u8 0), .lit (.int .u8 0), .lit (.int .u8 0), .lit (.int .u8 0), .lit (.int .u8 0), .lit (.int .u8 0), .lit (.int .u8 0), .lit (.int .u8 0), .lit (.int .u8 0), .lit (.int .u8 0), .lit (.int .u8 0), .lit (.int .u8 0), .lit (.int .u8 0), .lit (.int .u8 0), .lit (.int .u8 0), .lit (.int .u8 0), .lit (.int .u8 0), .lit (.int .u8 0), .lit (.int .u8 0), .lit (.int .u8 0), .lit (.int .u8 0), .lit (.int .u8 0), .lit (.int .u8 0), .lit (.int .u8 0), .lit (.int .u8 0), .lit (.int .u8 0), .lit (.int .u8 0), .lit (.int .u8 0), .lit (.int .u8 0), .lit (.int .u8 0), .lit (.int .u8 0), .lit (.int .u8 0), .lit (.int .u8 0), .lit (.int .u8 0), .lit (.int .u8 0), .lit (.int .u8 0), .lit (.int .u8 0), .lit (.int .u8 0), .lit (.int .u8 0), .lit (.int .u8 0), .lit (.int .u8 0), .lit (.int .u8 0), .lit (.int .u8 0), .lit (.int .u8 0), .lit (.int .u8 0), .lit (.int .u8 0), .lit (.int .u8 0), .lit (.int .u8 0), .lit (.int .u8 0), .lit (.int .u8 0), .lit (.int .u8 0), .lit (.int .u8 0), .lit (.int .u8 0), .lit (.int .u8 0), .lit (.int .u8 0), .lit (.int .u8 0), .lit (.int .u8 0), .lit (.int .u8 0), .lit (.int .u8 0), .lit (.int .u8 0), .lit (.int .u8 0), .lit (.int .u8 0), .lit (.int .u8 0), .lit (.int .u8 0), .lit (.int .u8 0), .lit (.int .u8 0), .lit (.int .u8 0), .lit (.int .u8 0), .lit (.int .u8 0), .lit (.int .u8 0), .lit (.int .u8 0), .lit (.int .u8 0), .lit (.int .u8 0), .lit (.int .u8 0), .lit (.int .u8 0), .lit (.int .u8 0), .lit (.int .u8 0), .lit (.int .u8 0), .lit (.int .u8 0), .lit (.int .u8 0), .lit (.int .u8 0), .lit (.int .u8 0), .lit (.int .u8 0), .lit (.int .u8 0), .lit (.int .u8 0), .lit (.int .u8 0), .lit (.int .u8 0), .lit (.int .u8 0), .lit (.int .u8 0), .lit (.int .u8 0), .lit (.int .u8 0), .lit (.int .u8 0), .lit (.int .u8 0), .lit (.int .u8 0), .lit (.int .u8 0), .lit (.int .u8 0), .lit (.int .u8 0), .lit (.int .u8 0), .lit (.int .u8 0), .lit (.int .u8 0), .lit (.int .u8 0), .lit (.int .u8 0), .lit (.int .u8 0), .lit (.int .u8 0), .lit (.int .u8 0), .lit (.int .u8 0), .lit (.int .u8 0), .lit (.int .u8 0), .lit (.int .u8 0), .lit (.int .u8 0), .lit (.int .u8 0), .lit (.int .u8 0), .lit (.int .u8 0), .lit (.int .u8 0), .lit (.int .u8 0), .lit (.int .u8 0), .lit (.int .u8 0), .lit (.int .u8 0), .lit (.int .u8 0)]
def laid_eddywheel_scope_primitives {H : Type} : DataW H := .agg [.agg [.lit (.string []), .lit (.int .i64 0)], .agg [.lit (.string [43]), .lit (.int .i64 2)], .agg [.lit (.string [45]), .lit (.int .i64 2)], .agg [.lit (.string [42]), .lit (.int .i64 2)], .agg [.lit (.string [113, 117, 111, 116, 105, 101, 110, 116]), .lit (.int .i64 2)], .agg [.lit (.string [114, 101, 109, 97, 105, 110, 100, 101, 114]), .lit (.int .i64 2)], .agg [.lit (.string [60]), .lit (.int .i64 2)], .agg [.lit (.string [61]), .lit (.int .i64 2)], .agg [.lit (.string [101, 113, 63]), .lit (.int .i64 2)], .agg [.lit (.string [110, 111, 116]), .lit (.int .i64 1)], .agg [.lit (.string [110, 117, 108, 108, 63]), .lit (.int .i64 1)], .agg [.lit (.string [112, 97, 105, 114, 63]), .lit (.int .i64 1)], .agg [.lit (.string [99, 111, 110, 115]), .lit (.int .i64 2)], .agg [.lit (.string [99, 97, 114]), .lit (.int .i64 1)], .agg [.lit (.string [99, 100, 114]), .lit (.int .i64 1)], .agg [.lit (.string [110, 117, 109, 98, 101, 114, 63]), .lit (.int .i64 1)], .agg [.lit (.string [115, 121, 109, 98, 111, 108, 63]), .lit (.int .i64 1)], .agg [.lit (.string [112, 114, 111, 99, 101, 100, 117, 114, 101, 63]), .lit (.int .i64 1)], .agg [.lit (.string [99, 97, 108, 108, 47, 99, 99]), .lit (.int .i64 1)], .agg [.lit (.string [111, 117, 116]), .lit (.int .i64 1)], .agg [.lit (.string [115, 112, 97, 119, 110]), .lit (.int .i64 1)], .agg [.lit (.string [109, 105, 99, 114, 111]), .lit (.int .i64 1)], .agg [.lit (.string [97, 102, 116, 101, 114]), .lit (.int .i64 2)], .agg [.lit (.string [99, 97, 110, 99, 101, 108]), .lit (.int .i64 1)], .agg [.lit (.string [112, 114, 111, 109, 105, 115, 101]), .lit (.int .i64 0)], .agg [.lit (.string [115, 101, 116, 116, 108, 101]), .lit (.int .i64 2)], .agg [.lit (.string [116, 104, 101, 110]), .lit (.int .i64 2)], .agg [.lit (.string [115, 116, 114, 101, 97, 109]), .lit (.int .i64 1)], .agg [.lit (.string [119, 114, 105, 116, 101]), .lit (.int .i64 2)], .agg [.lit (.string [114, 101, 97, 100]), .lit (.int .i64 1)], .agg [.lit (.string [116, 105, 109, 101]), .lit (.int .i64 0)]]
def laid_eddywheel_code_fields {H : Type} : DataW H := .agg [.nil, .slice [.lit (.int .i64 2)] [], .slice [.lit (.int .i64 0), .lit (.int .i64 1)] [], .slice [.lit (.int .i64 0)] [], .slice [.lit (.int .i64 0), .lit (.int .i64 1)] [], .slice [.lit (.int .i64 0)] [], .slice [.lit (.int .i64 0)] [], .slice [] [], .slice [.lit (.int .i64 0)] [], .slice [.lit (.int .i64 0)] [], .slice [.lit (.int .i64 0)] [], .slice [.lit (.int .i64 0), .lit (.int .i64 1)] [], .slice [.lit (.int .i64 0)] [], .slice [.lit (.int .i64 0)] [], .slice [] [], .slice [] [], .slice [] []]
/-- One of Go's own tables, pinned by name: the form's constant. -/
def laid_unicode_utf8_first : DataW Unit := Go.Pinned.utf8First

/-- 'eddywheellaw12.GenText': WHATEVER THE INPUT: true; the input reads as it did. -/
def genTextSpec : ChangeSpec := { name := "genText", fn := fun _ => fun
  | [d] => { results := [.lit (.bool true)], args := [d] }
  | _ => none }
def genTextRow : OpenClaim := { program := "ytehgmmbdlnginaagreatdoor", sum := "082c92884cf1c7e5b30717be67158d663f92faa9c755743d03594f1240e6be16", func := "eddywheel/eddywheellaw12.GenText", spec := "genText", unfollowed := true, recurses := true, named := ["strings.asciiSpace", "unicode/utf8.first", "unicode/utf8.acceptRanges", "unicode.White_Space", "eddywheel/scope.primitives", "eddywheel/code.fields"], apart := false, laid := [("unicode/utf8.acceptRanges", laid_unicode_utf8_acceptRanges), ("unicode.White_Space", laid_unicode_White_Space), ("strings.asciiSpace", laid_strings_asciiSpace), ("eddywheel/scope.primitives", laid_eddywheel_scope_primitives), ("eddywheel/code.fields", laid_eddywheel_code_fields), ("unicode/utf8.first", laid_unicode_utf8_first)] }
def GenTextSaid : Prop := genTextRow.holds Tryz.pinned (OpenSpec.ofChange genTextSpec)

/-- ITS FALSE NEIGHBOUR: 'it returns false'. Refute it at one input. -/
def genTextWrong : ChangeSpec := { name := "genText", fn := fun _ => fun
  | [d] => { results := [.lit (.bool false)], args := [d] }
  | _ => none }
def GenTextWrongFalsely : Prop := genTextRow.holds Tryz.pinned (OpenSpec.ofChange genTextWrong)

/-- 'eddywheellaw12.GenBlocks': WHATEVER THE INPUT: true; the input reads as it did. -/
def genBlocksSpec : ChangeSpec := { name := "genBlocks", fn := fun _ => fun
  | [d] => { results := [.lit (.bool true)], args := [d] }
  | _ => none }
def genBlocksRow : OpenClaim := { program := "ytehgmmbdlnginaagreatdoor", sum := "082c92884cf1c7e5b30717be67158d663f92faa9c755743d03594f1240e6be16", func := "eddywheel/eddywheellaw12.GenBlocks", spec := "genBlocks", unfollowed := true, recurses := true, named := ["strings.asciiSpace", "unicode/utf8.first", "unicode/utf8.acceptRanges", "unicode.White_Space", "eddywheel/scope.primitives", "eddywheel/code.fields"], apart := false, laid := [("unicode/utf8.acceptRanges", laid_unicode_utf8_acceptRanges), ("unicode.White_Space", laid_unicode_White_Space), ("strings.asciiSpace", laid_strings_asciiSpace), ("eddywheel/scope.primitives", laid_eddywheel_scope_primitives), ("eddywheel/code.fields", laid_eddywheel_code_fields), ("unicode/utf8.first", laid_unicode_utf8_first)] }
def GenBlocksSaid : Prop := genBlocksRow.holds Tryz.pinned (OpenSpec.ofChange genBlocksSpec)

/-- ITS FALSE NEIGHBOUR: 'it returns false'. Refute it at one input. -/
def genBlocksWrong : ChangeSpec := { name := "genBlocks", fn := fun _ => fun
  | [d] => { results := [.lit (.bool false)], args := [d] }
  | _ => none }
def GenBlocksWrongFalsely : Prop := genBlocksRow.holds Tryz.pinned (OpenSpec.ofChange genBlocksWrong)

/-- 'eddywheellaw12.GenEnds': WHATEVER THE INPUT: true; the input reads as it did. -/
def genEndsSpec : ChangeSpec := { name := "genEnds", fn := fun _ => fun
  | [d1, d2, d3] => { results := [.lit (.bool true)], args := [d1, d2, d3] }
  | _ => none }
def genEndsRow : OpenClaim := { program := "ytehgmmbdlnginaagreatdoor", sum := "082c92884cf1c7e5b30717be67158d663f92faa9c755743d03594f1240e6be16", func := "eddywheel/eddywheellaw12.GenEnds", spec := "genEnds", unfollowed := true, recurses := true, named := ["strings.asciiSpace", "unicode/utf8.first", "unicode/utf8.acceptRanges", "unicode.White_Space", "eddywheel/scope.primitives", "eddywheel/code.fields"], apart := false, laid := [("unicode/utf8.acceptRanges", laid_unicode_utf8_acceptRanges), ("unicode.White_Space", laid_unicode_White_Space), ("strings.asciiSpace", laid_strings_asciiSpace), ("eddywheel/scope.primitives", laid_eddywheel_scope_primitives), ("eddywheel/code.fields", laid_eddywheel_code_fields), ("unicode/utf8.first", laid_unicode_utf8_first)] }
def GenEndsSaid : Prop := genEndsRow.holds Tryz.pinned (OpenSpec.ofChange genEndsSpec)

/-- ITS FALSE NEIGHBOUR: 'it returns false'. Refute it at one input. -/
def genEndsWrong : ChangeSpec := { name := "genEnds", fn := fun _ => fun
  | [d1, d2, d3] => { results := [.lit (.bool false)], args := [d1, d2, d3] }
  | _ => none }
def GenEndsWrongFalsely : Prop := genEndsRow.holds Tryz.pinned (OpenSpec.ofChange genEndsWrong)

/-- 'eddywheellaw12.GenJoins': WHATEVER THE INPUT: true; the input reads as it did. -/
def genJoinsSpec : ChangeSpec := { name := "genJoins", fn := fun _ => fun
  | [d1, d2, d3] => { results := [.lit (.bool true)], args := [d1, d2, d3] }
  | _ => none }
def genJoinsRow : OpenClaim := { program := "ytehgmmbdlnginaagreatdoor", sum := "082c92884cf1c7e5b30717be67158d663f92faa9c755743d03594f1240e6be16", func := "eddywheel/eddywheellaw12.GenJoins", spec := "genJoins", unfollowed := true, recurses := true, named := ["strings.asciiSpace", "unicode/utf8.first", "unicode/utf8.acceptRanges", "unicode.White_Space", "eddywheel/scope.primitives", "eddywheel/code.fields"], apart := false, laid := [("unicode/utf8.acceptRanges", laid_unicode_utf8_acceptRanges), ("unicode.White_Space", laid_unicode_White_Space), ("strings.asciiSpace", laid_strings_asciiSpace), ("eddywheel/scope.primitives", laid_eddywheel_scope_primitives), ("eddywheel/code.fields", laid_eddywheel_code_fields), ("unicode/utf8.first", laid_unicode_utf8_first)] }
def GenJoinsSaid : Prop := genJoinsRow.holds Tryz.pinned (OpenSpec.ofChange genJoinsSpec)

/-- ITS FALSE NEIGHBOUR: 'it returns false'. Refute it at one input. -/
def genJoinsWrong : ChangeSpec := { name := "genJoins", fn := fun _ => fun
  | [d1, d2, d3] => { results := [.lit (.bool false)], args := [d1, d2, d3] }
  | _ => none }
def GenJoinsWrongFalsely : Prop := genJoinsRow.holds Tryz.pinned (OpenSpec.ofChange genJoinsWrong)

/-- 'eddywheellaw12.GenPlaces': WHATEVER THE INPUT: true; the input reads as it did. -/
def genPlacesSpec : ChangeSpec := { name := "genPlaces", fn := fun _ => fun
  | [d] => { results := [.lit (.bool true)], args := [d] }
  | _ => none }
def genPlacesRow : OpenClaim := { program := "ytehgmmbdlnginaagreatdoor", sum := "082c92884cf1c7e5b30717be67158d663f92faa9c755743d03594f1240e6be16", func := "eddywheel/eddywheellaw12.GenPlaces", spec := "genPlaces", unfollowed := true, recurses := true, named := ["strings.asciiSpace", "unicode/utf8.first", "unicode/utf8.acceptRanges", "unicode.White_Space", "eddywheel/scope.primitives", "eddywheel/code.fields"], apart := false, laid := [("unicode/utf8.acceptRanges", laid_unicode_utf8_acceptRanges), ("unicode.White_Space", laid_unicode_White_Space), ("strings.asciiSpace", laid_strings_asciiSpace), ("eddywheel/scope.primitives", laid_eddywheel_scope_primitives), ("eddywheel/code.fields", laid_eddywheel_code_fields), ("unicode/utf8.first", laid_unicode_utf8_first)] }
def GenPlacesSaid : Prop := genPlacesRow.holds Tryz.pinned (OpenSpec.ofChange genPlacesSpec)

/-- ITS FALSE NEIGHBOUR: 'it returns false'. Refute it at one input. -/
def genPlacesWrong : ChangeSpec := { name := "genPlaces", fn := fun _ => fun
  | [d] => { results := [.lit (.bool false)], args := [d] }
  | _ => none }
def GenPlacesWrongFalsely : Prop := genPlacesRow.holds Tryz.pinned (OpenSpec.ofChange genPlacesWrong)

/-- 'eddywheellaw12.GenArgs': WHATEVER THE INPUT: true; the input reads as it did. -/
def genArgsSpec : ChangeSpec := { name := "genArgs", fn := fun _ => fun
  | [d] => { results := [.lit (.bool true)], args := [d] }
  | _ => none }
def genArgsRow : OpenClaim := { program := "ytehgmmbdlnginaagreatdoor", sum := "082c92884cf1c7e5b30717be67158d663f92faa9c755743d03594f1240e6be16", func := "eddywheel/eddywheellaw12.GenArgs", spec := "genArgs", unfollowed := true, recurses := true, named := ["strings.asciiSpace", "unicode/utf8.first", "unicode/utf8.acceptRanges", "unicode.White_Space", "eddywheel/scope.primitives", "eddywheel/code.fields"], apart := false, laid := [("unicode/utf8.acceptRanges", laid_unicode_utf8_acceptRanges), ("unicode.White_Space", laid_unicode_White_Space), ("strings.asciiSpace", laid_strings_asciiSpace), ("eddywheel/scope.primitives", laid_eddywheel_scope_primitives), ("eddywheel/code.fields", laid_eddywheel_code_fields), ("unicode/utf8.first", laid_unicode_utf8_first)] }
def GenArgsSaid : Prop := genArgsRow.holds Tryz.pinned (OpenSpec.ofChange genArgsSpec)

/-- ITS FALSE NEIGHBOUR: 'it returns false'. Refute it at one input. -/
def genArgsWrong : ChangeSpec := { name := "genArgs", fn := fun _ => fun
  | [d] => { results := [.lit (.bool false)], args := [d] }
  | _ => none }
def GenArgsWrongFalsely : Prop := genArgsRow.holds Tryz.pinned (OpenSpec.ofChange genArgsWrong)

/- THE SECOND FORM. 'bulk': how many values and letters a reading holds, each counted each time it is reached (what is shared counts as often as it is met; a slice's spare places count too). A statement '..UptoSaid' is the law's where the arguments, and the package variables that the reading takes, are together of bulk at most 1048576: NARROWER than '..Said'. Prove '..Said' where nothing that the law and all that it calls make is longer than what came in: it says more and counts as full. Else prove '..UptoSaid'. A law counts once. -/
mutual
def uptoBulk {H : Type} : DataW H → Nat
  | .lit (.string bytes) => bytes.length + 1
  | .lit _ => 1
  | .nil => 1
  | .ptr d => uptoBulk d + 1
  | .slice elems spare => uptoBulkAll elems + uptoBulkAll spare + 1
  | .agg parts => uptoBulkAll parts + 1
  | .iface _ d => uptoBulk d + 1
  | .map entries => uptoBulkEntries entries + 1
  | .held _ => 1
def uptoBulkAll {H : Type} : List (DataW H) → Nat
  | [] => 0
  | d :: r => uptoBulk d + uptoBulkAll r
def uptoBulkEntries {H : Type} : List (Lit × DataW H) → Nat
  | [] => 0
  | x :: r => uptoBulkEntry x + uptoBulkEntries r
def uptoBulkEntry {H : Type} : Lit × DataW H → Nat
  | (.string bytes, d) => bytes.length + uptoBulk d + 1
  | (_, d) => uptoBulk d + 1
 end
def uptoSmall : (H : Type) → List (DataW H) → Bool := fun _ ds => decide (uptoBulkAll ds ≤ 1048576)
def OpenSpec.upto (s : _root_.Go.ChangeSpec) : _root_.Go.OpenSpec := { _root_.Go.OpenSpec.ofChange s with cond := some uptoSmall }

/-- 'eddywheellaw12.GenText', WHERE WHAT IT READS IS OF BULK AT MOST 1048576: true; the input reads as it did. -/
def genTextUptoRow : OpenClaim := { program := "ytehgmmbdlnginaagreatdoor", sum := "082c92884cf1c7e5b30717be67158d663f92faa9c755743d03594f1240e6be16", func := "eddywheel/eddywheellaw12.GenText", spec := "genText", unfollowed := true, recurses := true, named := ["strings.asciiSpace", "unicode/utf8.first", "unicode/utf8.acceptRanges", "unicode.White_Space", "eddywheel/scope.primitives", "eddywheel/code.fields"], apart := false, laid := [("unicode/utf8.acceptRanges", laid_unicode_utf8_acceptRanges), ("unicode.White_Space", laid_unicode_White_Space), ("strings.asciiSpace", laid_strings_asciiSpace), ("eddywheel/scope.primitives", laid_eddywheel_scope_primitives), ("eddywheel/code.fields", laid_eddywheel_code_fields), ("unicode/utf8.first", laid_unicode_utf8_first)], narrowed := true }
def GenTextUptoSaid : Prop := genTextUptoRow.holds Tryz.pinned (OpenSpec.upto genTextSpec)

/-- 'eddywheellaw12.GenBlocks', WHERE WHAT IT READS IS OF BULK AT MOST 1048576: true; the input reads as it did. -/
def genBlocksUptoRow : OpenClaim := { program := "ytehgmmbdlnginaagreatdoor", sum := "082c92884cf1c7e5b30717be67158d663f92faa9c755743d03594f1240e6be16", func := "eddywheel/eddywheellaw12.GenBlocks", spec := "genBlocks", unfollowed := true, recurses := true, named := ["strings.asciiSpace", "unicode/utf8.first", "unicode/utf8.acceptRanges", "unicode.White_Space", "eddywheel/scope.primitives", "eddywheel/code.fields"], apart := false, laid := [("unicode/utf8.acceptRanges", laid_unicode_utf8_acceptRanges), ("unicode.White_Space", laid_unicode_White_Space), ("strings.asciiSpace", laid_strings_asciiSpace), ("eddywheel/scope.primitives", laid_eddywheel_scope_primitives), ("eddywheel/code.fields", laid_eddywheel_code_fields), ("unicode/utf8.first", laid_unicode_utf8_first)], narrowed := true }
def GenBlocksUptoSaid : Prop := genBlocksUptoRow.holds Tryz.pinned (OpenSpec.upto genBlocksSpec)

/-- 'eddywheellaw12.GenEnds', WHERE WHAT IT READS IS OF BULK AT MOST 1048576: true; the input reads as it did. -/
def genEndsUptoRow : OpenClaim := { program := "ytehgmmbdlnginaagreatdoor", sum := "082c92884cf1c7e5b30717be67158d663f92faa9c755743d03594f1240e6be16", func := "eddywheel/eddywheellaw12.GenEnds", spec := "genEnds", unfollowed := true, recurses := true, named := ["strings.asciiSpace", "unicode/utf8.first", "unicode/utf8.acceptRanges", "unicode.White_Space", "eddywheel/scope.primitives", "eddywheel/code.fields"], apart := false, laid := [("unicode/utf8.acceptRanges", laid_unicode_utf8_acceptRanges), ("unicode.White_Space", laid_unicode_White_Space), ("strings.asciiSpace", laid_strings_asciiSpace), ("eddywheel/scope.primitives", laid_eddywheel_scope_primitives), ("eddywheel/code.fields", laid_eddywheel_code_fields), ("unicode/utf8.first", laid_unicode_utf8_first)], narrowed := true }
def GenEndsUptoSaid : Prop := genEndsUptoRow.holds Tryz.pinned (OpenSpec.upto genEndsSpec)

/-- 'eddywheellaw12.GenJoins', WHERE WHAT IT READS IS OF BULK AT MOST 1048576: true; the input reads as it did. -/
def genJoinsUptoRow : OpenClaim := { program := "ytehgmmbdlnginaagreatdoor", sum := "082c92884cf1c7e5b30717be67158d663f92faa9c755743d03594f1240e6be16", func := "eddywheel/eddywheellaw12.GenJoins", spec := "genJoins", unfollowed := true, recurses := true, named := ["strings.asciiSpace", "unicode/utf8.first", "unicode/utf8.acceptRanges", "unicode.White_Space", "eddywheel/scope.primitives", "eddywheel/code.fields"], apart := false, laid := [("unicode/utf8.acceptRanges", laid_unicode_utf8_acceptRanges), ("unicode.White_Space", laid_unicode_White_Space), ("strings.asciiSpace", laid_strings_asciiSpace), ("eddywheel/scope.primitives", laid_eddywheel_scope_primitives), ("eddywheel/code.fields", laid_eddywheel_code_fields), ("unicode/utf8.first", laid_unicode_utf8_first)], narrowed := true }
def GenJoinsUptoSaid : Prop := genJoinsUptoRow.holds Tryz.pinned (OpenSpec.upto genJoinsSpec)

/-- 'eddywheellaw12.GenPlaces', WHERE WHAT IT READS IS OF BULK AT MOST 1048576: true; the input reads as it did. -/
def genPlacesUptoRow : OpenClaim := { program := "ytehgmmbdlnginaagreatdoor", sum := "082c92884cf1c7e5b30717be67158d663f92faa9c755743d03594f1240e6be16", func := "eddywheel/eddywheellaw12.GenPlaces", spec := "genPlaces", unfollowed := true, recurses := true, named := ["strings.asciiSpace", "unicode/utf8.first", "unicode/utf8.acceptRanges", "unicode.White_Space", "eddywheel/scope.primitives", "eddywheel/code.fields"], apart := false, laid := [("unicode/utf8.acceptRanges", laid_unicode_utf8_acceptRanges), ("unicode.White_Space", laid_unicode_White_Space), ("strings.asciiSpace", laid_strings_asciiSpace), ("eddywheel/scope.primitives", laid_eddywheel_scope_primitives), ("eddywheel/code.fields", laid_eddywheel_code_fields), ("unicode/utf8.first", laid_unicode_utf8_first)], narrowed := true }
def GenPlacesUptoSaid : Prop := genPlacesUptoRow.holds Tryz.pinned (OpenSpec.upto genPlacesSpec)

/-- 'eddywheellaw12.GenArgs', WHERE WHAT IT READS IS OF BULK AT MOST 1048576: true; the input reads as it did. -/
def genArgsUptoRow : OpenClaim := { program := "ytehgmmbdlnginaagreatdoor", sum := "082c92884cf1c7e5b30717be67158d663f92faa9c755743d03594f1240e6be16", func := "eddywheel/eddywheellaw12.GenArgs", spec := "genArgs", unfollowed := true, recurses := true, named := ["strings.asciiSpace", "unicode/utf8.first", "unicode/utf8.acceptRanges", "unicode.White_Space", "eddywheel/scope.primitives", "eddywheel/code.fields"], apart := false, laid := [("unicode/utf8.acceptRanges", laid_unicode_utf8_acceptRanges), ("unicode.White_Space", laid_unicode_White_Space), ("strings.asciiSpace", laid_strings_asciiSpace), ("eddywheel/scope.primitives", laid_eddywheel_scope_primitives), ("eddywheel/code.fields", laid_eddywheel_code_fields), ("unicode/utf8.first", laid_unicode_utf8_first)], narrowed := true }
def GenArgsUptoSaid : Prop := genArgsUptoRow.holds Tryz.pinned (OpenSpec.upto genArgsSpec)

end Rows
end Go.Proofs.YtehgmmbdlnginaaGreatDoor

/-
  NARROWER THAN 'FOR EVERY INPUT', by the rows' own cells (each row's printed sentence says how): CodeWays: laid · CodeChanged: laid · CodeRows: laid · CodePushes: laid · CodeJumps: laid.
  DERIVED. THE GIVEN ROWS OF THIS SEAT. 5 by the template 'for every input the law returns true; each argument reads behind the call as it read before'; 0 by the template 'total and deterministic' (their statements: YthhibcfljekibaaDoorTotals.lean).
  GIVEN WITH THE SEED: the statements are not yours to turn. If you find one false, say at which input.
  Laid BY PROGRAM, IN A SANDBOX (cutbox-rows.mjs): the forced cells as the released guide's own fill.sh prints them over the translation bd4d6059dce395f0… (all of the seat's roots in one cut). By AI agents, Wed Nov 11 2026. No macro, syntax, notation, axiom, sorry.
-/
import Derived.Test.YthhibcfljekibaaDoorChecked
import GoSem.Claim
import GoSem.ClaimJoined
import GoSem.ClaimMapViews
import Derived.JoinedTies
import Derived.KernelRfl
namespace Go.Proofs.YthhibcfljekibaaDoor
/- THE CELL 'sum', in the pinned program and in every row, IS THE sha256 OF THE DUMP (.gsa) THAT YthhibcfljekibaaDoorProg.lean LOADS. Nothing in Lean hashes anything: it is a label: what it is worth is what the hold of that sum in a sandbox is worth. -/
noncomputable def Tryd.pinned : Pinned := { name := "ythhibcfljekibaadoor", sum := "bd4d6059dce395f0ce96299a33c0bb40e1ef53b9eed8325ceaaee81f3e3ee372", checked := Tryd.checked }
namespace Rows
def none {H : Type} : Left H := { results := [], args := [] }

/- WHAT THE LISTED PACKAGE-LEVEL VARIABLES READ AS WHEN THE CALL BEGINS. Each datum BY PROGRAM (the guide's laid-datum.mjs) off the statement by which the dump's own 'gosem.cut.vars' lays the variable. In a bare row this is a premise. The card (YthhibcfljekibaaDoorCards.lean) ties it to the program's text. -/
def laid_unicode_White_Space {H : Type} : DataW H := .ptr (.agg [.slice [.agg [.lit (.int .u16 9), .lit (.int .u16 13), .lit (.int .u16 1)], .agg [.lit (.int .u16 32), .lit (.int .u16 133), .lit (.int .u16 101)], .agg [.lit (.int .u16 160), .lit (.int .u16 5760), .lit (.int .u16 5600)], .agg [.lit (.int .u16 8192), .lit (.int .u16 8202), .lit (.int .u16 1)], .agg [.lit (.int .u16 8232), .lit (.int .u16 8233), .lit (.int .u16 1)], .agg [.lit (.int .u16 8239), .lit (.int .u16 8287), .lit (.int .u16 48)], .agg [.lit (.int .u16 12288), .lit (.int .u16 12288), .lit (.int .u16 1)]] [], .nil, .lit (.int .i64 2)])
def laid_strings_asciiSpace {H : Type} : DataW H := .agg [.lit (.int .u8 0), .lit (.int .u8 0), .lit (.int .u8 0), .lit (.int .u8 0), .lit (.int .u8 0), .lit (.int .u8 0), .lit (.int .u8 0), .lit (.int .u8 0), .lit (.int .u8 0), .lit (.int .u8 1), .lit (.int .u8 1), .lit (.int .u8 1), .lit (.int .u8 1), .lit (.int .u8 1), .lit (.int .u8 0), .lit (.int .u8 0), .lit (.int .u8 0), .lit (.int .u8 0), .lit (.int .u8 0), .lit (.int .u8 0), .lit (.int .u8 0), .lit (.int .u8 0), .lit (.int .u8 0), .lit (.int .u8 0), .lit (.int .u8 0), .lit (.int .u8 0), .lit (.int .u8 0), .lit (.int .u8 0), .lit (.int .u8 0), .lit (.int .u8 0), .lit (.int .u8 0), .lit (.int .u8 0), .lit (.int .u8 1), .lit (.int .u8 0), .lit (.int .u8 0), .lit (.int .u8 0), .lit (.int .u8 0), .lit (.int .u8 0), .lit (.int .u8 0), .lit (.int .u8 0), .lit (.int .u8 0), .lit (.int .u8 0), .lit (.int .u8 0), .lit (.int .u8 0), .lit (.int .u8 0), .lit (.int .u8 0), .lit (.int .u8 0), .lit (.int .u8 0), .lit (.int .u8 0), .lit (.int .u8 0), .lit (.int .u8 0), .lit (.int .u8 0), .lit (.int .u8 0), .lit (.int .u8 0), .lit (.int .u8 0), .lit (.int .u8 0), .lit (.int .u8 0), .lit (.int .u8 0), .lit (.int .u8 0), .lit (.int .u8 0), .lit (.int .u8 0), .lit (.int .u8 0), .lit (.int .u8 0), .lit (.int .u8 0), .lit (.int .u8 0), .lit (.int .u8 0), .lit (.int .u8 0), .lit (.int .u8 0), .lit (.int .u8 0), .lit (.int .u8 0), .lit (.int .u8 0), .lit (.int .u8 0), .lit (.int .u8 0), .lit (.int .u8 0), .lit (.int .u8 0), .lit (.int .u8 0), .lit (.int .u8 0), .lit (.int .u8 0), .lit (.int .u8 0), .lit (.int .u8 0), .lit (.int .u8 0), .lit (.int .u8 0), .lit (.int .u8 0), .lit (.int .u8 0), .lit (.int .u8 0), .lit (.int .u8 0), .lit (.int .u8 0), .lit (.int .u8 0), .lit (.int .u8 0), .lit (.int .u8 0), .lit (.int .u8 0), .lit (.int .u8 0), .lit (.int .u8 0), .lit (.int .u8 0), .lit (.int .u8 0), .lit (.int .u8 0), .lit (.int .u8 0), .lit (.int .u8 0), .lit (.int .u8 0), .lit (.int .u8 0), .lit (.int .u8 0), .lit (.int .u8 0), .lit (.int .u8 0), .lit (.int .u8 0), .lit (.int .u8 0), .lit (.int .u8 0), .lit (.int .u8 0), .lit (.int .u8 0), .lit (.int .u8 0), .lit (.int .u8 0), .lit (.int .u8 0), .lit (.int .u8 0), .lit (.int .u8 0), .lit (.int .u8 0), .lit (.int .u8 0), .lit (.int .u8 0), .lit (.int .u8 0), .lit (.int .u8 0), .lit (.int .u8 0), .lit (.int .u8 0), .lit (.int .u8 0), .lit (.int .u8 0), .lit (.int .u8 0), .lit (.int .u8 0), .lit (.int .u8 0), .lit (.int .u8 0), .lit (.int .u8 0), .lit (.int .u8 0), .lit (.int .u8 0), .lit (.int .u8 0), .lit (.int .u8 0), .lit (.int .u8 0), .lit (.int .u8 0), .lit (.int .u8 0), .lit (.int .u8 0), .lit (.int .u8 0), .lit (.int .u8 0), .lit (.int .u8 0), .lit (.int .u8 0), .lit (.int .u8 0), .lit (.int .u8 0), .lit (.int .u8 0), .lit (.int .u8 0), .lit (.int .u8 0), .lit (.int .u8 0), .lit (.int .u8 0), .lit (.int .u8 0), .lit (.int .u8 0), .lit (.int .u8 0), .lit (.int .u8 0), .lit (.int .u8 0), .lit (.int .u8 0), .lit (.int .u8 0), .lit (.int .u8 0), .lit (.int .u8 0), .lit (.int .u8 0), .lit (.int .u8 0), .lit (.int .u8 0), .lit (.int .u8 0), .lit (.int .u8 0), .lit (.int .u8 0), .lit (.int .u8 0), .lit (.int .u8 0), .lit (.int .u8 0), .lit (.int .u8 0), .lit (.int .u8 0), .lit (.int .u8 0), .lit (.int .u8 0), .lit (.int .u8 0), .lit (.int .u8 0), .lit (.int .u8 0), .lit (.int .u8 0), .lit (.int .u8 0), .lit (.int .u8 0), .lit (.int .u8 0), .lit (.int .u8 0), .lit (.int .u8 0), .lit (.int .u8 0), .lit (.int .u8 0), .lit (.int .u8 0), .lit (.int .u8 0), .lit (.int .u8 0), .lit (.int .u8 0), .lit (.int .u8 0), .lit (.int .u8 0), .lit (.int .u8 0), .lit (.int .u8 0), .lit (.int .u8 0), .lit (.int .u8 0), .lit (.int .u8 0), .lit (.int .u8 0), .lit (.int .u8 0), .lit (.int .u8 0), .lit (.int .u8 0), .lit (.int .u8 0), .lit (.int .u8 0), .lit (.int .u8 0), .lit (.int .u8 0), .lit (.int .u8 0), .lit (.int .u8 0), .lit (.int .u8 0), .lit (.int .u8 0), .lit (.int .u8 0), .lit (.int .u8 0), .lit (.int .u8 0), .lit (.int .u8 0), .lit (.int .u8 0), .lit (.int .u8 0), .lit (.int .u8 0), .lit (.int .u8 0), .lit (.int .u8 0), .lit (.int .u8 0), .lit (.int .u8 0), .lit (.int .u8 0), .lit (.int .u8 0), .lit (.int .u8 0), .lit (.int .u8 0), .lit (.int .u8 0), .lit (.int .u8 0), .lit (.int .u8 0), .lit (.int .u8 0), .lit (.int .u8 0), .lit (.int .u8 0), .lit (.int .u8 0), .lit (.int .u8 0), .lit (.int .u8 0), .lit (.int .u8 0), .lit (.int .u8 0), .lit (.int .u8 0), .lit (.int .u8 0), .lit (.int .u8 0), .lit (.int .u8 0), .lit (.int .u8 0), .lit (.int .u8 0), .lit (.int .u8 0), .lit (.int .u8 0), .lit (.int .u8 0), .lit (.int .u8 0), .lit (.int .u8 0), .lit (.int .u8 0), .lit (.int .u8 0), .lit (.int .u8 0), .lit (.int .u8 0), .lit (.int .u8 0), .lit (.int .u8 0), .lit (.int .u8 0), .lit (.int .u8 0), .lit (.int .u8 0), .lit (.int .u8 0), .lit (.int .u8 0), .lit (.int .u8 0), .lit (.int .u8 0), .lit (.int .u8 0), .lit (.int .u8 0), .lit (.int .u8 0), .lit (.int .u8 0)]
def laid_eddywheel_scope_primitives {H : Type} : DataW H := .agg [.agg [.lit (.string []), .lit (.int .i64 0)], .agg [.lit (.string [43]), .lit (.int .i64 2)], .agg [.lit (.string [45]), .lit (.int .i64 2)], .agg [.lit (.string [42]), .lit (.int .i64 2)], .agg [.lit (.string [113, 117, 111, 116, 105, 101, 110, 116]), .lit (.int .i64 2)], .agg [.lit (.string [114, 101, 109, 97, 105, 110, 100, 101, 114]), .lit (.int .i64 2)], .agg [.lit (.string [60]), .lit (.int .i64 2)], .agg [.lit (.string [61]), .lit (.int .i64 2)], .agg [.lit (.string [101, 113, 63]), .lit (.int .i64 2)], .agg [.lit (.string [110, 111, 116]), .lit (.int .i64 1)], .agg [.lit (.string [110, 117, 108, 108, 63]), .lit (.int .i64 1)], .agg [.lit (.string [112, 97, 105, 114, 63]), .lit (.int .i64 1)], .agg [.lit (.string [99, 111, 110, 115]), .lit (.int .i64 2)], .agg [.lit (.string [99, 97, 114]), .lit (.int .i64 1)], .agg [.lit (.string [99, 100, 114]), .lit (.int .i64 1)], .agg [.lit (.string [110, 117, 109, 98, 101, 114, 63]), .lit (.int .i64 1)], .agg [.lit (.string [115, 121, 109, 98, 111, 108, 63]), .lit (.int .i64 1)], .agg [.lit (.string [112, 114, 111, 99, 101, 100, 117, 114, 101, 63]), .lit (.int .i64 1)], .agg [.lit (.string [99, 97, 108, 108, 47, 99, 99]), .lit (.int .i64 1)], .agg [.lit (.string [111, 117, 116]), .lit (.int .i64 1)], .agg [.lit (.string [115, 112, 97, 119, 110]), .lit (.int .i64 1)], .agg [.lit (.string [109, 105, 99, 114, 111]), .lit (.int .i64 1)], .agg [.lit (.string [97, 102, 116, 101, 114]), .lit (.int .i64 2)], .agg [.lit (.string [99, 97, 110, 99, 101, 108]), .lit (.int .i64 1)], .agg [.lit (.string [112, 114, 111, 109, 105, 115, 101]), .lit (.int .i64 0)], .agg [.lit (.string [115, 101, 116, 116, 108, 101]), .lit (.int .i64 2)], .agg [.lit (.string [116, 104, 101, 110]), .lit (.int .i64 2)], .agg [.lit (.string [115, 116, 114, 101, 97, 109]), .lit (.int .i64 1)], .agg [.lit (.string [119, 114, 105, 116, 101]), .lit (.int .i64 2)], .agg [.lit (.string [114, 101, 97, 100]), .lit (.int .i64 1)], .agg [.lit (.string [116, 105, 109, 101]), .lit (.int .i64 0)]]
def laid_eddywheel_code_fields {H : Type} : DataW H := .agg [.nil, .slice [.lit (.int .i64 2)] [], .slice [.lit (.int .i64 0), .lit (.int .i64 1)] [], .slice [.lit (.int .i64 0)] [], .slice [.lit (.int .i64 0), .lit (.int .i64 1)] [], .slice [.lit (.int .i64 0)] [], .slice [.lit (.int .i64 0)] [], .slice [] [], .slice [.lit (.int .i64 0)] [], .slice [.lit (.int .i64 0)] [], .slice [.lit (.int .i64 0)] [], .slice [.lit (.int .i64 0), .lit (.int .i64 1)] [], .slice [.lit (.int .i64 0)] [], .slice [.lit (.int .i64 0)] [], .slice [] [], .slice [] [], .slice [] []]

/-- 'eddywheellaw11.CodeWays': WHATEVER THE INPUT: true; the input reads as it did. -/
def codeWaysSpec : ChangeSpec := { name := "codeWays", fn := fun _ => fun
  | [d1, d2, d3] => { results := [.lit (.bool true)], args := [d1, d2, d3] }
  | _ => none }
def codeWaysRow : OpenClaim := { program := "ythhibcfljekibaadoor", sum := "bd4d6059dce395f0ce96299a33c0bb40e1ef53b9eed8325ceaaee81f3e3ee372", func := "eddywheel/eddywheellaw11.CodeWays", spec := "codeWays", unfollowed := true, recurses := true, named := ["strings.asciiSpace", "unicode.White_Space", "eddywheel/scope.primitives", "eddywheel/code.fields"], apart := false, laid := [("unicode.White_Space", laid_unicode_White_Space), ("strings.asciiSpace", laid_strings_asciiSpace), ("eddywheel/scope.primitives", laid_eddywheel_scope_primitives), ("eddywheel/code.fields", laid_eddywheel_code_fields)] }
def CodeWaysSaid : Prop := codeWaysRow.holds Tryd.pinned (OpenSpec.ofChange codeWaysSpec)

/-- ITS FALSE NEIGHBOUR: 'it returns false'. Refute it at one input. -/
def codeWaysWrong : ChangeSpec := { name := "codeWays", fn := fun _ => fun
  | [d1, d2, d3] => { results := [.lit (.bool false)], args := [d1, d2, d3] }
  | _ => none }
def CodeWaysWrongFalsely : Prop := codeWaysRow.holds Tryd.pinned (OpenSpec.ofChange codeWaysWrong)

/-- 'eddywheellaw11.CodeChanged': WHATEVER THE INPUT: true; the input reads as it did. -/
def codeChangedSpec : ChangeSpec := { name := "codeChanged", fn := fun _ => fun
  | [d1, d2, d3, d4] => { results := [.lit (.bool true)], args := [d1, d2, d3, d4] }
  | _ => none }
def codeChangedRow : OpenClaim := { program := "ythhibcfljekibaadoor", sum := "bd4d6059dce395f0ce96299a33c0bb40e1ef53b9eed8325ceaaee81f3e3ee372", func := "eddywheel/eddywheellaw11.CodeChanged", spec := "codeChanged", unfollowed := true, recurses := true, named := ["strings.asciiSpace", "unicode.White_Space", "eddywheel/scope.primitives", "eddywheel/code.fields"], apart := false, laid := [("unicode.White_Space", laid_unicode_White_Space), ("strings.asciiSpace", laid_strings_asciiSpace), ("eddywheel/scope.primitives", laid_eddywheel_scope_primitives), ("eddywheel/code.fields", laid_eddywheel_code_fields)] }
def CodeChangedSaid : Prop := codeChangedRow.holds Tryd.pinned (OpenSpec.ofChange codeChangedSpec)

/-- ITS FALSE NEIGHBOUR: 'it returns false'. Refute it at one input. -/
def codeChangedWrong : ChangeSpec := { name := "codeChanged", fn := fun _ => fun
  | [d1, d2, d3, d4] => { results := [.lit (.bool false)], args := [d1, d2, d3, d4] }
  | _ => none }
def CodeChangedWrongFalsely : Prop := codeChangedRow.holds Tryd.pinned (OpenSpec.ofChange codeChangedWrong)

/-- 'eddywheellaw11.CodeRows': WHATEVER THE INPUT: true; the input reads as it did. -/
def codeRowsSpec : ChangeSpec := { name := "codeRows", fn := fun _ => fun
  | [d1, d2] => { results := [.lit (.bool true)], args := [d1, d2] }
  | _ => none }
def codeRowsRow : OpenClaim := { program := "ythhibcfljekibaadoor", sum := "bd4d6059dce395f0ce96299a33c0bb40e1ef53b9eed8325ceaaee81f3e3ee372", func := "eddywheel/eddywheellaw11.CodeRows", spec := "codeRows", unfollowed := true, recurses := true, named := ["strings.asciiSpace", "unicode.White_Space", "eddywheel/scope.primitives", "eddywheel/code.fields"], apart := false, laid := [("unicode.White_Space", laid_unicode_White_Space), ("strings.asciiSpace", laid_strings_asciiSpace), ("eddywheel/scope.primitives", laid_eddywheel_scope_primitives), ("eddywheel/code.fields", laid_eddywheel_code_fields)] }
def CodeRowsSaid : Prop := codeRowsRow.holds Tryd.pinned (OpenSpec.ofChange codeRowsSpec)

/-- ITS FALSE NEIGHBOUR: 'it returns false'. Refute it at one input. -/
def codeRowsWrong : ChangeSpec := { name := "codeRows", fn := fun _ => fun
  | [d1, d2] => { results := [.lit (.bool false)], args := [d1, d2] }
  | _ => none }
def CodeRowsWrongFalsely : Prop := codeRowsRow.holds Tryd.pinned (OpenSpec.ofChange codeRowsWrong)

/-- 'eddywheellaw11.CodePushes': WHATEVER THE INPUT: true; the input reads as it did. -/
def codePushesSpec : ChangeSpec := { name := "codePushes", fn := fun _ => fun
  | [d1, d2] => { results := [.lit (.bool true)], args := [d1, d2] }
  | _ => none }
def codePushesRow : OpenClaim := { program := "ythhibcfljekibaadoor", sum := "bd4d6059dce395f0ce96299a33c0bb40e1ef53b9eed8325ceaaee81f3e3ee372", func := "eddywheel/eddywheellaw11.CodePushes", spec := "codePushes", unfollowed := true, recurses := true, named := ["strings.asciiSpace", "unicode.White_Space", "eddywheel/scope.primitives", "eddywheel/code.fields"], apart := false, laid := [("unicode.White_Space", laid_unicode_White_Space), ("strings.asciiSpace", laid_strings_asciiSpace), ("eddywheel/scope.primitives", laid_eddywheel_scope_primitives), ("eddywheel/code.fields", laid_eddywheel_code_fields)] }
def CodePushesSaid : Prop := codePushesRow.holds Tryd.pinned (OpenSpec.ofChange codePushesSpec)

/-- ITS FALSE NEIGHBOUR: 'it returns false'. Refute it at one input. -/
def codePushesWrong : ChangeSpec := { name := "codePushes", fn := fun _ => fun
  | [d1, d2] => { results := [.lit (.bool false)], args := [d1, d2] }
  | _ => none }
def CodePushesWrongFalsely : Prop := codePushesRow.holds Tryd.pinned (OpenSpec.ofChange codePushesWrong)

/-- 'eddywheellaw11.CodeJumps': WHATEVER THE INPUT: true; the input reads as it did. -/
def codeJumpsSpec : ChangeSpec := { name := "codeJumps", fn := fun _ => fun
  | [d] => { results := [.lit (.bool true)], args := [d] }
  | _ => none }
def codeJumpsRow : OpenClaim := { program := "ythhibcfljekibaadoor", sum := "bd4d6059dce395f0ce96299a33c0bb40e1ef53b9eed8325ceaaee81f3e3ee372", func := "eddywheel/eddywheellaw11.CodeJumps", spec := "codeJumps", unfollowed := true, recurses := true, named := ["strings.asciiSpace", "unicode.White_Space", "eddywheel/scope.primitives", "eddywheel/code.fields"], apart := false, laid := [("unicode.White_Space", laid_unicode_White_Space), ("strings.asciiSpace", laid_strings_asciiSpace), ("eddywheel/scope.primitives", laid_eddywheel_scope_primitives), ("eddywheel/code.fields", laid_eddywheel_code_fields)] }
def CodeJumpsSaid : Prop := codeJumpsRow.holds Tryd.pinned (OpenSpec.ofChange codeJumpsSpec)

/-- ITS FALSE NEIGHBOUR: 'it returns false'. Refute it at one input. -/
def codeJumpsWrong : ChangeSpec := { name := "codeJumps", fn := fun _ => fun
  | [d] => { results := [.lit (.bool false)], args := [d] }
  | _ => none }
def CodeJumpsWrongFalsely : Prop := codeJumpsRow.holds Tryd.pinned (OpenSpec.ofChange codeJumpsWrong)

/- THE SECOND FORM. 'bulk': how many values and letters a reading holds, each counted each time it is reached (what is shared counts as often as it is met; a slice's spare places count too). A statement '..UptoSaid' is the law's where the arguments, and the package variables that the reading takes, are together of bulk at most 1048576: NARROWER than '..Said'. Prove '..Said' where nothing that the law and all that it calls make is longer than what came in: it says more and counts as full. Else prove '..UptoSaid'. A law counts once. -/
mutual
def uptoBulk {H : Type} : DataW H → Nat
  | .lit (.string bytes) => bytes.length + 1
  | .lit _ => 1
  | .nil => 1
  | .ptr d => uptoBulk d + 1
  | .slice elems spare => uptoBulkAll elems + uptoBulkAll spare + 1
  | .agg parts => uptoBulkAll parts + 1
  | .iface _ d => uptoBulk d + 1
  | .map entries => uptoBulkEntries entries + 1
  | .held _ => 1
def uptoBulkAll {H : Type} : List (DataW H) → Nat
  | [] => 0
  | d :: r => uptoBulk d + uptoBulkAll r
def uptoBulkEntries {H : Type} : List (Lit × DataW H) → Nat
  | [] => 0
  | x :: r => uptoBulkEntry x + uptoBulkEntries r
def uptoBulkEntry {H : Type} : Lit × DataW H → Nat
  | (.string bytes, d) => bytes.length + uptoBulk d + 1
  | (_, d) => uptoBulk d + 1
 end
def uptoSmall : (H : Type) → List (DataW H) → Bool := fun _ ds => decide (uptoBulkAll ds ≤ 1048576)
def OpenSpec.upto (s : _root_.Go.ChangeSpec) : _root_.Go.OpenSpec := { _root_.Go.OpenSpec.ofChange s with cond := some uptoSmall }

/-- 'eddywheellaw11.CodeWays', WHERE WHAT IT READS IS OF BULK AT MOST 1048576: true; the input reads as it did. -/
def codeWaysUptoRow : OpenClaim := { program := "ythhibcfljekibaadoor", sum := "bd4d6059dce395f0ce96299a33c0bb40e1ef53b9eed8325ceaaee81f3e3ee372", func := "eddywheel/eddywheellaw11.CodeWays", spec := "codeWays", unfollowed := true, recurses := true, named := ["strings.asciiSpace", "unicode.White_Space", "eddywheel/scope.primitives", "eddywheel/code.fields"], apart := false, laid := [("unicode.White_Space", laid_unicode_White_Space), ("strings.asciiSpace", laid_strings_asciiSpace), ("eddywheel/scope.primitives", laid_eddywheel_scope_primitives), ("eddywheel/code.fields", laid_eddywheel_code_fields)], narrowed := true }
def CodeWaysUptoSaid : Prop := codeWaysUptoRow.holds Tryd.pinned (OpenSpec.upto codeWaysSpec)

/-- 'eddywheellaw11.CodeChanged', WHERE WHAT IT READS IS OF BULK AT MOST 1048576: true; the input reads as it did. -/
def codeChangedUptoRow : OpenClaim := { program := "ythhibcfljekibaadoor", sum := "bd4d6059dce395f0ce96299a33c0bb40e1ef53b9eed8325ceaaee81f3e3ee372", func := "eddywheel/eddywheellaw11.CodeChanged", spec := "codeChanged", unfollowed := true, recurses := true, named := ["strings.asciiSpace", "unicode.White_Space", "eddywheel/scope.primitives", "eddywheel/code.fields"], apart := false, laid := [("unicode.White_Space", laid_unicode_White_Space), ("strings.asciiSpace", laid_strings_asciiSpace), ("eddywheel/scope.primitives", laid_eddywheel_scope_primitives), ("eddywheel/code.fields", laid_eddywheel_code_fields)], narrowed := true }
def CodeChangedUptoSaid : Prop := codeChangedUptoRow.holds Tryd.pinned (OpenSpec.upto codeChangedSpec)

/-- 'eddywheellaw11.CodeRows', WHERE WHAT IT READS IS OF BULK AT MOST 1048576: true; the input reads as it did. -/
def codeRowsUptoRow : OpenClaim := { program := "ythhibcfljekibaadoor", sum := "bd4d6059dce395f0ce96299a33c0bb40e1ef53b9eed8325ceaaee81f3e3ee372", func := "eddywheel/eddywheellaw11.CodeRows", spec := "codeRows", unfollowed := true, recurses := true, named := ["strings.asciiSpace", "unicode.White_Space", "eddywheel/scope.primitives", "eddywheel/code.fields"], apart := false, laid := [("unicode.White_Space", laid_unicode_White_Space), ("strings.asciiSpace", laid_strings_asciiSpace), ("eddywheel/scope.primitives", laid_eddywheel_scope_primitives), ("eddywheel/code.fields", laid_eddywheel_code_fields)], narrowed := true }
def CodeRowsUptoSaid : Prop := codeRowsUptoRow.holds Tryd.pinned (OpenSpec.upto codeRowsSpec)

/-- 'eddywheellaw11.CodePushes', WHERE WHAT IT READS IS OF BULK AT MOST 1048576: true; the input reads as it did. -/
def codePushesUptoRow : OpenClaim := { program := "ythhibcfljekibaadoor", sum := "bd4d6059dce395f0ce96299a33c0bb40e1ef53b9eed8325ceaaee81f3e3ee372", func := "eddywheel/eddywheellaw11.CodePushes", spec := "codePushes", unfollowed := true, recurses := true, named := ["strings.asciiSpace", "unicode.White_Space", "eddywheel/scope.primitives", "eddywheel/code.fields"], apart := false, laid := [("unicode.White_Space", laid_unicode_White_Space), ("strings.asciiSpace", laid_strings_asciiSpace), ("eddywheel/scope.primitives", laid_eddywheel_scope_primitives), ("eddywheel/code.fields", laid_eddywheel_code_fields)], narrowed := true }
def CodePushesUptoSaid : Prop := codePushesUptoRow.holds Tryd.pinned (OpenSpec.upto codePushesSpec)

/-- 'eddywheellaw11.CodeJumps', WHERE WHAT IT READS IS OF BULK AT MOST 1048576: true; the input reads as it did. -/
def codeJumpsUptoRow : OpenClaim := { program := "ythhibcfljekibaadoor", sum := "bd4d6059dce395f0ce96299a33c0bb40e1ef53b9eed8325ceaaee81f3e3ee372", func := "eddywheel/eddywheellaw11.CodeJumps", spec := "codeJumps", unfollowed := true, recurses := true, named := ["strings.asciiSpace", "unicode.White_Space", "eddywheel/scope.primitives", "eddywheel/code.fields"], apart := false, laid := [("unicode.White_Space", laid_unicode_White_Space), ("strings.asciiSpace", laid_strings_asciiSpace), ("eddywheel/scope.primitives", laid_eddywheel_scope_primitives), ("eddywheel/code.fields", laid_eddywheel_code_fields)], narrowed := true }
def CodeJumpsUptoSaid : Prop := codeJumpsUptoRow.holds Tryd.pinned (OpenSpec.upto codeJumpsSpec)

end Rows
end Go.Proofs.YthhibcfljekibaaDoor

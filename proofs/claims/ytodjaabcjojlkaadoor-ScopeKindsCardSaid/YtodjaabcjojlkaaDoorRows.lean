/-
  NARROWER THAN 'FOR EVERY INPUT', by the rows' own cells (each row's printed sentence says how): ScopeKinds: laid.
  DERIVED. THE GIVEN ROWS OF THIS SEAT. 1 by the template 'for every input the law returns true; each argument reads behind the call as it read before'; 0 by the template 'total and deterministic' (their statements: YtodjaabcjojlkaaDoorTotals.lean).
  GIVEN WITH THE SEED: the statements are not yours to turn. If you find one false, say at which input.
  Laid BY PROGRAM, IN A SANDBOX (cutbox-rows.mjs): the forced cells as the released guide's own fill.sh prints them over the translation 7d47997bcaba6b5b… (all of the seat's roots in one cut). By AI agents, Wed Nov 11 2026. No macro, syntax, notation, axiom, sorry.
-/
import Derived.Test.YtodjaabcjojlkaaDoorChecked
import GoSem.Claim
import GoSem.ClaimJoined
import GoSem.ClaimMapViews
import Derived.JoinedTies
import Derived.KernelRfl
namespace Go.Proofs.YtodjaabcjojlkaaDoor
/- THE CELL 'sum', in the pinned program and in every row, IS THE sha256 OF THE DUMP (.gsa) THAT YtodjaabcjojlkaaDoorProg.lean LOADS. Nothing in Lean hashes anything: it is a label: what it is worth is what the hold of that sum in a sandbox is worth. -/
noncomputable def Tryd.pinned : Pinned := { name := "ytodjaabcjojlkaadoor", sum := "7d47997bcaba6b5bce456022826c31a447104c8c7535dbea633553121acf2999", checked := Tryd.checked }
namespace Rows
def none {H : Type} : Left H := { results := [], args := [] }

/- WHAT THE LISTED PACKAGE-LEVEL VARIABLES READ AS WHEN THE CALL BEGINS. Each datum BY PROGRAM (the guide's laid-datum.mjs) off the statement by which the dump's own 'gosem.cut.vars' lays the variable. In a bare row this is a premise. The card (YtodjaabcjojlkaaDoorCards.lean) ties it to the program's text. -/
def laid_eddywheel_scope_primitives {H : Type} : DataW H := .agg [.agg [.lit (.string []), .lit (.int .i64 0)], .agg [.lit (.string [43]), .lit (.int .i64 2)], .agg [.lit (.string [45]), .lit (.int .i64 2)], .agg [.lit (.string [42]), .lit (.int .i64 2)], .agg [.lit (.string [113, 117, 111, 116, 105, 101, 110, 116]), .lit (.int .i64 2)], .agg [.lit (.string [114, 101, 109, 97, 105, 110, 100, 101, 114]), .lit (.int .i64 2)], .agg [.lit (.string [60]), .lit (.int .i64 2)], .agg [.lit (.string [61]), .lit (.int .i64 2)], .agg [.lit (.string [101, 113, 63]), .lit (.int .i64 2)], .agg [.lit (.string [110, 111, 116]), .lit (.int .i64 1)], .agg [.lit (.string [110, 117, 108, 108, 63]), .lit (.int .i64 1)], .agg [.lit (.string [112, 97, 105, 114, 63]), .lit (.int .i64 1)], .agg [.lit (.string [99, 111, 110, 115]), .lit (.int .i64 2)], .agg [.lit (.string [99, 97, 114]), .lit (.int .i64 1)], .agg [.lit (.string [99, 100, 114]), .lit (.int .i64 1)], .agg [.lit (.string [110, 117, 109, 98, 101, 114, 63]), .lit (.int .i64 1)], .agg [.lit (.string [115, 121, 109, 98, 111, 108, 63]), .lit (.int .i64 1)], .agg [.lit (.string [112, 114, 111, 99, 101, 100, 117, 114, 101, 63]), .lit (.int .i64 1)], .agg [.lit (.string [99, 97, 108, 108, 47, 99, 99]), .lit (.int .i64 1)], .agg [.lit (.string [111, 117, 116]), .lit (.int .i64 1)], .agg [.lit (.string [115, 112, 97, 119, 110]), .lit (.int .i64 1)], .agg [.lit (.string [109, 105, 99, 114, 111]), .lit (.int .i64 1)], .agg [.lit (.string [97, 102, 116, 101, 114]), .lit (.int .i64 2)], .agg [.lit (.string [99, 97, 110, 99, 101, 108]), .lit (.int .i64 1)], .agg [.lit (.string [112, 114, 111, 109, 105, 115, 101]), .lit (.int .i64 0)], .agg [.lit (.string [115, 101, 116, 116, 108, 101]), .lit (.int .i64 2)], .agg [.lit (.string [116, 104, 101, 110]), .lit (.int .i64 2)], .agg [.lit (.string [115, 116, 114, 101, 97, 109]), .lit (.int .i64 1)], .agg [.lit (.string [119, 114, 105, 116, 101]), .lit (.int .i64 2)], .agg [.lit (.string [114, 101, 97, 100]), .lit (.int .i64 1)], .agg [.lit (.string [116, 105, 109, 101]), .lit (.int .i64 0)]]

/-- 'eddywheellaw09.ScopeKinds': WHATEVER THE INPUT: true; the input reads as it did. -/
def scopeKindsSpec : ChangeSpec := { name := "scopeKinds", fn := fun _ => fun
  | [d] => { results := [.lit (.bool true)], args := [d] }
  | _ => none }
def scopeKindsRow : OpenClaim := { program := "ytodjaabcjojlkaadoor", sum := "7d47997bcaba6b5bce456022826c31a447104c8c7535dbea633553121acf2999", func := "eddywheel/eddywheellaw09.ScopeKinds", spec := "scopeKinds", unfollowed := true, recurses := true, named := ["eddywheel/scope.primitives"], apart := false, laid := [("eddywheel/scope.primitives", laid_eddywheel_scope_primitives)] }
def ScopeKindsSaid : Prop := scopeKindsRow.holds Tryd.pinned (OpenSpec.ofChange scopeKindsSpec)

/-- ITS FALSE NEIGHBOUR: 'it returns false'. Refute it at one input. -/
def scopeKindsWrong : ChangeSpec := { name := "scopeKinds", fn := fun _ => fun
  | [d] => { results := [.lit (.bool false)], args := [d] }
  | _ => none }
def ScopeKindsWrongFalsely : Prop := scopeKindsRow.holds Tryd.pinned (OpenSpec.ofChange scopeKindsWrong)

/- THE SECOND FORM. 'bulk': how many values and letters a reading holds, each counted each time it is reached (what is shared counts as often as it is met; a slice's spare places count too). A statement '..UptoSaid' is the law's where the arguments, and the package variables that the reading takes, are together of bulk at most 1048576: NARROWER than '..Said'. Prove '..Said' where nothing that the law and all that it calls make is longer than what came in: it says more and counts as full. Else prove '..UptoSaid'. A law counts once. -/
mutual
def uptoBulk {H : Type} : DataW H → Nat
  | .lit (.string bytes) => bytes.length + 1
  | .lit _ => 1
  | .nil => 1
  | .ptr d => uptoBulk d + 1
  | .slice elems spare => uptoBulkAll elems + uptoBulkAll spare + 1
  | .agg parts => uptoBulkAll parts + 1
  | .iface _ d => uptoBulk d + 1
  | .map entries => uptoBulkEntries entries + 1
  | .held _ => 1
def uptoBulkAll {H : Type} : List (DataW H) → Nat
  | [] => 0
  | d :: r => uptoBulk d + uptoBulkAll r
def uptoBulkEntries {H : Type} : List (Lit × DataW H) → Nat
  | [] => 0
  | x :: r => uptoBulkEntry x + uptoBulkEntries r
def uptoBulkEntry {H : Type} : Lit × DataW H → Nat
  | (.string bytes, d) => bytes.length + uptoBulk d + 1
  | (_, d) => uptoBulk d + 1
 end
def uptoSmall : (H : Type) → List (DataW H) → Bool := fun _ ds => decide (uptoBulkAll ds ≤ 1048576)
def OpenSpec.upto (s : _root_.Go.ChangeSpec) : _root_.Go.OpenSpec := { _root_.Go.OpenSpec.ofChange s with cond := some uptoSmall }

/-- 'eddywheellaw09.ScopeKinds', WHERE WHAT IT READS IS OF BULK AT MOST 1048576: true; the input reads as it did. -/
def scopeKindsUptoRow : OpenClaim := { program := "ytodjaabcjojlkaadoor", sum := "7d47997bcaba6b5bce456022826c31a447104c8c7535dbea633553121acf2999", func := "eddywheel/eddywheellaw09.ScopeKinds", spec := "scopeKinds", unfollowed := true, recurses := true, named := ["eddywheel/scope.primitives"], apart := false, laid := [("eddywheel/scope.primitives", laid_eddywheel_scope_primitives)], narrowed := true }
def ScopeKindsUptoSaid : Prop := scopeKindsUptoRow.holds Tryd.pinned (OpenSpec.upto scopeKindsSpec)

end Rows
end Go.Proofs.YtodjaabcjojlkaaDoor

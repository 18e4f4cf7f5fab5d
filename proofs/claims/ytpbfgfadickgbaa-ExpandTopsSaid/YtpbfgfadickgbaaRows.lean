/-
  No cell of these rows narrows 'for every input' (looked for: loops, veiled, ifaces, maps, wideKeys, modest, calm, conditions, laid).
  DERIVED. THE GIVEN ROWS OF THIS SEAT. 4 by the template 'for every input the law returns true; each argument reads behind the call as it read before'; 0 by the template 'total and deterministic' (their statements: YtpbfgfadickgbaaTotals.lean).
  GIVEN WITH THE SEED: the statements are not yours to turn. If you find one false, say at which input.
  Laid BY PROGRAM, IN A SANDBOX (cutbox-rows.mjs): the forced cells as the released guide's own fill.sh prints them over the translation 70b4ee54c5d2fd51… (all of the seat's roots in one cut). By AI agents, Wed Nov 11 2026. No macro, syntax, notation, axiom, sorry.
-/
import Derived.Test.YtpbfgfadickgbaaChecked
import GoSem.Claim
import GoSem.ClaimJoined
import GoSem.ClaimMapViews
import Derived.JoinedTies
import Derived.KernelRfl
namespace Go.Proofs.Ytpbfgfadickgbaa
/- THE CELL 'sum', in the pinned program and in every row, IS THE sha256 OF THE DUMP (.gsa) THAT YtpbfgfadickgbaaProg.lean LOADS. Nothing in Lean hashes anything: it is a label: what it is worth is what the hold of that sum in a sandbox is worth. -/
noncomputable def Try.pinned : Pinned := { name := "ytpbfgfadickgbaa", sum := "70b4ee54c5d2fd51504060b7c02760949029966f36e8c9199902059cbf8be560", checked := Try.checked }
namespace Rows
def none {H : Type} : Left H := { results := [], args := [] }

/-- 'eddywheellaw08.ExpandKinds': WHATEVER THE INPUT: true; the input reads as it did. -/
def expandKindsSpec : ChangeSpec := { name := "expandKinds", fn := fun _ => fun
  | [d] => { results := [.lit (.bool true)], args := [d] }
  | _ => none }
def expandKindsRow : OpenClaim := { program := "ytpbfgfadickgbaa", sum := "70b4ee54c5d2fd51504060b7c02760949029966f36e8c9199902059cbf8be560", func := "eddywheel/eddywheellaw08.ExpandKinds", spec := "expandKinds", unfollowed := true, recurses := true, apart := false }
def ExpandKindsSaid : Prop := expandKindsRow.holds Try.pinned (OpenSpec.ofChange expandKindsSpec)

/-- ITS FALSE NEIGHBOUR: 'it returns false'. Refute it at one input. -/
def expandKindsWrong : ChangeSpec := { name := "expandKinds", fn := fun _ => fun
  | [d] => { results := [.lit (.bool false)], args := [d] }
  | _ => none }
def ExpandKindsWrongFalsely : Prop := expandKindsRow.holds Try.pinned (OpenSpec.ofChange expandKindsWrong)

/-- 'eddywheellaw08.ExpandNames': WHATEVER THE INPUT: true; the input reads as it did. -/
def expandNamesSpec : ChangeSpec := { name := "expandNames", fn := fun _ => fun
  | [d] => { results := [.lit (.bool true)], args := [d] }
  | _ => none }
def expandNamesRow : OpenClaim := { program := "ytpbfgfadickgbaa", sum := "70b4ee54c5d2fd51504060b7c02760949029966f36e8c9199902059cbf8be560", func := "eddywheel/eddywheellaw08.ExpandNames", spec := "expandNames", unfollowed := true, recurses := true, apart := false }
def ExpandNamesSaid : Prop := expandNamesRow.holds Try.pinned (OpenSpec.ofChange expandNamesSpec)

/-- ITS FALSE NEIGHBOUR: 'it returns false'. Refute it at one input. -/
def expandNamesWrong : ChangeSpec := { name := "expandNames", fn := fun _ => fun
  | [d] => { results := [.lit (.bool false)], args := [d] }
  | _ => none }
def ExpandNamesWrongFalsely : Prop := expandNamesRow.holds Try.pinned (OpenSpec.ofChange expandNamesWrong)

/-- 'eddywheellaw08.ExpandTops': WHATEVER THE INPUT: true; the input reads as it did. -/
def expandTopsSpec : ChangeSpec := { name := "expandTops", fn := fun _ => fun
  | [d1, d2] => { results := [.lit (.bool true)], args := [d1, d2] }
  | _ => none }
def expandTopsRow : OpenClaim := { program := "ytpbfgfadickgbaa", sum := "70b4ee54c5d2fd51504060b7c02760949029966f36e8c9199902059cbf8be560", func := "eddywheel/eddywheellaw08.ExpandTops", spec := "expandTops", unfollowed := true, recurses := true, apart := false }
def ExpandTopsSaid : Prop := expandTopsRow.holds Try.pinned (OpenSpec.ofChange expandTopsSpec)

/-- ITS FALSE NEIGHBOUR: 'it returns false'. Refute it at one input. -/
def expandTopsWrong : ChangeSpec := { name := "expandTops", fn := fun _ => fun
  | [d1, d2] => { results := [.lit (.bool false)], args := [d1, d2] }
  | _ => none }
def ExpandTopsWrongFalsely : Prop := expandTopsRow.holds Try.pinned (OpenSpec.ofChange expandTopsWrong)

/-- 'eddywheellaw08.ExpandLong': WHATEVER THE INPUT: true; the input reads as it did. -/
def expandLongSpec : ChangeSpec := { name := "expandLong", fn := fun _ => fun
  | [d] => { results := [.lit (.bool true)], args := [d] }
  | _ => none }
def expandLongRow : OpenClaim := { program := "ytpbfgfadickgbaa", sum := "70b4ee54c5d2fd51504060b7c02760949029966f36e8c9199902059cbf8be560", func := "eddywheel/eddywheellaw08.ExpandLong", spec := "expandLong", unfollowed := true, recurses := true, apart := false }
def ExpandLongSaid : Prop := expandLongRow.holds Try.pinned (OpenSpec.ofChange expandLongSpec)

/-- ITS FALSE NEIGHBOUR: 'it returns false'. Refute it at one input. -/
def expandLongWrong : ChangeSpec := { name := "expandLong", fn := fun _ => fun
  | [d] => { results := [.lit (.bool false)], args := [d] }
  | _ => none }
def ExpandLongWrongFalsely : Prop := expandLongRow.holds Try.pinned (OpenSpec.ofChange expandLongWrong)

/- THE SECOND FORM. 'bulk': how many values and letters a reading holds, each counted each time it is reached (what is shared counts as often as it is met; a slice's spare places count too). A statement '..UptoSaid' is the law's where the arguments, and the package variables that the reading takes, are together of bulk at most 1048576: NARROWER than '..Said'. Prove '..Said' where nothing that the law and all that it calls make is longer than what came in: it says more and counts as full. Else prove '..UptoSaid'. A law counts once. -/
mutual
def uptoBulk {H : Type} : DataW H → Nat
  | .lit (.string bytes) => bytes.length + 1
  | .lit _ => 1
  | .nil => 1
  | .ptr d => uptoBulk d + 1
  | .slice elems spare => uptoBulkAll elems + uptoBulkAll spare + 1
  | .agg parts => uptoBulkAll parts + 1
  | .iface _ d => uptoBulk d + 1
  | .map entries => uptoBulkEntries entries + 1
  | .held _ => 1
def uptoBulkAll {H : Type} : List (DataW H) → Nat
  | [] => 0
  | d :: r => uptoBulk d + uptoBulkAll r
def uptoBulkEntries {H : Type} : List (Lit × DataW H) → Nat
  | [] => 0
  | x :: r => uptoBulkEntry x + uptoBulkEntries r
def uptoBulkEntry {H : Type} : Lit × DataW H → Nat
  | (.string bytes, d) => bytes.length + uptoBulk d + 1
  | (_, d) => uptoBulk d + 1
 end
def uptoSmall : (H : Type) → List (DataW H) → Bool := fun _ ds => decide (uptoBulkAll ds ≤ 1048576)
def OpenSpec.upto (s : _root_.Go.ChangeSpec) : _root_.Go.OpenSpec := { _root_.Go.OpenSpec.ofChange s with cond := some uptoSmall }

/-- 'eddywheellaw08.ExpandKinds', WHERE WHAT IT READS IS OF BULK AT MOST 1048576: true; the input reads as it did. -/
def expandKindsUptoRow : OpenClaim := { program := "ytpbfgfadickgbaa", sum := "70b4ee54c5d2fd51504060b7c02760949029966f36e8c9199902059cbf8be560", func := "eddywheel/eddywheellaw08.ExpandKinds", spec := "expandKinds", unfollowed := true, recurses := true, apart := false, narrowed := true }
def ExpandKindsUptoSaid : Prop := expandKindsUptoRow.holds Try.pinned (OpenSpec.upto expandKindsSpec)

/-- 'eddywheellaw08.ExpandNames', WHERE WHAT IT READS IS OF BULK AT MOST 1048576: true; the input reads as it did. -/
def expandNamesUptoRow : OpenClaim := { program := "ytpbfgfadickgbaa", sum := "70b4ee54c5d2fd51504060b7c02760949029966f36e8c9199902059cbf8be560", func := "eddywheel/eddywheellaw08.ExpandNames", spec := "expandNames", unfollowed := true, recurses := true, apart := false, narrowed := true }
def ExpandNamesUptoSaid : Prop := expandNamesUptoRow.holds Try.pinned (OpenSpec.upto expandNamesSpec)

/-- 'eddywheellaw08.ExpandTops', WHERE WHAT IT READS IS OF BULK AT MOST 1048576: true; the input reads as it did. -/
def expandTopsUptoRow : OpenClaim := { program := "ytpbfgfadickgbaa", sum := "70b4ee54c5d2fd51504060b7c02760949029966f36e8c9199902059cbf8be560", func := "eddywheel/eddywheellaw08.ExpandTops", spec := "expandTops", unfollowed := true, recurses := true, apart := false, narrowed := true }
def ExpandTopsUptoSaid : Prop := expandTopsUptoRow.holds Try.pinned (OpenSpec.upto expandTopsSpec)

/-- 'eddywheellaw08.ExpandLong', WHERE WHAT IT READS IS OF BULK AT MOST 1048576: true; the input reads as it did. -/
def expandLongUptoRow : OpenClaim := { program := "ytpbfgfadickgbaa", sum := "70b4ee54c5d2fd51504060b7c02760949029966f36e8c9199902059cbf8be560", func := "eddywheel/eddywheellaw08.ExpandLong", spec := "expandLong", unfollowed := true, recurses := true, apart := false, narrowed := true }
def ExpandLongUptoSaid : Prop := expandLongUptoRow.holds Try.pinned (OpenSpec.upto expandLongSpec)

end Rows
end Go.Proofs.Ytpbfgfadickgbaa

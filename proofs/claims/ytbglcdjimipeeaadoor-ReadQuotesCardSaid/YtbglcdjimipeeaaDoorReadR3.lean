/-
  Contract of the document's own Read. No condition.
-/
import Derived.Test.YtbglcdjimipeeaaDoorReadR2
import Derived.Test.YtbglcdjimipeeaaDoorReadDone
import Derived.Test.YtbglcdjimipeeaaDoorLexGood
namespace Go.Proofs.YtbglcdjimipeeaaDoor
open Go.RowKit
namespace RM6
open LX RX RW6
section
variable {w0 w : World} {q : Nat} {rv tv ov : Value} {rs : List (Nd × Value)} {tops : List Nat} {os : List (Pt × Value)} {ex : List (Value × List Nat)}
end
end RM6
end Go.Proofs.YtbglcdjimipeeaaDoor

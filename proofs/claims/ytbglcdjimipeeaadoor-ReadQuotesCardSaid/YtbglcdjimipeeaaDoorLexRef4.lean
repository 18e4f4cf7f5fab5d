/-
  Contract of the document's own part 'one' of layer 5: a word as a token. Conditions: the word is not empty and has at most 5000 letters.
-/
import Derived.Test.YtbglcdjimipeeaaDoorLexRef3
namespace Go.Proofs.YtbglcdjimipeeaaDoor
open Go.RowKit
namespace LW
open LX
theorem tok_info : (Tryd.prog.info? 43).map (fun i => (i.zero, i.size, i.bytes)) = some (some (.agg #[.int .u8 0, .int .i64 0, .int .i64 0, .string ⟨#[]⟩]), 4, 40) := by kernel_rfl
/-- A token as a value. -/
def tokV (kd a n : Int) (s : ByteArray) : Value := .agg #[.int .u8 kd, .int .i64 a, .int .i64 n, .string s]
def oneV (a : Int) : St → Value
  | .tok kd n s _ => .tuple #[tokV kd a n s, .int .i64 0]
  | .err e => .tuple #[tokV 0 0 0 emp, .int .i64 e]
  | .skip _ => .bool false
end LW
end Go.Proofs.YtbglcdjimipeeaaDoor

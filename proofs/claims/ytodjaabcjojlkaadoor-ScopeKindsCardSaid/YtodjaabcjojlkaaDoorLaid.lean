/-
  A world in which the listed variables hold what their initialisers lay: for the witness of each tied card. No condition.
-/
import Derived.Test.YtodjaabcjojlkaaDoorRows
import Derived.Deep.DeepHandedRow
import Derived.Deep.DeepWitnessRowRef
import Derived.Deep.DeepLaidRun
namespace Go.Proofs.YtodjaabcjojlkaaDoor.LA
def put (h : Array Obj) (g : Nat) (cs : Array Value) : Array Obj := h.modify g fun
  | .cells _ t frozen => .cells cs t frozen
  | o => o
noncomputable def world (os : Os) : World :=
  { World.holding Tryd.prog os ⟨#[], #[], []⟩ with heap := (put (World.holding Tryd.prog os ⟨#[], #[], []⟩).heap 0 #[.string ⟨#[]⟩, .int .i64 0, .string ⟨#[43]⟩, .int .i64 2, .string ⟨#[45]⟩, .int .i64 2, .string ⟨#[42]⟩, .int .i64 2, .string ⟨#[113, 117, 111, 116, 105, 101, 110, 116]⟩, .int .i64 2, .string ⟨#[114, 101, 109, 97, 105, 110, 100, 101, 114]⟩, .int .i64 2, .string ⟨#[60]⟩, .int .i64 2, .string ⟨#[61]⟩, .int .i64 2, .string ⟨#[101, 113, 63]⟩, .int .i64 2, .string ⟨#[110, 111, 116]⟩, .int .i64 1, .string ⟨#[110, 117, 108, 108, 63]⟩, .int .i64 1, .string ⟨#[112, 97, 105, 114, 63]⟩, .int .i64 1, .string ⟨#[99, 111, 110, 115]⟩, .int .i64 2, .string ⟨#[99, 97, 114]⟩, .int .i64 1, .string ⟨#[99, 100, 114]⟩, .int .i64 1, .string ⟨#[110, 117, 109, 98, 101, 114, 63]⟩, .int .i64 1, .string ⟨#[115, 121, 109, 98, 111, 108, 63]⟩, .int .i64 1, .string ⟨#[112, 114, 111, 99, 101, 100, 117, 114, 101, 63]⟩, .int .i64 1, .string ⟨#[99, 97, 108, 108, 47, 99, 99]⟩, .int .i64 1, .string ⟨#[111, 117, 116]⟩, .int .i64 1, .string ⟨#[115, 112, 97, 119, 110]⟩, .int .i64 1, .string ⟨#[109, 105, 99, 114, 111]⟩, .int .i64 1, .string ⟨#[97, 102, 116, 101, 114]⟩, .int .i64 2, .string ⟨#[99, 97, 110, 99, 101, 108]⟩, .int .i64 1, .string ⟨#[112, 114, 111, 109, 105, 115, 101]⟩, .int .i64 0, .string ⟨#[115, 101, 116, 116, 108, 101]⟩, .int .i64 2, .string ⟨#[116, 104, 101, 110]⟩, .int .i64 2, .string ⟨#[115, 116, 114, 101, 97, 109]⟩, .int .i64 1, .string ⟨#[119, 114, 105, 116, 101]⟩, .int .i64 2, .string ⟨#[114, 101, 97, 100]⟩, .int .i64 1, .string ⟨#[116, 105, 109, 101]⟩, .int .i64 0]) }
noncomputable def list : List (String × DataW Unit) := [("eddywheel/scope.primitives", Rows.laid_eddywheel_scope_primitives)]
set_option maxRecDepth 100000 in
theorem met (os : Os) (args : Array Value) : laidMet Tryd.prog list ((world os).forCall (fun _ _ => 0) ⟨#[], args, []⟩).memory :=
  laidMet_of_run3 8 (by kernel_rfl) (by kernel_rfl) (by kernel_rfl)
end Go.Proofs.YtodjaabcjojlkaaDoor.LA

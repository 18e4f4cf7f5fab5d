/-
  The head of layer 1's statements, the document's examples: it answers true. No condition.
-/
import Derived.Test.YtonjmebhiegbpaaProg
import Derived.Test.YtonjmebhiegbpaaWordPlain
import Derived.Test.YtonjmebhiegbpaaWordPlain2
import Derived.Test.YtonjmebhiegbpaaWordWalks1
import Derived.Test.YtonjmebhiegbpaaWordWalks2
import Derived.Test.YtonjmebhiegbpaaWordWalks3
import Derived.Test.YtonjmebhiegbpaaWordWalks4
import Derived.Test.YtonjmebhiegbpaaWordWalks5
import Derived.Lib.Hide
namespace Go.Proofs.Ytonjmebhiegbpaa
open Go.RowKit
namespace WW
set_option maxHeartbeats 400000 in
theorem shown_any (w : World) : Calls Try.prog 15 #[] w fun e w' => e = .returned (.bool true) ∧ w = w' := by
  have e1 : WP.intE (-1) = 0 := by decide
  have e2 : WP.intE (-7) = 0 := by decide
  have e3 : WP.intE 2 = 0 := by decide
  have w1 : (WP.intW (-1) == 18446744073709551608) = true := by decide
  have q1 : WP.doE 47 (WP.intW (-7)) (WP.intW 2) = 0 := by decide
  have q2 : WP.doE 37 (WP.intW (-7)) (WP.intW 2) = 0 := by decide
  have q3 : WP.toIntB (WP.doW 47 (WP.intW (-7)) (WP.intW 2)) = true := by decide
  have q4 : WP.toIntB (WP.doW 37 (WP.intW (-7)) (WP.intW 2)) = true := by decide
  have q5 : WP.toIntN (WP.doW 47 (WP.intW (-7)) (WP.intW 2)) = -3 := by decide
  have q6 : WP.toIntN (WP.doW 37 (WP.intW (-7)) (WP.intW 2)) = -1 := by decide
  go_enter Try.func15, Try.ntmps15
  go_wp2_with (first | (go_at_call 11; refine (int_any _ _).mono ?_; rintro e w' ⟨rfl, rfl⟩) | (go_at_call 24; refine (do_any _ _ _ (WP.intW_u _) (WP.intW_u _) _).mono ?_; rintro e w' ⟨rfl, rfl⟩) | (go_at_call 18; refine (toint_any _ (WP.doW_u _ _ _) _).mono ?_; rintro e w' ⟨rfl, rfl⟩))
  go_ret
  exact ⟨rfl, rfl⟩
end WW
end Go.Proofs.Ytonjmebhiegbpaa

/-
  The walk of layer 1's statement WordRing: it answers true for any two numbers. No condition.
-/
import Derived.Test.YtonjmebhiegbpaaProg
import Derived.Test.YtonjmebhiegbpaaWordPlain
import Derived.Test.YtonjmebhiegbpaaWordPlain2
import Derived.Test.YtonjmebhiegbpaaWordPlain3
import Derived.Test.YtonjmebhiegbpaaWordWalks1
import Derived.Test.YtonjmebhiegbpaaWordWalks2
import Derived.Test.YtonjmebhiegbpaaWordWalks3
import Derived.Test.YtonjmebhiegbpaaWordWalks4
import Derived.Test.YtonjmebhiegbpaaWordShown
import Derived.Lib.Hide
namespace Go.Proofs.Ytonjmebhiegbpaa
open Go.RowKit
namespace WL
open WW
set_option maxRecDepth 100000 in
set_option maxHeartbeats 400000 in
theorem ring (a b : Int) (w : World) : Calls Try.prog 7 #[.int .i64 a, .int .i64 b] w fun e w' => e = .returned (.bool true) ∧ w = w' := by
  have hA := WP.mod_in a
  have hB := WP.mod_in b
  generalize ea : a.tmod 1099511627776 = A at hA
  generalize eb : b.tmod 1099511627776 = B at hB
  have r := WP.ring_of A B hA hB
  have iA := WP.intE_ok A hA
  have iB := WP.intE_ok B hB
  have hback := WP.ring_back A B hA hB
  have hz := WP.do_zero A B hA hB
  have hq := WP.ring_quo A B hA hB
  clear hA hB
  generalize ex : WP.intW A = X at *
  generalize ey : WP.intW B = Y at *
  have HX := Lib.hid r.ux
  have HY := Lib.hid r.uy
  have c1 := r.c1
  have c2 := r.c2
  have c3 := r.c3
  have c4 := r.c4
  clear r
  by_cases h0 : B = 0
  · obtain ⟨z1, z2⟩ := hz h0
    have hb0 : (B == 0) = true := by rw [beq_iff_eq]; exact h0
    clear hz hq h0
    rcases hback with g1 | ⟨g1, g2, g3⟩
    all_goals
      go_enter Try.func7, Try.ntmps7
      go_wp2_with (first | (go_at_call 11; refine (int_any _ _).mono ?_; rintro e w' ⟨rfl, rfl⟩) | (go_at_call 15; refine (shown_any _).mono ?_; rintro e w' ⟨rfl, rfl⟩) | (go_at_call 24; refine (do_any _ _ _ (by first | exact HX.out | exact HY.out | exact WP.doW_u _ _ _) (by first | exact HX.out | exact HY.out | exact WP.doW_u _ _ _) _).mono ?_; rintro e w' ⟨rfl, rfl⟩))
      go_ret
      exact ⟨rfl, rfl⟩
  · obtain ⟨d1, d2, d3, d4, d5⟩ := hq h0
    have hb0 : (B == 0) = false := by rw [beq_eq_false_iff_ne]; exact h0
    clear hz hq h0
    rcases hback with g1 | ⟨g1, g2, g3⟩
    all_goals
      go_enter Try.func7, Try.ntmps7
      go_wp2_with (first | (go_at_call 11; refine (int_any _ _).mono ?_; rintro e w' ⟨rfl, rfl⟩) | (go_at_call 15; refine (shown_any _).mono ?_; rintro e w' ⟨rfl, rfl⟩) | (go_at_call 24; refine (do_any _ _ _ (by first | exact HX.out | exact HY.out | exact WP.doW_u _ _ _) (by first | exact HX.out | exact HY.out | exact WP.doW_u _ _ _) _).mono ?_; rintro e w' ⟨rfl, rfl⟩))
      go_ret
      exact ⟨rfl, rfl⟩
end WL
end Go.Proofs.Ytonjmebhiegbpaa

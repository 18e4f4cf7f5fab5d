/-
  The walk of layer 1's statement WordOrders: it answers true for any three numbers. No condition.
-/
import Derived.Test.YtonjmebhiegbpaaProg
import Derived.Test.YtonjmebhiegbpaaWordPlain
import Derived.Test.YtonjmebhiegbpaaWordPlain2
import Derived.Test.YtonjmebhiegbpaaWordPlain3
import Derived.Test.YtonjmebhiegbpaaWordPlain5
import Derived.Test.YtonjmebhiegbpaaWordWalks1
import Derived.Test.YtonjmebhiegbpaaWordWalks2
import Derived.Test.YtonjmebhiegbpaaWordWalks3
import Derived.Test.YtonjmebhiegbpaaWordWalks4
import Derived.Test.YtonjmebhiegbpaaWordShown
import Derived.Lib.Hide
import Derived.LoopN
namespace Go.Proofs.Ytonjmebhiegbpaa
open Go.RowKit
namespace WL
open WW
set_option maxRecDepth 100000 in
set_option maxHeartbeats 2000000 in
theorem orders (a b c : Int) (w : World) : Calls Try.prog 8 #[.int .i64 a, .int .i64 b, .int .i64 c] w fun e w' => e = .returned (.bool true) ∧ Grown w w' := by
  have hA := WP.mod38_in a
  have hB := WP.mod38_in b
  have hC := WP.mod38_in c
  generalize ea : a.tmod 274877906944 = A at hA
  generalize eb : b.tmod 274877906944 = B at hB
  generalize ec : c.tmod 274877906944 = C at hC
  have iA := WP.intE_ok A (by rw [WP.inR_iff]; omega)
  have iB := WP.intE_ok B (by rw [WP.inR_iff]; omega)
  have iC := WP.intE_ok C (by rw [WP.inR_iff]; omega)
  have s := WP.orders_of A B C hA hB hC
  clear hA hB hC
  generalize WP.intW (A + C) = u at *
  generalize WP.intW (B + C) = v at *
  generalize ex : WP.intW A = X at *
  generalize ey : WP.intW B = Y at *
  generalize ez : WP.intW C = Z at *
  obtain ⟨ux, uy, uz, h1, h2, h3, h4, e1, e2, e3, e4, a1, a2, b1, b2, uu, uv⟩ := s
  have HX := Lib.hid ux
  have HY := Lib.hid uy
  have HZ := Lib.hid uz
  have HU := Lib.hid uu
  have HV := Lib.hid uv
  clear ux uy uz uu uv
  have hd : (decide (A < B) = true ∧ decide (B < A) = false ∧ (A == B) = false) ∨ (decide (A < B) = false ∧ decide (B < A) = true ∧ (A == B) = false) ∨ (decide (A < B) = false ∧ decide (B < A) = false ∧ (A == B) = true) := by
    rcases Int.lt_trichotomy A B with h | h | h
    · exact .inl ⟨by simp [h], by simp; omega, by simp; omega⟩
    · subst h; exact .inr (.inr ⟨by simp, by simp, by simp⟩)
    · exact .inr (.inl ⟨by simp; omega, by simp [h], by simp; omega⟩)
  rcases hd with ⟨d1, d2, d3⟩ | ⟨d1, d2, d3⟩ | ⟨d1, d2, d3⟩
  all_goals
    rw [d1] at h1 h4
    rw [d2] at h2
    rw [d3] at h3
    simp only [WP.boolW] at h1 h2 h3 h4
    go_enter Try.func8, Try.ntmps8
    go_wp2_with (first | (go_at_call 11; refine (int_any _ _).mono ?_; rintro e w' ⟨rfl, rfl⟩) | (go_at_call 15; refine (shown_any _).mono ?_; rintro e w' ⟨rfl, rfl⟩) | (go_at_call 24; refine (do_any _ _ _ (by first | exact HX.out | exact HY.out | exact HU.out) (by first | exact HX.out | exact HY.out | exact HZ.out | exact HV.out) _).mono ?_; rintro e w' ⟨rfl, rfl⟩))
    refine wp_loop_rounds 4 ?_
    rw [rounds_succ]; go_wp2
    rw [rounds_succ]; go_wp2
    rw [rounds_succ]; go_wp2
    rw [rounds_succ]; go_wp2
    go_ret
    exact ⟨rfl, by repeat (first | exact Grown.refl _ | apply Grown.drew | apply Grown.alloc)⟩
end WL
end Go.Proofs.Ytonjmebhiegbpaa

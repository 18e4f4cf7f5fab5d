/-
  The walk of layer 1's statement WordSigns: it answers true for any two numbers. No condition.
-/
import Derived.Test.YtonjmebhiegbpaaProg
import Derived.Test.YtonjmebhiegbpaaWordPlain
import Derived.Test.YtonjmebhiegbpaaWordPlain2
import Derived.Test.YtonjmebhiegbpaaWordPlain3
import Derived.Test.YtonjmebhiegbpaaWordPlain4
import Derived.Test.YtonjmebhiegbpaaWordWalks1
import Derived.Test.YtonjmebhiegbpaaWordWalks2
import Derived.Test.YtonjmebhiegbpaaWordWalks3
import Derived.Test.YtonjmebhiegbpaaWordWalks4
import Derived.Test.YtonjmebhiegbpaaWordShown
import Derived.Lib.Hide
namespace Go.Proofs.Ytonjmebhiegbpaa
open Go.RowKit
namespace WL
open WW
set_option maxRecDepth 100000 in
set_option maxHeartbeats 4000000 in
theorem size_any (n : Int) (h : WP.inR n = true) (w : World) : Calls Try.prog 26 #[.int .i64 n] w fun e w' => e = .returned (.int .i64 (WP.ab n)) ∧ w = w' := by
  obtain ⟨h1, h2⟩ := (WP.inR_iff n).1 h
  clear h
  have hi := WP.ab_ite n
  go_enter Try.func26, Try.ntmps26
  go_wp2
  go_ret
  exact ⟨rfl, rfl⟩
set_option maxRecDepth 100000 in
set_option maxHeartbeats 4000000 in
theorem signs (a b : Int) (w : World) : Calls Try.prog 10 #[.int .i64 a, .int .i64 b] w fun e w' => e = .returned (.bool true) ∧ w = w' := by
  have hA := WP.mod_in a
  have hB := WP.mod_in b
  generalize ea : a.tmod 1099511627776 = A at hA
  generalize eb : b.tmod 1099511627776 = B at hB
  have HA := Lib.hid hA
  have HB := Lib.hid hB
  have iA := WP.intE_ok A hA
  have iB := WP.intE_ok B hB
  by_cases h0 : B = 0
  · have hb0 : (B == 0) = true := by rw [beq_iff_eq]; exact h0
    clear hA hB h0
    go_enter Try.func10, Try.ntmps10
    go_wp2_with (first | (go_at_call 11; refine (int_any _ _).mono ?_; rintro e w' ⟨rfl, rfl⟩) | (go_at_call 15; refine (shown_any _).mono ?_; rintro e w' ⟨rfl, rfl⟩))
    go_ret
    exact ⟨rfl, rfl⟩
  · have hb0 : (B == 0) = false := by rw [beq_eq_false_iff_ne]; exact h0
    have s := WP.signs_of A B hA hB h0
    have nA := WP.ab_nonneg A
    have lA := WP.ab_lt A hA
    have nB : 1 ≤ WP.ab B := by unfold WP.ab; split <;> omega
    clear hA hB h0
    generalize ex : WP.intW A = X at *
    generalize ey : WP.intW B = Y at *
    generalize A.tdiv B = K at *
    generalize A.tmod B = R at *
    obtain ⟨ux, uy, e1, e2, t1, t2, n1, n2, s1, s2, s3, s4, k1, r1⟩ := s
    have HX := Lib.hid ux
    have HY := Lib.hid uy
    have HK := Lib.hid k1
    have HR := Lib.hid r1
    clear ux uy k1 r1
    have hr : (R == 0) = true ∨ ((R == 0) = false ∧ decide (R < 0) = decide (A < 0)) := by
      rcases s3 with z | ⟨z, z2⟩
      · exact .inl (by rw [beq_iff_eq]; exact z)
      · exact .inr ⟨by rw [beq_eq_false_iff_ne]; exact z, z2⟩
    have hk : (K == 0) = true ∨ ((K == 0) = false ∧ decide (K < 0) = !(decide (A < 0) == decide (B < 0))) := by
      rcases s4 with z | ⟨z, z2⟩
      · exact .inl (by rw [beq_iff_eq]; exact z)
      · exact .inr ⟨by rw [beq_eq_false_iff_ne]; exact z, z2⟩
    clear s3 s4
    rcases hr with hr0 | ⟨hr0, hr1⟩
    all_goals
      rcases hk with hk0 | ⟨hk0, hk1⟩
      all_goals
        go_enter Try.func10, Try.ntmps10
        go_wp2_with (first | (go_at_call 11; refine (int_any _ _).mono ?_; rintro e w' ⟨rfl, rfl⟩) | (go_at_call 15; refine (shown_any _).mono ?_; rintro e w' ⟨rfl, rfl⟩) | (go_at_call 24; refine (do_any _ _ _ HX.out HY.out _).mono ?_; rintro e w' ⟨rfl, rfl⟩) | (go_at_call 18; refine (toint_any _ (WP.doW_u _ _ _) _).mono ?_; rintro e w' ⟨rfl, rfl⟩) | (go_at_call 26; refine (size_any _ (by first | exact HA.out | exact HB.out | exact HK.out | exact HR.out) _).mono ?_; rintro e w' ⟨rfl, rfl⟩))
        go_ret
        exact ⟨rfl, rfl⟩
end WL
end Go.Proofs.Ytonjmebhiegbpaa

/-
  Contracts of layer 1's May and Bool and of the document's Of, ToInt, To, May and Bool. Condition: a word lies in 64 bits.
-/
import Derived.Test.YtonjmebhiegbpaaProg
import Derived.Test.YtonjmebhiegbpaaWordPlain
import Derived.Test.YtonjmebhiegbpaaWordWalks1
import Derived.Lib.Hide
namespace Go.Proofs.Ytonjmebhiegbpaa
open Go.RowKit
namespace WW
theorem ret_u {k : IntKind} {a b : Int} (h : a = b) : Ending.returned (.int k a) = .returned (.int k b) := by rw [h]
theorem bool_any (b : Bool) (w : World) : Calls Try.prog 16 #[.bool b] w fun e w' => e = .returned (.int .u64 (WP.boolW b)) ∧ w = w' := by
  cases b
  all_goals
    go_enter Try.func16, Try.ntmps16
    go_wp2
    go_ret
    exact ⟨rfl, rfl⟩
theorem rbool_any (b : Bool) (w : World) : Calls Try.prog 17 #[.bool b] w fun e w' => e = .returned (.int .u64 (WP.boolW b)) ∧ w = w' := by
  cases b
  all_goals
    go_enter Try.func17, Try.ntmps17
    go_wp2
    go_ret
    exact ⟨rfl, rfl⟩
set_option maxHeartbeats 400000 in
theorem may_any (n : Int) (hu : WP.U n) (w : World) : Calls Try.prog 22 #[.int .u64 n] w fun e w' => e = .returned (.bool (WP.mayB n)) ∧ w = w' := by
  have ha := WP.and7 n hu
  have hn0 : 0 ≤ n := hu.1
  have hk0 : 0 ≤ n % 8 := by omega
  have hk1 : n % 8 < 8 := by omega
  have HU := Lib.hid hu
  clear hu
  by_cases h : n = 2 ∨ n = 10 ∨ n = 18 ∨ n = 26
  · rcases h with rfl | rfl | rfl | rfl
    all_goals
      go_enter Try.func22, Try.ntmps22
      go_wp2
      go_ret
      exact ⟨rfl, rfl⟩
  · have h2 : (n == 2) = false := by rw [beq_eq_false_iff_ne]; omega
    have h10 : (n == 10) = false := by rw [beq_eq_false_iff_ne]; omega
    have h18 : (n == 18) = false := by rw [beq_eq_false_iff_ne]; omega
    have h26 : (n == 26) = false := by rw [beq_eq_false_iff_ne]; omega
    clear h
    cases hi : WP.toIntB n
    · have H := Lib.hid (WP.may_last n h2 h10 h18 h26 hi)
      go_enter Try.func22, Try.ntmps22
      go_wp2_with (first | (go_at_call 18; refine (toint_any _ HU.out _).mono ?_; rintro e w' ⟨rfl, rfl⟩) | (go_at_call 20; refine (to_any _ _ HU.out _).mono ?_; rintro e w' ⟨rfl, rfl⟩))
      go_ret
      exact ⟨ret_b H.out.symm, rfl⟩
    · have H := Lib.hid (WP.may_yes n hi)
      go_enter Try.func22, Try.ntmps22
      go_wp2_with (first | (go_at_call 18; refine (toint_any _ HU.out _).mono ?_; rintro e w' ⟨rfl, rfl⟩) | (go_at_call 20; refine (to_any _ _ HU.out _).mono ?_; rintro e w' ⟨rfl, rfl⟩))
      go_ret
      exact ⟨ret_b H.out.symm, rfl⟩
set_option maxHeartbeats 400000 in
theorem rof_any (k n : Int) (w : World) : Calls Try.prog 14 #[.int .i64 k, .int .i64 n] w fun e w' => e = .returned (.tuple #[.int .u64 (WP.ofW k n), .int .i64 (WP.ofE k n)]) ∧ w = w' := by
  cases h0 : WP.kindB k
  · have hk : ¬ (k = 1 ∨ k = 3 ∨ k = 4) := by rw [← WP.kindB_iff, h0]; simp
    have H := Lib.hid (show WP.ofB k n = false by simp [WP.ofB, h0])
    have h1 : (k != 1) = true := by rw [bne_iff_ne]; omega
    have h3 : (k != 3) = true := by rw [bne_iff_ne]; omega
    have h4 : (k != 4) = true := by rw [bne_iff_ne]; omega
    clear hk h0
    go_enter Try.func14, Try.ntmps14
    go_wp2
    go_ret2
    exact ⟨ret_2 (by simp [WP.ofW, H.out]) (by simp [WP.ofE, H.out]), rfl⟩
  · by_cases h1 : 0 ≤ n
    · by_cases h2 : n < 1099511627776
      · have H := Lib.hid (WP.ofB_mk k n h0 h1 h2)
        have hk := (WP.kindB_iff k).1 h0
        clear h0
        rcases hk with rfl | rfl | rfl
        all_goals
          go_enter Try.func14, Try.ntmps14
          go_wp2
          go_ret2
          exact ⟨ret_2 (by simp [WP.ofW, H.out]) (by simp [WP.ofE, H.out]), rfl⟩
      · have H := Lib.hid (WP.ofB_hi k n h2)
        have hk := (WP.kindB_iff k).1 h0
        clear h0
        rcases hk with rfl | rfl | rfl
        all_goals
          go_enter Try.func14, Try.ntmps14
          go_wp2
          go_ret2
          exact ⟨ret_2 (by simp [WP.ofW, H.out]) (by simp [WP.ofE, H.out]), rfl⟩
    · have H := Lib.hid (WP.ofB_lo k n h1)
      have hk := (WP.kindB_iff k).1 h0
      clear h0
      rcases hk with rfl | rfl | rfl
      all_goals
        go_enter Try.func14, Try.ntmps14
        go_wp2
        go_ret2
        exact ⟨ret_2 (by simp [WP.ofW, H.out]) (by simp [WP.ofE, H.out]), rfl⟩
end WW
end Go.Proofs.Ytonjmebhiegbpaa

/-
  Contracts of the document's ToInt, To and May of layer 1. Condition: a word lies in 64 bits.
-/
import Derived.Test.YtonjmebhiegbpaaProg
import Derived.Test.YtonjmebhiegbpaaWordPlain
import Derived.Test.YtonjmebhiegbpaaWordWalks1
import Derived.Test.YtonjmebhiegbpaaWordWalks2
import Derived.Lib.Hide
namespace Go.Proofs.Ytonjmebhiegbpaa
open Go.RowKit
namespace WW
set_option maxHeartbeats 400000 in
theorem rtoint_any (n : Int) (hu : WP.U n) (w : World) : Calls Try.prog 19 #[.int .u64 n] w fun e w' => e = .returned (.tuple #[.int .i64 (WP.toIntN n), .bool (WP.toIntB n)]) ∧ w = w' := by
  have hq := WP.rq_eq n
  cases h : WP.toIntB n
  · rcases WP.rtoint_no n hu h with hE | ⟨hE, hW⟩
    all_goals
      have H := Lib.hid h
      clear h hu
      go_enter Try.func19, Try.ntmps19
      go_wp2_with (go_at_call 12; refine (rint_any _ _).mono ?_; rintro e w' ⟨rfl, rfl⟩)
      go_ret2
      exact ⟨ret_ib (by simp [WP.toIntN, H.out]) rfl, rfl⟩
  · obtain ⟨hE, hW, hN⟩ := WP.rtoint_yes n hu h
    have HN := Lib.hid hN
    clear h hu hN
    go_enter Try.func19, Try.ntmps19
    go_wp2_with (go_at_call 12; refine (rint_any _ _).mono ?_; rintro e w' ⟨rfl, rfl⟩)
    go_ret2
    exact ⟨ret_ib HN.out rfl, rfl⟩
set_option maxHeartbeats 400000 in
theorem rto_any (k n : Int) (hu : WP.U n) (w : World) : Calls Try.prog 21 #[.int .i64 k, .int .u64 n] w fun e w' => e = .returned (.tuple #[.int .i64 (WP.toN k n), .bool (WP.toB k n)]) ∧ w = w' := by
  have hn0 : 0 ≤ n := hu.1
  have hn1 : n / 8 < 2305843009213693952 := by have := hu.2; omega
  have hn2 : n ≤ 18446744073709551615 := by have := hu.2; omega
  cases h : WP.toB k n
  · rcases WP.rto_no2 k n h with hE | ⟨hE, hW⟩
    all_goals
      have H := Lib.hid h
      clear h hu
      go_enter Try.func21, Try.ntmps21
      go_wp2_with (go_at_call 14; refine (rof_any _ _ _).mono ?_; rintro e w' ⟨rfl, rfl⟩)
      go_ret2
      exact ⟨ret_ib (by simp [WP.toN, H.out]) rfl, rfl⟩
  · obtain ⟨hE, hW, hN⟩ := WP.rto_yes2 k n hu h
    have HN := Lib.hid hN
    clear h hu hN
    go_enter Try.func21, Try.ntmps21
    go_wp2_with (go_at_call 14; refine (rof_any _ _ _).mono ?_; rintro e w' ⟨rfl, rfl⟩)
    go_ret2
    exact ⟨ret_ib HN.out rfl, rfl⟩
set_option maxHeartbeats 400000 in
theorem rmay_any (n : Int) (hu : WP.U n) (w : World) : Calls Try.prog 23 #[.int .u64 n] w fun e w' => e = .returned (.bool (WP.mayB n)) ∧ w = w' := by
  have HU := Lib.hid hu
  clear hu
  by_cases h : n = 2 ∨ n = 10 ∨ n = 18 ∨ n = 26
  · rcases h with rfl | rfl | rfl | rfl
    all_goals
      go_enter Try.func23, Try.ntmps23
      go_wp2
      go_ret
      exact ⟨rfl, rfl⟩
  · have h2 : (n == 2) = false := by rw [beq_eq_false_iff_ne]; omega
    have h10 : (n == 10) = false := by rw [beq_eq_false_iff_ne]; omega
    have h18 : (n == 18) = false := by rw [beq_eq_false_iff_ne]; omega
    have h26 : (n == 26) = false := by rw [beq_eq_false_iff_ne]; omega
    clear h
    have H := Lib.hid (WP.may_rest n h2 h10 h18 h26)
    cases hi : WP.toIntB n
    all_goals
      cases h1 : WP.toB 1 n
      all_goals
        cases h3 : WP.toB 3 n
        all_goals
          cases h4 : WP.toB 4 n
          all_goals
            go_enter Try.func23, Try.ntmps23
            go_wp2_with (first | (go_at_call 19; refine (rtoint_any _ HU.out _).mono ?_; rintro e w' ⟨rfl, rfl⟩) | (go_at_call 21; refine (rto_any _ _ HU.out _).mono ?_; rintro e w' ⟨rfl, rfl⟩))
            go_ret
            exact ⟨ret_b (by rw [H.out]; simp [hi, h1, h3, h4]), rfl⟩
end WW
end Go.Proofs.Ytonjmebhiegbpaa

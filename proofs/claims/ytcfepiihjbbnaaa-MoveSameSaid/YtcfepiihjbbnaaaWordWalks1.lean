/-
  Contracts of layer 1's small functions: inRange, isNumbered, isOperation, abs, Int, Bool and the document's Int, Bool. No condition but that a word lies in 64 bits.
-/
import Derived.Test.YtcfepiihjbbnaaaProg
import Derived.Test.YtcfepiihjbbnaaaWordPlain
import Derived.Lib.Hide
namespace Go.Proofs.Ytcfepiihjbbnaaa
open Go.RowKit
namespace WW
theorem ret_b {a b : Bool} (h : a = b) : Ending.returned (.bool a) = .returned (.bool b) := by rw [h]
theorem ret_2 {k k' : IntKind} {a b c d : Int} (h : a = b) (h' : c = d) : Ending.returned (.tuple #[.int k a, .int k' c]) = .returned (.tuple #[.int k b, .int k' d]) := by rw [h, h']
theorem ret_ib {k : IntKind} {a b : Int} {c d : Bool} (h : a = b) (h' : c = d) : Ending.returned (.tuple #[.int k a, .bool c]) = .returned (.tuple #[.int k b, .bool d]) := by rw [h, h']

set_option maxHeartbeats 400000 in
theorem numb_any (k : Int) (w : World) : Calls Try.prog 38 #[.int .i64 k] w fun e w' => e = .returned (.bool (WP.kindB k)) ∧ w = w' := by
  by_cases h1 : k = 1
  · subst h1
    go_enter Try.func38, Try.ntmps38
    go_wp2
    go_ret
    exact ⟨ret_b (by decide), rfl⟩
  · by_cases h2 : k = 3
    · subst h2
      go_enter Try.func38, Try.ntmps38
      go_wp2
      go_ret
      exact ⟨ret_b (by decide), rfl⟩
    · by_cases h3 : k = 4
      · subst h3
        go_enter Try.func38, Try.ntmps38
        go_wp2
        go_ret
        exact ⟨ret_b (by decide), rfl⟩
      · go_enter Try.func38, Try.ntmps38
        go_wp2
        go_ret
        exact ⟨ret_b (by simp [WP.kindB]), rfl⟩
set_option maxHeartbeats 400000 in
theorem of_any (k n : Int) (w : World) : Calls Try.prog 32 #[.int .i64 k, .int .i64 n] w fun e w' => e = .returned (.tuple #[.int .u64 (WP.ofW k n), .int .i64 (WP.ofE k n)]) ∧ w = w' := by
  cases h0 : WP.kindB k
  · have h : WP.ofB k n = false := by simp [WP.ofB, h0]
    go_enter Try.func32, Try.ntmps32
    go_wp2_with (go_at_call 38; refine (numb_any _ _).mono ?_; rintro e w' ⟨rfl, rfl⟩)
    go_ret2
    exact ⟨ret_2 (by simp [WP.ofW, h]) (by simp [WP.ofE, h]), rfl⟩
  · by_cases h1 : 0 ≤ n
    · by_cases h2 : n < 1099511627776
      · have h : WP.ofB k n = true := by simp [WP.ofB, h0, h1, h2]
        go_enter Try.func32, Try.ntmps32
        go_wp2_with (go_at_call 38; refine (numb_any _ _).mono ?_; rintro e w' ⟨rfl, rfl⟩)
        go_ret2
        exact ⟨ret_2 (by rw [WP.mk_of k n h]) (by simp [WP.ofE, h]), rfl⟩
      · have h : WP.ofB k n = false := by simp [WP.ofB]; omega
        go_enter Try.func32, Try.ntmps32
        go_wp2_with (go_at_call 38; refine (numb_any _ _).mono ?_; rintro e w' ⟨rfl, rfl⟩)
        go_ret2
        exact ⟨ret_2 (by simp [WP.ofW, h]) (by simp [WP.ofE, h]), rfl⟩
    · have h : WP.ofB k n = false := by simp [WP.ofB]; omega
      go_enter Try.func32, Try.ntmps32
      go_wp2_with (go_at_call 38; refine (numb_any _ _).mono ?_; rintro e w' ⟨rfl, rfl⟩)
      go_ret2
      exact ⟨ret_2 (by simp [WP.ofW, h]) (by simp [WP.ofE, h]), rfl⟩
set_option maxHeartbeats 400000 in
theorem to_any (k n : Int) (hu : WP.U n) (w : World) : Calls Try.prog 35 #[.int .i64 k, .int .u64 n] w fun e w' => e = .returned (.tuple #[.int .i64 (WP.toN k n), .bool (WP.toB k n)]) ∧ w = w' := by
  have ha := WP.and7 n hu
  have hn0 : 0 ≤ n := hu.1
  have hn1 : n / 8 < 2305843009213693952 := by have := hu.2; omega
  clear hu
  cases h0 : WP.kindB k
  · have H := Lib.hid (show WP.toB k n = false by simp [WP.toB, h0])
    go_enter Try.func35, Try.ntmps35
    go_wp2_with (go_at_call 38; refine (numb_any _ _).mono ?_; rintro e w' ⟨rfl, rfl⟩)
    go_ret2
    exact ⟨ret_ib (by simp [WP.toN, H.out]) (by simp [H.out]), rfl⟩
  · obtain hk := (WP.kindB_iff k).1 h0
    by_cases hm : n % 8 = k
    · by_cases hl : n / 8 < 1099511627776
      · have H := Lib.hid (show WP.toB k n = true by simp [WP.toB, h0, hm, hl])
        have ht : (n % 8 != k) = false := by simp [hm]
        clear hm
        rcases hk with rfl | rfl | rfl
        all_goals
          go_enter Try.func35, Try.ntmps35
          go_wp2_with (go_at_call 38; refine (numb_any _ _).mono ?_; rintro e w' ⟨rfl, rfl⟩)
          go_ret2
          exact ⟨ret_ib (by simp [WP.toN, H.out]) (by simp [H.out]), rfl⟩
      · have H := Lib.hid (show WP.toB k n = false by simp [WP.toB, hl])
        have ht : (n % 8 != k) = false := by simp [hm]
        clear hm
        rcases hk with rfl | rfl | rfl
        all_goals
          go_enter Try.func35, Try.ntmps35
          go_wp2_with (go_at_call 38; refine (numb_any _ _).mono ?_; rintro e w' ⟨rfl, rfl⟩)
          go_ret2
          exact ⟨ret_ib (by simp [WP.toN, H.out]) (by simp [H.out]), rfl⟩
    · have H := Lib.hid (show WP.toB k n = false by simp [WP.toB, hm])
      have ht : (n % 8 != k) = true := by simp [hm]
      clear hm
      rcases hk with rfl | rfl | rfl
      all_goals
        go_enter Try.func35, Try.ntmps35
        go_wp2_with (go_at_call 38; refine (numb_any _ _).mono ?_; rintro e w' ⟨rfl, rfl⟩)
        go_ret2
        exact ⟨ret_ib (by simp [WP.toN, H.out]) (by simp [H.out]), rfl⟩
end WW
end Go.Proofs.Ytcfepiihjbbnaaa

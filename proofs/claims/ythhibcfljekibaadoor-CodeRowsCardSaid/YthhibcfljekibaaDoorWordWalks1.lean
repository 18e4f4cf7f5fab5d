/-
  Contracts of layer 1's small functions: inRange, isNumbered, isOperation, abs, Int, Bool and the document's Int, Bool. No condition but that a word lies in 64 bits.
-/
import Derived.Test.YthhibcfljekibaaDoorProg
import Derived.Test.YthhibcfljekibaaDoorWordPlain
import Derived.Lib.Hide
namespace Go.Proofs.YthhibcfljekibaaDoor
open Go.RowKit
namespace WW
theorem ret_b {a b : Bool} (h : a = b) : Ending.returned (.bool a) = .returned (.bool b) := by rw [h]
theorem ret_2 {k k' : IntKind} {a b c d : Int} (h : a = b) (h' : c = d) : Ending.returned (.tuple #[.int k a, .int k' c]) = .returned (.tuple #[.int k b, .int k' d]) := by rw [h, h']
theorem ret_ib {k : IntKind} {a b : Int} {c d : Bool} (h : a = b) (h' : c = d) : Ending.returned (.tuple #[.int k a, .bool c]) = .returned (.tuple #[.int k b, .bool d]) := by rw [h, h']

set_option maxHeartbeats 400000 in
theorem inRange_any (n : Int) (w : World) : Calls Tryd.prog 40 #[.int .i64 n] w fun e w' => e = .returned (.bool (WP.inR n)) ∧ w = w' := by
  by_cases h1 : -1099511627776 < n
  · by_cases h2 : n < 1099511627776
    · go_enter Tryd.func40, Tryd.ntmps40
      go_wp2
      go_ret
      exact ⟨ret_b (by simp [WP.inR, h1, h2]), rfl⟩
    · go_enter Tryd.func40, Tryd.ntmps40
      go_wp2
      go_ret
      exact ⟨ret_b (by simp [WP.inR]; try omega), rfl⟩
  · go_enter Tryd.func40, Tryd.ntmps40
    go_wp2
    go_ret
    exact ⟨ret_b (by simp [WP.inR]; try omega), rfl⟩
set_option maxHeartbeats 400000 in
theorem numb_any (k : Int) (w : World) : Calls Tryd.prog 38 #[.int .i64 k] w fun e w' => e = .returned (.bool (WP.kindB k)) ∧ w = w' := by
  by_cases h1 : k = 1
  · subst h1
    go_enter Tryd.func38, Tryd.ntmps38
    go_wp2
    go_ret
    exact ⟨ret_b (by decide), rfl⟩
  · by_cases h2 : k = 3
    · subst h2
      go_enter Tryd.func38, Tryd.ntmps38
      go_wp2
      go_ret
      exact ⟨ret_b (by decide), rfl⟩
    · by_cases h3 : k = 4
      · subst h3
        go_enter Tryd.func38, Tryd.ntmps38
        go_wp2
        go_ret
        exact ⟨ret_b (by decide), rfl⟩
      · go_enter Tryd.func38, Tryd.ntmps38
        go_wp2
        go_ret
        exact ⟨ret_b (by simp [WP.kindB]), rfl⟩
set_option maxHeartbeats 400000 in
theorem toint_any (n : Int) (hu : WP.U n) (w : World) : Calls Tryd.prog 39 #[.int .u64 n] w fun e w' => e = .returned (.tuple #[.int .i64 (WP.toIntN n), .bool (WP.toIntB n)]) ∧ w = w' := by
  have ha := WP.and7 n hu
  have hs := WP.sgn_wrap64 n hu
  clear hu
  cases h8 : (n % 8 != 0)
  · cases hr : WP.inR (WP.sgn n)
    · have h := WP.toIntB_out n hr
      have H := Lib.hid h
      clear h
      go_enter Tryd.func39, Tryd.ntmps39
      go_wp2_with (go_at_call 40; refine (inRange_any _ _).mono ?_; rintro e w' ⟨rfl, rfl⟩)
      go_ret2
      exact ⟨ret_ib (by simp [WP.toIntN, H.out]) (by simp [H.out]), rfl⟩
    · have h := WP.toIntB_yes n h8 hr
      have H := Lib.hid h
      clear h
      go_enter Tryd.func39, Tryd.ntmps39
      go_wp2_with (go_at_call 40; refine (inRange_any _ _).mono ?_; rintro e w' ⟨rfl, rfl⟩)
      go_ret2
      exact ⟨ret_ib (by simp [WP.toIntN, H.out]) (by simp [H.out]), rfl⟩
  · have h := WP.toIntB_no n h8
    have H := Lib.hid h
    clear h
    go_enter Tryd.func39, Tryd.ntmps39
    go_wp2_with (go_at_call 40; refine (inRange_any _ _).mono ?_; rintro e w' ⟨rfl, rfl⟩)
    go_ret2
    exact ⟨ret_ib (by simp [WP.toIntN, H.out]) (by simp [H.out]), rfl⟩
set_option maxHeartbeats 400000 in
theorem to_any (k n : Int) (hu : WP.U n) (w : World) : Calls Tryd.prog 34 #[.int .i64 k, .int .u64 n] w fun e w' => e = .returned (.tuple #[.int .i64 (WP.toN k n), .bool (WP.toB k n)]) ∧ w = w' := by
  have ha := WP.and7 n hu
  have hn0 : 0 ≤ n := hu.1
  have hn1 : n / 8 < 2305843009213693952 := by have := hu.2; omega
  clear hu
  cases h0 : WP.kindB k
  · have H := Lib.hid (show WP.toB k n = false by simp [WP.toB, h0])
    go_enter Tryd.func34, Tryd.ntmps34
    go_wp2_with (go_at_call 38; refine (numb_any _ _).mono ?_; rintro e w' ⟨rfl, rfl⟩)
    go_ret2
    exact ⟨ret_ib (by simp [WP.toN, H.out]) (by simp [H.out]), rfl⟩
  · obtain hk := (WP.kindB_iff k).1 h0
    by_cases hm : n % 8 = k
    · by_cases hl : n / 8 < 1099511627776
      · have H := Lib.hid (show WP.toB k n = true by simp [WP.toB, h0, hm, hl])
        have ht : (n % 8 != k) = false := by simp [hm]
        clear hm
        rcases hk with rfl | rfl | rfl
        all_goals
          go_enter Tryd.func34, Tryd.ntmps34
          go_wp2_with (go_at_call 38; refine (numb_any _ _).mono ?_; rintro e w' ⟨rfl, rfl⟩)
          go_ret2
          exact ⟨ret_ib (by simp [WP.toN, H.out]) (by simp [H.out]), rfl⟩
      · have H := Lib.hid (show WP.toB k n = false by simp [WP.toB, hl])
        have ht : (n % 8 != k) = false := by simp [hm]
        clear hm
        rcases hk with rfl | rfl | rfl
        all_goals
          go_enter Tryd.func34, Tryd.ntmps34
          go_wp2_with (go_at_call 38; refine (numb_any _ _).mono ?_; rintro e w' ⟨rfl, rfl⟩)
          go_ret2
          exact ⟨ret_ib (by simp [WP.toN, H.out]) (by simp [H.out]), rfl⟩
    · have H := Lib.hid (show WP.toB k n = false by simp [WP.toB, hm])
      have ht : (n % 8 != k) = true := by simp [hm]
      clear hm
      rcases hk with rfl | rfl | rfl
      all_goals
        go_enter Tryd.func34, Tryd.ntmps34
        go_wp2_with (go_at_call 38; refine (numb_any _ _).mono ?_; rintro e w' ⟨rfl, rfl⟩)
        go_ret2
        exact ⟨ret_ib (by simp [WP.toN, H.out]) (by simp [H.out]), rfl⟩
end WW
end Go.Proofs.YthhibcfljekibaaDoor

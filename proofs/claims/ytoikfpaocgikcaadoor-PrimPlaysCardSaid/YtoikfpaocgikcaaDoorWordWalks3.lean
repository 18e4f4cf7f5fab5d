/-
  Contracts of the document's ToInt, To and May of layer 1. Condition: a word lies in 64 bits.
-/
import Derived.Test.YtoikfpaocgikcaaDoorProg
import Derived.Test.YtoikfpaocgikcaaDoorWordAll
import Derived.Test.YtoikfpaocgikcaaDoorWordWalks2
import Derived.Lib.Hide
namespace Go.Proofs.YtoikfpaocgikcaaDoor
open Go.RowKit
namespace WW
set_option maxHeartbeats 400000 in
theorem rtoint_any (n : Int) (hu : WP.U n) (w : World) : Calls Tryd.prog 33 #[.int .u64 n] w fun e w' => e = .returned (.tuple #[.int .i64 (WP.toIntN n), .bool (WP.toIntB n)]) ∧ w = w' := by
  have hq := WP.rq_eq n
  cases h : WP.toIntB n
  · rcases WP.rtoint_no n hu h with hE | ⟨hE, hW⟩
    all_goals
      have H := Lib.hid h
      clear h hu
      go_enter Tryd.func33, Tryd.ntmps33
      go_wp2_with (go_at_call 49; refine (rint_any _ _).mono ?_; rintro e w' ⟨rfl, rfl⟩)
      go_ret2
      exact ⟨ret_ib (by simp [WP.toIntN, H.out]) rfl, rfl⟩
  · obtain ⟨hE, hW, hN⟩ := WP.rtoint_yes n hu h
    have HN := Lib.hid hN
    clear h hu hN
    go_enter Tryd.func33, Tryd.ntmps33
    go_wp2_with (go_at_call 49; refine (rint_any _ _).mono ?_; rintro e w' ⟨rfl, rfl⟩)
    go_ret2
    exact ⟨ret_ib HN.out rfl, rfl⟩
set_option maxHeartbeats 400000 in
theorem rto_any (k n : Int) (hu : WP.U n) (w : World) : Calls Tryd.prog 34 #[.int .i64 k, .int .u64 n] w fun e w' => e = .returned (.tuple #[.int .i64 (WP.toN k n), .bool (WP.toB k n)]) ∧ w = w' := by
  have hn0 : 0 ≤ n := hu.1
  have hn1 : n / 8 < 2305843009213693952 := by have := hu.2; omega
  have hn2 : n ≤ 18446744073709551615 := by have := hu.2; omega
  cases h : WP.toB k n
  · rcases WP.rto_no2 k n h with hE | ⟨hE, hW⟩
    all_goals
      have H := Lib.hid h
      clear h hu
      go_enter Tryd.func34, Tryd.ntmps34
      go_wp2_with (go_at_call 21; refine (rof_any _ _ _).mono ?_; rintro e w' ⟨rfl, rfl⟩)
      go_ret2
      exact ⟨ret_ib (by simp [WP.toN, H.out]) rfl, rfl⟩
  · obtain ⟨hE, hW, hN⟩ := WP.rto_yes2 k n hu h
    have HN := Lib.hid hN
    clear h hu hN
    go_enter Tryd.func34, Tryd.ntmps34
    go_wp2_with (go_at_call 21; refine (rof_any _ _ _).mono ?_; rintro e w' ⟨rfl, rfl⟩)
    go_ret2
    exact ⟨ret_ib HN.out rfl, rfl⟩
end WW
end Go.Proofs.YtoikfpaocgikcaaDoor

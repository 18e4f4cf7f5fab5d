/-
  Contracts of layer 1's May and Bool and of the document's Of, ToInt, To, May and Bool. Condition: a word lies in 64 bits.
-/
import Derived.Test.YtoikfpaocgikcaaDoorProg
import Derived.Test.YtoikfpaocgikcaaDoorWordAll
import Derived.Lib.Hide
namespace Go.Proofs.YtoikfpaocgikcaaDoor
open Go.RowKit
namespace WW
theorem ret_u {k : IntKind} {a b : Int} (h : a = b) : Ending.returned (.int k a) = .returned (.int k b) := by rw [h]
theorem bool_any (b : Bool) (w : World) : Calls Tryd.prog 41 #[.bool b] w fun e w' => e = .returned (.int .u64 (WP.boolW b)) ∧ w = w' := by
  cases b
  all_goals
    go_enter Tryd.func41, Tryd.ntmps41
    go_wp2
    go_ret
    exact ⟨rfl, rfl⟩
theorem rbool_any (b : Bool) (w : World) : Calls Tryd.prog 32 #[.bool b] w fun e w' => e = .returned (.int .u64 (WP.boolW b)) ∧ w = w' := by
  cases b
  all_goals
    go_enter Tryd.func32, Tryd.ntmps32
    go_wp2
    go_ret
    exact ⟨rfl, rfl⟩
set_option maxHeartbeats 400000 in
theorem rof_any (k n : Int) (w : World) : Calls Tryd.prog 21 #[.int .i64 k, .int .i64 n] w fun e w' => e = .returned (.tuple #[.int .u64 (WP.ofW k n), .int .i64 (WP.ofE k n)]) ∧ w = w' := by
  cases h0 : WP.kindB k
  · have hk : ¬ (k = 1 ∨ k = 3 ∨ k = 4) := by rw [← WP.kindB_iff, h0]; simp
    have H := Lib.hid (show WP.ofB k n = false by simp [WP.ofB, h0])
    have h1 : (k != 1) = true := by rw [bne_iff_ne]; omega
    have h3 : (k != 3) = true := by rw [bne_iff_ne]; omega
    have h4 : (k != 4) = true := by rw [bne_iff_ne]; omega
    clear hk h0
    go_enter Tryd.func21, Tryd.ntmps21
    go_wp2
    go_ret2
    exact ⟨ret_2 (by simp [WP.ofW, H.out]) (by simp [WP.ofE, H.out]), rfl⟩
  · by_cases h1 : 0 ≤ n
    · by_cases h2 : n < 1099511627776
      · have H := Lib.hid (WP.ofB_mk k n h0 h1 h2)
        have hk := (WP.kindB_iff k).1 h0
        clear h0
        rcases hk with rfl | rfl | rfl
        all_goals
          go_enter Tryd.func21, Tryd.ntmps21
          go_wp2
          go_ret2
          exact ⟨ret_2 (by simp [WP.ofW, H.out]) (by simp [WP.ofE, H.out]), rfl⟩
      · have H := Lib.hid (WP.ofB_hi k n h2)
        have hk := (WP.kindB_iff k).1 h0
        clear h0
        rcases hk with rfl | rfl | rfl
        all_goals
          go_enter Tryd.func21, Tryd.ntmps21
          go_wp2
          go_ret2
          exact ⟨ret_2 (by simp [WP.ofW, H.out]) (by simp [WP.ofE, H.out]), rfl⟩
    · have H := Lib.hid (WP.ofB_lo k n h1)
      have hk := (WP.kindB_iff k).1 h0
      clear h0
      rcases hk with rfl | rfl | rfl
      all_goals
        go_enter Tryd.func21, Tryd.ntmps21
        go_wp2
        go_ret2
        exact ⟨ret_2 (by simp [WP.ofW, H.out]) (by simp [WP.ofE, H.out]), rfl⟩
end WW
end Go.Proofs.YtoikfpaocgikcaaDoor

/-
  Contracts of layer 1's May and Bool and of the document's Of, ToInt, To, May and Bool. Condition: a word lies in 64 bits.
-/
import Derived.Test.YthhibcfljekibaaDoorProg
import Derived.Test.YthhibcfljekibaaDoorWordPlain
import Derived.Test.YthhibcfljekibaaDoorWordWalks1
import Derived.Lib.Hide
namespace Go.Proofs.YthhibcfljekibaaDoor
open Go.RowKit
namespace WW
theorem ret_u {k : IntKind} {a b : Int} (h : a = b) : Ending.returned (.int k a) = .returned (.int k b) := by rw [h]
set_option maxHeartbeats 400000 in
theorem may_any (n : Int) (hu : WP.U n) (w : World) : Calls Tryd.prog 35 #[.int .u64 n] w fun e w' => e = .returned (.bool (WP.mayB n)) ∧ w = w' := by
  have ha := WP.and7 n hu
  have hn0 : 0 ≤ n := hu.1
  have hk0 : 0 ≤ n % 8 := by omega
  have hk1 : n % 8 < 8 := by omega
  have HU := Lib.hid hu
  clear hu
  by_cases h : n = 2 ∨ n = 10 ∨ n = 18 ∨ n = 26
  · rcases h with rfl | rfl | rfl | rfl
    all_goals
      go_enter Tryd.func35, Tryd.ntmps35
      go_wp2
      go_ret
      exact ⟨rfl, rfl⟩
  · have h2 : (n == 2) = false := by rw [beq_eq_false_iff_ne]; omega
    have h10 : (n == 10) = false := by rw [beq_eq_false_iff_ne]; omega
    have h18 : (n == 18) = false := by rw [beq_eq_false_iff_ne]; omega
    have h26 : (n == 26) = false := by rw [beq_eq_false_iff_ne]; omega
    clear h
    cases hi : WP.toIntB n
    · have H := Lib.hid (WP.may_last n h2 h10 h18 h26 hi)
      go_enter Tryd.func35, Tryd.ntmps35
      go_wp2_with (first | (go_at_call 39; refine (toint_any _ HU.out _).mono ?_; rintro e w' ⟨rfl, rfl⟩) | (go_at_call 34; refine (to_any _ _ HU.out _).mono ?_; rintro e w' ⟨rfl, rfl⟩))
      go_ret
      exact ⟨ret_b H.out.symm, rfl⟩
    · have H := Lib.hid (WP.may_yes n hi)
      go_enter Tryd.func35, Tryd.ntmps35
      go_wp2_with (first | (go_at_call 39; refine (toint_any _ HU.out _).mono ?_; rintro e w' ⟨rfl, rfl⟩) | (go_at_call 34; refine (to_any _ _ HU.out _).mono ?_; rintro e w' ⟨rfl, rfl⟩))
      go_ret
      exact ⟨ret_b H.out.symm, rfl⟩
end WW
end Go.Proofs.YthhibcfljekibaaDoor

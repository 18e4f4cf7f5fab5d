/-
  The walks of layer 1's statements WordMakes, WordTells and WordDoes: each answers true. Condition: a word lies in 64 bits.
-/
import Derived.Test.YtonjmebhiegbpaaProg
import Derived.Test.YtonjmebhiegbpaaWordPlain
import Derived.Test.YtonjmebhiegbpaaWordPlain2
import Derived.Test.YtonjmebhiegbpaaWordWalks1
import Derived.Test.YtonjmebhiegbpaaWordWalks2
import Derived.Test.YtonjmebhiegbpaaWordWalks3
import Derived.Test.YtonjmebhiegbpaaWordWalks4
import Derived.Test.YtonjmebhiegbpaaWordWalks5
import Derived.Test.YtonjmebhiegbpaaWordShown
import Derived.Lib.Hide
namespace Go.Proofs.Ytonjmebhiegbpaa
open Go.RowKit
namespace WL
open WW
theorem sameI (a : Int) : (a == a) = true := by simp
theorem sameB (a : Bool) : (a == a) = true := by simp
theorem U_of (n : Int) (h : (Lit.int .u64 n).wf = true) : WP.U n := by
  simp [Lit.wf, IntKind.min, IntKind.max, IntKind.signed, IntKind.bits] at h
  unfold WP.U; omega
set_option maxHeartbeats 400000 in
theorem makes (k n : Int) (w : World) : Calls Try.prog 3 #[.int .i64 k, .int .i64 n] w fun e w' => e = .returned (.bool true) ∧ w = w' := by
  go_enter Try.func3, Try.ntmps3
  go_wp2_with (first | (go_at_call 11; refine (int_any _ _).mono ?_; rintro e w' ⟨rfl, rfl⟩) | (go_at_call 12; refine (rint_any _ _).mono ?_; rintro e w' ⟨rfl, rfl⟩) | (go_at_call 13; refine (of_any _ _ _).mono ?_; rintro e w' ⟨rfl, rfl⟩) | (go_at_call 14; refine (rof_any _ _ _).mono ?_; rintro e w' ⟨rfl, rfl⟩) | (go_at_call 15; refine (shown_any _).mono ?_; rintro e w' ⟨rfl, rfl⟩) | (go_at_call 16; refine (bool_any _ _).mono ?_; rintro e w' ⟨rfl, rfl⟩) | (go_at_call 17; refine (rbool_any _ _).mono ?_; rintro e w' ⟨rfl, rfl⟩))
  go_ret
  exact ⟨rfl, rfl⟩
set_option maxHeartbeats 400000 in
theorem tells (x k : Int) (hu : WP.U x) (w : World) : Calls Try.prog 4 #[.int .u64 x, .int .i64 k] w fun e w' => e = .returned (.bool true) ∧ w = w' := by
  have HU := Lib.hid hu
  clear hu
  go_enter Try.func4, Try.ntmps4
  go_wp2_with (first | (go_at_call 18; refine (toint_any _ HU.out _).mono ?_; rintro e w' ⟨rfl, rfl⟩) | (go_at_call 19; refine (rtoint_any _ HU.out _).mono ?_; rintro e w' ⟨rfl, rfl⟩) | (go_at_call 20; refine (to_any _ _ HU.out _).mono ?_; rintro e w' ⟨rfl, rfl⟩) | (go_at_call 21; refine (rto_any _ _ HU.out _).mono ?_; rintro e w' ⟨rfl, rfl⟩) | (go_at_call 15; refine (shown_any _).mono ?_; rintro e w' ⟨rfl, rfl⟩) | (go_at_call 22; refine (may_any _ HU.out _).mono ?_; rintro e w' ⟨rfl, rfl⟩) | (go_at_call 23; refine (rmay_any _ HU.out _).mono ?_; rintro e w' ⟨rfl, rfl⟩))
  go_ret
  exact ⟨rfl, rfl⟩
set_option maxHeartbeats 400000 in
theorem does (o a b : Int) (ha : WP.U a) (hb : WP.U b) (w : World) : Calls Try.prog 5 #[.int .u8 o, .int .u64 a, .int .u64 b] w fun e w' => e = .returned (.bool true) ∧ w = w' := by
  have HA := Lib.hid ha
  have HB := Lib.hid hb
  clear ha hb
  go_enter Try.func5, Try.ntmps5
  go_wp2_with (first | (go_at_call 24; refine (do_any _ _ _ HA.out HB.out _).mono ?_; rintro e w' ⟨rfl, rfl⟩) | (go_at_call 25; refine (rdo_any _ _ _ HA.out HB.out _).mono ?_; rintro e w' ⟨rfl, rfl⟩) | (go_at_call 15; refine (shown_any _).mono ?_; rintro e w' ⟨rfl, rfl⟩))
  go_ret
  exact ⟨rfl, rfl⟩
end WL
end Go.Proofs.Ytonjmebhiegbpaa

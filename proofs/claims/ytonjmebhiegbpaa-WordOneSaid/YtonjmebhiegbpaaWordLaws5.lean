/-
  The walk of layer 1's statement WordOne: it answers true for any word and any number. Condition: a word lies in 64 bits.
-/
import Derived.Test.YtonjmebhiegbpaaProg
import Derived.Test.YtonjmebhiegbpaaWordPlain
import Derived.Test.YtonjmebhiegbpaaWordPlain2
import Derived.Test.YtonjmebhiegbpaaWordPlain3
import Derived.Test.YtonjmebhiegbpaaWordPlain6
import Derived.Test.YtonjmebhiegbpaaWordWalks1
import Derived.Test.YtonjmebhiegbpaaWordWalks2
import Derived.Test.YtonjmebhiegbpaaWordShown
import Derived.Lib.Hide
import Derived.LoopN
namespace Go.Proofs.Ytonjmebhiegbpaa
open Go.RowKit
namespace WL
open WW
set_option maxRecDepth 100000 in
set_option maxHeartbeats 4000000 in
theorem one (x n : Int) (hu : WP.U x) (w : World) : Calls Try.prog 6 #[.int .u64 x, .int .i64 n] w fun e w' => e = .returned (.bool true) ∧ Grown w w' := by
  have HU := Lib.hid hu
  cases hi : WP.toIntB x
  · have HI := Lib.hid (show WP.b2i (WP.toIntB x) = 0 by rw [hi]; rfl)
    clear hu
    go_enter Try.func6, Try.ntmps6
    go_wp2_with (first | (go_at_call 11; refine (int_any _ _).mono ?_; rintro e w' ⟨rfl, rfl⟩) | (go_at_call 15; refine (shown_any _).mono ?_; rintro e w' ⟨rfl, rfl⟩) | (go_at_call 18; refine (toint_any _ (by first | exact HU.out | exact WP.intW_u _) _).mono ?_; rintro e w' ⟨rfl, rfl⟩) | (go_at_call 20; refine (to_any _ _ (by first | exact HU.out | exact WP.ofW_u _ _) _).mono ?_; rintro e w' ⟨rfl, rfl⟩) | (go_at_call 13; refine (of_any _ _ _).mono ?_; rintro e w' ⟨rfl, rfl⟩) | (go_at_call 22; refine (may_any _ (by first | exact HU.out | exact WP.ofW_u _ _) _).mono ?_; rintro e w' ⟨rfl, rfl⟩))
    go_loop [6, 50] (fun t i => ∃ j : Nat, j ≤ 3 ∧ t = .int .i64 (WP.th1 x j) ∧ i = .int .i64 (j : Int)) (fun _ i => (3 - intOf i).toNat)
    case atStart => exact ⟨0, by omega, by rw [show WP.th1 x 0 = _ from HI.out], rfl⟩
    case round =>
      obtain ⟨j, hj, rfl, rfl⟩ := hrel
      obtain ⟨b1, b2⟩ := WP.th1_bd x j
      have hj' : j = 0 ∨ j = 1 ∨ j = 2 ∨ j = 3 := by omega
      rcases hj' with rfl | rfl | rfl | rfl
      · cases hT : WP.toB 1 x
        · have E := Lib.hid (WP.th1_no x 0 hT)
          cases hO : WP.ofB 1 n
          · have o1 := WP.of_no 1 n hO
            clear hO
            go_wp2_with (first | (go_at_call 11; refine (int_any _ _).mono ?_; rintro e w' ⟨rfl, rfl⟩) | (go_at_call 15; refine (shown_any _).mono ?_; rintro e w' ⟨rfl, rfl⟩) | (go_at_call 18; refine (toint_any _ (by first | exact HU.out | exact WP.intW_u _) _).mono ?_; rintro e w' ⟨rfl, rfl⟩) | (go_at_call 20; refine (to_any _ _ (by first | exact HU.out | exact WP.ofW_u _ _) _).mono ?_; rintro e w' ⟨rfl, rfl⟩) | (go_at_call 13; refine (of_any _ _ _).mono ?_; rintro e w' ⟨rfl, rfl⟩) | (go_at_call 22; refine (may_any _ (by first | exact HU.out | exact WP.ofW_u _ _) _).mono ?_; rintro e w' ⟨rfl, rfl⟩))
            exact ⟨⟨1, by omega, by rw [E.out], rfl⟩, by simp [intOf]⟩
          · obtain ⟨o1, o2, o3, o4⟩ := WP.of_ok 1 n hO
            clear hO
            go_wp2_with (first | (go_at_call 11; refine (int_any _ _).mono ?_; rintro e w' ⟨rfl, rfl⟩) | (go_at_call 15; refine (shown_any _).mono ?_; rintro e w' ⟨rfl, rfl⟩) | (go_at_call 18; refine (toint_any _ (by first | exact HU.out | exact WP.intW_u _) _).mono ?_; rintro e w' ⟨rfl, rfl⟩) | (go_at_call 20; refine (to_any _ _ (by first | exact HU.out | exact WP.ofW_u _ _) _).mono ?_; rintro e w' ⟨rfl, rfl⟩) | (go_at_call 13; refine (of_any _ _ _).mono ?_; rintro e w' ⟨rfl, rfl⟩) | (go_at_call 22; refine (may_any _ (by first | exact HU.out | exact WP.ofW_u _ _) _).mono ?_; rintro e w' ⟨rfl, rfl⟩))
            exact ⟨⟨1, by omega, by rw [E.out], rfl⟩, by simp [intOf]⟩
        · obtain ⟨t1, t2⟩ := WP.to_ok 1 x HU.out hT
          have E := Lib.hid (WP.th1_yes x 0 hT)
          cases hO : WP.ofB 1 n
          · have o1 := WP.of_no 1 n hO
            clear hO
            go_wp2_with (first | (go_at_call 11; refine (int_any _ _).mono ?_; rintro e w' ⟨rfl, rfl⟩) | (go_at_call 15; refine (shown_any _).mono ?_; rintro e w' ⟨rfl, rfl⟩) | (go_at_call 18; refine (toint_any _ (by first | exact HU.out | exact WP.intW_u _) _).mono ?_; rintro e w' ⟨rfl, rfl⟩) | (go_at_call 20; refine (to_any _ _ (by first | exact HU.out | exact WP.ofW_u _ _) _).mono ?_; rintro e w' ⟨rfl, rfl⟩) | (go_at_call 13; refine (of_any _ _ _).mono ?_; rintro e w' ⟨rfl, rfl⟩) | (go_at_call 22; refine (may_any _ (by first | exact HU.out | exact WP.ofW_u _ _) _).mono ?_; rintro e w' ⟨rfl, rfl⟩))
            exact ⟨⟨1, by omega, by rw [← E.out], rfl⟩, by simp [intOf]⟩
          · obtain ⟨o1, o2, o3, o4⟩ := WP.of_ok 1 n hO
            clear hO
            go_wp2_with (first | (go_at_call 11; refine (int_any _ _).mono ?_; rintro e w' ⟨rfl, rfl⟩) | (go_at_call 15; refine (shown_any _).mono ?_; rintro e w' ⟨rfl, rfl⟩) | (go_at_call 18; refine (toint_any _ (by first | exact HU.out | exact WP.intW_u _) _).mono ?_; rintro e w' ⟨rfl, rfl⟩) | (go_at_call 20; refine (to_any _ _ (by first | exact HU.out | exact WP.ofW_u _ _) _).mono ?_; rintro e w' ⟨rfl, rfl⟩) | (go_at_call 13; refine (of_any _ _ _).mono ?_; rintro e w' ⟨rfl, rfl⟩) | (go_at_call 22; refine (may_any _ (by first | exact HU.out | exact WP.ofW_u _ _) _).mono ?_; rintro e w' ⟨rfl, rfl⟩))
            exact ⟨⟨1, by omega, by rw [← E.out], rfl⟩, by simp [intOf]⟩
      · cases hT : WP.toB 3 x
        · have E := Lib.hid (WP.th1_no x 1 hT)
          cases hO : WP.ofB 3 n
          · have o1 := WP.of_no 3 n hO
            clear hO
            go_wp2_with (first | (go_at_call 11; refine (int_any _ _).mono ?_; rintro e w' ⟨rfl, rfl⟩) | (go_at_call 15; refine (shown_any _).mono ?_; rintro e w' ⟨rfl, rfl⟩) | (go_at_call 18; refine (toint_any _ (by first | exact HU.out | exact WP.intW_u _) _).mono ?_; rintro e w' ⟨rfl, rfl⟩) | (go_at_call 20; refine (to_any _ _ (by first | exact HU.out | exact WP.ofW_u _ _) _).mono ?_; rintro e w' ⟨rfl, rfl⟩) | (go_at_call 13; refine (of_any _ _ _).mono ?_; rintro e w' ⟨rfl, rfl⟩) | (go_at_call 22; refine (may_any _ (by first | exact HU.out | exact WP.ofW_u _ _) _).mono ?_; rintro e w' ⟨rfl, rfl⟩))
            exact ⟨⟨2, by omega, by rw [E.out], rfl⟩, by simp [intOf]⟩
          · obtain ⟨o1, o2, o3, o4⟩ := WP.of_ok 3 n hO
            clear hO
            go_wp2_with (first | (go_at_call 11; refine (int_any _ _).mono ?_; rintro e w' ⟨rfl, rfl⟩) | (go_at_call 15; refine (shown_any _).mono ?_; rintro e w' ⟨rfl, rfl⟩) | (go_at_call 18; refine (toint_any _ (by first | exact HU.out | exact WP.intW_u _) _).mono ?_; rintro e w' ⟨rfl, rfl⟩) | (go_at_call 20; refine (to_any _ _ (by first | exact HU.out | exact WP.ofW_u _ _) _).mono ?_; rintro e w' ⟨rfl, rfl⟩) | (go_at_call 13; refine (of_any _ _ _).mono ?_; rintro e w' ⟨rfl, rfl⟩) | (go_at_call 22; refine (may_any _ (by first | exact HU.out | exact WP.ofW_u _ _) _).mono ?_; rintro e w' ⟨rfl, rfl⟩))
            exact ⟨⟨2, by omega, by rw [E.out], rfl⟩, by simp [intOf]⟩
        · obtain ⟨t1, t2⟩ := WP.to_ok 3 x HU.out hT
          have E := Lib.hid (WP.th1_yes x 1 hT)
          cases hO : WP.ofB 3 n
          · have o1 := WP.of_no 3 n hO
            clear hO
            go_wp2_with (first | (go_at_call 11; refine (int_any _ _).mono ?_; rintro e w' ⟨rfl, rfl⟩) | (go_at_call 15; refine (shown_any _).mono ?_; rintro e w' ⟨rfl, rfl⟩) | (go_at_call 18; refine (toint_any _ (by first | exact HU.out | exact WP.intW_u _) _).mono ?_; rintro e w' ⟨rfl, rfl⟩) | (go_at_call 20; refine (to_any _ _ (by first | exact HU.out | exact WP.ofW_u _ _) _).mono ?_; rintro e w' ⟨rfl, rfl⟩) | (go_at_call 13; refine (of_any _ _ _).mono ?_; rintro e w' ⟨rfl, rfl⟩) | (go_at_call 22; refine (may_any _ (by first | exact HU.out | exact WP.ofW_u _ _) _).mono ?_; rintro e w' ⟨rfl, rfl⟩))
            exact ⟨⟨2, by omega, by rw [← E.out], rfl⟩, by simp [intOf]⟩
          · obtain ⟨o1, o2, o3, o4⟩ := WP.of_ok 3 n hO
            clear hO
            go_wp2_with (first | (go_at_call 11; refine (int_any _ _).mono ?_; rintro e w' ⟨rfl, rfl⟩) | (go_at_call 15; refine (shown_any _).mono ?_; rintro e w' ⟨rfl, rfl⟩) | (go_at_call 18; refine (toint_any _ (by first | exact HU.out | exact WP.intW_u _) _).mono ?_; rintro e w' ⟨rfl, rfl⟩) | (go_at_call 20; refine (to_any _ _ (by first | exact HU.out | exact WP.ofW_u _ _) _).mono ?_; rintro e w' ⟨rfl, rfl⟩) | (go_at_call 13; refine (of_any _ _ _).mono ?_; rintro e w' ⟨rfl, rfl⟩) | (go_at_call 22; refine (may_any _ (by first | exact HU.out | exact WP.ofW_u _ _) _).mono ?_; rintro e w' ⟨rfl, rfl⟩))
            exact ⟨⟨2, by omega, by rw [← E.out], rfl⟩, by simp [intOf]⟩
      · cases hT : WP.toB 4 x
        · have E := Lib.hid (WP.th1_no x 2 hT)
          cases hO : WP.ofB 4 n
          · have o1 := WP.of_no 4 n hO
            clear hO
            go_wp2_with (first | (go_at_call 11; refine (int_any _ _).mono ?_; rintro e w' ⟨rfl, rfl⟩) | (go_at_call 15; refine (shown_any _).mono ?_; rintro e w' ⟨rfl, rfl⟩) | (go_at_call 18; refine (toint_any _ (by first | exact HU.out | exact WP.intW_u _) _).mono ?_; rintro e w' ⟨rfl, rfl⟩) | (go_at_call 20; refine (to_any _ _ (by first | exact HU.out | exact WP.ofW_u _ _) _).mono ?_; rintro e w' ⟨rfl, rfl⟩) | (go_at_call 13; refine (of_any _ _ _).mono ?_; rintro e w' ⟨rfl, rfl⟩) | (go_at_call 22; refine (may_any _ (by first | exact HU.out | exact WP.ofW_u _ _) _).mono ?_; rintro e w' ⟨rfl, rfl⟩))
            exact ⟨⟨3, by omega, by rw [E.out], rfl⟩, by simp [intOf]⟩
          · obtain ⟨o1, o2, o3, o4⟩ := WP.of_ok 4 n hO
            clear hO
            go_wp2_with (first | (go_at_call 11; refine (int_any _ _).mono ?_; rintro e w' ⟨rfl, rfl⟩) | (go_at_call 15; refine (shown_any _).mono ?_; rintro e w' ⟨rfl, rfl⟩) | (go_at_call 18; refine (toint_any _ (by first | exact HU.out | exact WP.intW_u _) _).mono ?_; rintro e w' ⟨rfl, rfl⟩) | (go_at_call 20; refine (to_any _ _ (by first | exact HU.out | exact WP.ofW_u _ _) _).mono ?_; rintro e w' ⟨rfl, rfl⟩) | (go_at_call 13; refine (of_any _ _ _).mono ?_; rintro e w' ⟨rfl, rfl⟩) | (go_at_call 22; refine (may_any _ (by first | exact HU.out | exact WP.ofW_u _ _) _).mono ?_; rintro e w' ⟨rfl, rfl⟩))
            exact ⟨⟨3, by omega, by rw [E.out], rfl⟩, by simp [intOf]⟩
        · obtain ⟨t1, t2⟩ := WP.to_ok 4 x HU.out hT
          have E := Lib.hid (WP.th1_yes x 2 hT)
          cases hO : WP.ofB 4 n
          · have o1 := WP.of_no 4 n hO
            clear hO
            go_wp2_with (first | (go_at_call 11; refine (int_any _ _).mono ?_; rintro e w' ⟨rfl, rfl⟩) | (go_at_call 15; refine (shown_any _).mono ?_; rintro e w' ⟨rfl, rfl⟩) | (go_at_call 18; refine (toint_any _ (by first | exact HU.out | exact WP.intW_u _) _).mono ?_; rintro e w' ⟨rfl, rfl⟩) | (go_at_call 20; refine (to_any _ _ (by first | exact HU.out | exact WP.ofW_u _ _) _).mono ?_; rintro e w' ⟨rfl, rfl⟩) | (go_at_call 13; refine (of_any _ _ _).mono ?_; rintro e w' ⟨rfl, rfl⟩) | (go_at_call 22; refine (may_any _ (by first | exact HU.out | exact WP.ofW_u _ _) _).mono ?_; rintro e w' ⟨rfl, rfl⟩))
            exact ⟨⟨3, by omega, by rw [← E.out], rfl⟩, by simp [intOf]⟩
          · obtain ⟨o1, o2, o3, o4⟩ := WP.of_ok 4 n hO
            clear hO
            go_wp2_with (first | (go_at_call 11; refine (int_any _ _).mono ?_; rintro e w' ⟨rfl, rfl⟩) | (go_at_call 15; refine (shown_any _).mono ?_; rintro e w' ⟨rfl, rfl⟩) | (go_at_call 18; refine (toint_any _ (by first | exact HU.out | exact WP.intW_u _) _).mono ?_; rintro e w' ⟨rfl, rfl⟩) | (go_at_call 20; refine (to_any _ _ (by first | exact HU.out | exact WP.ofW_u _ _) _).mono ?_; rintro e w' ⟨rfl, rfl⟩) | (go_at_call 13; refine (of_any _ _ _).mono ?_; rintro e w' ⟨rfl, rfl⟩) | (go_at_call 22; refine (may_any _ (by first | exact HU.out | exact WP.ofW_u _ _) _).mono ?_; rintro e w' ⟨rfl, rfl⟩))
            exact ⟨⟨3, by omega, by rw [← E.out], rfl⟩, by simp [intOf]⟩
      · go_wp2
        go_loop [6, 105] (fun t i => ∃ j : Nat, j ≤ 4 ∧ t = .int .i64 (WP.th2 x j) ∧ i = .int .i64 (j : Int)) (fun _ i => (4 - intOf i).toNat)
        case atStart => exact ⟨0, by omega, rfl, rfl⟩
        case round =>
          obtain ⟨j, hj, rfl, rfl⟩ := hrel
          obtain ⟨b1, b2⟩ := WP.th2_bd x j
          have hj' : j = 0 ∨ j = 1 ∨ j = 2 ∨ j = 3 ∨ j = 4 := by omega
          rcases hj' with rfl | rfl | rfl | rfl | rfl
          · cases hM : (2 : Int) == x
            · have E := Lib.hid (WP.th2_no x 0 hM)
              go_wp2
              exact ⟨⟨1, by omega, by rw [E.out], rfl⟩, by simp [intOf]⟩
            · have E := Lib.hid (WP.th2_yes x 0 hM)
              go_wp2
              exact ⟨⟨1, by omega, by rw [← E.out], rfl⟩, by simp [intOf]⟩
          · cases hM : (10 : Int) == x
            · have E := Lib.hid (WP.th2_no x 1 hM)
              go_wp2
              exact ⟨⟨2, by omega, by rw [E.out], rfl⟩, by simp [intOf]⟩
            · have E := Lib.hid (WP.th2_yes x 1 hM)
              go_wp2
              exact ⟨⟨2, by omega, by rw [← E.out], rfl⟩, by simp [intOf]⟩
          · cases hM : (18 : Int) == x
            · have E := Lib.hid (WP.th2_no x 2 hM)
              go_wp2
              exact ⟨⟨3, by omega, by rw [E.out], rfl⟩, by simp [intOf]⟩
            · have E := Lib.hid (WP.th2_yes x 2 hM)
              go_wp2
              exact ⟨⟨3, by omega, by rw [← E.out], rfl⟩, by simp [intOf]⟩
          · cases hM : (26 : Int) == x
            · have E := Lib.hid (WP.th2_no x 3 hM)
              go_wp2
              exact ⟨⟨4, by omega, by rw [E.out], rfl⟩, by simp [intOf]⟩
            · have E := Lib.hid (WP.th2_yes x 3 hM)
              go_wp2
              exact ⟨⟨4, by omega, by rw [← E.out], rfl⟩, by simp [intOf]⟩
          · obtain ⟨a1, a2⟩ := WP.th_all x
            generalize WP.th2 x 4 = T at *
            rcases WP.int_back n with hn | ⟨hn, hn2, hn3⟩
            all_goals
              go_wp2_with (first | (go_at_call 11; refine (int_any _ _).mono ?_; rintro e w' ⟨rfl, rfl⟩) | (go_at_call 15; refine (shown_any _).mono ?_; rintro e w' ⟨rfl, rfl⟩) | (go_at_call 18; refine (toint_any _ (by first | exact HU.out | exact WP.intW_u _) _).mono ?_; rintro e w' ⟨rfl, rfl⟩) | (go_at_call 20; refine (to_any _ _ (by first | exact HU.out | exact WP.ofW_u _ _) _).mono ?_; rintro e w' ⟨rfl, rfl⟩) | (go_at_call 13; refine (of_any _ _ _).mono ?_; rintro e w' ⟨rfl, rfl⟩) | (go_at_call 22; refine (may_any _ (by first | exact HU.out | exact WP.ofW_u _ _) _).mono ?_; rintro e w' ⟨rfl, rfl⟩))
              go_ret
              exact ⟨rfl, by repeat (first | exact Grown.refl _ | apply Grown.drew | apply Grown.alloc)⟩
  · obtain ⟨i1, i2⟩ := WP.int_ok x hu hi
    have HI := Lib.hid (show WP.b2i (WP.toIntB x) = 1 by rw [hi]; rfl)
    clear hu
    go_enter Try.func6, Try.ntmps6
    go_wp2_with (first | (go_at_call 11; refine (int_any _ _).mono ?_; rintro e w' ⟨rfl, rfl⟩) | (go_at_call 15; refine (shown_any _).mono ?_; rintro e w' ⟨rfl, rfl⟩) | (go_at_call 18; refine (toint_any _ (by first | exact HU.out | exact WP.intW_u _) _).mono ?_; rintro e w' ⟨rfl, rfl⟩) | (go_at_call 20; refine (to_any _ _ (by first | exact HU.out | exact WP.ofW_u _ _) _).mono ?_; rintro e w' ⟨rfl, rfl⟩) | (go_at_call 13; refine (of_any _ _ _).mono ?_; rintro e w' ⟨rfl, rfl⟩) | (go_at_call 22; refine (may_any _ (by first | exact HU.out | exact WP.ofW_u _ _) _).mono ?_; rintro e w' ⟨rfl, rfl⟩))
    go_loop [6, 50] (fun t i => ∃ j : Nat, j ≤ 3 ∧ t = .int .i64 (WP.th1 x j) ∧ i = .int .i64 (j : Int)) (fun _ i => (3 - intOf i).toNat)
    case atStart => exact ⟨0, by omega, by rw [show WP.th1 x 0 = _ from HI.out], rfl⟩
    case round =>
      obtain ⟨j, hj, rfl, rfl⟩ := hrel
      obtain ⟨b1, b2⟩ := WP.th1_bd x j
      have hj' : j = 0 ∨ j = 1 ∨ j = 2 ∨ j = 3 := by omega
      rcases hj' with rfl | rfl | rfl | rfl
      · cases hT : WP.toB 1 x
        · have E := Lib.hid (WP.th1_no x 0 hT)
          cases hO : WP.ofB 1 n
          · have o1 := WP.of_no 1 n hO
            clear hO
            go_wp2_with (first | (go_at_call 11; refine (int_any _ _).mono ?_; rintro e w' ⟨rfl, rfl⟩) | (go_at_call 15; refine (shown_any _).mono ?_; rintro e w' ⟨rfl, rfl⟩) | (go_at_call 18; refine (toint_any _ (by first | exact HU.out | exact WP.intW_u _) _).mono ?_; rintro e w' ⟨rfl, rfl⟩) | (go_at_call 20; refine (to_any _ _ (by first | exact HU.out | exact WP.ofW_u _ _) _).mono ?_; rintro e w' ⟨rfl, rfl⟩) | (go_at_call 13; refine (of_any _ _ _).mono ?_; rintro e w' ⟨rfl, rfl⟩) | (go_at_call 22; refine (may_any _ (by first | exact HU.out | exact WP.ofW_u _ _) _).mono ?_; rintro e w' ⟨rfl, rfl⟩))
            exact ⟨⟨1, by omega, by rw [E.out], rfl⟩, by simp [intOf]⟩
          · obtain ⟨o1, o2, o3, o4⟩ := WP.of_ok 1 n hO
            clear hO
            go_wp2_with (first | (go_at_call 11; refine (int_any _ _).mono ?_; rintro e w' ⟨rfl, rfl⟩) | (go_at_call 15; refine (shown_any _).mono ?_; rintro e w' ⟨rfl, rfl⟩) | (go_at_call 18; refine (toint_any _ (by first | exact HU.out | exact WP.intW_u _) _).mono ?_; rintro e w' ⟨rfl, rfl⟩) | (go_at_call 20; refine (to_any _ _ (by first | exact HU.out | exact WP.ofW_u _ _) _).mono ?_; rintro e w' ⟨rfl, rfl⟩) | (go_at_call 13; refine (of_any _ _ _).mono ?_; rintro e w' ⟨rfl, rfl⟩) | (go_at_call 22; refine (may_any _ (by first | exact HU.out | exact WP.ofW_u _ _) _).mono ?_; rintro e w' ⟨rfl, rfl⟩))
            exact ⟨⟨1, by omega, by rw [E.out], rfl⟩, by simp [intOf]⟩
        · obtain ⟨t1, t2⟩ := WP.to_ok 1 x HU.out hT
          have E := Lib.hid (WP.th1_yes x 0 hT)
          cases hO : WP.ofB 1 n
          · have o1 := WP.of_no 1 n hO
            clear hO
            go_wp2_with (first | (go_at_call 11; refine (int_any _ _).mono ?_; rintro e w' ⟨rfl, rfl⟩) | (go_at_call 15; refine (shown_any _).mono ?_; rintro e w' ⟨rfl, rfl⟩) | (go_at_call 18; refine (toint_any _ (by first | exact HU.out | exact WP.intW_u _) _).mono ?_; rintro e w' ⟨rfl, rfl⟩) | (go_at_call 20; refine (to_any _ _ (by first | exact HU.out | exact WP.ofW_u _ _) _).mono ?_; rintro e w' ⟨rfl, rfl⟩) | (go_at_call 13; refine (of_any _ _ _).mono ?_; rintro e w' ⟨rfl, rfl⟩) | (go_at_call 22; refine (may_any _ (by first | exact HU.out | exact WP.ofW_u _ _) _).mono ?_; rintro e w' ⟨rfl, rfl⟩))
            exact ⟨⟨1, by omega, by rw [← E.out], rfl⟩, by simp [intOf]⟩
          · obtain ⟨o1, o2, o3, o4⟩ := WP.of_ok 1 n hO
            clear hO
            go_wp2_with (first | (go_at_call 11; refine (int_any _ _).mono ?_; rintro e w' ⟨rfl, rfl⟩) | (go_at_call 15; refine (shown_any _).mono ?_; rintro e w' ⟨rfl, rfl⟩) | (go_at_call 18; refine (toint_any _ (by first | exact HU.out | exact WP.intW_u _) _).mono ?_; rintro e w' ⟨rfl, rfl⟩) | (go_at_call 20; refine (to_any _ _ (by first | exact HU.out | exact WP.ofW_u _ _) _).mono ?_; rintro e w' ⟨rfl, rfl⟩) | (go_at_call 13; refine (of_any _ _ _).mono ?_; rintro e w' ⟨rfl, rfl⟩) | (go_at_call 22; refine (may_any _ (by first | exact HU.out | exact WP.ofW_u _ _) _).mono ?_; rintro e w' ⟨rfl, rfl⟩))
            exact ⟨⟨1, by omega, by rw [← E.out], rfl⟩, by simp [intOf]⟩
      · cases hT : WP.toB 3 x
        · have E := Lib.hid (WP.th1_no x 1 hT)
          cases hO : WP.ofB 3 n
          · have o1 := WP.of_no 3 n hO
            clear hO
            go_wp2_with (first | (go_at_call 11; refine (int_any _ _).mono ?_; rintro e w' ⟨rfl, rfl⟩) | (go_at_call 15; refine (shown_any _).mono ?_; rintro e w' ⟨rfl, rfl⟩) | (go_at_call 18; refine (toint_any _ (by first | exact HU.out | exact WP.intW_u _) _).mono ?_; rintro e w' ⟨rfl, rfl⟩) | (go_at_call 20; refine (to_any _ _ (by first | exact HU.out | exact WP.ofW_u _ _) _).mono ?_; rintro e w' ⟨rfl, rfl⟩) | (go_at_call 13; refine (of_any _ _ _).mono ?_; rintro e w' ⟨rfl, rfl⟩) | (go_at_call 22; refine (may_any _ (by first | exact HU.out | exact WP.ofW_u _ _) _).mono ?_; rintro e w' ⟨rfl, rfl⟩))
            exact ⟨⟨2, by omega, by rw [E.out], rfl⟩, by simp [intOf]⟩
          · obtain ⟨o1, o2, o3, o4⟩ := WP.of_ok 3 n hO
            clear hO
            go_wp2_with (first | (go_at_call 11; refine (int_any _ _).mono ?_; rintro e w' ⟨rfl, rfl⟩) | (go_at_call 15; refine (shown_any _).mono ?_; rintro e w' ⟨rfl, rfl⟩) | (go_at_call 18; refine (toint_any _ (by first | exact HU.out | exact WP.intW_u _) _).mono ?_; rintro e w' ⟨rfl, rfl⟩) | (go_at_call 20; refine (to_any _ _ (by first | exact HU.out | exact WP.ofW_u _ _) _).mono ?_; rintro e w' ⟨rfl, rfl⟩) | (go_at_call 13; refine (of_any _ _ _).mono ?_; rintro e w' ⟨rfl, rfl⟩) | (go_at_call 22; refine (may_any _ (by first | exact HU.out | exact WP.ofW_u _ _) _).mono ?_; rintro e w' ⟨rfl, rfl⟩))
            exact ⟨⟨2, by omega, by rw [E.out], rfl⟩, by simp [intOf]⟩
        · obtain ⟨t1, t2⟩ := WP.to_ok 3 x HU.out hT
          have E := Lib.hid (WP.th1_yes x 1 hT)
          cases hO : WP.ofB 3 n
          · have o1 := WP.of_no 3 n hO
            clear hO
            go_wp2_with (first | (go_at_call 11; refine (int_any _ _).mono ?_; rintro e w' ⟨rfl, rfl⟩) | (go_at_call 15; refine (shown_any _).mono ?_; rintro e w' ⟨rfl, rfl⟩) | (go_at_call 18; refine (toint_any _ (by first | exact HU.out | exact WP.intW_u _) _).mono ?_; rintro e w' ⟨rfl, rfl⟩) | (go_at_call 20; refine (to_any _ _ (by first | exact HU.out | exact WP.ofW_u _ _) _).mono ?_; rintro e w' ⟨rfl, rfl⟩) | (go_at_call 13; refine (of_any _ _ _).mono ?_; rintro e w' ⟨rfl, rfl⟩) | (go_at_call 22; refine (may_any _ (by first | exact HU.out | exact WP.ofW_u _ _) _).mono ?_; rintro e w' ⟨rfl, rfl⟩))
            exact ⟨⟨2, by omega, by rw [← E.out], rfl⟩, by simp [intOf]⟩
          · obtain ⟨o1, o2, o3, o4⟩ := WP.of_ok 3 n hO
            clear hO
            go_wp2_with (first | (go_at_call 11; refine (int_any _ _).mono ?_; rintro e w' ⟨rfl, rfl⟩) | (go_at_call 15; refine (shown_any _).mono ?_; rintro e w' ⟨rfl, rfl⟩) | (go_at_call 18; refine (toint_any _ (by first | exact HU.out | exact WP.intW_u _) _).mono ?_; rintro e w' ⟨rfl, rfl⟩) | (go_at_call 20; refine (to_any _ _ (by first | exact HU.out | exact WP.ofW_u _ _) _).mono ?_; rintro e w' ⟨rfl, rfl⟩) | (go_at_call 13; refine (of_any _ _ _).mono ?_; rintro e w' ⟨rfl, rfl⟩) | (go_at_call 22; refine (may_any _ (by first | exact HU.out | exact WP.ofW_u _ _) _).mono ?_; rintro e w' ⟨rfl, rfl⟩))
            exact ⟨⟨2, by omega, by rw [← E.out], rfl⟩, by simp [intOf]⟩
      · cases hT : WP.toB 4 x
        · have E := Lib.hid (WP.th1_no x 2 hT)
          cases hO : WP.ofB 4 n
          · have o1 := WP.of_no 4 n hO
            clear hO
            go_wp2_with (first | (go_at_call 11; refine (int_any _ _).mono ?_; rintro e w' ⟨rfl, rfl⟩) | (go_at_call 15; refine (shown_any _).mono ?_; rintro e w' ⟨rfl, rfl⟩) | (go_at_call 18; refine (toint_any _ (by first | exact HU.out | exact WP.intW_u _) _).mono ?_; rintro e w' ⟨rfl, rfl⟩) | (go_at_call 20; refine (to_any _ _ (by first | exact HU.out | exact WP.ofW_u _ _) _).mono ?_; rintro e w' ⟨rfl, rfl⟩) | (go_at_call 13; refine (of_any _ _ _).mono ?_; rintro e w' ⟨rfl, rfl⟩) | (go_at_call 22; refine (may_any _ (by first | exact HU.out | exact WP.ofW_u _ _) _).mono ?_; rintro e w' ⟨rfl, rfl⟩))
            exact ⟨⟨3, by omega, by rw [E.out], rfl⟩, by simp [intOf]⟩
          · obtain ⟨o1, o2, o3, o4⟩ := WP.of_ok 4 n hO
            clear hO
            go_wp2_with (first | (go_at_call 11; refine (int_any _ _).mono ?_; rintro e w' ⟨rfl, rfl⟩) | (go_at_call 15; refine (shown_any _).mono ?_; rintro e w' ⟨rfl, rfl⟩) | (go_at_call 18; refine (toint_any _ (by first | exact HU.out | exact WP.intW_u _) _).mono ?_; rintro e w' ⟨rfl, rfl⟩) | (go_at_call 20; refine (to_any _ _ (by first | exact HU.out | exact WP.ofW_u _ _) _).mono ?_; rintro e w' ⟨rfl, rfl⟩) | (go_at_call 13; refine (of_any _ _ _).mono ?_; rintro e w' ⟨rfl, rfl⟩) | (go_at_call 22; refine (may_any _ (by first | exact HU.out | exact WP.ofW_u _ _) _).mono ?_; rintro e w' ⟨rfl, rfl⟩))
            exact ⟨⟨3, by omega, by rw [E.out], rfl⟩, by simp [intOf]⟩
        · obtain ⟨t1, t2⟩ := WP.to_ok 4 x HU.out hT
          have E := Lib.hid (WP.th1_yes x 2 hT)
          cases hO : WP.ofB 4 n
          · have o1 := WP.of_no 4 n hO
            clear hO
            go_wp2_with (first | (go_at_call 11; refine (int_any _ _).mono ?_; rintro e w' ⟨rfl, rfl⟩) | (go_at_call 15; refine (shown_any _).mono ?_; rintro e w' ⟨rfl, rfl⟩) | (go_at_call 18; refine (toint_any _ (by first | exact HU.out | exact WP.intW_u _) _).mono ?_; rintro e w' ⟨rfl, rfl⟩) | (go_at_call 20; refine (to_any _ _ (by first | exact HU.out | exact WP.ofW_u _ _) _).mono ?_; rintro e w' ⟨rfl, rfl⟩) | (go_at_call 13; refine (of_any _ _ _).mono ?_; rintro e w' ⟨rfl, rfl⟩) | (go_at_call 22; refine (may_any _ (by first | exact HU.out | exact WP.ofW_u _ _) _).mono ?_; rintro e w' ⟨rfl, rfl⟩))
            exact ⟨⟨3, by omega, by rw [← E.out], rfl⟩, by simp [intOf]⟩
          · obtain ⟨o1, o2, o3, o4⟩ := WP.of_ok 4 n hO
            clear hO
            go_wp2_with (first | (go_at_call 11; refine (int_any _ _).mono ?_; rintro e w' ⟨rfl, rfl⟩) | (go_at_call 15; refine (shown_any _).mono ?_; rintro e w' ⟨rfl, rfl⟩) | (go_at_call 18; refine (toint_any _ (by first | exact HU.out | exact WP.intW_u _) _).mono ?_; rintro e w' ⟨rfl, rfl⟩) | (go_at_call 20; refine (to_any _ _ (by first | exact HU.out | exact WP.ofW_u _ _) _).mono ?_; rintro e w' ⟨rfl, rfl⟩) | (go_at_call 13; refine (of_any _ _ _).mono ?_; rintro e w' ⟨rfl, rfl⟩) | (go_at_call 22; refine (may_any _ (by first | exact HU.out | exact WP.ofW_u _ _) _).mono ?_; rintro e w' ⟨rfl, rfl⟩))
            exact ⟨⟨3, by omega, by rw [← E.out], rfl⟩, by simp [intOf]⟩
      · go_wp2
        go_loop [6, 105] (fun t i => ∃ j : Nat, j ≤ 4 ∧ t = .int .i64 (WP.th2 x j) ∧ i = .int .i64 (j : Int)) (fun _ i => (4 - intOf i).toNat)
        case atStart => exact ⟨0, by omega, rfl, rfl⟩
        case round =>
          obtain ⟨j, hj, rfl, rfl⟩ := hrel
          obtain ⟨b1, b2⟩ := WP.th2_bd x j
          have hj' : j = 0 ∨ j = 1 ∨ j = 2 ∨ j = 3 ∨ j = 4 := by omega
          rcases hj' with rfl | rfl | rfl | rfl | rfl
          · cases hM : (2 : Int) == x
            · have E := Lib.hid (WP.th2_no x 0 hM)
              go_wp2
              exact ⟨⟨1, by omega, by rw [E.out], rfl⟩, by simp [intOf]⟩
            · have E := Lib.hid (WP.th2_yes x 0 hM)
              go_wp2
              exact ⟨⟨1, by omega, by rw [← E.out], rfl⟩, by simp [intOf]⟩
          · cases hM : (10 : Int) == x
            · have E := Lib.hid (WP.th2_no x 1 hM)
              go_wp2
              exact ⟨⟨2, by omega, by rw [E.out], rfl⟩, by simp [intOf]⟩
            · have E := Lib.hid (WP.th2_yes x 1 hM)
              go_wp2
              exact ⟨⟨2, by omega, by rw [← E.out], rfl⟩, by simp [intOf]⟩
          · cases hM : (18 : Int) == x
            · have E := Lib.hid (WP.th2_no x 2 hM)
              go_wp2
              exact ⟨⟨3, by omega, by rw [E.out], rfl⟩, by simp [intOf]⟩
            · have E := Lib.hid (WP.th2_yes x 2 hM)
              go_wp2
              exact ⟨⟨3, by omega, by rw [← E.out], rfl⟩, by simp [intOf]⟩
          · cases hM : (26 : Int) == x
            · have E := Lib.hid (WP.th2_no x 3 hM)
              go_wp2
              exact ⟨⟨4, by omega, by rw [E.out], rfl⟩, by simp [intOf]⟩
            · have E := Lib.hid (WP.th2_yes x 3 hM)
              go_wp2
              exact ⟨⟨4, by omega, by rw [← E.out], rfl⟩, by simp [intOf]⟩
          · obtain ⟨a1, a2⟩ := WP.th_all x
            generalize WP.th2 x 4 = T at *
            rcases WP.int_back n with hn | ⟨hn, hn2, hn3⟩
            all_goals
              go_wp2_with (first | (go_at_call 11; refine (int_any _ _).mono ?_; rintro e w' ⟨rfl, rfl⟩) | (go_at_call 15; refine (shown_any _).mono ?_; rintro e w' ⟨rfl, rfl⟩) | (go_at_call 18; refine (toint_any _ (by first | exact HU.out | exact WP.intW_u _) _).mono ?_; rintro e w' ⟨rfl, rfl⟩) | (go_at_call 20; refine (to_any _ _ (by first | exact HU.out | exact WP.ofW_u _ _) _).mono ?_; rintro e w' ⟨rfl, rfl⟩) | (go_at_call 13; refine (of_any _ _ _).mono ?_; rintro e w' ⟨rfl, rfl⟩) | (go_at_call 22; refine (may_any _ (by first | exact HU.out | exact WP.ofW_u _ _) _).mono ?_; rintro e w' ⟨rfl, rfl⟩))
              go_ret
              exact ⟨rfl, by repeat (first | exact Grown.refl _ | apply Grown.drew | apply Grown.alloc)⟩
end WL
end Go.Proofs.Ytonjmebhiegbpaa

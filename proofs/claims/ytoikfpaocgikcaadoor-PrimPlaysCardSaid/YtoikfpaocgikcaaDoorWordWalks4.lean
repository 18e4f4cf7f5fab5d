/-
  Contracts of layer 1's abs, isOperation, multiply, divide, compute and Do. Condition: numbers in the range, words in 64 bits.
-/
import Derived.Test.YtoikfpaocgikcaaDoorProg
import Derived.Test.YtoikfpaocgikcaaDoorWordAll
import Derived.Test.YtoikfpaocgikcaaDoorWordPlain2
import Derived.Test.YtoikfpaocgikcaaDoorWordWalks2
import Derived.Test.YtoikfpaocgikcaaDoorWordWalks3
import Derived.Lib.Hide
namespace Go.Proofs.YtoikfpaocgikcaaDoor
open Go.RowKit
namespace WW
set_option maxHeartbeats 400000 in
theorem abs_any (n : Int) (h : WP.inR n = true) (w : World) : Calls Tryd.prog 59 #[.int .i64 n] w fun e w' => e = .returned (.int .i64 (WP.ab n)) ∧ w = w' := by
  obtain ⟨h1, h2⟩ := (WP.inR_iff n).1 h
  clear h
  by_cases h0 : n < 0
  · go_enter Tryd.func59, Tryd.ntmps59
    go_wp2
    go_ret
    exact ⟨ret_u (by simp [WP.ab, h0]), rfl⟩
  · go_enter Tryd.func59, Tryd.ntmps59
    go_wp2
    go_ret
    exact ⟨ret_u (by unfold WP.ab; rw [if_neg (by omega)]), rfl⟩
set_option maxHeartbeats 400000 in
theorem isop_any (o : Int) (w : World) : Calls Tryd.prog 37 #[.int .u8 o] w fun e w' => e = .returned (.bool (WP.opB o)) ∧ w = w' := by
  by_cases h : o = 43 ∨ o = 45 ∨ o = 42 ∨ o = 47 ∨ o = 37 ∨ o = 60 ∨ o = 61
  · rcases h with rfl | rfl | rfl | rfl | rfl | rfl | rfl
    all_goals
      go_enter Tryd.func37, Tryd.ntmps37
      go_wp2
      go_ret
      exact ⟨rfl, rfl⟩
  · have H := Lib.hid (show WP.opB o = false by rw [← Bool.not_eq_true, WP.opB_iff]; exact h)
    have a1 : (o == 43) = false := by rw [beq_eq_false_iff_ne]; omega
    have a2 : (o == 45) = false := by rw [beq_eq_false_iff_ne]; omega
    have a3 : (o == 42) = false := by rw [beq_eq_false_iff_ne]; omega
    have a4 : (o == 47) = false := by rw [beq_eq_false_iff_ne]; omega
    have a5 : (o == 37) = false := by rw [beq_eq_false_iff_ne]; omega
    have a6 : (o == 60) = false := by rw [beq_eq_false_iff_ne]; omega
    have a7 : (o == 61) = false := by rw [beq_eq_false_iff_ne]; omega
    clear h
    go_enter Tryd.func37, Tryd.ntmps37
    go_wp2
    go_ret
    exact ⟨ret_b H.out.symm, rfl⟩
set_option maxHeartbeats 400000 in
theorem mul_any (x y : Int) (hx : WP.inR x = true) (hy : WP.inR y = true) (w : World) : Calls Tryd.prog 55 #[.int .i64 x, .int .i64 y] w fun e w' => e = .returned (.tuple #[.int .u64 (WP.intW (x * y)), .int .i64 (WP.intE (x * y))]) ∧ w = w' := by
  have HX := Lib.hid hx
  have HY := Lib.hid hy
  by_cases h0 : x = 0
  · subst h0
    clear hx hy
    have hz : WP.inR (0 * y) = true := by rw [Int.zero_mul]; decide
    have hw := WP.inR_wrap _ hz
    rw [Int.zero_mul] at hw
    rw [Int.zero_mul]
    go_enter Tryd.func55, Tryd.ntmps55
    go_wp2_with (go_at_call 54; refine (int_any _ _).mono ?_; rintro e w' ⟨rfl, rfl⟩)
    go_ret2
    exact ⟨rfl, rfl⟩
  · have hne : (x != 0) = true := by rw [bne_iff_ne]; exact h0
    have hp : 1 ≤ WP.ab x := by unfold WP.ab; split <;> omega
    have hp2 := WP.ab_lt x hx
    have hp3 := WP.ab_nonneg y
    have hp4 := WP.ab_lt y hy
    by_cases hc : 1099511627775 / WP.ab x < WP.ab y
    · have HO := Lib.hid (WP.mul_over x y h0 hc)
      clear h0 hx hy
      go_enter Tryd.func55, Tryd.ntmps55
      go_wp2_with (go_at_call 59; refine (abs_any _ (by first | exact HX.out | exact HY.out) _).mono ?_; rintro e w' ⟨rfl, rfl⟩)
      go_ret2
      exact ⟨ret_2 (by simp [WP.intW, HO.out]) (by simp [WP.intE, HO.out]), rfl⟩
    · have hin := WP.mul_in x y (.inr (by omega))
      have hw := WP.inR_wrap _ hin
      clear h0 hx hy hin
      go_enter Tryd.func55, Tryd.ntmps55
      go_wp2_with (first | (go_at_call 59; refine (abs_any _ (by first | exact HX.out | exact HY.out) _).mono ?_; rintro e w' ⟨rfl, rfl⟩) | (go_at_call 54; refine (int_any _ _).mono ?_; rintro e w' ⟨rfl, rfl⟩))
      go_ret2
      exact ⟨rfl, rfl⟩
set_option maxHeartbeats 400000 in
theorem div_any (o x y : Int) (ho : o = 47 ∨ o = 37) (hx : WP.inR x = true) (w : World) : Calls Tryd.prog 56 #[.int .u8 o, .int .i64 x, .int .i64 y] w fun e w' => e = .returned (.tuple #[.int .u64 (WP.arW o x y), .int .i64 (WP.arE o x y)]) ∧ w = w' := by
  by_cases hy : y = 0
  · subst hy
    clear hx
    rcases ho with rfl | rfl
    all_goals
      go_enter Tryd.func56, Tryd.ntmps56
      go_wp2
      go_ret2
      exact ⟨ret_2 (by simp [WP.arW]) (by simp [WP.arE]), rfl⟩
  · have hy1 : (y == 0) = false := by rw [beq_eq_false_iff_ne]; exact hy
    have hd := WP.inR_wrap _ (WP.tdiv_in x y hx)
    have hm := WP.inR_wrap _ (WP.tmod_in x y hx)
    have HY := Lib.hid hy
    clear hy hx
    rcases ho with rfl | rfl
    all_goals
      go_enter Tryd.func56, Tryd.ntmps56
      go_wp2_with (go_at_call 54; refine (int_any _ _).mono ?_; rintro e w' ⟨rfl, rfl⟩)
      go_ret2
      exact ⟨ret_2 (by simp [WP.arW, WP.arN, HY.out]) (by simp [WP.arE, WP.arN, HY.out]), rfl⟩
set_option maxHeartbeats 400000 in
theorem comp_any (o x y : Int) (ho : WP.opB o = true) (hx : WP.inR x = true) (hy : WP.inR y = true) (w : World) : Calls Tryd.prog 39 #[.int .u8 o, .int .i64 x, .int .i64 y] w fun e w' => e = .returned (.tuple #[.int .u64 (WP.arW o x y), .int .i64 (WP.arE o x y)]) ∧ w = w' := by
  obtain ⟨hx1, hx2⟩ := (WP.inR_iff x).1 hx
  obtain ⟨hy1, hy2⟩ := (WP.inR_iff y).1 hy
  have HX := Lib.hid hx
  have HY := Lib.hid hy
  clear hx hy
  rcases (WP.opB_iff o).1 ho with rfl | rfl | rfl | rfl | rfl | rfl | rfl
  all_goals
    clear ho
    go_enter Tryd.func39, Tryd.ntmps39
    go_wp2_with (first | (go_at_call 54; refine (int_any _ _).mono ?_; rintro e w' ⟨rfl, rfl⟩) | (go_at_call 55; refine (mul_any _ _ HX.out HY.out _).mono ?_; rintro e w' ⟨rfl, rfl⟩) | (go_at_call 56; refine (div_any _ _ _ (by omega) HX.out _).mono ?_; rintro e w' ⟨rfl, rfl⟩) | (go_at_call 41; refine (bool_any _ _).mono ?_; rintro e w' ⟨rfl, rfl⟩))
    go_ret2
    exact ⟨ret_2 (by simp [WP.arW, WP.arN]) (by simp [WP.arE, WP.arN]), rfl⟩
set_option maxHeartbeats 400000 in
theorem do_any (o a b : Int) (ha : WP.U a) (hb : WP.U b) (w : World) : Calls Tryd.prog 17 #[.int .u8 o, .int .u64 a, .int .u64 b] w fun e w' => e = .returned (.tuple #[.int .u64 (WP.doW o a b), .int .i64 (WP.doE o a b)]) ∧ w = w' := by
  have HA := Lib.hid ha
  have HB := Lib.hid hb
  cases ho : WP.opB o
  · have H := Lib.hid ho
    clear ha hb
    go_enter Tryd.func17, Tryd.ntmps17
    go_wp2_with (go_at_call 37; refine (isop_any _ _).mono ?_; rintro e w' ⟨rfl, rfl⟩)
    go_ret2
    exact ⟨ret_2 (by simp [WP.doW, H.out]) (by simp [WP.doE, H.out]), rfl⟩
  · have H := Lib.hid ho
    cases hA : WP.toIntB a
    all_goals
      cases hB : WP.toIntB b
    rotate_left 3
    · have HAi := Lib.hid (WP.intW_toInt a ha hA).1
      have HBi := Lib.hid (WP.intW_toInt b hb hB).1
      have HAB := Lib.hid (show WP.bothB a b = true by simp [WP.bothB, hA, hB])
      clear ha hb
      go_enter Tryd.func17, Tryd.ntmps17
      go_wp2_with (first | (go_at_call 37; refine (isop_any _ _).mono ?_; rintro e w' ⟨rfl, rfl⟩) | (go_at_call 38; refine (toint_any _ (by first | exact HA.out | exact HB.out) _).mono ?_; rintro e w' ⟨rfl, rfl⟩) | (go_at_call 39; refine (comp_any _ _ _ H.out HAi.out HBi.out _).mono ?_; rintro e w' ⟨rfl, rfl⟩))
      go_ret2
      exact ⟨ret_2 (by simp [WP.doW, H.out, HAB.out]) (by simp [WP.doE, H.out, HAB.out]), rfl⟩
    all_goals
      have HAB := Lib.hid (show WP.bothB a b = false by simp [WP.bothB, hA, hB])
      clear ha hb
      go_enter Tryd.func17, Tryd.ntmps17
      go_wp2_with (first | (go_at_call 37; refine (isop_any _ _).mono ?_; rintro e w' ⟨rfl, rfl⟩) | (go_at_call 38; refine (toint_any _ (by first | exact HA.out | exact HB.out) _).mono ?_; rintro e w' ⟨rfl, rfl⟩))
      go_ret2
      exact ⟨ret_2 (by simp [WP.doW, H.out, HAB.out]) (by simp [WP.doE, H.out, HAB.out]), rfl⟩
end WW
end Go.Proofs.YtoikfpaocgikcaaDoor

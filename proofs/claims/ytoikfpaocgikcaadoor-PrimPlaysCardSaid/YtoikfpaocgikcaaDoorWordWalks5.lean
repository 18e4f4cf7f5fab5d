/-
  Contracts of the document's product and Do of layer 1. Condition: numbers in the range, words in 64 bits.
-/
import Derived.Test.YtoikfpaocgikcaaDoorProg
import Derived.Test.YtoikfpaocgikcaaDoorWordAll
import Derived.Test.YtoikfpaocgikcaaDoorWordPlain2
import Derived.Test.YtoikfpaocgikcaaDoorWordWalks2
import Derived.Test.YtoikfpaocgikcaaDoorWordWalks3
import Derived.Lib.Hide
namespace Go.Proofs.YtoikfpaocgikcaaDoor
open Go.RowKit
namespace WW
theorem ret_i {k : IntKind} {a b : Int} (h : a = b) : Ending.returned (.int k a) = .returned (.int k b) := by rw [h]
theorem sat_min (a b : Int) (ha : 0 ≤ a) (hb : 0 ≤ b) : min (WP.sat a + WP.sat b) 1099511627776 = WP.sat (a + b) := by
  rw [← WP.sat_ite a b ha hb]; split <;> omega
def ProdRel (T : Int) (n x y : Value) : Prop := ∃ N X Y : Int, 0 ≤ N ∧ 0 ≤ X ∧ 0 ≤ Y ∧ Y ≤ 1099511627775 ∧ N + X * Y = T ∧ n = .int .i64 (WP.sat N) ∧ x = .int .i64 (WP.sat X) ∧ y = .int .i64 Y
set_option maxHeartbeats 1000000 in
theorem prod_any (a b : Int) (ha : WP.inR a = true) (hb : WP.inR b = true) (w : World) : Calls Tryd.prog 50 #[.int .i64 a, .int .i64 b] w fun e w' => e = .returned (.int .i64 (WP.prodN a b)) ∧ w = w' := by
  obtain ⟨ha1, ha2⟩ := (WP.inR_iff a).1 ha
  obtain ⟨hb1, hb2⟩ := (WP.inR_iff b).1 hb
  have Ha := Lib.hid (WP.sat_of a ha)
  have la := WP.ab_lt a ha
  have na := WP.ab_nonneg a
  have lb := WP.ab_lt b hb
  have nb := WP.ab_nonneg b
  clear ha hb
  rcases WP.prod_cases a b with ⟨a0, b0, ea, eb, er⟩ | ⟨a0, b0, ea, eb, er⟩ | ⟨a0, b0, ea, eb, er⟩ | ⟨a0, b0, ea, eb, er⟩
  all_goals
      have Ea := Lib.hid ea
      have Eb := Lib.hid eb
      have HR := Lib.hid er
      clear ea eb er
      go_enter Tryd.func50, Tryd.ntmps50
      go_wp2
      go_loop [5, 6, 7] (fun n x y => ProdRel (WP.ab a * WP.ab b) n x y) (fun _ _ y => (intOf y).toNat)
      case atStart => exact ⟨0, WP.ab a, WP.ab b, by omega, na, nb, lb, by rw [Int.zero_add], rfl, by rw [Ha.out, Ea.out], by rw [Eb.out]⟩
      case round =>
        obtain ⟨N, X, Y, hN, hX, hY, hY2, hT, rfl, rfl, rfl⟩ := hrel
        have HT := Lib.hid hT
        clear hT
        have s1 := WP.sat_le N
        have s2 := WP.sat_le X
        have s3 := WP.sat_nonneg N hN
        have s4 := WP.sat_nonneg X hX
        by_cases hpos : 0 < Y
        · by_cases hodd : Y % 2 = 1
          · have hB : (Y % 2 == 1) = true := by rw [beq_iff_eq]; exact hodd
            have HO := Lib.hid hodd
            clear hodd
            go_wp2
            refine ⟨⟨N + X, X + X, Y / 2, by omega, by omega, by omega, by omega, ?_, ?_, ?_, rfl⟩, by simp [intOf]; omega⟩
            · rw [WP.step_odd N X Y HO.out]; exact HT.out
            · first | rw [WP.sat_ite N X hN hX] | rw [sat_min N X hN hX]
            · first | rw [WP.sat_ite X X hX hX] | rw [sat_min X X hX hX]
          · have hB : (Y % 2 == 1) = false := by rw [beq_eq_false_iff_ne]; exact hodd
            have HO := Lib.hid hodd
            clear hodd
            go_wp2
            refine ⟨⟨N, X + X, Y / 2, by omega, by omega, by omega, by omega, ?_, rfl, ?_, rfl⟩, by simp [intOf]; omega⟩
            · rw [WP.step_even N X Y HO.out]; exact HT.out
            · first | rw [WP.sat_ite X X hX hX] | rw [sat_min X X hX hX]
        · have HZ := Lib.hid (WP.done_zero N X _ Y HT.out (by omega))
          go_wp2
          go_ret
          refine ⟨ret_i ?_, rfl⟩
          rw [HR.out, HZ.out]
set_option maxHeartbeats 400000 in
theorem rdo_any (o a b : Int) (ha : WP.U a) (hb : WP.U b) (w : World) : Calls Tryd.prog 30 #[.int .u8 o, .int .u64 a, .int .u64 b] w fun e w' => e = .returned (.tuple #[.int .u64 (WP.doW o a b), .int .i64 (WP.doE o a b)]) ∧ w = w' := by
  have HA := Lib.hid ha
  have HB := Lib.hid hb
  by_cases ho : o = 43 ∨ o = 45 ∨ o = 42 ∨ o = 47 ∨ o = 37 ∨ o = 60 ∨ o = 61
  · have H := Lib.hid ((WP.opB_iff o).2 ho)
    cases hA : WP.toIntB a
    all_goals
      cases hB : WP.toIntB b
    rotate_left 3
    · have hai := (WP.intW_toInt a ha hA).1
      have hbi := (WP.intW_toInt b hb hB).1
      have HAB := Lib.hid (show WP.bothB a b = true by simp [WP.bothB, hA, hB])
      have HAi := Lib.hid hai
      have HBi := Lib.hid hbi
      obtain ⟨hx1, hx2⟩ := (WP.inR_iff _).1 hai
      obtain ⟨hy1, hy2⟩ := (WP.inR_iff _).1 hbi
      have hq := WP.inR_wrap _ (WP.tdiv_in _ (WP.toIntN b) hai)
      have hp := WP.inR_wrap _ (WP.prod_in _ (WP.toIntN b) hai)
      have hr := WP.inR_wrap _ (WP.rest_in _ (WP.toIntN b) hai)
      have HS := Lib.hid (WP.prod_same (WP.toIntN a) (WP.toIntN b))
      have HT := Lib.hid (WP.tmod_eq (WP.toIntN a) (WP.toIntN b))
      clear ha hb hai hbi
      by_cases hz : WP.toIntN b = 0
      · have HZ := Lib.hid hz
        have hz1 : (WP.toIntN b == 0) = true := by rw [beq_iff_eq]; exact hz
        have HWW := Lib.hid (WP.inR_wrap _ HAi.out)
        clear hq hp hr hy1 hy2 hz
        rcases ho with rfl | rfl | rfl | rfl | rfl | rfl | rfl
        all_goals
          go_enter Tryd.func30, Tryd.ntmps30
          go_wp2_with (first | (go_at_call 33; refine (rtoint_any _ (by first | exact HA.out | exact HB.out) _).mono ?_; rintro e w' ⟨rfl, rfl⟩) | (go_at_call 49; refine (rint_any _ _).mono ?_; rintro e w' ⟨rfl, rfl⟩) | (go_at_call 50; refine (prod_any _ _ HAi.out HBi.out _).mono ?_; rintro e w' ⟨rfl, rfl⟩) | (go_at_call 32; refine (rbool_any _ _).mono ?_; rintro e w' ⟨rfl, rfl⟩))
          go_ret2
          exact ⟨ret_2 (by simp [WP.doW, H.out, HAB.out, WP.arW, WP.arN, HZ.out, HWW.out, (WP.prod_zero _).1]) (by simp [WP.doE, H.out, HAB.out, WP.arE, WP.arN, HZ.out, HWW.out, (WP.prod_zero _).2]), rfl⟩
      · have HZ := Lib.hid hz
        have hz1 : (WP.toIntN b == 0) = false := by rw [beq_eq_false_iff_ne]; exact hz
        clear hz
        rcases ho with rfl | rfl | rfl | rfl | rfl | rfl | rfl
        all_goals
          go_enter Tryd.func30, Tryd.ntmps30
          go_wp2_with (first | (go_at_call 33; refine (rtoint_any _ (by first | exact HA.out | exact HB.out) _).mono ?_; rintro e w' ⟨rfl, rfl⟩) | (go_at_call 49; refine (rint_any _ _).mono ?_; rintro e w' ⟨rfl, rfl⟩) | (go_at_call 50; refine (prod_any _ _ HAi.out HBi.out _).mono ?_; rintro e w' ⟨rfl, rfl⟩) | (go_at_call 32; refine (rbool_any _ _).mono ?_; rintro e w' ⟨rfl, rfl⟩))
          go_ret2
          exact ⟨ret_2 (by simp [WP.doW, H.out, HAB.out, WP.arW, WP.arN, HZ.out, HS.out, HT.out]) (by simp [WP.doE, H.out, HAB.out, WP.arE, WP.arN, HZ.out, HS.out, HT.out]), rfl⟩
    all_goals
      have HAB := Lib.hid (show WP.bothB a b = false by simp [WP.bothB, hA, hB])
      clear ha hb
      rcases ho with rfl | rfl | rfl | rfl | rfl | rfl | rfl
      all_goals
        go_enter Tryd.func30, Tryd.ntmps30
        go_wp2_with (go_at_call 33; refine (rtoint_any _ (by first | exact HA.out | exact HB.out) _).mono ?_; rintro e w' ⟨rfl, rfl⟩)
        go_ret2
        exact ⟨ret_2 (by simp [WP.doW, H.out, HAB.out]) (by simp [WP.doE, H.out, HAB.out]), rfl⟩
  · have H := Lib.hid (show WP.opB o = false by rw [← Bool.not_eq_true, WP.opB_iff]; exact ho)
    have a1 : (o != 43) = true := by rw [bne_iff_ne]; omega
    have a2 : (o != 45) = true := by rw [bne_iff_ne]; omega
    have a3 : (o != 42) = true := by rw [bne_iff_ne]; omega
    have a4 : (o != 47) = true := by rw [bne_iff_ne]; omega
    have a5 : (o != 37) = true := by rw [bne_iff_ne]; omega
    have a6 : (o != 60) = true := by rw [bne_iff_ne]; omega
    have a7 : (o != 61) = true := by rw [bne_iff_ne]; omega
    clear ho ha hb
    go_enter Tryd.func30, Tryd.ntmps30
    go_wp2
    go_ret2
    exact ⟨ret_2 (by simp [WP.doW, H.out]) (by simp [WP.doE, H.out]), rfl⟩
end WW
end Go.Proofs.YtoikfpaocgikcaaDoor

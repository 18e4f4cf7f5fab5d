/-
  P6.3: so many lists may be open, and no more. No condition.
-/
import Derived.Test.YtkhcaejijlaohaaDoorReadLaws1
import Derived.Test.YtkhcaejijlaohaaDoorReadDeepF
import Derived.Test.YtkhcaejijlaohaaDoorLexLaws3
import Derived.Deep.DeepCutAuto
import Derived.IntWalk
namespace Go.Proofs.YtkhcaejijlaohaaDoor
open Go.RowKit
namespace RX
open LX
theorem deepA_quote {k q j : Nat} (h : j < q) : (deepA k q).take (j + 1) = (deepA k q).take j ++ [39] := by
  rw [List.take_add_one]
  congr 1
  unfold deepA
  rw [List.getElem?_append_left (by simpa using h), List.getElem?_replicate, if_pos h]
  rfl
theorem deepA_open {k q j : Nat} (h : q ≤ j) (hk : j < k) : (deepA k q).take (j + 1) = (deepA k q).take j ++ [40] := by
  rw [List.take_add_one]
  congr 1
  unfold deepA
  rw [List.getElem?_append_right (by simpa using h), List.length_replicate, List.getElem?_replicate, if_pos (by omega)]
  rfl
end RX
namespace RW6
open LX RX RM6 LW
theorem dcall_at {s t : ByteArray} {w : World} {Q : Ending → World → Prop} (h : s = t) (H : Calls Tryd.prog 11 #[.string s] w Q) : Calls Tryd.prog 11 #[.string t] w Q := h ▸ H
set_option maxHeartbeats 4000000 in
set_option maxRecDepth 100000 in
theorem deep_any (n qs : Nat) (hn : n ≤ 255) (hqs : qs ≤ 255) (w : World) : Calls Tryd.prog 7 #[.int .u8 n, .int .u8 qs] w fun e w' => e = .returned (.bool true) ∧ Below w.heap.size w w' := by
  have HS := Lib.hid shown_any
  obtain ⟨k, hk⟩ : ∃ k, n % 61 = k := ⟨_, rfl⟩
  obtain ⟨q, hq⟩ : ∃ q, qs % (k + 1) = q := ⟨_, rfl⟩
  have hk60 : k ≤ 60 := by omega
  have hqk : q ≤ k := by rw [← hq]; have := Nat.mod_lt qs (show 0 < k + 1 by omega); omega
  obtain ⟨m, hm⟩ : ∃ m, k - q = m := ⟨_, rfl⟩
  have hm1 : m + q ≤ k := by omega
  have hm2 : k ≤ m + q := by omega
  have HM := Lib.hid hm
  clear hm
  have HK := Lib.hid hk
  have HQ := Lib.hid hq
  clear hk hq
  go_enter Tryd.func7, Tryd.ntmps7
  go_wp2_with (go_at_call 10; refine (HS.out _).mono ?_; rintro e w1 ⟨rfl, hF1⟩; have HF1 := Lib.hid hF1; clear hF1)
  go_cut [6, 7] (fun s6 s7 wx => s6 = .int .i64 k ∧ s7 = .int .i64 q ∧ ∃ d, wx = w1.drewN d)
  case first =>
    have e0 : (0 : Int) ≤ (n : Int) % 61 := by omega
    have e00 : (n : Int) % 61 ≤ 60 := by omega
    go_quiet (fail)
    go_wp2
    go_meet
    have e1 : (n : Int) % 61 = (k : Int) := by rw [← HK.out]; omega
    have e2 : (qs : Int) % ((k : Int) + 1) = (q : Int) := by rw [← HQ.out]; exact (Int.natCast_emod qs (k + 1)).symm
    exact ⟨by rw [e1], by rw [e1, e2], _, rfl⟩
  case rest =>
    obtain ⟨rfl, rfl, d, rfl⟩ := hcut
    have HA := Lib.hid (read_deepA k q hqk hk60)
    have HB := Lib.hid (read_deepB k q hqk hk60)
    have hlA := deepA_len hqk
    have HLA := Lib.hid hlA
    clear hlA
    go_wp2
    go_loop [8, 36] (fun s8 s36 => ∃ j : Nat, j ≤ k ∧ s36 = .int .i64 j ∧ s8 = .string (str ((deepA k q).take j))) (fun _ s36 => k - (intOf s36).toNat)
    case atStart => exact ⟨0, by omega, rfl, by rw [List.take_zero]; rfl⟩
    case round =>
      obtain ⟨j, hj, rfl, rfl⟩ := hrel
      by_cases hlt : j < k
      · obtain ⟨z, hz⟩ : ∃ z, str ((deepA k q).take j) = z := ⟨_, rfl⟩
        have HZ := Lib.hid hz
        have hzs : z.size ≤ 60 := by rw [← hz, str_size, List.length_take, HLA.out]; omega
        rw [hz]
        clear hz
        by_cases hjq : j < q
        · have HT := Lib.hid (deepA_quote (k := k) hjq)
          have g1 : decide ((j : Int) < (q : Int)) = true := by rw [decide_eq_true_iff]; omega
          have g2 : (j : Int) < (q : Int) := by omega
          go_wp2
          go_round
          case rel => exact ⟨j + 1, by omega, by go_num, by rw [HT.out, LW.str_cat, HZ.out]; rfl⟩
          case measure => simp [intOf]; omega
        · have HT := Lib.hid (deepA_open (q := q) (by omega) hlt)
          have g1 : decide ((j : Int) < (q : Int)) = false := by rw [decide_eq_false_iff_not]; omega
          have g2 : ¬ (j : Int) < (q : Int) := by omega
          go_wp2
          go_round
          case rel => exact ⟨j + 1, by omega, by go_num, by rw [HT.out, LW.str_cat, HZ.out]; rfl⟩
          case measure => simp [intOf]; omega
      · obtain rfl : j = k := by omega
        rw [List.take_of_length_le (by rw [HLA.out]; exact Nat.le_refl _)]
        obtain ⟨zA, hzA⟩ : ∃ z, str (deepA j q) = z := ⟨_, rfl⟩
        have HZA := Lib.hid hzA
        rw [hzA]
        rw [hzA] at HA
        clear hzA
        go_wp2
        go_loop [10, 50] (fun s10 s50 => ∃ i : Nat, i ≤ m ∧ s50 = .int .i64 i ∧ s10 = .string (str (List.replicate i 41))) (fun _ s50 => m - (intOf s50).toNat)
        case atStart => exact ⟨0, by omega, rfl, rfl⟩
        case round =>
          obtain ⟨i, hi, rfl, rfl⟩ := hrel
          obtain ⟨zC, hzC⟩ : ∃ z, str (List.replicate i 41) = z := ⟨_, rfl⟩
          have HZC := Lib.hid hzC
          have hzs : zC.size ≤ 60 := by rw [← hzC, str_size, List.length_replicate]; omega
          rw [hzC]
          clear hzC
          by_cases hlt2 : i < m
          · have g1 : (i : Int) < (j : Int) - (q : Int) := by omega
            go_wp2
            go_round
            case rel => exact ⟨i + 1, by omega, by go_num, by rw [List.replicate_succ', LW.str_cat, HZC.out]; rfl⟩
            case measure => simp [intOf]; omega
          · obtain rfl : i = m := by omega
            have g1 : ¬ ((i : Nat) : Int) < (j : Int) - (q : Int) := by omega
            have HZB : Hid (str (deepB j q) = zA ++ ⟨#[120]⟩ ++ zC) := Lib.hid (by
              rw [← HZA.out, ← HZC.out]
              unfold deepB
              rw [HM.out, LW.str_cat, show (120 :: List.replicate i 41 : List UInt8) = [120] ++ List.replicate i 41 from rfl, LW.str_cat, ← ByteArray.append_assoc]
              rfl)
            have hzA : zA.size = j := by rw [← HZA.out, str_size, HLA.out]
            have hszA : zA.size ≤ 60 := by omega
            have HRA := Lib.hid (RC6.read_any zA (by omega))
            have HRB := Lib.hid (RC6.read_any (zA ++ ⟨#[120]⟩ ++ zC) (by rw [size_append, size_append]; show zA.size + 1 + zC.size ≤ _; omega))
            have HRC := Lib.hid (RC6.read_any ⟨#[120, 41]⟩ (by decide))
            rw [show RX.read ⟨#[120, 41]⟩ = .error (1, 61) from read_deepC] at HRC
            have hA := HA.out
            have hB := HB.out
            rw [HZB.out] at hB
            clear HA HB HZA HZC HZB hzA HK HQ HM hlt hlt2 hj hi
            rcases (show 50 < j ∨ j = 0 ∨ (0 < j ∧ j ≤ 50 ∧ q = j) ∨ (0 < j ∧ j ≤ 50 ∧ q < j) by omega) with hc | hc | hc | hc
            · rw [hA.1 hc] at HRA
              rw [hB.1 hc] at HRB
              have g2 : decide ((50 : Int) < (j : Int)) = true := by rw [decide_eq_true_iff]; omega
              clear hA hB
              go_wp2_with fail
              refine Calls.mono (HRA.out _) ?_
              rintro e w3 ⟨rfl, hF3⟩
              have HF3 := Lib.hid hF3
              clear hF3
              dsimp only
              go_wp2_with fail
              refine Calls.mono (HRB.out _) ?_
              rintro e w4 ⟨rfl, hF4⟩
              have HF4 := Lib.hid hF4
              clear hF4
              dsimp only
              go_wp2_with fail
              refine Calls.mono (HRC.out _) ?_
              rintro e w5 ⟨rfl, hF5⟩
              have HF5 := Lib.hid hF5
              clear hF5
              dsimp only
              go_wp2_with fail
              go_ret
              exact ⟨rfl, (((((HF1.out.drewN d).trans HF3.out (by simp)).trans HF4.out (by simp)).trans HF5.out (by simp))).below_nil⟩
            · obtain ⟨r, hr, hrl⟩ := hB.2 (by omega)
              rw [hA.2.1 hc] at HRA
              rw [hr] at HRB
              have HRL := Lib.hid hrl
              have g2 : decide ((50 : Int) < (j : Int)) = false := by rw [decide_eq_false_iff_not]; omega
              have g3 : ((j : Int) == 0) = true := by simp [hc]
              have gP : ((0 : Int) == max ((j : Int) - 1) 0) = true := by rw [beq_iff_eq]; omega
              clear hA hB hr hrl hc
              go_wp2_with fail
              refine Calls.mono (HRA.out _) ?_
              rintro e w3 ⟨rva, tva, rsa, rfl, hD, -⟩
              have HF3 := Lib.hid hD.far
              clear hD
              dsimp only
              go_wp2_with fail
              refine Calls.mono (HRB.out _) ?_
              rintro e w4 ⟨rv, tv, rs, rfl, hD, hrs⟩
              obtain ⟨A2, c2, hrv, -, -, -, -⟩ := hD.nodes
              obtain ⟨B2, d2, htv, -, -, -, -⟩ := hD.tops_row
              have hlen : rs.length = 1 + j + q := by have := congrArg List.length hrs; rw [List.length_map] at this; exact this.trans HRL.out.1
              obtain ⟨Ln, hLn⟩ : ∃ Ln, rs.length = Ln := ⟨_, rfl⟩
              have gL : (((Ln : Nat) : Int) == 1 + (j : Int) + (q : Int)) = true := by rw [beq_iff_eq]; omega
              have gL2 : (Ln : Int) ≤ 200 := by omega
              rw [hLn] at hrv
              clear hLn
              rw [HRL.out.2] at htv
              subst hrv htv
              have HF4 := Lib.hid hD.far
              clear hD hrs hlen
              dsimp only
              go_wp2_with fail
              refine Calls.mono (HRC.out _) ?_
              rintro e w5 ⟨rfl, hF5⟩
              have HF5 := Lib.hid hF5
              clear hF5
              dsimp only
              go_wp2_with fail
              go_ret
              exact ⟨rfl, (((((HF1.out.drewN d).trans HF3.out (by simp)).trans HF4.out (by simp)).trans HF5.out (by simp))).below_nil⟩
            · obtain ⟨r, hr, hrl⟩ := hB.2 (by omega)
              rw [hA.2.2.1 hc.1 hc.2.1 hc.2.2] at HRA
              obtain ⟨P, hP⟩ : ∃ P : Int, (j : Int) - 1 = P := ⟨_, rfl⟩
              rw [hP] at HRA
              have gP : (P == max ((j : Int) - 1) 0) = true := by rw [beq_iff_eq]; omega
              have gP2 : ¬ ((j : Int) - 1 < 0) := by omega
              have gP3 : (P == (j : Int) - 1) = true := by rw [beq_iff_eq]; omega
              clear hP
              rw [hr] at HRB
              have HRL := Lib.hid hrl
              have g2 : decide ((50 : Int) < (j : Int)) = false := by rw [decide_eq_false_iff_not]; omega
              have g3 : ((j : Int) == 0) = false := by rw [beq_eq_false_iff_ne]; omega
              have g4 : ((q : Int) == (j : Int)) = true := by simp [hc.2.2]
              obtain ⟨hc1, hc2, hc3⟩ := hc
              clear hA hB hr hrl hc3
              go_wp2_with fail
              refine Calls.mono (HRA.out _) ?_
              rintro e w3 ⟨rfl, hF3⟩
              have HF3 := Lib.hid hF3
              clear hF3
              dsimp only
              go_wp2_with fail
              refine Calls.mono (HRB.out _) ?_
              rintro e w4 ⟨rv, tv, rs, rfl, hD, hrs⟩
              obtain ⟨A2, c2, hrv, -, -, -, -⟩ := hD.nodes
              obtain ⟨B2, d2, htv, -, -, -, -⟩ := hD.tops_row
              have hlen : rs.length = 1 + j + q := by have := congrArg List.length hrs; rw [List.length_map] at this; exact this.trans HRL.out.1
              obtain ⟨Ln, hLn⟩ : ∃ Ln, rs.length = Ln := ⟨_, rfl⟩
              have gL : (((Ln : Nat) : Int) == 1 + (j : Int) + (q : Int)) = true := by rw [beq_iff_eq]; omega
              have gL2 : (Ln : Int) ≤ 200 := by omega
              rw [hLn] at hrv
              clear hLn
              rw [HRL.out.2] at htv
              subst hrv htv
              have HF4 := Lib.hid hD.far
              clear hD hrs hlen
              dsimp only
              go_wp2_with fail
              refine Calls.mono (HRC.out _) ?_
              rintro e w5 ⟨rfl, hF5⟩
              have HF5 := Lib.hid hF5
              clear hF5
              dsimp only
              go_wp2_with fail
              go_ret
              exact ⟨rfl, (((((HF1.out.drewN d).trans HF3.out (by simp)).trans HF4.out (by simp)).trans HF5.out (by simp))).below_nil⟩
            · obtain ⟨r, hr, hrl⟩ := hB.2 (by omega)
              rw [hA.2.2.2 hc.1 hc.2.1 hc.2.2] at HRA
              obtain ⟨P, hP⟩ : ∃ P : Int, (j : Int) - 1 = P := ⟨_, rfl⟩
              rw [hP] at HRA
              have gP : (P == max ((j : Int) - 1) 0) = true := by rw [beq_iff_eq]; omega
              have gP2 : ¬ ((j : Int) - 1 < 0) := by omega
              have gP3 : (P == (j : Int) - 1) = true := by rw [beq_iff_eq]; omega
              clear hP
              rw [hr] at HRB
              have HRL := Lib.hid hrl
              have g2 : decide ((50 : Int) < (j : Int)) = false := by rw [decide_eq_false_iff_not]; omega
              have g3 : ((j : Int) == 0) = false := by rw [beq_eq_false_iff_ne]; omega
              have g4 : ((q : Int) == (j : Int)) = false := by rw [beq_eq_false_iff_ne]; omega
              obtain ⟨hc1, hc2, hc3⟩ := hc
              clear hA hB hr hrl hc3
              go_wp2_with fail
              refine Calls.mono (HRA.out _) ?_
              rintro e w3 ⟨rfl, hF3⟩
              have HF3 := Lib.hid hF3
              clear hF3
              dsimp only
              go_wp2_with fail
              refine Calls.mono (HRB.out _) ?_
              rintro e w4 ⟨rv, tv, rs, rfl, hD, hrs⟩
              obtain ⟨A2, c2, hrv, -, -, -, -⟩ := hD.nodes
              obtain ⟨B2, d2, htv, -, -, -, -⟩ := hD.tops_row
              have hlen : rs.length = 1 + j + q := by have := congrArg List.length hrs; rw [List.length_map] at this; exact this.trans HRL.out.1
              obtain ⟨Ln, hLn⟩ : ∃ Ln, rs.length = Ln := ⟨_, rfl⟩
              have gL : (((Ln : Nat) : Int) == 1 + (j : Int) + (q : Int)) = true := by rw [beq_iff_eq]; omega
              have gL2 : (Ln : Int) ≤ 200 := by omega
              rw [hLn] at hrv
              clear hLn
              rw [HRL.out.2] at htv
              subst hrv htv
              have HF4 := Lib.hid hD.far
              clear hD hrs hlen
              dsimp only
              go_wp2_with fail
              refine Calls.mono (HRC.out _) ?_
              rintro e w5 ⟨rfl, hF5⟩
              have HF5 := Lib.hid hF5
              clear hF5
              dsimp only
              go_wp2_with fail
              go_ret
              exact ⟨rfl, (((((HF1.out.drewN d).trans HF3.out (by simp)).trans HF4.out (by simp)).trans HF5.out (by simp))).below_nil⟩
theorem deep_to (n qs : Int) (w : World) (hn : (Lit.int .u8 n).wf = true) (hq : (Lit.int .u8 qs).wf = true) : Calls Tryd.prog 7 #[.int .u8 n, .int .u8 qs] w fun e w' => e = .returned (.bool true) ∧ Below w.heap.size w w' := by
  have h1 : 0 ≤ n ∧ n ≤ 255 := by simp [Lit.wf, IntKind.min, IntKind.max, IntKind.signed, IntKind.bits] at hn; omega
  have h2 : 0 ≤ qs ∧ qs ≤ 255 := by simp [Lit.wf, IntKind.min, IntKind.max, IntKind.signed, IntKind.bits] at hq; omega
  obtain ⟨a, rfl⟩ := Int.eq_ofNat_of_zero_le h1.1
  obtain ⟨b, rfl⟩ := Int.eq_ofNat_of_zero_le h2.1
  exact deep_any a b (by omega) (by omega) w
end RW6
end Go.Proofs.YtkhcaejijlaohaaDoor

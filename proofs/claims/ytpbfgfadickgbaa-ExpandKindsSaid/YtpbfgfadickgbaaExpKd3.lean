/-
  Layer 8's law of kinds. No condition.
-/
import Derived.Test.YtpbfgfadickgbaaExpKd2
import Derived.Test.YtpbfgfadickgbaaExpNm2
import Derived.IntWalk
namespace Go.Proofs.Ytpbfgfadickgbaa
open Go.RowKit
set_option linter.unusedVariables false
namespace EW
open LX SX RW6 EX
open RX (Nd Rd)
set_option maxHeartbeats 8000000 in
set_option maxRecDepth 100000 in
theorem kinds_any (s : ByteArray) (w : World) : Calls Try.prog 3 #[.string s] w fun e w' => e = .returned (.bool true) ∧ Below w.heap.size w w' := by
  have HS := Lib.hid shown_any
  by_cases h5 : 1000 < s.size
  · go_enter Try.func3, Try.ntmps3
    go_wp2_with (go_at_call 7; (with_reducible refine (HS.out _).mono ?_); rintro e w1 ⟨rfl, hF1⟩)
    go_ret
    exact ⟨rfl, hF1.below_nil⟩
  · have H1 := Lib.hid (of_any s (by omega))
    have hs2 : s.size ≤ 1000 := by omega
    cases hX : ofM s with
    | error a =>
      rw [hX] at H1
      have hae := error_of hX
      have d4 : decide (a < (s.size : Int)) = true := by rw [decide_eq_true_iff]; exact hae.2
      have d5 : a < (s.size : Int) := hae.2
      clear hX
      go_enter Try.func3, Try.ntmps3
      go_wp2_with (first
        | (go_at_call 7; (with_reducible refine (HS.out _).mono ?_); rintro e w1 ⟨rfl, hF1⟩; have HF1 := Lib.hid hF1; clear hF1)
        | (go_at_call 8; (with_reducible refine (H1.out _).mono ?_); rintro e w2 hX; obtain ⟨rfl, hF2⟩ : e = .returned (.tuple #[.slice none 0 0, .slice none 0 0, .int .i64 a, .int .i64 80]) ∧ MM.Far [] w1 w2 := hX; have HF2 := Lib.hid hF2; clear hF2))
      go_ret
      exact ⟨rfl, (HF1.out.trans HF2.out (by simp)).below_nil⟩
    | ok x =>
      obtain ⟨fs, ts⟩ := x
      have hK := kinds_of hX hs2
      rw [hX] at H1
      obtain ⟨n, hn⟩ : ∃ n, fs.length = n := ⟨_, rfl⟩
      obtain ⟨m, hm⟩ : ∃ m, ts.length = m := ⟨_, rfl⟩
      have HK := Lib.hid hK
      have HN := Lib.hid hn
      have HM := Lib.hid hm
      have hn8 : n ≤ 48000 := by have := hK.len; omega
      have hm8 : m ≤ 48000 := by have := hK.tlen; omega
      have t1 : decide ((1000 : Int) < (s.size : Int)) = false := by rw [decide_eq_false_iff_not]; omega
      clear hX hK hn hm
      have hmk := run_make_row' (P := Try.prog) 24 3 (.int .i64 0) 8 RC6.ints_slice RC6.int_info rfl .i64 .i64 n (by omega) (by omega)
      rw [made_list] at hmk
      go_enter Try.func3, Try.ntmps3
      go_wp2_with (first
        | (go_at_call 7; (with_reducible refine (HS.out _).mono ?_); rintro e w1 ⟨rfl, hF1⟩; have HF1 := Lib.hid hF1; clear hF1)
        | (go_at_call 8; (with_reducible refine (H1.out _).mono ?_); rintro e w2 ⟨fv, tv, rs, rfl, hD, hrs⟩; have hFR := hD.rows; have hTR := hD.tops_row; obtain ⟨FA, fc, rfl, -, -, -, hF⟩ := hFR; obtain ⟨TA, tc, rfl, -, -, -, hT⟩ := hTR
           have hlen : rs.length = n := by have := congrArg List.length hrs; rw [List.length_map] at this; exact this.trans HN.out
           have hmm : ts.length = m := HM.out
           rw [hlen]
           rw [hrs] at hF
           simp only [hmm]
           have HFM := Lib.hid hF; have HTP := Lib.hid hT; have HF2 := Lib.hid hD.far; clear hD hrs hF hT hlen hmm))
      clear hmk
      have HC0 : Hid (CntR w2 w2.heap.size n (fun a => EX.cnt (fs.take 0) a) (w2.alloc (.cells (List.replicate n (.int .i64 0)).toArray 3))) := Lib.hid
        ⟨List.replicate n 0, by have := MM.Row.new w2 3 (List.replicate n (.int .i64 0)); simpa [ints] using this, by simp, fun a ha => by rw [List.getElem?_replicate, if_pos ha]; simp [EX.cnt], (MM.Far.refl [] w2).alloc _⟩
      obtain ⟨ib, hib⟩ : ∃ ib, w2.heap.size = ib := ⟨_, rfl⟩
      rw [hib] at HC0
      rw [hib]
      have HIB : Hid (w2.heap.size ≤ ib) := Lib.hid (Nat.le_of_eq hib)
      clear hib
      go_loopw [63] (fun s63 wr => ∃ k : Nat, k ≤ n ∧ s63 = .int .i64 k ∧ Hid (CntR w2 ib n (fun a => EX.cnt (fs.take k) a) wr)) (fun s63 _ => n - (intOf s63).toNat)
      case atStart => exact ⟨0, by omega, rfl, HC0⟩
      case round =>
        obtain ⟨k, hk, rfl, hC⟩ := hrel
        clear HC0
        by_cases hlt : k < n
        · have hk2 : k < fs.length := by rw [HN.out]; exact hlt
          obtain ⟨b1, o1, P1, p1, L1, e1, rfl, hb1, a0, a1, a2, a3, a4, a5, a6, a7, s1, i1⟩ := HFM.out k hk2
          replace a0 := far_cell hC.out.far a0
          replace a1 := far_cell hC.out.far a1
          replace a2 := far_cell hC.out.far a2
          replace a3 := far_cell hC.out.far a3
          replace a4 := far_cell hC.out.far a4
          replace a5 := far_cell hC.out.far a5
          replace a6 := far_cell hC.out.far a6
          replace a7 := far_cell hC.out.far a7
          obtain ⟨hgd, hbl, hln⟩ := HK.out.good k hk2
          have htk : fs.take (k + 1) = fs.take k ++ [fs[k]] := by rw [List.take_succ_eq_append_getElem hk2]
          generalize fs[k] = x at *
          obtain ⟨kd, at_, nn, ss, pp, l⟩ := x
          simp only at a0 a1 a2 a3 a4 a5 a6 a7 s1 i1 hgd hbl hln
          obtain ⟨q, hq⟩ : ∃ q, l.length = q := ⟨_, rfl⟩
          obtain ⟨np, hnp⟩ : ∃ np, pp.length = np := ⟨_, rfl⟩
          rw [hq] at a7 hln hgd
          rw [hnp] at a5 s1
          have hq8 : q ≤ 48000 := by have := HN.out; omega
          have hnpm : np ≤ 9223372036854775807 := by
            obtain ⟨A', c', e, h1, h2, _⟩ := s1
            injection e with _ e _
            unfold maxLen at h2
            omega
          have HQ := Lib.hid hq
          have HNP := Lib.hid hnp
          have HTK := Lib.hid htk
          have HBL := Lib.hid hbl
          have HGD := Lib.hid hgd
          have HIL := Lib.hid i1
          have HPL := Lib.hid s1
          obtain ⟨bx, hbx⟩ : ∃ bx, wr.heap.size = bx := ⟨_, rfl⟩
          have HBX0 : Hid (MM.Row (wr.alloc (.cells #[.int .u8 kd, .int .i64 at_, .int .i64 nn, .int .i64 0, .string ss, .slice P1 np p1, .int .u64 0, .slice L1 q e1] 32)) bx 32 [.int .u8 kd, .int .i64 at_, .int .i64 nn, .int .i64 0, .string ss, .slice P1 np p1, .int .u64 0, .slice L1 q e1]) := Lib.hid (hbx ▸ MM.Row.new wr 32 [.int .u8 kd, .int .i64 at_, .int .i64 nn, .int .i64 0, .string ss, .slice P1 np p1, .int .u64 0, .slice L1 q e1])
          have HCA : Hid (CntR w2 ib n (fun a => EX.cnt (fs.take k) a) (wr.alloc (.cells #[.int .u8 kd, .int .i64 at_, .int .i64 nn, .int .i64 0, .string ss, .slice P1 np p1, .int .u64 0, .slice L1 q e1] 32))) := Lib.hid (hC.out.to ((MM.Far.refl [] wr).alloc _))
          have HBXE := Lib.hid hbx
          have HPA := Lib.hid (parts_any (kd := kd) (at_ := at_) (nn := nn) (ss := ss) (PV := .slice P1 np p1) (LV := .slice L1 q e1) hgd.kind (by omega) (wr.alloc (.cells #[.int .u8 kd, .int .i64 at_, .int .i64 nn, .int .i64 0, .string ss, .slice P1 np p1, .int .u64 0, .slice L1 q e1] 32)))
          clear hk2 i1 s1 hgd hbl hln htk hq hnp hC hbx
          by_cases h6 : kd = 6
          · subst h6
            go_wp2_with (go_at_call 9; (with_reducible refine HPA.out.mono ?_); rintro e w3 ⟨⟨la, lb, rfl, hla, hlb⟩, hF3⟩; have hla1 : ¬ ((q : Int) < (la : Int)) := (by omega); have hlb1 : ¬ ((lb : Int) < (q : Int)) := (by omega); have hla2 : ¬ (q < la) := (by omega); have hlb2 : ¬ (lb < q) := (by omega); have hBW := HBX0.out.far hF3 (by simp); have HBX := Lib.hid hBW; rw [← HBXE.out] at hBW; have z0 := hBW.at (i := 0) rfl; have z5 := hBW.at (i := 5) rfl; have z7 := hBW.at (i := 7) rfl; have HF3 := Lib.hid hF3; clear hF3 hBW)
            rw [HBXE.out]
            have HC1 : Hid (CntR w2 ib n (fun a => EX.cnt (fs.take k) a + (l.take 0).count a) w3) := Lib.hid ((HCA.out.to HF3.out).eq (fun a _ => by simp))
            clear z0 z5 z7
            go_loopw [104] (fun s104 wz => ∃ j : Nat, j ≤ q ∧ s104 = .int .i64 j ∧ Hid (CntR w2 ib n (fun a => EX.cnt (fs.take k) a + (l.take j).count a) wz) ∧ Hid (MM.Row wz bx 32 [.int .u8 6, .int .i64 at_, .int .i64 nn, .int .i64 0, .string ss, .slice P1 np p1, .int .u64 0, .slice L1 q e1])) (fun s104 _ => q - (intOf s104).toNat)
            case atStart => exact ⟨0, by omega, rfl, HC1, HBX⟩
            case round =>
              obtain ⟨j, hj, rfl, hC2, hBX⟩ := hrel
              clear HC1 HBX
              by_cases hlt2 : j < q
              · have hj2 : j < l.length := by rw [HQ.out]; exact hlt2
                obtain ⟨gl, ol, hLA, hgl, hcl⟩ := HIL.out j hj2
                subst hLA
                replace hcl := far_cell hC2.out.far hcl
                obtain ⟨hb, y, hy, hy9⟩ := HBL.out _ (List.getElem_mem hj2)
                obtain ⟨hyl, hye⟩ := List.getElem?_eq_some_iff.1 hy
                obtain ⟨b2, o2, _, _, _, _, hA2, hb2, v0, -⟩ := HFM.out _ hyl
                injection hA2 with hA2
                injection hA2 with hA3 hA4
                subst hA3
                subst hA4
                rw [hye] at v0
                replace v0 := far_cell hC2.out.far v0
                have htj : l.take (j + 1) = l.take j ++ [l[j]] := by rw [List.take_succ_eq_append_getElem hj2]
                have hone := HK.out.one l[j]
                have hcl1 : (l.take (j + 1)).count l[j] ≤ l.count l[j] := List.Sublist.count_le _ (List.take_sublist _ _)
                have hcl2 : EX.cnt (fs.take (k + 1)) l[j] ≤ EX.cnt fs l[j] := by
                  have e : fs = fs.take (k + 1) ++ fs.drop (k + 1) := by rw [List.take_append_drop]
                  conv => rhs; rw [e]
                  rw [EX.cnt_app]; omega
                rw [HTK.out, EX.cnt_app, EX.cnt_one] at hcl2
                simp only at hcl2
                rw [htj, List.count_append] at hcl1
                have hself : [l[j]].count l[j] = 1 := by simp
                generalize l[j] = pv at *
                have hc0 : EX.cnt (fs.take k) pv + (l.take j).count pv ≤ 0 := by split at hone <;> omega
                have hpn : pv < n := by omega
                obtain ⟨k1, k2⟩ := hC2.out.at hpn
                obtain ⟨cv, hcv⟩ : ∃ cv, EX.cnt (fs.take k) pv + (l.take j).count pv = cv := ⟨_, rfl⟩
                have hcv2 : cv ≤ 1 := by omega
                simp only [hcv] at k1
                have d5 : ¬ ((pv : Int) < 0) := by omega
                have d6 : ¬ ((k : Int) ≤ (pv : Int)) := by omega
                have d7 : (0 : Int) ≤ (pv : Int) := by omega
                have d8 : (pv : Int) < (n : Int) := by omega
                have d5' : decide ((pv : Int) < 0) = false := by rw [decide_eq_false_iff_not]; exact d5
                have d6' : decide ((k : Int) ≤ (pv : Int)) = false := by rw [decide_eq_false_iff_not]; exact d6
                have d6'' : decide (k ≤ pv) = false := by rw [decide_eq_false_iff_not]; omega
                have d9 : (y.kind == 9) = false := by simp [hy9]
                have HN3 : Hid (CntR w2 ib n (fun a => EX.cnt (fs.take k) a + (l.take (j + 1)).count a) (wr.setCell ⟨ib, pv, none⟩ (.int .i64 ((cv : Int) + 1)))) := Lib.hid (hC2.out.inc hpn HIB.out (fun a ha => by
                  simp only [htj, List.count_append, RW6.cnt_one]; omega) _ (by simp only [hcv]; omega))
                have HBX2 := Lib.hid (hBX.out.other (p := ⟨ib, pv, none⟩) (fun e => by
                  obtain ⟨cs, hB, _⟩ := hC2.out
                  rw [e] at hBX
                  exact hB.ne hBX.out (by decide) rfl) (.int .i64 ((cv : Int) + 1)))
                generalize y.kind = yk at *
                clear hj2 hb hy hyl hye hy9 htj hone hcl1 hcl2 hself hc0 hcv hC2 hBX
                go_wp2
                go_roundw
                case rel => exact ⟨j + 1, by omega, by go_num, HN3, HBX2⟩
                case measure => simp [intOf]; omega
              · obtain rfl : j = q := by omega
                have HN3 : Hid (CntR w2 ib n (fun a => EX.cnt (fs.take (k + 1)) a) wr) := Lib.hid (hC2.out.eq (fun a _ => by
                  have e : l.take j = l := List.take_of_length_le (by rw [HQ.out]; exact Nat.le_refl _)
                  rw [HTK.out, EX.cnt_app, EX.cnt_one, e]))
                have HBX3 := Lib.hid hBX.out
                obtain ⟨w4, hw4⟩ : ∃ w4, wr = w4 := ⟨_, rfl⟩
                rw [hw4] at HN3 HBX3 ⊢
                have hmk2 := @run_makeMap Try.prog
                have y5 := HBX3.out.at (i := 5) rfl
                have y5' := (HBX3.out.alloc (.map #[] 0)).at (i := 5) rfl
                clear hC2 hBX hw4
                go_wp2
                obtain ⟨mb, hmb⟩ : ∃ mb, w4.heap.size = mb := ⟨_, rfl⟩
                have HS0 : Hid (SetS (w4.alloc (.map #[] 0)) mb (pp.take 0) ∧ MM.Far [] w4 (w4.alloc (.map #[] 0))) := Lib.hid ⟨by rw [← hmb]; exact SetS.new w4, (MM.Far.refl [] w4).alloc _⟩
                rw [hmb]
                have HMB : Hid (w4.heap.size ≤ mb) := Lib.hid (Nat.le_of_eq hmb)
                generalize w4.alloc (.map #[] 0) = w5 at *
                clear hmk2 hmb y5 y5'
                go_loopw [134] (fun s134 wz => ∃ i : Nat, i ≤ np ∧ s134 = .int .i64 i ∧ Hid (SetS wz mb (pp.take i) ∧ MM.Far [] w4 wz)) (fun s134 _ => np - (intOf s134).toNat)
                case atStart => exact ⟨0, by omega, rfl, HS0⟩
                case round =>
                  obtain ⟨i, hi, rfl, hS⟩ := hrel
                  obtain ⟨wz, rfl⟩ : ∃ wz, wz = wr := ⟨_, rfl⟩
                  clear HS0
                  by_cases hlt3 : i < np
                  · have hi2 : i < pp.length := by rw [HNP.out]; exact hlt3
                    obtain ⟨A1, q1, e3, _, _, hc3⟩ := (HPL.out.far HN3.out.far (by simp)).far hS.out.2 (by simp)
                    injection e3 with e31 e32 e33
                    subst e31 e33
                    obtain ⟨g1, o3, rfl, _, _, cc1⟩ := hc3 i (.string pp[i]) (by unfold strs; rw [List.getElem?_map, List.getElem?_eq_getElem hi2]; rfl)
                    have hres := HGD.out.names.2 _ (List.getElem_mem hi2)
                    have hnot : decide (pp[i] ∈ pp.take i) = false := decide_eq_false (fun hm => by
                      have h1 := HGD.out.names.1
                      simp only at h1
                      rw [show pp = pp.take i ++ pp.drop i from (List.take_append_drop i pp).symm, List.drop_eq_getElem_cons hi2, List.nodup_append] at h1
                      exact h1.2.2 _ hm _ (List.mem_cons_self ..) rfl)
                    have hlook := hS.out.1.look pp[i]
                    rw [hnot] at hlook
                    have HTI : Hid (pp.take (i + 1) = pp.take i ++ [pp[i]]) := Lib.hid (by rw [List.take_succ_eq_append_getElem hi2])
                    have HRS := Lib.hid (fun w' => reservedF_any w' pp[i])
                    rw [hres] at HRS
                    generalize pp[i] = x at *
                    have HSS := Lib.hid hS.out
                    have i0 : (0 : Int) ≤ (i : Int) := by omega
                    have i1 : (i : Int) < (np : Int) := by omega
                    clear hi2 hres hnot hc3 e32 hS
                    go_wp2_with (go_at_call 10; (with_reducible refine (HRS.out _).mono ?_); rintro e w6 ⟨rfl, hF6⟩; have hS6 := HSS.out.1.far hF6 (by simp); obtain ⟨w7, hup, hset, hfar⟩ := hS6.up x; have HS7 := Lib.hid hset; have HF7 := Lib.hid ((HSS.out.2.trans hF6 (by simp)).trans hfar (fun b hb hl => by have h1 := HMB.out; have h2 : b = mb := (by simpa using hb); omega)); clear hF6 hS6 hset hfar hlook)
                    go_roundw
                    case rel => exact ⟨i + 1, by omega, by go_num, Lib.hid ⟨HS7.out.of (fun s => by rw [HTI.out]; simp [or_comm]), HF7.out⟩⟩
                    case measure => simp [intOf]; omega
                  · obtain rfl : i = np := by omega
                    have HC5 := Lib.hid (HN3.out.to hS.out.2)
                    have hB5 := HBX3.out.far hS.out.2 (by simp)
                    have y0 := hB5.at (i := 0) rfl
                    have y4 := hB5.at (i := 4) rfl
                    clear hS hB5
                    go_wp2
                    go_roundw
                    case rel => exact ⟨k + 1, by omega, by go_num, Lib.hid HC5.out⟩
                    case measure => simp [intOf]; omega
          · have h6a : (kd == 6) = false := by simp [h6]
            have h6b : (kd != 6) = true := by simp [h6]
            have hnp0 : pp = [] := HGD.out.none h6
            have hnp1 : np = 0 := by rw [← HNP.out, hnp0]; rfl
            have hnd : ¬ ((0 : Int) < (np : Int)) := by omega
            have hnd2 : ¬ (0 < np) := by omega
            clear hnp0 hnp1
            go_wp2_with (go_at_call 9; (with_reducible refine HPA.out.mono ?_); rintro e w3 ⟨⟨la, lb, rfl, hla, hlb⟩, hF3⟩; have hla1 : ¬ ((q : Int) < (la : Int)) := (by omega); have hlb1 : ¬ ((lb : Int) < (q : Int)) := (by omega); have hla2 : ¬ (q < la) := (by omega); have hlb2 : ¬ (lb < q) := (by omega); have hBW := HBX0.out.far hF3 (by simp); have HBX := Lib.hid hBW; rw [← HBXE.out] at hBW; have z0 := hBW.at (i := 0) rfl; have z5 := hBW.at (i := 5) rfl; have z7 := hBW.at (i := 7) rfl; have HF3 := Lib.hid hF3; clear hF3 hBW)
            rw [HBXE.out]
            have HC1 : Hid (CntR w2 ib n (fun a => EX.cnt (fs.take k) a + (l.take 0).count a) w3) := Lib.hid ((HCA.out.to HF3.out).eq (fun a _ => by simp))
            clear z0 z5 z7
            go_loopw [104] (fun s104 wz => ∃ j : Nat, j ≤ q ∧ s104 = .int .i64 j ∧ Hid (CntR w2 ib n (fun a => EX.cnt (fs.take k) a + (l.take j).count a) wz) ∧ Hid (MM.Row wz bx 32 [.int .u8 kd, .int .i64 at_, .int .i64 nn, .int .i64 0, .string ss, .slice P1 np p1, .int .u64 0, .slice L1 q e1])) (fun s104 _ => q - (intOf s104).toNat)
            case atStart => exact ⟨0, by omega, rfl, HC1, HBX⟩
            case round =>
              obtain ⟨j, hj, rfl, hC2, hBX⟩ := hrel
              clear HC1 HBX
              by_cases hlt2 : j < q
              · have hj2 : j < l.length := by rw [HQ.out]; exact hlt2
                obtain ⟨gl, ol, hLA, hgl, hcl⟩ := HIL.out j hj2
                subst hLA
                replace hcl := far_cell hC2.out.far hcl
                obtain ⟨hb, y, hy, hy9⟩ := HBL.out _ (List.getElem_mem hj2)
                obtain ⟨hyl, hye⟩ := List.getElem?_eq_some_iff.1 hy
                obtain ⟨b2, o2, _, _, _, _, hA2, hb2, v0, -⟩ := HFM.out _ hyl
                injection hA2 with hA2
                injection hA2 with hA3 hA4
                subst hA3
                subst hA4
                rw [hye] at v0
                replace v0 := far_cell hC2.out.far v0
                have htj : l.take (j + 1) = l.take j ++ [l[j]] := by rw [List.take_succ_eq_append_getElem hj2]
                have hone := HK.out.one l[j]
                have hcl1 : (l.take (j + 1)).count l[j] ≤ l.count l[j] := List.Sublist.count_le _ (List.take_sublist _ _)
                have hcl2 : EX.cnt (fs.take (k + 1)) l[j] ≤ EX.cnt fs l[j] := by
                  have e : fs = fs.take (k + 1) ++ fs.drop (k + 1) := by rw [List.take_append_drop]
                  conv => rhs; rw [e]
                  rw [EX.cnt_app]; omega
                rw [HTK.out, EX.cnt_app, EX.cnt_one] at hcl2
                simp only at hcl2
                rw [htj, List.count_append] at hcl1
                have hself : [l[j]].count l[j] = 1 := by simp
                generalize l[j] = pv at *
                have hc0 : EX.cnt (fs.take k) pv + (l.take j).count pv ≤ 0 := by split at hone <;> omega
                have hpn : pv < n := by omega
                obtain ⟨k1, k2⟩ := hC2.out.at hpn
                obtain ⟨cv, hcv⟩ : ∃ cv, EX.cnt (fs.take k) pv + (l.take j).count pv = cv := ⟨_, rfl⟩
                have hcv2 : cv ≤ 1 := by omega
                simp only [hcv] at k1
                have d5 : ¬ ((pv : Int) < 0) := by omega
                have d6 : ¬ ((k : Int) ≤ (pv : Int)) := by omega
                have d7 : (0 : Int) ≤ (pv : Int) := by omega
                have d8 : (pv : Int) < (n : Int) := by omega
                have d5' : decide ((pv : Int) < 0) = false := by rw [decide_eq_false_iff_not]; exact d5
                have d6' : decide ((k : Int) ≤ (pv : Int)) = false := by rw [decide_eq_false_iff_not]; exact d6
                have d6'' : decide (k ≤ pv) = false := by rw [decide_eq_false_iff_not]; omega
                have d9 : (y.kind == 9) = false := by simp [hy9]
                have HN3 : Hid (CntR w2 ib n (fun a => EX.cnt (fs.take k) a + (l.take (j + 1)).count a) (wr.setCell ⟨ib, pv, none⟩ (.int .i64 ((cv : Int) + 1)))) := Lib.hid (hC2.out.inc hpn HIB.out (fun a ha => by
                  simp only [htj, List.count_append, RW6.cnt_one]; omega) _ (by simp only [hcv]; omega))
                have HBX2 := Lib.hid (hBX.out.other (p := ⟨ib, pv, none⟩) (fun e => by
                  obtain ⟨cs, hB, _⟩ := hC2.out
                  rw [e] at hBX
                  exact hB.ne hBX.out (by decide) rfl) (.int .i64 ((cv : Int) + 1)))
                generalize y.kind = yk at *
                clear hj2 hb hy hyl hye hy9 htj hone hcl1 hcl2 hself hc0 hcv hC2 hBX
                go_wp2
                go_roundw
                case rel => exact ⟨j + 1, by omega, by go_num, HN3, HBX2⟩
                case measure => simp [intOf]; omega
              · obtain rfl : j = q := by omega
                have HN3 : Hid (CntR w2 ib n (fun a => EX.cnt (fs.take (k + 1)) a) wr) := Lib.hid (hC2.out.eq (fun a _ => by
                  have e : l.take j = l := List.take_of_length_le (by rw [HQ.out]; exact Nat.le_refl _)
                  rw [HTK.out, EX.cnt_app, EX.cnt_one, e]))
                have HBX3 := Lib.hid hBX.out
                obtain ⟨w4, hw4⟩ : ∃ w4, wr = w4 := ⟨_, rfl⟩
                rw [hw4] at HN3 HBX3 ⊢
                have hmk2 := @run_makeMap Try.prog
                have y5 := HBX3.out.at (i := 5) rfl
                have y5' := (HBX3.out.alloc (.map #[] 0)).at (i := 5) rfl
                clear hC2 hBX hw4
                go_wp2
                obtain ⟨mb, hmb⟩ : ∃ mb, w4.heap.size = mb := ⟨_, rfl⟩
                have HS0 : Hid (SetS (w4.alloc (.map #[] 0)) mb (pp.take 0) ∧ MM.Far [] w4 (w4.alloc (.map #[] 0))) := Lib.hid ⟨by rw [← hmb]; exact SetS.new w4, (MM.Far.refl [] w4).alloc _⟩
                rw [hmb]
                have HMB : Hid (w4.heap.size ≤ mb) := Lib.hid (Nat.le_of_eq hmb)
                generalize w4.alloc (.map #[] 0) = w5 at *
                clear hmk2 hmb y5 y5'
                go_loopw [134] (fun s134 wz => ∃ i : Nat, i ≤ np ∧ s134 = .int .i64 i ∧ Hid (SetS wz mb (pp.take i) ∧ MM.Far [] w4 wz)) (fun s134 _ => np - (intOf s134).toNat)
                case atStart => exact ⟨0, by omega, rfl, HS0⟩
                case round =>
                  obtain ⟨i, hi, rfl, hS⟩ := hrel
                  obtain ⟨wz, rfl⟩ : ∃ wz, wz = wr := ⟨_, rfl⟩
                  clear HS0
                  by_cases hlt3 : i < np
                  · have hi2 : i < pp.length := by rw [HNP.out]; exact hlt3
                    obtain ⟨A1, q1, e3, _, _, hc3⟩ := (HPL.out.far HN3.out.far (by simp)).far hS.out.2 (by simp)
                    injection e3 with e31 e32 e33
                    subst e31 e33
                    obtain ⟨g1, o3, rfl, _, _, cc1⟩ := hc3 i (.string pp[i]) (by unfold strs; rw [List.getElem?_map, List.getElem?_eq_getElem hi2]; rfl)
                    have hres := HGD.out.names.2 _ (List.getElem_mem hi2)
                    have hnot : decide (pp[i] ∈ pp.take i) = false := decide_eq_false (fun hm => by
                      have h1 := HGD.out.names.1
                      simp only at h1
                      rw [show pp = pp.take i ++ pp.drop i from (List.take_append_drop i pp).symm, List.drop_eq_getElem_cons hi2, List.nodup_append] at h1
                      exact h1.2.2 _ hm _ (List.mem_cons_self ..) rfl)
                    have hlook := hS.out.1.look pp[i]
                    rw [hnot] at hlook
                    have HTI : Hid (pp.take (i + 1) = pp.take i ++ [pp[i]]) := Lib.hid (by rw [List.take_succ_eq_append_getElem hi2])
                    have HRS := Lib.hid (fun w' => reservedF_any w' pp[i])
                    rw [hres] at HRS
                    generalize pp[i] = x at *
                    have HSS := Lib.hid hS.out
                    have i0 : (0 : Int) ≤ (i : Int) := by omega
                    have i1 : (i : Int) < (np : Int) := by omega
                    clear hi2 hres hnot hc3 e32 hS
                    go_wp2_with (go_at_call 10; (with_reducible refine (HRS.out _).mono ?_); rintro e w6 ⟨rfl, hF6⟩; have hS6 := HSS.out.1.far hF6 (by simp); obtain ⟨w7, hup, hset, hfar⟩ := hS6.up x; have HS7 := Lib.hid hset; have HF7 := Lib.hid ((HSS.out.2.trans hF6 (by simp)).trans hfar (fun b hb hl => by have h1 := HMB.out; have h2 : b = mb := (by simpa using hb); omega)); clear hF6 hS6 hset hfar hlook)
                    go_roundw
                    case rel => exact ⟨i + 1, by omega, by go_num, Lib.hid ⟨HS7.out.of (fun s => by rw [HTI.out]; simp [or_comm]), HF7.out⟩⟩
                    case measure => simp [intOf]; omega
                  · obtain rfl : i = np := by omega
                    have HC5 := Lib.hid (HN3.out.to hS.out.2)
                    have hB5 := HBX3.out.far hS.out.2 (by simp)
                    have y0 := hB5.at (i := 0) rfl
                    have y4 := hB5.at (i := 4) rfl
                    clear hS hB5
                    rcases (show kd = 4 ∨ kd = 7 ∨ kd = 9 ∨ (kd ≠ 4 ∧ kd ≠ 7 ∧ kd ≠ 9) by omega) with hkd | hkd | hkd | ⟨hk4, hk7, hk9⟩
                    · have hres := HGD.out.name (.inl hkd)
                      subst hkd
                      have HRS := Lib.hid (fun w' => reservedF_any w' ss)
                      rw [hres] at HRS
                      clear hres
                      go_wp2_with (go_at_call 10; (with_reducible refine (HRS.out _).mono ?_); rintro e w8 ⟨rfl, hF8⟩; have HF8 := Lib.hid hF8; clear hF8)
                      go_roundw
                      case rel => exact ⟨k + 1, by omega, by go_num, Lib.hid (HC5.out.to HF8.out)⟩
                      case measure => simp [intOf]; omega
                    · have hres := HGD.out.name (.inr (.inl hkd))
                      subst hkd
                      have HRS := Lib.hid (fun w' => reservedF_any w' ss)
                      rw [hres] at HRS
                      clear hres
                      go_wp2_with (go_at_call 10; (with_reducible refine (HRS.out _).mono ?_); rintro e w8 ⟨rfl, hF8⟩; have HF8 := Lib.hid hF8; clear hF8)
                      go_roundw
                      case rel => exact ⟨k + 1, by omega, by go_num, Lib.hid (HC5.out.to HF8.out)⟩
                      case measure => simp [intOf]; omega
                    · have hres := HGD.out.name (.inr (.inr hkd))
                      subst hkd
                      have HRS := Lib.hid (fun w' => reservedF_any w' ss)
                      rw [hres] at HRS
                      clear hres
                      go_wp2_with (go_at_call 10; (with_reducible refine (HRS.out _).mono ?_); rintro e w8 ⟨rfl, hF8⟩; have HF8 := Lib.hid hF8; clear hF8)
                      go_roundw
                      case rel => exact ⟨k + 1, by omega, by go_num, Lib.hid (HC5.out.to HF8.out)⟩
                      case measure => simp [intOf]; omega
                    · have g4 : (kd == 4) = false := by simp [hk4]
                      have g7 : (kd == 7) = false := by simp [hk7]
                      have g9 : (kd == 9) = false := by simp [hk9]
                      go_wp2
                      go_roundw
                      case rel => exact ⟨k + 1, by omega, by go_num, Lib.hid HC5.out⟩
                      case measure => simp [intOf]; omega
        · obtain rfl : k = n := by omega
          have HC1 : Hid (CntR w2 ib k (fun a => EX.cnt fs a + (ts.take 0).count a) wr) := Lib.hid (hC.out.eq (fun a _ => by
            have e : fs.take k = fs := List.take_of_length_le (by rw [HN.out]; exact Nat.le_refl _)
            rw [e]; simp))
          clear hC
          go_wp2
          go_loopw [169] (fun s169 wz => ∃ j : Nat, j ≤ m ∧ s169 = .int .i64 j ∧ Hid (CntR w2 ib k (fun a => EX.cnt fs a + (ts.take j).count a) wz)) (fun s169 _ => m - (intOf s169).toNat)
          case atStart => exact ⟨0, by omega, rfl, HC1⟩
          case round =>
            obtain ⟨j, hj, rfl, hC2⟩ := hrel
            clear HC1
            by_cases hlt2 : j < m
            · have hj2 : j < ts.length := by rw [HM.out]; exact hlt2
              obtain ⟨gl, ol, hLA, hgl, hcl⟩ := HTP.out j hj2
              subst hLA
              replace hcl := far_cell hC2.out.far hcl
              have htj : ts.take (j + 1) = ts.take j ++ [ts[j]] := by rw [List.take_succ_eq_append_getElem hj2]
              have hone := HK.out.one ts[j]
              have hcl1 : (ts.take (j + 1)).count ts[j] ≤ ts.count ts[j] := List.Sublist.count_le _ (List.take_sublist _ _)
              rw [htj, List.count_append] at hcl1
              have hself : [ts[j]].count ts[j] = 1 := by simp
              rw [HN.out] at hone
              generalize ts[j] = pv at *
              have hb : pv < k := by split at hone <;> omega
              have hc0 : EX.cnt fs pv + (ts.take j).count pv ≤ 0 := by split at hone <;> omega
              obtain ⟨k1, k2⟩ := hC2.out.at hb
              obtain ⟨cv, hcv⟩ : ∃ cv, EX.cnt fs pv + (ts.take j).count pv = cv := ⟨_, rfl⟩
              have hcv2 : cv ≤ 1 := by omega
              simp only [hcv] at k1
              have d5 : ¬ ((pv : Int) < 0) := by omega
              have d6 : ¬ ((k : Int) ≤ (pv : Int)) := by omega
              have d7 : (0 : Int) ≤ (pv : Int) := by omega
              have d8 : (pv : Int) < (k : Int) := by omega
              have d5' : decide ((pv : Int) < 0) = false := by rw [decide_eq_false_iff_not]; exact d5
              have d6' : decide ((k : Int) ≤ (pv : Int)) = false := by rw [decide_eq_false_iff_not]; exact d6
              have d6'' : decide (k ≤ pv) = false := by rw [decide_eq_false_iff_not]; omega
              have HN3 : Hid (CntR w2 ib k (fun a => EX.cnt fs a + (ts.take (j + 1)).count a) (wr.setCell ⟨ib, pv, none⟩ (.int .i64 ((cv : Int) + 1)))) := Lib.hid (hC2.out.inc hb HIB.out (fun a ha => by
                simp only [htj, List.count_append, RW6.cnt_one]; omega) _ (by simp only [hcv]; omega))
              clear hj2 htj hone hcl1 hself hc0 hcv hC2
              go_wp2
              go_roundw
              case rel => exact ⟨j + 1, by omega, by go_num, HN3⟩
              case measure => simp [intOf]; omega
            · obtain rfl : j = m := by omega
              have HC3 := Lib.hid hC2.out
              have HALL : Hid (∀ a, a < k → EX.cnt fs a + (ts.take j).count a = 1) := Lib.hid (by
                intro a ha
                have e : ts.take j = ts := List.take_of_length_le (by rw [HM.out]; exact Nat.le_refl _)
                have := HK.out.one a
                rw [HN.out, if_pos ha] at this
                rw [e]
                exact this)
              clear hC2
              go_wp2
              go_loop [190] (fun s190 => ∃ i : Nat, i ≤ k ∧ s190 = .int .i64 i) (fun s190 => k - (intOf s190).toNat)
              case atStart => exact ⟨0, by omega, rfl⟩
              case round =>
                obtain ⟨i, hi, rfl⟩ := hrel
                by_cases hlt4 : i < k
                · obtain ⟨k1, k2⟩ := HC3.out.at hlt4
                  have ha := HALL.out i hlt4
                  simp only [ha] at k1
                  clear ha
                  go_wp2
                  go_round
                  case rel => exact ⟨i + 1, by omega, by go_num⟩
                  case measure => simp [intOf]; omega
                · obtain rfl : i = k := by omega
                  go_wp2
                  go_ret
                  exact ⟨rfl, ((HF1.out.trans HF2.out (by simp)).trans HC3.out.far (by simp)).below_nil⟩
end EW
end Go.Proofs.Ytpbfgfadickgbaa

/-
  P5.2's law of names. No condition.
-/
import Derived.Test.YtiebebbahbiloaaDoorLexWords
import Derived.Laws.IdiomStrings
namespace Go.Proofs.YtiebebbahbiloaaDoor
open Go.RowKit
namespace LX
def xsOf (zs : List Int) : List UInt8 := zs.map (fun z => lts.getD (z.toNat % 35) 0)
theorem str_snoc (l : List UInt8) (x : UInt8) : str (l ++ [x]) = str l ++ str [x] := by
  apply ByteArray.ext
  rw [ByteArray.data_append]
  unfold str
  simp
theorem xs_let (zs : List Int) (k : Nat) : ((xsOf zs).take k).all let_ = true := by
  rw [List.all_eq_true]
  intro x hx
  have hx := List.mem_of_mem_take hx
  obtain ⟨z, _, rfl⟩ := List.mem_map.1 hx
  have h : z.toNat % 35 < 35 := Nat.mod_lt _ (by decide)
  refine lts_let _ ?_
  rw [List.getD_eq_getElem?_getD, List.getElem?_eq_getElem (show z.toNat % 35 < lts.length from h)]
  exact List.getElem_mem _
theorem lts_at (t : Nat) (h : t < 35) (h2 : t < ltsB.size) : ltsB[t] = lts.getD t 0 := by
  have : ∀ t : Fin 35, (ltsB[t.1]'(by have := t.2; exact this)) = lts.getD t.1 0 := by decide
  exact this ⟨t, h⟩
end LX
namespace LW
open LX
theorem byte_back (W : World) (x : UInt8) : (convert (35 : Nat) (9 : Nat) (.slice (some ⟨W.heap.size, 0, none⟩) 1 1)).run Tryd.prog (W.alloc (.cells #[.int .u8 (x.toNat : Int)] (5 : Nat))) = .ok (.string (str [x])) (W.alloc (.cells #[.int .u8 (x.toNat : Int)] 5)) := by
  refine run_convert_bytes_back (P := Tryd.prog) _ 35 9 5 ⟨W.heap.size, 0, none⟩ 1 [x] Tryd.underlying35 Tryd.underlying5 Tryd.underlying9 ?_
  intro j hj
  have : j = 0 := by simpa using hj
  subst this
  exact (MM.Row.new W 5 [.int .u8 (x.toNat : Int)]).at rfl
set_option maxRecDepth 20000 in
set_option maxHeartbeats 4000000 in
theorem names_any (A : Option Addr) (len cap : Nat) (zs : List Int) (w : World) (hz : MR.Ints .u8 w A len cap zs) : Calls Tryd.prog 7 #[.slice A len cap] w fun e w' => e = .returned (.bool true) ∧ Below w.heap.size w w' := by
  have HS := Lib.hid shown_any
  have hle := hz.le
  have hmax := hz.max
  unfold maxLen at hmax
  obtain ⟨n, hn⟩ : ∃ n, n = min len 60 := ⟨_, rfl⟩
  have hn1 : n ≤ len := by omega
  have hn2 : n ≤ 60 := by omega
  have hn3 : n ≤ cap := by omega
  have hl : zs.length = len := hz.len_
  have HZ := Lib.hid hz
  have HL := Lib.hid hl
  have HTWO : Hid (∀ l : List UInt8, l.length = n → decide (1 < len) = decide (1 < l.length)) := Lib.hid (by
    intro l h
    rw [h]
    by_cases h1 : 1 < len
    · have : 1 < n := by omega
      simp [h1, this]
    · have : ¬ 1 < n := by omega
      simp [h1, this])
  have HM1 := Lib.hid (show (min (len : Int) 60).toNat = n by omega)
  have HM2 := Lib.hid (show max (min (len : Int) 60) 0 = (n : Int) by omega)
  obtain ⟨two, htwo⟩ : ∃ two, decide (1 < len) = two := ⟨_, rfl⟩
  obtain ⟨ys, hys⟩ : ∃ ys, xsOf zs = ys := ⟨_, rfl⟩
  have hylen : ys.length = len := by rw [← hys]; unfold xsOf; rw [List.length_map, hl]
  have HYL := Lib.hid hylen
  have HXS := Lib.hid hys
  have HT := Lib.hid htwo
  rw [htwo] at HTWO
  have ht2 : ((1 : Int) < (len : Int)) ↔ two = true := by rw [← htwo, decide_eq_true_eq]; omega
  clear hl hz hn hys htwo hylen
  go_enter Tryd.func7, Tryd.ntmps7
  go_wp2_with (go_at_call 9; refine (HS.out _).mono ?_; rintro e w1 ⟨rfl, hF1⟩; have HF1 := Lib.hid hF1; clear hF1)
  rw [HM1.out, HM2.out, show (⟨#[97, 98, 99, 120, 121, 122, 65, 66, 90, 48, 49, 50, 51, 52, 53, 54, 55, 56, 57, 33, 36, 37, 38, 42, 43, 45, 47, 58, 60, 61, 62, 63, 94, 95, 126]⟩ : ByteArray) = ltsB from rfl]
  have hLB : ltsB.size = 35 := rfl
  go_loopw [5, 6, 20] (fun s5 s6 s20 wr => ∃ k : Nat, k ≤ n ∧ s5 = .string (str (ys.take k)) ∧ s6 = .bool (okN two (ys.take k)) ∧ s20 = .int .i64 k ∧ Hid (MM.Far [] w wr)) (fun _ _ s20 _ => n - (intOf s20).toNat)
  case atStart => exact ⟨0, by omega, rfl, rfl, rfl, HF1⟩
  case round =>
    obtain ⟨k, hk, rfl, rfl, rfl, hF⟩ := hrel
    by_cases hlt : k < n
    · have hkl : k < zs.length := by rw [HL.out]; omega
      have hky : k < ys.length := by rw [HYL.out]; omega
      obtain ⟨⟨b, o, sp⟩, rfl, _, hb, hc⟩ := HZ.out.src (by rw [List.length_map]; omega)
      have hc0 := hc k (.int .u8 zs[k]) (by rw [List.getElem?_map, List.getElem?_eq_getElem hkl]; rfl)
      have hwf := HZ.out.wf zs[k] (List.getElem_mem hkl)
      have hzb : 0 ≤ zs[k] ∧ zs[k] ≤ 255 := by simp [Lit.wf, IntKind.min, IntKind.max, IntKind.signed, IntKind.bits] at hwf; omega
      have hsp : sp = none := by
        have h0 := hc 0 (.int .u8 (zs[0]'(by omega))) (by rw [List.getElem?_map, List.getElem?_eq_getElem (show 0 < zs.length by omega)]; rfl)
        rw [MR.add_zero_] at h0
        exact MR.spot_none h0
      subst hsp
      rw [MR.mk_add] at hc0
      have hcell := (hF.out.cell (p := ⟨b, o + k, none⟩) hb (by simp)).trans hc0
      have hx : ys[k] = lts.getD (zs[k].toNat % 35) 0 := by
        have : ys[k] = (xsOf zs)[k]'(by rw [HXS.out]; exact hky) := by congr 1; exact HXS.out.symm
        rw [this]; unfold xsOf; rw [List.getElem_map]
      have hTK : ys.take (k + 1) = ys.take k ++ [ys[k]] := by rw [List.take_succ_eq_append_getElem hky]
      obtain ⟨z, hzz⟩ : ∃ z : Nat, zs[k] = (z : Int) := Int.eq_ofNat_of_zero_le hzb.1
      rw [hzz] at hcell hx hzb
      have hlz : z % 35 < 35 := Nat.mod_lt _ (by decide)
      obtain ⟨t, ht⟩ : ∃ t, z % 35 = t := ⟨_, rfl⟩
      have hm : (z : Int) % 35 = (t : Int) := by omega
      rw [show ((z : Nat) : Int).toNat = z from rfl, ht] at hx
      rw [ht] at hlz
      have hls : t < ltsB.size := hlz
      have hxl := lts_at t hlz hls
      rw [← hx] at hxl
      obtain ⟨x, hxx⟩ : ∃ x, ys[k] = x := ⟨_, rfl⟩
      rw [hxx] at hxl hTK
      have HTK := Lib.hid hTK
      have HEMP : Hid ((ys.take k).isEmpty = decide (k = 0)) := Lib.hid (by
        rw [Bool.eq_iff_iff]
        simp only [List.isEmpty_iff, decide_eq_true_eq, List.take_eq_nil_iff]
        constructor
        · rintro (h | h)
          · exact h
          · rw [h] at hky; simp at hky
        · intro h; exact .inl h)
      clear hTK hx hxx hzz hc hc0 hwf hkl hky ht
      obtain ⟨f, hf⟩ : ∃ f, okN two (ys.take k) = f := ⟨_, rfl⟩
      have HNX : Hid (okN two (ys.take (k + 1)) = (f && (dig x || (decide (k = 0) && (x == 45 && two))))) := Lib.hid (by rw [HTK.out, okN_snoc, HEMP.out, hf])
      rw [hf]
      clear hf
      have HX : Hid (ltsB[t]'hls = x) := Lib.hid hxl
      have hcv := byte_back wr (ltsB[t]'hls)
      have hs1 : (str (ys.take k)).size ≤ 60 := by rw [str_size, List.length_take]; omega
      have hs2 : (str [ltsB[t]'hls]).size ≤ 1 := by rw [str_size]; exact Nat.le_refl 1
      clear hxl
      cases f with
      | false =>
        have NX : Hid (okN two (ys.take (k + 1)) = false) := Lib.hid (by rw [HNX.out]; rfl)
        clear HNX ht2
        go_wp2
        go_roundw
        case rel => exact ⟨k + 1, by omega, by rw [HTK.out, str_snoc, HX.out], by rw [NX.out], by go_num, Lib.hid (hF.out.alloc _)⟩
        case measure => simp [intOf]; omega
      | true =>
        by_cases hd1 : 48 ≤ x.toNat
        · have d1 : decide ((48 : Int) ≤ ((ltsB[t]'hls).toNat : Int)) = true := by rw [HX.out]; simp; omega
          by_cases hd2 : x.toNat ≤ 57
          · have d2 : decide (((ltsB[t]'hls).toNat : Int) ≤ 57) = true := by rw [HX.out]; simp; omega
            have NX : Hid (okN two (ys.take (k + 1)) = true) := Lib.hid (by rw [HNX.out]; simp [dig, hd1, hd2])
            clear HNX ht2 hd1 hd2
            go_wp2
            go_roundw
            case rel => exact ⟨k + 1, by omega, by rw [HTK.out, str_snoc, HX.out], by rw [NX.out], by go_num, Lib.hid (hF.out.alloc _)⟩
            case measure => simp [intOf]; omega
          · have d2 : decide (((ltsB[t]'hls).toNat : Int) ≤ 57) = false := by rw [HX.out]; simp; omega
            have n45 : x ≠ 45 := by rintro rfl; exact hd2 (by decide)
            have d3 : (((ltsB[t]'hls).toNat : Int) == 45) = false := by rw [HX.out]; exact eq_no (d := 45) n45 rfl
            have NX : Hid (okN two (ys.take (k + 1)) = false) := Lib.hid (by rw [HNX.out]; simp [dig, hd2, n45])
            clear HNX ht2 hd1 hd2 n45
            by_cases hk0 : k = 0
            · have d4 : ((k : Int) == 0) = true := by simp [hk0]
              clear hk0
              go_wp2
              go_roundw
              case rel => exact ⟨k + 1, by omega, by rw [HTK.out, str_snoc, HX.out], by rw [NX.out], by go_num, Lib.hid (hF.out.alloc _)⟩
              case measure => simp [intOf]; omega
            · have d4 : ((k : Int) == 0) = false := by simp [hk0]
              clear hk0
              go_wp2
              go_roundw
              case rel => exact ⟨k + 1, by omega, by rw [HTK.out, str_snoc, HX.out], by rw [NX.out], by go_num, Lib.hid (hF.out.alloc _)⟩
              case measure => simp [intOf]; omega
        · have d1 : decide ((48 : Int) ≤ ((ltsB[t]'hls).toNat : Int)) = false := by rw [HX.out]; simp; omega
          have hdg : dig x = false := by simp [dig]; omega
          by_cases hk0 : k = 0
          · have d4 : ((k : Int) == 0) = true := by simp [hk0]
            by_cases h45 : x = 45
            · have d3 : (((ltsB[t]'hls).toNat : Int) == 45) = true := by rw [HX.out]; exact eq_yes (d := 45) h45 rfl
              cases two with
              | true =>
                have d5 : decide ((1 : Int) < (len : Int)) = true := by simpa using ht2.2 rfl
                have NX : Hid (okN true (ys.take (k + 1)) = true) := Lib.hid (by rw [HNX.out, hdg, h45, hk0]; rfl)
                clear HNX ht2 hd1 hk0 h45 hdg
                go_wp2
                go_roundw
                case rel => exact ⟨k + 1, by omega, by rw [HTK.out, str_snoc, HX.out], by rw [NX.out], by go_num, Lib.hid (hF.out.alloc _)⟩
                case measure => simp [intOf]; omega
              | false =>
                have d5 : decide ((1 : Int) < (len : Int)) = false := by
                  have : ¬ ((1 : Int) < (len : Int)) := fun h => by have := ht2.1 h; cases this
                  simpa using this
                have NX : Hid (okN false (ys.take (k + 1)) = false) := Lib.hid (by rw [HNX.out, hdg]; simp)
                clear HNX ht2 hd1 hk0 h45 hdg
                go_wp2
                go_roundw
                case rel => exact ⟨k + 1, by omega, by rw [HTK.out, str_snoc, HX.out], by rw [NX.out], by go_num, Lib.hid (hF.out.alloc _)⟩
                case measure => simp [intOf]; omega
            · have d3 : (((ltsB[t]'hls).toNat : Int) == 45) = false := by rw [HX.out]; exact eq_no (d := 45) h45 rfl
              have NX : Hid (okN two (ys.take (k + 1)) = false) := Lib.hid (by rw [HNX.out, hdg]; simp [h45])
              clear HNX ht2 hd1 hk0 h45 hdg
              go_wp2
              go_roundw
              case rel => exact ⟨k + 1, by omega, by rw [HTK.out, str_snoc, HX.out], by rw [NX.out], by go_num, Lib.hid (hF.out.alloc _)⟩
              case measure => simp [intOf]; omega
          · have d4 : ((k : Int) == 0) = false := by simp [hk0]
            have NX : Hid (okN two (ys.take (k + 1)) = false) := Lib.hid (by rw [HNX.out, hdg]; simp [hk0])
            clear HNX ht2 hd1 hk0 hdg
            go_wp2
            go_roundw
            case rel => exact ⟨k + 1, by omega, by rw [HTK.out, str_snoc, HX.out], by rw [NX.out], by go_num, Lib.hid (hF.out.alloc _)⟩
            case measure => simp [intOf]; omega
    · obtain rfl : k = n := by omega
      obtain ⟨l, hl⟩ : ∃ l, ys.take k = l := ⟨_, rfl⟩
      have hll : l.length = k := by rw [← hl, List.length_take, HYL.out]; omega
      have hla : l.all let_ = true := by rw [← hl, ← HXS.out]; exact xs_let zs k
      have htw := HTWO.out l hll
      rw [hl]
      have hsz : (str l).size ≤ 60 := by rw [str_size]; omega
      have H := Lib.hid (lex_q (str l) (by omega))
      clear hl ht2 HTWO HZ HXS HYL HT HL HM1 HM2 HF1 hn1 hn2 hn3 hmax hle
      by_cases h0 : k = 0
      · have hl0 : l = [] := List.eq_nil_of_length_eq_zero (by omega)
        subst hl0
        rw [lex_none] at H
        have e0 : ((str ([] : List UInt8)).toList == []) = true := by rw [list_eq, bts_str]; rfl
        have e1 : okN two ([] : List UInt8) = true := rfl
        rw [e1]
        generalize str ([] : List UInt8) = z at *
        clear hll hla htw h0 e1
        go_wp2_with (go_at_call 10; refine (H.out _).mono ?_; rintro e w2 ⟨hF2, A2, c2, rfl, -, -, -, -⟩; have HF2 := Lib.hid hF2; clear hF2)
        go_ret
        exact ⟨rfl, (hF.out.trans HF2.out (by simp)).below_nil⟩
      · have hlne : l ≠ [] := by rintro rfl; exact h0 (by simpa using hll.symm)
        have e0 : ((str l).toList == []) = false := by rw [list_eq, bts_str]; simpa using hlne
        have hw := lex_word l hla hlne (by rw [← str_size]; exact hsz)
        rw [hll] at hw
        have hok := okN_number (two := two) hlne htw
        have hszk : (str l).size = k := by rw [str_size]; exact hll
        rcases hw with ⟨hnum, ⟨v, hv⟩ | ⟨hv, h12⟩⟩ | ⟨hnum, ⟨h32, hv⟩ | ⟨h32, hv⟩⟩
        · rw [hnum] at hok
          rw [hok]
          rw [hv] at H
          generalize str l = z at *
          clear hll hla htw h0 hok hnum hv hlne
          go_wp2_with (go_at_call 10; refine (H.out _).mono ?_; rintro e w2 ⟨hF2, A2, c2, rfl, -, -, -, h3⟩; have HF2 := Lib.hid hF2; clear hF2; obtain ⟨b2, o2, rfl, hb2, k0, k1, k2, k3⟩ := (TkRow.of_src h3) 0 (by simp); simp only [Nat.zero_mul, Nat.add_zero, List.getElem_cons_zero] at k0 k1 k2 k3; clear h3)
          go_ret
          exact ⟨rfl, (hF.out.trans HF2.out (by simp)).below_nil⟩
        · rw [hnum] at hok
          rw [hok]
          rw [hv] at H
          have d12 : decide ((12 : Int) < (k : Int)) = true := by rw [decide_eq_true_eq]; omega
          generalize str l = z at *
          clear hll hla htw h0 hok hnum hv hlne
          go_wp2_with (go_at_call 10; refine (H.out _).mono ?_; rintro e w2 ⟨hF2, A2, c2, rfl, -⟩; have HF2 := Lib.hid hF2; clear hF2)
          go_ret
          exact ⟨rfl, (hF.out.trans HF2.out (by simp)).below_nil⟩
        · rw [hnum] at hok
          rw [hok]
          rw [hv] at H
          generalize str l = z at *
          clear hll hla htw h0 hok hnum hv hlne
          go_wp2_with (go_at_call 10; refine (H.out _).mono ?_; rintro e w2 ⟨hF2, A2, c2, rfl, -⟩; have HF2 := Lib.hid hF2; clear hF2)
          go_ret
          exact ⟨rfl, (hF.out.trans HF2.out (by simp)).below_nil⟩
        · rw [hnum] at hok
          rw [hok]
          rw [hv] at H
          generalize str l = z at *
          clear hll hla htw h0 hok hnum hv hlne
          go_wp2_with (go_at_call 10; refine (H.out _).mono ?_; rintro e w2 ⟨hF2, A2, c2, rfl, -, -, -, h3⟩; have HF2 := Lib.hid hF2; clear hF2; obtain ⟨b2, o2, rfl, hb2, k0, k1, k2, k3⟩ := (TkRow.of_src h3) 0 (by simp); simp only [Nat.zero_mul, Nat.add_zero, List.getElem_cons_zero] at k0 k1 k2 k3; clear h3)
          go_ret
          exact ⟨rfl, (hF.out.trans HF2.out (by simp)).below_nil⟩
end LW
end Go.Proofs.YtiebebbahbiloaaDoor

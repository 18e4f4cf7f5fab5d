/-
  Contract of the document's own datum and Datum. Conditions: the row of data is as the list says; the text's length.
-/
import Derived.Test.YtbglcdjimipeeaaGreatDoorShowMayP
import Derived.Test.YtbglcdjimipeeaaGreatDoorShowC2
import Derived.Test.YtbglcdjimipeeaaGreatDoorShowDigits
import Derived.Test.YtbglcdjimipeeaaGreatDoorReadMays
namespace Go.Proofs.YtbglcdjimipeeaaGreatDoor
open Go.RowKit
namespace SW
open LX RX RW6 SX
/-- At the head of datum's loop: so many elements are there. -/
def RdI (w : World) (ns : List Nd) (l : List Nat) (D : List UInt8) (k : Nat) (T : List UInt8) (wr : World) : Prop := MM.Far [] w wr ∧ T ++ restL ns l k = D
theorem rets {a b : ByteArray} (h : a = b) : Ending.returned (.string a) = .returned (.string b) := by rw [h]
theorem restL_zero (ns : List Nd) (l : List Nat) : (40 :: restL ns l 0 : List UInt8) = [40] ++ restL ns l 0 := rfl
set_option maxHeartbeats 2000000 in
set_option maxRecDepth 20000 in
theorem rdatum_any {DA : Option Addr} {n c : Nat} (ns : List Nd) (hn : ns.length = n) (hok : Ok ns) (w0 : World) (hN : NdRow w0 DA ns) :
    ∀ (i : Nat), i < n → (dt ns i).length ≤ 1099511627776 → ∀ (w : World), MM.Far [] w0 w → Calls Tryz.prog 33 #[.slice DA n c, .int .i64 (i : Int)] w fun e w' => e = .returned (.string (str (dt ns i))) ∧ MM.Far [] w w' := by
  intro i
  induction i using Nat.strongRecOn with
  | ind i ih =>
  intro hi hlen w hF
  have hin : i < ns.length := by rw [hn]; exact hi
  obtain ⟨b, o, LA, lc, rfl, hb, d0, d1, d2, d3, d4, hL⟩ := nd_at2 hN hF i hin
  have hsz2 := hok.len i hin
  have hnum := hok.num i hin
  have hk := hok.kind_at hin
  have hlt := hok.lt i hin
  have HIH := Lib.hid ih
  have HN := Lib.hid hN
  have HOK := Lib.hid hok
  have HNL := Lib.hid hn
  have HF := Lib.hid hF
  have HL := Lib.hid hL
  have HLEN := Lib.hid hlen
  have HLT := Lib.hid hlt
  obtain ⟨Q, hQ⟩ : ∃ Q, quo ns (ndAt ns i) = Q := ⟨_, rfl⟩
  have HQ := Lib.hid hQ
  obtain ⟨m, hm⟩ : ∃ m, (ndAt ns i).l.length = m := ⟨_, rfl⟩
  have HM := Lib.hid hm
  rw [hm] at d4 hsz2
  have HB := Lib.hid hb
  generalize hx : ndAt ns i = x at *
  obtain ⟨xk, xa, xn, xs, xl⟩ := x
  simp only at d0 d1 d2 d3 d4 hnum hk
  have HX := Lib.hid hx
  have HNUM := Lib.hid hnum
  clear ih hN hok hn hF hL hlen hlt hQ hm hx hnum hb
  have FA := Lib.hid ((MM.Far.refl [] w).alloc (.cells #[.int .u8 xk, .int .i64 xa, .int .i64 xn, .string xs, .slice LA m lc] 57))
  rcases hk with rfl | rfl | rfl | rfl
  · have HD := Lib.hid (dt_int HOK.out hin (by rw [HX.out]))
    rw [HX.out] at HD
    rw [HD.out]
    have HDG := Lib.hid (fun (wx : World) => digits_any xn HNUM.out.1 HNUM.out.2 wx)
    go_enter Tryz.func33, Tryz.ntmps33
    go_wp2_with (first
      | (go_at_call 25; ((with_reducible refine (HDG.out _).mono ?_); rintro e w3 ⟨rfl, hF3⟩); have HF3 := Lib.hid hF3; clear hF3))
    go_ret
    exact ⟨rfl, FA.out.trans HF3.out (by simp)⟩
  · have HD := Lib.hid (dt_bool HOK.out hin (by rw [HX.out]))
    rw [HX.out] at HD
    rw [HD.out]
    by_cases hx1 : xn = 1
    · subst hx1
      go_enter Tryz.func33, Tryz.ntmps33
      go_wp2
      go_ret
      exact ⟨rfl, FA.out⟩
    · have e1 : (xn == 1) = false := by rw [beq_eq_false_iff_ne]; exact hx1
      rw [if_neg hx1]
      go_enter Tryz.func33, Tryz.ntmps33
      go_wp2
      go_ret
      exact ⟨rfl, FA.out⟩
  · have HD := Lib.hid (dt_name HOK.out hin (by rw [HX.out]))
    rw [HX.out] at HD
    rw [HD.out]
    go_enter Tryz.func33, Tryz.ntmps33
    go_wp2
    go_ret
    exact ⟨rets (by unfold str bts; simp), FA.out⟩
  · cases Q with
    | true =>
      have HD := Lib.hid (dt_quote HOK.out hin (by rw [HX.out]; exact HQ.out))
      have h2 := quo_two HQ.out
      rw [HX.out] at HD
      simp only at h2 HD
      obtain ⟨p0, p1, rfl⟩ := two_of xl h2
      obtain rfl : m = 2 := by rw [← HM.out]; rfl
      have hp0 := HLT.out p0 (by simp)
      have hp1 := HLT.out p1 (by simp)
      obtain ⟨b3, o3, rfl, hb3, y0⟩ := HL.out 0 (by simp)
      obtain ⟨b4, o4, e4, hb4, y1⟩ := HL.out 1 (by simp)
      injection e4 with e4
      injection e4 with e4 e5
      subst e4 e5
      simp only [List.getElem_cons_zero, List.getElem_cons_succ, Nat.add_zero] at y0 y1
      have z0 := (HF.out.cell (p := ⟨b3, o3, none⟩) hb3 (by simp)).trans y0
      have z1 := (HF.out.cell (p := ⟨b3, o3 + 1, none⟩) hb3 (by simp)).trans y1
      obtain ⟨b5, o5, LA5, lc5, e6, hb5, f0, f1, f2, f3, f4, hL5⟩ := nd_at2 HN.out HF.out p0 (by rw [HNL.out]; omega)
      injection e6 with e6
      injection e6 with e6 e7
      subst e6 e7
      have hq := HQ.out
      unfold quo at hq
      rw [Bool.and_eq_true, Bool.and_eq_true] at hq
      have q1 : (ndAt ns p0).kind = 3 := by simpa using hq.2.1
      have q2 : (ndAt ns p0).s = quoteB := by simpa using hq.2.2
      rw [q1] at f0
      rw [q2] at f3
      have hgd : [p0, p1].getD 1 0 = p1 := rfl
      rw [hgd] at HD
      have hlen1 : (dt ns p1).length ≤ 1099511627775 := by
        have := HLEN.out
        rw [HD.out, List.length_cons] at this
        omega
      have hds : (str (dt ns p1)).size ≤ 1099511627775 := hlen1
      have HR := Lib.hid (fun (wx : World) (f : MM.Far [] w wx) => HIH.out p1 hp1 (by omega) (by omega) wx (HF.out.trans f (by simp)))
      rw [HD.out]
      have g0 : (p0 : Int) < (n : Int) := by omega
      clear hq q1 q2 hL5 f1 f2 f4 y0 y1 hlen1
      simp only [quoteB] at f3
      have hb3 := Nat.lt_of_lt_of_le hb3 HF.out.size
      go_enter Tryz.func33, Tryz.ntmps33
      go_wp2_with (first
        | (go_at_call 33; ((with_reducible refine (HR.out _ FA.out).mono ?_); rintro e w3 ⟨rfl, hF3⟩); have HF3 := Lib.hid hF3; clear hF3))
      go_ret
      exact ⟨rets (str_two [39] _), FA.out.trans HF3.out (by simp)⟩
    | false =>
      have HD := Lib.hid (dt_list HOK.out hin (by rw [HX.out]) (by rw [HX.out]; exact HQ.out))
      rw [HX.out] at HD
      have hDl := HLEN.out
      rw [HD.out] at hDl ⊢
      obtain ⟨D, hD⟩ : ∃ D, 40 :: restL ns xl 0 = D := ⟨_, rfl⟩
      rw [hD] at hDl ⊢
      have HDL := Lib.hid hDl
      have HIA : ∀ W : World, Hid (RdI W ns xl D 0 [40] W) := fun W => Lib.hid ⟨MM.Far.refl [] W, hD⟩
      have HBX := Lib.hid (MM.Row.new w 57 [.int .u8 4, .int .i64 xa, .int .i64 xn, .string xs, .slice LA m lc])
      rw [show w.alloc (.cells [Value.int .u8 4, .int .i64 xa, .int .i64 xn, .string xs, .slice LA m lc].toArray 57) = w.alloc (.cells #[.int .u8 4, .int .i64 xa, .int .i64 xn, .string xs, .slice LA m lc] 57) from rfl] at HBX
      clear hD hDl
      go_enter Tryz.func33, Tryz.ntmps33
      go_upto_region 11 with (fail)
      generalize w.heap.size = bx at *
      have HI0 := HIA (w.alloc (.cells #[.int .u8 4, .int .i64 xa, .int .i64 xn, .string xs, .slice LA m lc] 57))
      clear HIA
      generalize w.alloc (.cells #[.int .u8 4, .int .i64 xa, .int .i64 xn, .string xs, .slice LA m lc] 57) = W at *
      go_cut [53] (fun s53 wx => s53 = .bool false ∧ wx = W)
      case first =>
        have y4 := HBX.out.at (i := 4) rfl
        clear HI0
        by_cases hm2 : m = 2
        · subst hm2
          obtain ⟨p0, p1, rfl⟩ := two_of xl HM.out
          have hp0 := HLT.out p0 (by simp)
          obtain ⟨b3, o3, rfl, hb3, y0⟩ := HL.out 0 (by simp)
          simp only [List.getElem_cons_zero, Nat.add_zero] at y0
          have z0 := ((HF.out.trans FA.out (by simp)).cell (p := ⟨b3, o3, none⟩) hb3 (by simp)).trans y0
          obtain ⟨b5, o5, LA5, lc5, e6, hb5, f0, f1, f2, f3, f4, hL5⟩ := nd_at2 HN.out (HF.out.trans FA.out (by simp)) p0 (by rw [HNL.out]; omega)
          injection e6 with e6
          injection e6 with e6 e7
          subst e6 e7
          have hq := HQ.out
          have hq2 : (decide ((ndAt ns p0).kind = 3) && decide ((ndAt ns p0).s = quoteB)) = false := by
            have : quo ns ⟨4, xa, xn, xs, [p0, p1]⟩ = (decide ((ndAt ns p0).kind = 3) && decide ((ndAt ns p0).s = quoteB)) := by unfold quo; rfl
            rw [← this]; exact hq
          generalize ndAt ns p0 = y at f0 f1 f2 f3 f4 hq2
          obtain ⟨yk, ya, yn, ys, yl⟩ := y
          simp only at f0 f3 hq2
          obtain ⟨sb, hsb⟩ : ∃ sb, decide (ys = quoteB) = sb := ⟨_, rfl⟩
          have hks : (ys.toList == [113, 117, 111, 116, 101]) = sb := by
            rw [← hsb, Lib.toList_data]
            by_cases e : ys = quoteB
            · subst e; rfl
            · rw [decide_eq_false e, beq_eq_false_iff_ne]
              intro h
              apply e
              rw [← str_bts ys]; unfold bts; rw [h]; rfl
          rw [hsb] at hq2
          clear hsb
          obtain ⟨kb, hkb⟩ : ∃ kb, (yk == 3) = kb := ⟨_, rfl⟩
          have hkd : decide (yk = 3) = kb := by rw [← hkb]; rfl
          rw [hkd] at hq2
          have g0 : (p0 : Int) < (n : Int) := by omega
          clear hkd hq f1 f2 f4 hL5 y0
          cases kb with
          | true =>
            obtain rfl : sb = false := by simpa using hq2
            clear hq2
            go_wp2
            go_meet
            exact ⟨rfl, rfl⟩
          | false =>
            clear hq2
            go_wp2
            go_meet
            exact ⟨rfl, rfl⟩
        · have e2 : ((m : Int) == 2) = false := by rw [beq_eq_false_iff_ne]; omega
          go_wp2
          go_meet
          exact ⟨rfl, rfl⟩
      case rest =>
      obtain ⟨rfl, hwx⟩ := hcut
      replace hwx := hwx.symm
      subst hwx
      go_wp2_with (fail)
      go_loopw [6, 7] (fun s6 s7 wr => ∃ (k : Nat) (T : List UInt8), k ≤ m ∧ s6 = .string (str T) ∧ s7 = .int .i64 k ∧ Hid (RdI W ns xl D k T wr)) (fun _ s7 _ => m - (intOf s7).toNat)
      case atStart => exact ⟨0, [40], by omega, rfl, rfl, HI0⟩
      case round =>
        obtain ⟨k, T, hk, rfl, rfl, hI⟩ := hrel
        obtain ⟨hFr, hE⟩ := hI.out
        clear hI HI0
        have y4 := (HBX.out.far hFr (by simp)).at (i := 4) rfl
        have hTl : T.length ≤ 1099511627776 := by
          have h1 := HDL.out
          have h2 := congrArg List.length hE
          rw [List.length_append] at h2
          omega
        have hTs : (str T).size ≤ 1099511627776 := hTl
        by_cases hlt : k < m
        · have hk2 : k < xl.length := by rw [HM.out]; exact hlt
          obtain ⟨b3, o3, rfl, hb3, y0⟩ := HL.out k hk2
          have hst := restL_step ns xl k hk2
          have hpm := HLT.out _ (List.getElem_mem hk2)
          generalize xl[k] = p at *
          rw [hst] at hE
          have HE := Lib.hid hE
          have HFr := Lib.hid hFr
          have z0 := ((HF.out.trans (FA.out.trans hFr (by simp)) (by simp)).cell (p := ⟨b3, o3 + k, none⟩) hb3 (by simp)).trans y0
          have hdl : (dt ns p).length ≤ 1099511627776 := by
            have h1 := HDL.out
            have h2 := congrArg List.length hE
            simp only [List.length_append] at h2
            omega
          have hds : (str (dt ns p)).size ≤ 1099511627776 := hdl
          have HR := Lib.hid (fun (wx : World) (f : MM.Far [] W wx) => HIH.out p hpm (by omega) hdl wx (HF.out.trans (FA.out.trans f (by simp)) (by simp)))
          clear hst hE hFr y0 hdl hk2 hTl
          by_cases h0 : k = 0
          · subst h0
            rw [Nat.add_zero] at z0
            go_wp2_with (first
              | (go_at_call 33; ((with_reducible refine (HR.out _ HFr.out).mono ?_); rintro e w3 ⟨rfl, hF3⟩); have HF3 := Lib.hid hF3; clear hF3))
            go_roundw
            case rel => exact ⟨1, T ++ dt ns p, by omega, by rw [str_two], by go_num, Lib.hid ⟨HFr.out.trans HF3.out (by simp), by rw [← HE.out]; simp⟩⟩
            case measure => simp [intOf]; omega
          · have g1 : (0 : Int) < (k : Int) := by omega
            go_wp2_with (first
              | (go_at_call 33; ((with_reducible refine (HR.out _ HFr.out).mono ?_); rintro e w3 ⟨rfl, hF3⟩); have HF3 := Lib.hid hF3; clear hF3))
            go_roundw
            case rel => exact ⟨k + 1, T ++ [32] ++ dt ns p, by omega, by rw [← str_two, ← str_two]; rfl, by go_num, Lib.hid ⟨HFr.out.trans HF3.out (by simp), by rw [← HE.out, if_neg h0]; simp⟩⟩
            case measure => simp [intOf]; omega
        · obtain rfl : k = m := by omega
          rw [← HM.out, restL_end] at hE
          have HE := Lib.hid hE
          have HFr := Lib.hid hFr
          clear hE hFr
          go_wp2
          go_ret
          rw [← HE.out]
          exact ⟨rets (str_two _ [41]), FA.out.trans HFr.out (by simp)⟩
end SW
end Go.Proofs.YtbglcdjimipeeaaGreatDoor

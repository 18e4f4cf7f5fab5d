/-
  Several texts in one: ShowC1, ShowC2, ShowC3, ShowC4, ShowC5. Each one's own head tells its conditions.
-/
import Derived.Test.YtpbfgfadickgbaaGreatDoorShowMem
import Derived.Test.YtpbfgfadickgbaaGreatDoorShowPlain
import Derived.Test.YtpbfgfadickgbaaGreatDoorShowItoa
import Derived.Deep.RegionLaw
import Derived.Deep.RegionHeld3
import Derived.Deep.DeepCutAuto
import Derived.Lib.UnsafeStr
import Derived.Test.YtpbfgfadickgbaaGreatDoorReadMays
import Derived.Deep.LoopGhost
/-
  Contract of the printer's isQuote. Conditions: the row of data is as the list says; the places of a list are the row's.
-/
namespace Go.Proofs.YtpbfgfadickgbaaGreatDoor
open Go.RowKit
namespace SW
open LX RX RW6 SX
open RC6 (own_off one_far form_ far_app far_app0)
theorem str_bts (s : ByteArray) : str (bts s) = s := by unfold bts str; simp
theorem ndAt_lt {ns : List Nd} {i : Nat} (h : i < ns.length) : ndAt ns i = ns[i] := by
  unfold ndAt
  rw [List.getD_eq_getElem?_getD, List.getElem?_eq_getElem h]; rfl
/-- A datum of the row, its cells. -/
theorem nd_at {w : World} {DA : Option Addr} {ns : List Nd} (h : NdRow w DA ns) (i : Nat) (hi : i < ns.length) : ∃ b o LA c, DA = some ⟨b, o, none⟩ ∧ b < w.heap.size ∧ w.cell? ⟨b, o + i * 5, none⟩ = some (.int .u8 (ndAt ns i).kind) ∧ w.cell? ⟨b, o + i * 5 + 1, none⟩ = some (.int .i64 (ndAt ns i).at_) ∧
    w.cell? ⟨b, o + i * 5 + 2, none⟩ = some (.int .i64 (ndAt ns i).n) ∧ w.cell? ⟨b, o + i * 5 + 3, none⟩ = some (.string (ndAt ns i).s) ∧ w.cell? ⟨b, o + i * 5 + 4, none⟩ = some (.slice LA (ndAt ns i).l.length c) ∧ IntRow w LA (ndAt ns i).l := by
  rw [ndAt_lt hi]
  exact h i hi
set_option maxHeartbeats 2000000 in
set_option maxRecDepth 20000 in
theorem isq_any {w : World} {q : Nat} {DA : Option Addr} {n c : Nat} (ns : List Nd) (hn : ns.length = n) (hq0 : w.cell? ⟨q, 0, none⟩ = some (.slice DA n c)) (hN : NdRow w DA ns) (x : Nd) (LA : Option Addr) (lc : Nat) (hl : IntRow w LA x.l) (hlt : ∀ p ∈ x.l, p < n) :
    Calls Tryz.prog 29 #[.pointer (some ⟨q, 0, none⟩), .agg #[.int .u8 x.kind, .int .i64 x.at_, .int .i64 x.n, .string x.s, .slice LA x.l.length lc]] w fun e w' => e = .returned (.bool (quo ns x)) ∧ MM.Far [] w w' := by
  obtain ⟨kd, at_, nn, s, l⟩ := x
  simp only at hl hlt ⊢
  have hq := World.block_lt_of_cell? w _ hq0
  by_cases h2 : l.length = 2
  · obtain ⟨a, b, rfl⟩ : ∃ a b, l = [a, b] := by
      match l, h2 with
      | [a, b], _ => exact ⟨a, b, rfl⟩
    have ha := hlt a (by simp)
    obtain ⟨b1, o1, rfl, hb1, ca⟩ := hl 0 (by simp)
    obtain ⟨b2, o2, LA2, c2, rfl, hb2, d0, d1, d2, d3, d4, -⟩ := nd_at hN a (by omega)
    have HQ : Hid (quo ns ⟨kd, at_, nn, s, [a, b]⟩ = (decide ((ndAt ns a).kind = 3) && decide ((ndAt ns a).s = quoteB))) := Lib.hid (by unfold quo; rfl)
    generalize ndAt ns a = y at d0 d1 d2 d3 d4 HQ
    obtain ⟨yk, ya, yn, ys, yl⟩ := y
    simp only at d0 d1 d2 d3 d4 HQ
    simp only [List.getElem_cons_zero] at ca
    obtain ⟨m, hm⟩ : ∃ m, yl.length = m := ⟨_, rfl⟩
    rw [hm] at d4
    have F := (MM.Far.refl [] w).alloc (.cells #[.int .u8 kd, .int .i64 at_, .int .i64 nn, .string s, .slice (some ⟨b1, o1, none⟩) 2 lc] 81)
    have HF := Lib.hid F
    have k0 := (F.cell (p := ⟨q, 0, none⟩) hq (by simp)).trans hq0
    have ca' := (F.cell (p := ⟨b1, o1, none⟩) hb1 (by simp)).trans ca
    have e0 := (F.cell (p := ⟨b2, o2 + a * 5, none⟩) hb2 (by simp)).trans d0
    have e1 := (F.cell (p := ⟨b2, o2 + a * 5 + 1, none⟩) hb2 (by simp)).trans d1
    have e2 := (F.cell (p := ⟨b2, o2 + a * 5 + 2, none⟩) hb2 (by simp)).trans d2
    have e3 := (F.cell (p := ⟨b2, o2 + a * 5 + 3, none⟩) hb2 (by simp)).trans d3
    have e4 := (F.cell (p := ⟨b2, o2 + a * 5 + 4, none⟩) hb2 (by simp)).trans d4
    clear hm d0 d1 d2 d3 d4 ca hlt hl hN F h2 hn hq0
    obtain ⟨sb, hsb⟩ : ∃ sb, decide (ys = quoteB) = sb := ⟨_, rfl⟩
    have hks : (ys.toList == [113, 117, 111, 116, 101]) = sb := by
      rw [← hsb, Lib.toList_data]
      by_cases e : ys = quoteB
      · subst e; rfl
      · rw [decide_eq_false e, beq_eq_false_iff_ne]
        intro h
        apply e
        rw [← str_bts ys]; unfold bts; rw [h]; rfl
    rw [hsb] at HQ
    clear hsb
    obtain ⟨kb, hkb⟩ : ∃ kb, (yk == 3) = kb := ⟨_, rfl⟩
    have hkd : decide (yk = 3) = kb := by rw [← hkb]; rfl
    rw [hkd] at HQ
    clear hkd
    go_enter Tryz.func29, Tryz.ntmps29
    go_wp2
    cases kb
    all_goals
      go_region
      all_goals
        go_wp2
        go_ret
        rw [HQ.out]
        exact ⟨rfl, (HF.out.alloc _).drew⟩
  · have g1 : ((l.length : Int) == 2) = false := by rw [beq_eq_false_iff_ne]; omega
    have g2 : ((l.length : Int) != 2) = true := by simp [bne, g1]
    have g3 : ¬ ((l.length : Int) = 2) := by omega
    have HQ : Hid (quo ns ⟨kd, at_, nn, s, l⟩ = false) := Lib.hid (by unfold quo; simp [h2])
    have HF := Lib.hid ((MM.Far.refl [] w).alloc (.cells #[.int .u8 kd, .int .i64 at_, .int .i64 nn, .string s, .slice LA l.length lc] 81))
    clear h2 hl hlt hN
    go_enter Tryz.func29, Tryz.ntmps29
    go_wp2
    go_ret
    rw [HQ.out]
    exact ⟨rfl, HF.out⟩
end SW
end Go.Proofs.YtpbfgfadickgbaaGreatDoor
/-
  Contract of the printer's begin. Conditions: the row of data is as the list says; its table is as the program lays it; the text's length.
-/
namespace Go.Proofs.YtpbfgfadickgbaaGreatDoor
open Go.RowKit
namespace SW
open LX RX RW6 SX
open RC6 (own_off one_far form_ far_app far_app0 own_row)
theorem two_of (l : List Nat) (h : l.length = 2) : ∃ a b, l = [a, b] := by
  match l, h with
  | [a, b], _ => exact ⟨a, b, rfl⟩
def prs (os : List Op) : List (List Nat × Nat) := os.map fun x => (x.l, x.k)
/-- The lists that are open have places of the row. -/
def Gd (w0 : World) (ns : List Nd) (os : List Op) : Prop := ∀ x ∈ os, (∀ p ∈ x.l, p < ns.length) ∧ x.k ≤ x.l.length ∧ x.l.length ≤ 1099511627776 ∧ IntRow w0 x.A x.l
section
variable {w0 w w1 : World} {q : Nat} {dv : Value} {T : List UInt8} {os : List Op}
theorem Pr.to (h : Pr w0 w q dv T os) (f : MM.Far [] w w1) : Pr w0 w1 q dv T os := by
  obtain ⟨pv, bv, ov, h⟩ := h
  exact ⟨pv, bv, ov, h.to f⟩
theorem Pr.far (h : Pr w0 w q dv T os) : MM.Far [] w0 w := by
  obtain ⟨pv, bv, ov, h⟩ := h
  exact h.far
theorem Pr.cell (h : Pr w0 w q dv T os) : w.cell? ⟨q, 0, none⟩ = some dv := by
  obtain ⟨pv, bv, ov, h⟩ := h
  exact h.head.at (i := 0) rfl
theorem Pr.byte (h : Pr w0 w q dv T os) (c : UInt8) (n : Int) (hn : n = (c.toNat : Int)) (hT : T.length ≤ 70368744177664) :
    Calls Tryz.prog 30 #[.pointer (some ⟨q, 1, none⟩), .int .u8 n] w fun e w' => e = .returned .nilIface ∧ KeepN w w' ∧ Pr w0 w' q dv (T ++ [c]) os := by
  obtain ⟨pv, bv, ov, h⟩ := h
  exact (wbyte_any h c n hn hT).mono fun e w' ⟨a, b, bv, d⟩ => ⟨a, b, _, _, _, d⟩
theorem Pr.str (h : Pr w0 w q dv T os) (s : ByteArray) (hT : T.length ≤ 70368744177664) (hs : s.size ≤ 70368744177664) :
    Calls Tryz.prog 31 #[.pointer (some ⟨q, 1, none⟩), .string s] w fun e w' => (∃ x, e = .returned x) ∧ KeepN w w' ∧ Pr w0 w' q dv (T ++ LX.bts s) os := by
  obtain ⟨pv, bv, ov, h⟩ := h
  exact (wstr_any h s hT hs).mono fun e w' ⟨a, b, bv, d⟩ => ⟨a, b, _, _, _, d⟩
theorem fcell {w w' : World} {p : Addr} {v : Value} (hF : MM.Far [] w w') (h : w.cell? p = some v) : w'.cell? p = some v := (hF.cell (World.block_lt_of_cell? w _ h) (by simp)).trans h
def boolS (b : Bool) : ByteArray := if b = true then str [35, 116] else str [35, 102]
theorem bool_any (b : Bool) (w : World) : Calls Tryz.prog 33 #[.bool b] w fun e w' => e = .returned (.string (boolS b)) ∧ MM.Far [] w w' := by
  cases b
  all_goals
    go_enter Tryz.func33, Tryz.ntmps33
    go_wp2
    go_ret
    exact ⟨rfl, MM.Far.refl [] _⟩
/-- What begin comes to. -/
def BegP (w0 : World) (q : Nat) (dv : Value) (ns : List Nd) (i : Nat) (T : List UInt8) (os : List Op) (e : Ending) (w' : World) : Prop :=
  ∃ T' os', e = .returned (.tuple #[]) ∧ Pr w0 w' q dv T' os' ∧ T' ++ restO ns (prs os') = T ++ (dt ns i ++ restO ns (prs os)) ∧ szO ns (prs os') + 1 ≤ szO ns (prs os) + sz ns i ∧ Gd w0 ns os'
theorem nd_at2 {w0 w : World} {DA : Option Addr} {ns : List Nd} (h : NdRow w0 DA ns) (f : MM.Far [] w0 w) (i : Nat) (hi : i < ns.length) : ∃ b o LA c, DA = some ⟨b, o, none⟩ ∧ b < w.heap.size ∧ w.cell? ⟨b, o + i * 5, none⟩ = some (.int .u8 (ndAt ns i).kind) ∧ w.cell? ⟨b, o + i * 5 + 1, none⟩ = some (.int .i64 (ndAt ns i).at_) ∧
    w.cell? ⟨b, o + i * 5 + 2, none⟩ = some (.int .i64 (ndAt ns i).n) ∧ w.cell? ⟨b, o + i * 5 + 3, none⟩ = some (.string (ndAt ns i).s) ∧ w.cell? ⟨b, o + i * 5 + 4, none⟩ = some (.slice LA (ndAt ns i).l.length c) ∧ IntRow w0 LA (ndAt ns i).l := by
  obtain ⟨b, o, LA, c, e, hb, d0, d1, d2, d3, d4, hL⟩ := nd_at h i hi
  have g (x : Nat) : w.cell? ⟨b, x, none⟩ = w0.cell? ⟨b, x, none⟩ := f.cell (p := ⟨b, x, none⟩) hb (by simp)
  exact ⟨b, o, LA, c, e, Nat.lt_of_lt_of_le hb f.size, (g _).trans d0, (g _).trans d1, (g _).trans d2, (g _).trans d3, (g _).trans d4, hL⟩
theorem quote_at {w : World} {b o : Nat} {ns : List Nd} (h : NdRow w (some ⟨b, o, none⟩) ns) {j : Nat} (hj : j < ns.length) {xk xa xn : Int} {xs : ByteArray} {p0 p1 : Nat} (hx : ndAt ns j = ⟨xk, xa, xn, xs, [p0, p1]⟩) :
    ∃ b3 o3 lc3, b3 < w.heap.size ∧ w.cell? ⟨b, o + j * 5 + 4, none⟩ = some (.slice (some ⟨b3, o3, none⟩) 2 lc3) ∧ w.cell? ⟨b3, o3 + 1, none⟩ = some (.int .i64 (p1 : Int)) := by
  obtain ⟨b2, o2, LA, lc, e, hb, _, _, _, _, d4, hL⟩ := nd_at h j hj
  injection e with e
  injection e with e1 e2
  subst e1 e2
  rw [hx] at d4 hL
  obtain ⟨b3, o3, rfl, hb3, c⟩ := hL 1 (by simp)
  exact ⟨b3, o3, lc, hb3, d4, c⟩
/-- At the head of begin's loop. -/
def BegI (w0 : World) (q : Nat) (dv : Value) (ns : List Nd) (i : Nat) (T : List UInt8) (os : List Op) (j : Nat) (wr : World) : Prop :=
  ∃ T1, Pr w0 wr q dv T1 os ∧ T1 ++ dt ns j = T ++ dt ns i ∧ sz ns j ≤ sz ns i
set_option maxHeartbeats 400000 in
set_option maxRecDepth 20000 in
theorem begin_any {DA : Option Addr} {n c : Nat} (ns : List Nd) (hn : ns.length = n) (hok : Ok ns) (hN : NdRow w0 DA ns) (hT0 : Tab w0) (i : Nat) (hi : i < n) (h : Pr w0 w q (.slice DA n c) T os) (hg : Gd w0 ns os)
    (hlen : (T ++ (dt ns i ++ restO ns (prs os))).length ≤ 1099511627776) :
    Calls Tryz.prog 14 #[.pointer (some ⟨q, 0, none⟩), .int .i64 (i : Int)] w (BegP w0 q (.slice DA n c) ns i T os) := by
  have HN := Lib.hid hN
  have HNL := Lib.hid hn
  have HOK := Lib.hid hok
  have HT := Lib.hid hT0
  have HG := Lib.hid hg
  have HLEN := Lib.hid hlen
  have HB0 : Hid (BegI w0 q (.slice DA n c) ns i T os i w) := Lib.hid ⟨T, h, rfl, Nat.le_refl _⟩
  clear hn hok hN hT0 hg h hlen
  go_enter Tryz.func14, Tryz.ntmps14
  go_wp2_with (fail)
  go_loopw [1] (fun s1 wr => ∃ j : Nat, j < n ∧ s1 = .int .i64 j ∧ Hid (BegI w0 q (.slice DA n c) ns i T os j wr)) (fun s1 _ => (intOf s1).toNat)
  case atStart => exact ⟨i, hi, rfl, HB0⟩
  case round =>
    obtain ⟨j, hj, rfl, hI⟩ := hrel
    obtain ⟨T1, hP, hE, hS⟩ := hI.out
    clear hI HB0
    have hjn : j < ns.length := by rw [HNL.out]; exact hj
    obtain ⟨b, o, LA, lc, rfl, hb, d0, d1, d2, d3, d4, hL⟩ := nd_at2 HN.out hP.far j hjn
    have c0 := hP.cell
    have HIS := Lib.hid (isq_any ns HNL.out c0 (HN.out.far hP.far) (ndAt ns j) LA lc (hL.far hP.far) (fun p hp => by have := HOK.out.lt j hjn p hp; omega))
    obtain ⟨Q, hQ⟩ : ∃ Q, quo ns (ndAt ns j) = Q := ⟨_, rfl⟩
    rw [hQ] at HIS
    have HP := Lib.hid hP
    have HE := Lib.hid hE
    have HS := Lib.hid hS
    have HL := Lib.hid hL
    have hT1 : T1.length ≤ 1099511627776 := by
      have h1 := HLEN.out
      have h2 := congrArg List.length hE
      simp only [List.length_append] at h1 h2
      omega
    clear hP hE hS hL
    cases Q with
    | true =>
      obtain ⟨g1, g2⟩ := sz_quote HOK.out hjn hQ
      have g3 := dt_quote HOK.out hjn hQ
      have h2 := quo_two hQ
      have HG3 := Lib.hid g3
      generalize hx : ndAt ns j = x at *
      obtain ⟨xk, xa, xn, xs, xl⟩ := x
      simp only at d0 d1 d2 d3 d4 HL HIS h2 g1 g2 HG3
      obtain ⟨p0, p1, rfl⟩ := two_of xl h2
      have HX := Lib.hid hx
      have hgd : [p0, p1].getD 1 0 = p1 := rfl
      rw [hgd] at g1 g2 HG3
      simp only [List.length_cons, List.length_nil] at HIS d4
      clear hx hQ h2 g3 hgd
      go_wp2_with (first
        | (go_at_call 29; (with_reducible refine HIS.out.mono ?_); rintro e w2 ⟨rfl, hF2⟩; have HP2 := Lib.hid (HP.out.to hF2); clear hF2)
        | (go_at_call 30; (with_reducible refine (HP2.out.byte 39 39 rfl (by omega)).mono ?_); rintro e w3 ⟨rfl, -, hP3⟩
           have e0 := hP3.cell
           obtain ⟨b3, o3, lc3, hb3, e4, e5⟩ := quote_at (HN.out.far hP3.far) hjn HX.out
           have HP3 := Lib.hid hP3
           clear hP3))
      go_roundw
      case rel =>
        refine ⟨p1, by omega, rfl, Lib.hid ⟨T1 ++ [39], HP3.out, ?_, by have := HS.out; omega⟩⟩
        rw [← HE.out, HG3.out, List.append_assoc]; rfl
      case measure => simp [intOf]; omega
    | false =>
      have HDT : Hid (T1 ++ (dt ns j ++ restO ns (prs os)) = T ++ (dt ns i ++ restO ns (prs os))) := Lib.hid (by rw [← List.append_assoc, HE.out, List.append_assoc])
      have hsz2 := sz_two HOK.out hjn
      have hnum := HOK.out.num j hjn
      have hk := HOK.out.kind_at hjn
      have hll := HOK.out.len j hjn
      obtain ⟨m, hm⟩ : ∃ m, (ndAt ns j).l.length = m := ⟨_, rfl⟩
      have HM := Lib.hid hm
      rw [hm] at d4 HIS hll
      clear hm
      generalize hx : ndAt ns j = x at *
      obtain ⟨xk, xa, xn, xs, xl⟩ := x
      simp only at d0 d1 d2 d3 d4 HL HIS hnum hk HM
      have HX := Lib.hid hx
      have HQ := Lib.hid hQ
      have HNUM := Lib.hid hnum
      have hmem : ∀ p ∈ xl, p < ns.length := fun p hp => by
        have := HOK.out.lt j hjn p (by rw [hx]; exact hp)
        omega
      have HMEM := Lib.hid hmem
      have hlT := HLEN.out
      rw [← HDT.out] at hlT
      have HLT := Lib.hid hlT
      clear hx hQ hnum hmem hlT
      have HFB : ∀ wz : World, Hid (MM.Far [] wz (wz.alloc (.cells #[.int .u8 xk, .int .i64 xa, .int .i64 xn, .string xs, .slice LA m lc] 81))) := fun wz => Lib.hid ((MM.Far.refl [] wz).alloc _)
      rcases hk with rfl | rfl | rfl | rfl
      · have HD := Lib.hid (dt_int HOK.out hjn (by rw [HX.out]))
        rw [HX.out] at HD
        go_wp2_with (first
          | (go_at_call 29; (with_reducible refine HIS.out.mono ?_); rintro e w2 ⟨rfl, hF2⟩
             have y0 := (hF2.cell (p := ⟨b, o + j * 5, none⟩) hb (by simp)).trans d0
             have y1 := (hF2.cell (p := ⟨b, o + j * 5 + 1, none⟩) hb (by simp)).trans d1
             have y2 := (hF2.cell (p := ⟨b, o + j * 5 + 2, none⟩) hb (by simp)).trans d2
             have y3 := (hF2.cell (p := ⟨b, o + j * 5 + 3, none⟩) hb (by simp)).trans d3
             have y4 := (hF2.cell (p := ⟨b, o + j * 5 + 4, none⟩) hb (by simp)).trans d4
             have c2 := (HP.out.to hF2).cell
             have HP2 := Lib.hid (HP.out.to (hF2.trans (HFB w2).out (by simp)))
             have HR := Lib.hid (MM.Row.new w2 81 [.int .u8 1, .int .i64 xa, .int .i64 xn, .string xs, .slice LA m lc])
             clear hF2))
        rw [show w2.alloc (.cells [Value.int .u8 1, .int .i64 xa, .int .i64 xn, .string xs, .slice LA m lc].toArray 81) = w2.alloc (.cells #[.int .u8 1, .int .i64 xa, .int .i64 xn, .string xs, .slice LA m lc] 81) from rfl] at HR
        generalize w2.heap.size = bx at *
        generalize w2.alloc (.cells #[.int .u8 1, .int .i64 xa, .int .i64 xn, .string xs, .slice LA m lc] 81) = W at *
        have zz := HR.out.at (i := 2) rfl
        have hsz : (str (Lib.itoa xn)).size ≤ 21 := by
          have h1 := Lib.itoa_length_le xn HNUM.out.1 HNUM.out.2
          have h2 : (str (Lib.itoa xn)).size = (Lib.itoa xn).length := rfl
          omega
        have HI := Lib.hid (fun (wx : World) (f : MM.Far [] W wx) => itoa_any xn HNUM.out.1 HNUM.out.2 wx (HT.out.far (HP2.out.far.trans f (by simp))))
        have HSt := Lib.hid (fun (wx : World) (f : MM.Far [] W wx) => (HP2.out.to f).str (str (Lib.itoa xn)) (by omega) (by omega))
        go_region_held3 (fun w' => w'.cell? ⟨bx, 2, none⟩ = some (.int .i64 xn)) (go_keep) (first
          | (go_at_call 32
             (with_reducible refine (HI.out _ (by first | exact MM.Far.refl [] _ | exact (MM.Far.refl [] _).drew)).mono ?_)
             rintro e w5 ⟨rfl, hF5⟩
             have zz : w5.cell? ⟨bx, 2, none⟩ = some (.int .i64 xn) := fcell hF5 (by assumption)
             have HF5 : Hid (MM.Far [] W w5) := Lib.hid (by first | exact hF5 | exact (MM.Far.refl [] W).drew.trans hF5 (by simp))
             clear hF5)
          | (go_at_call 31
             (with_reducible refine (HSt.out _ (by first | exact HF5.out | exact HF5.out.drew | exact MM.Far.refl [] _ | exact (MM.Far.refl [] _).drew)).mono ?_)
             rintro e w6 ⟨⟨xx, rfl⟩, hK6, hP6⟩
             have zz : w6.cell? ⟨bx, 2, none⟩ = some (.int .i64 xn) := (hK6.node bx _ (HR.out.far (by first | exact HF5.out | exact HF5.out.drew | exact MM.Far.refl [] _ | exact (MM.Far.refl [] _).drew) (by simp))).at (i := 2) rfl
             have HP6 := Lib.hid hP6
             clear hK6 hP6))
        go_wp2
        go_end0
        refine ⟨_, os, rfl, HP6.out.to (by first | exact MM.Far.refl [] _ | exact (MM.Far.refl [] _).drew | exact (MM.Far.refl [] _).drewN _), ?_, by have := HS.out; omega, HG.out⟩
        rw [← HDT.out, HD.out, List.append_assoc]
        rfl
      · have HD := Lib.hid (dt_bool HOK.out hjn (by rw [HX.out]))
        rw [HX.out] at HD
        go_wp2_with (first
          | (go_at_call 29; (with_reducible refine HIS.out.mono ?_); rintro e w2 ⟨rfl, hF2⟩
             have y0 := (hF2.cell (p := ⟨b, o + j * 5, none⟩) hb (by simp)).trans d0
             have y1 := (hF2.cell (p := ⟨b, o + j * 5 + 1, none⟩) hb (by simp)).trans d1
             have y2 := (hF2.cell (p := ⟨b, o + j * 5 + 2, none⟩) hb (by simp)).trans d2
             have y3 := (hF2.cell (p := ⟨b, o + j * 5 + 3, none⟩) hb (by simp)).trans d3
             have y4 := (hF2.cell (p := ⟨b, o + j * 5 + 4, none⟩) hb (by simp)).trans d4
             have c2 := (HP.out.to hF2).cell
             have HP2 := Lib.hid (HP.out.to (hF2.trans (HFB w2).out (by simp)))
             have HR := Lib.hid (MM.Row.new w2 81 [.int .u8 2, .int .i64 xa, .int .i64 xn, .string xs, .slice LA m lc])
             clear hF2))
        rw [show w2.alloc (.cells [Value.int .u8 2, .int .i64 xa, .int .i64 xn, .string xs, .slice LA m lc].toArray 81) = w2.alloc (.cells #[.int .u8 2, .int .i64 xa, .int .i64 xn, .string xs, .slice LA m lc] 81) from rfl] at HR
        generalize w2.heap.size = bx at *
        generalize w2.alloc (.cells #[.int .u8 2, .int .i64 xa, .int .i64 xn, .string xs, .slice LA m lc] 81) = W at *
        have zz := HR.out.at (i := 2) rfl
        obtain ⟨tb, htb⟩ : ∃ tb, (xn == 1) = tb := ⟨_, rfl⟩
        have htb2 : decide (xn = 1) = tb := by rw [← htb]; rfl
        have HTB := Lib.hid htb2
        clear htb2
        have hsz : (boolS tb).size ≤ 2 := by cases tb <;> decide
        have HI := Lib.hid (fun (wx : World) => bool_any tb wx)
        have HSt := Lib.hid (fun (wx : World) (f : MM.Far [] W wx) => (HP2.out.to f).str (boolS tb) (by omega) (by omega))
        go_region_held3 (fun w' => w'.cell? ⟨bx, 2, none⟩ = some (.int .i64 xn)) (go_keep) (first
          | (go_at_call 33
             (with_reducible refine (HI.out _).mono ?_)
             rintro e w5 ⟨rfl, hF5⟩
             have zz : w5.cell? ⟨bx, 2, none⟩ = some (.int .i64 xn) := fcell hF5 (by assumption)
             have HF5 : Hid (MM.Far [] W w5) := Lib.hid (by first | exact hF5 | exact (MM.Far.refl [] W).drew.trans hF5 (by simp))
             clear hF5)
          | (go_at_call 31
             (with_reducible refine (HSt.out _ (by first | exact HF5.out | exact HF5.out.drew | exact MM.Far.refl [] _ | exact (MM.Far.refl [] _).drew)).mono ?_)
             rintro e w6 ⟨⟨xx, rfl⟩, hK6, hP6⟩
             have zz : w6.cell? ⟨bx, 2, none⟩ = some (.int .i64 xn) := (hK6.node bx _ (HR.out.far (by first | exact HF5.out | exact HF5.out.drew | exact MM.Far.refl [] _ | exact (MM.Far.refl [] _).drew) (by simp))).at (i := 2) rfl
             have HP6 := Lib.hid hP6
             clear hK6 hP6))
        go_wp2
        go_end0
        refine ⟨_, os, rfl, HP6.out.to (by first | exact MM.Far.refl [] _ | exact (MM.Far.refl [] _).drew | exact (MM.Far.refl [] _).drewN _), ?_, by have := HS.out; omega, HG.out⟩
        have e2 : bts (boolS tb) = if xn = 1 then [35, 116] else [35, 102] := by
          have := HTB.out
          by_cases e : xn = 1
          · rw [decide_eq_true e] at this
            subst this
            rw [if_pos e]; rfl
          · rw [decide_eq_false e] at this
            subst this
            rw [if_neg e]; rfl
        rw [← HDT.out, HD.out, e2, List.append_assoc]
      · have HD := Lib.hid (dt_name HOK.out hjn (by rw [HX.out]))
        rw [HX.out] at HD
        go_wp2_with (first
          | (go_at_call 29; (with_reducible refine HIS.out.mono ?_); rintro e w2 ⟨rfl, hF2⟩
             have y0 := (hF2.cell (p := ⟨b, o + j * 5, none⟩) hb (by simp)).trans d0
             have y1 := (hF2.cell (p := ⟨b, o + j * 5 + 1, none⟩) hb (by simp)).trans d1
             have y2 := (hF2.cell (p := ⟨b, o + j * 5 + 2, none⟩) hb (by simp)).trans d2
             have y3 := (hF2.cell (p := ⟨b, o + j * 5 + 3, none⟩) hb (by simp)).trans d3
             have y4 := (hF2.cell (p := ⟨b, o + j * 5 + 4, none⟩) hb (by simp)).trans d4
             have c2 := (HP.out.to hF2).cell
             have HP2 := Lib.hid (HP.out.to (hF2.trans (HFB w2).out (by simp)))
             have HR := Lib.hid (MM.Row.new w2 81 [.int .u8 3, .int .i64 xa, .int .i64 xn, .string xs, .slice LA m lc])
             clear hF2))
        rw [show w2.alloc (.cells [Value.int .u8 3, .int .i64 xa, .int .i64 xn, .string xs, .slice LA m lc].toArray 81) = w2.alloc (.cells #[.int .u8 3, .int .i64 xa, .int .i64 xn, .string xs, .slice LA m lc] 81) from rfl] at HR
        generalize w2.heap.size = bx at *
        generalize w2.alloc (.cells #[.int .u8 3, .int .i64 xa, .int .i64 xn, .string xs, .slice LA m lc] 81) = W at *
        have zz := HR.out.at (i := 3) rfl
        have hsz : xs.size ≤ 1099511627776 := by
          have h1 := HLT.out
          rw [HD.out] at h1
          simp only [List.length_append] at h1
          have h2 : (bts xs).length = xs.size := by unfold bts; rw [Array.length_toList]; rfl
          omega
        have HSt := Lib.hid (fun (wx : World) (f : MM.Far [] W wx) => (HP2.out.to f).str xs (by omega) (by omega))
        go_region_held3 (fun w' => w'.cell? ⟨bx, 3, none⟩ = some (.string xs)) (go_keep) (first
          | (go_at_call 31
             (with_reducible refine (HSt.out _ (by first | exact MM.Far.refl [] _ | exact (MM.Far.refl [] _).drew)).mono ?_)
             rintro e w6 ⟨⟨xx, rfl⟩, hK6, hP6⟩
             have zz : w6.cell? ⟨bx, 3, none⟩ = some (.string xs) := (hK6.node bx _ (HR.out.far (by first | exact MM.Far.refl [] _ | exact (MM.Far.refl [] _).drew) (by simp))).at (i := 3) rfl
             have HP6 := Lib.hid hP6
             clear hK6 hP6))
        go_wp2
        go_end0
        refine ⟨_, os, rfl, HP6.out.to (by first | exact MM.Far.refl [] _ | exact (MM.Far.refl [] _).drew | exact (MM.Far.refl [] _).drewN _), ?_, by have := HS.out; omega, HG.out⟩
        rw [← HDT.out, HD.out, List.append_assoc]
      · have HDL := Lib.hid (dt_list HOK.out hjn (by rw [HX.out]) (by rw [HX.out]; exact HQ.out))
        rw [HX.out] at HDL
        go_wp2_with (first
          | (go_at_call 29; (with_reducible refine HIS.out.mono ?_); rintro e w2 ⟨rfl, hF2⟩
             have hF2' := hF2.cell (p := ⟨b, o + j * 5, none⟩) hb (by simp)
             have y0 := hF2'.trans d0
             have y1 := (hF2.cell (p := ⟨b, o + j * 5 + 1, none⟩) hb (by simp)).trans d1
             have y2 := (hF2.cell (p := ⟨b, o + j * 5 + 2, none⟩) hb (by simp)).trans d2
             have y3 := (hF2.cell (p := ⟨b, o + j * 5 + 3, none⟩) hb (by simp)).trans d3
             have y4 := (hF2.cell (p := ⟨b, o + j * 5 + 4, none⟩) hb (by simp)).trans d4
             have c2 := (HP.out.to hF2).cell
             have HP2 := Lib.hid (HP.out.to (hF2.trans (HFB w2).out (by simp)))
             clear hF2 hF2')
          | (go_at_call 30; (with_reducible refine (HP2.out.byte 40 40 rfl (by omega)).mono ?_); rintro e w3 ⟨rfl, hK3, hP3⟩
             have hB3 := hK3.node _ _ (MM.Row.new w2 81 [.int .u8 4, .int .i64 xa, .int .i64 xn, .string xs, .slice LA m lc])
             have hbx := hB3.lt
             obtain ⟨pv, bv, ov, hP3⟩ := hP3
             obtain ⟨oA, oc, rfl⟩ := form_ w0 hP3.op
             have HP3 := Lib.hid hP3
             have HB3 := Lib.hid hB3
             clear hK3 hB3 hP3
             generalize w2.heap.size = bx at *
             have c3 := HP3.out.head.at (i := 3) rfl
             have z4 := HB3.out.at (i := 4) rfl
             have hA3 := (MM.Far.refl [] w3).alloc (.cells #[.slice LA m lc, .int .i64 0] 98)
             have c3a := (HP3.out.to hA3).head.at (i := 3) rfl
             have z4a := (HB3.out.far hA3 (by simp)).at (i := 4) rfl
             have hb3 := HP3.out.far.size
             have hol : os.length ≤ 1099511627776 := by
               have h1 := restO_len ns (prs os)
               have h2 := HLT.out
               simp only [List.length_append, prs, List.length_map] at h1 h2
               omega
             clear hA3))
        go_region_law (
            refine MO.step_append ?_ (.tmp 74) (.tmp 78) 59 ?_ w0.heap.size 98 _ 2 32 opens_slice open_info rfl (by omega) (.slice oA os.length oc) os.length (oC os.reverse) ?_ ?_ (some ⟨w3.heap.size, 0, none⟩) 1 1 [.slice LA m lc, .int .i64 0] ?_ rfl (fun h => by cases h) [] ?_ (op_one LA m lc 0) ?_ ?_ ?_ ?_
            · rfl
            · rfl
            · rfl
            · exact HP3.out.op.alloc _
            · rfl
            · exact (MM.Src.row (MM.Row.new w3 98 [.slice LA m lc, .int .i64 0]) (by simp) _ (fun j u hu => hu))
            · simp only [maxLen]; omega
            · omega
            · simp; omega
            intro v4 w4 hv4 hg4 hat4
            obtain ⟨A4, c4, rfl⟩ := form_ w0 hv4
            have F4 : MM.Far (Value.slice oA os.length oc).ownBlock.toList w3 w4 := far_app hg4
            rw [← HM.out] at hv4
            obtain ⟨hN4, hH4⟩ := HP3.out.push (x := ⟨xl, 0, LA, lc⟩) hv4 F4
            have HN4 := Lib.hid hN4
            have d3 := hH4.at (i := 3) rfl
            have e3 := hH4.frozen 3
            clear hg4 hv4 hat4 F4 hN4 hH4)
        all_goals
          go_wp2
          go_end0
          refine ⟨_, _, rfl, ⟨_, _, _, HN4.out⟩, ?_, ?_, ?_⟩
          · show T1 ++ [40] ++ restO ns ((xl, 0) :: prs os) = _
            rw [restO_cons, ← HDT.out, HDL.out]
            simp only [List.append_assoc, List.cons_append, List.nil_append]
          · show szO ns ((xl, 0) :: prs os) + 1 ≤ _
            have h1 := sz_eq HOK.out hjn
            rw [HX.out] at h1
            have h2 := HS.out
            rw [szO_cons, List.drop_zero]
            simp only at h1
            omega
          · intro y hy
            rcases List.mem_cons.1 hy with rfl | hy
            · refine ⟨HMEM.out, by simp, by rw [HM.out]; exact hll, ?_⟩
              exact HL.out
            · exact HG.out y hy
end
end SW
end Go.Proofs.YtpbfgfadickgbaaGreatDoor
/-
  Contract of the printer's goOn. Conditions: as begin's.
-/
namespace Go.Proofs.YtpbfgfadickgbaaGreatDoor
open Go.RowKit
namespace SW
open LX RX RW6 SX
open RC6 (own_off one_far form_ far_app far_app0 own_row)
/-- What goOn comes to. -/
def GoP (w0 : World) (q : Nat) (dv : Value) (ns : List Nd) (T : List UInt8) (os : List Op) (e : Ending) (w' : World) : Prop :=
  ∃ T' os', e = .returned (.tuple #[]) ∧ Pr w0 w' q dv T' os' ∧ T' ++ restO ns (prs os') = T ++ restO ns (prs os) ∧ szO ns (prs os') + 1 ≤ szO ns (prs os) ∧ Gd w0 ns os'
section
variable {w0 w : World} {q : Nat} {T : List UInt8}
set_option maxHeartbeats 2000000 in
set_option maxRecDepth 20000 in
theorem goon_any {DA : Option Addr} {n c : Nat} (ns : List Nd) (hn : ns.length = n) (hok : Ok ns) (hN : NdRow w0 DA ns) (hT0 : Tab w0) (x : Op) (os1 : List Op) (h : Pr w0 w q (.slice DA n c) T (x :: os1)) (hg : Gd w0 ns (x :: os1))
    (hlen : (T ++ restO ns (prs (x :: os1))).length ≤ 1099511627776) :
    Calls Tryz.prog 15 #[.pointer (some ⟨q, 0, none⟩)] w (GoP w0 q (.slice DA n c) ns T (x :: os1)) := by
  obtain ⟨pv, bv, ov, hP⟩ := h
  obtain ⟨og, oc, rfl, hc1, hc2, d0, d1, hfz, hog⟩ := op_at hP
  obtain ⟨hmem, hkl, hll, hI⟩ := hg x (List.mem_cons_self ..)
  have hg1 : Gd w0 ns os1 := fun y hy => hg y (List.mem_cons_of_mem _ hy)
  obtain ⟨l, k, LA, lc⟩ := x
  simp only at d0 d1 hmem hkl hll hI
  have hol : os1.length ≤ 1099511627776 := by
    have h1 := restO_len ns (prs (⟨l, k, LA, lc⟩ :: os1))
    simp only [List.length_append, prs, List.length_map, List.length_cons] at h1 hlen
    omega
  have hTl : T.length ≤ 1099511627776 := by
    rw [List.length_append] at hlen
    omega
  have k3 := hP.head.at (i := 3) rfl
  have kf := hP.head.frozen 3
  have hq := hP.head.lt
  have HP := Lib.hid hP
  have HG1 := Lib.hid hg1
  have HI := Lib.hid hI
  have HMEM := Lib.hid hmem
  have HFZ := Lib.hid hfz
  have HLEN := Lib.hid hlen
  have HN := Lib.hid hN
  have HNL := Lib.hid hn
  have HOK := Lib.hid hok
  have HT := Lib.hid hT0
  obtain ⟨m, hm⟩ : ∃ m, l.length = m := ⟨_, rfl⟩
  have HM := Lib.hid hm
  rw [hm] at d0 hkl hll
  have h1 : (os1.length : Int) < (os1.length : Int) + 1 := by omega
  have hoc : ¬ oc = 0 := by omega
  have hcI : (os1.length : Int) ≤ (oc : Int) := by omega
  have hcI2 : (0 : Int) ≤ (os1.length : Int) := by omega
  unfold maxLen at hc2
  clear hP hg hg1 hI hmem hfz hlen hN hn hok hT0 hm
  by_cases hkm : k = m
  · subst hkm
    have HE : Hid (restO ns (prs (⟨l, k, LA, lc⟩ :: os1)) = 41 :: restO ns (prs os1)) := Lib.hid (by
      show restO ns ((l, k) :: prs os1) = _
      rw [restO_cons, ← HM.out, restL_end]; rfl)
    have HW := Lib.hid (fun (wx : World) (f : MM.Far [] w wx) => wbyte_any (HP.out.to f) 41 41 rfl (by omega))
    go_enter Tryz.func15, Tryz.ntmps15
    go_wp2
    go_quiet (fail)
    go_wp2
    go_quiet (fail)
    go_wp2_with (first
      | (go_at_call 30; (refine (HW.out _ (by first | exact ((MM.Far.refl [] w).drewN _).drewN _ | exact (MM.Far.refl [] w).drewN _)).mono ?_); rintro e w3 ⟨rfl, -, bv3, hP3⟩
         have HP3 := Lib.hid hP3
         have e3 := HP3.out.head.at (i := 3) rfl
         have f3 := HP3.out.head.frozen 3
         clear hP3))
    go_region
    all_goals
      go_wp2
      go_end0
      refine ⟨T ++ [41], os1, rfl, ⟨_, _, _, (HP3.out.pop (MM.Far.refl [] _)).to (by first | exact MM.Far.refl [] _ | exact (MM.Far.refl [] _).drew)⟩, ?_, ?_, HG1.out⟩
      · rw [HE.out, List.append_assoc]; rfl
      · show szO ns (prs os1) + 1 ≤ szO ns ((l, k) :: prs os1)
        rw [szO_cons]; omega
  · have hlt : k < m := by omega
    have hkl2 : k < l.length := by rw [HM.out]; exact hlt
    obtain ⟨bl, ol, rfl, hbl, cl⟩ := HI.out k hkl2
    have hpn := HMEM.out _ (List.getElem_mem hkl2)
    have HE : Hid (restO ns (prs (⟨l, k, some ⟨bl, ol, none⟩, lc⟩ :: os1)) = (if k = 0 then [] else [32]) ++ (dt ns l[k] ++ restO ns (prs (⟨l, k + 1, some ⟨bl, ol, none⟩, lc⟩ :: os1)))) := Lib.hid (by
      show restO ns ((l, k) :: prs os1) = _ ++ (_ ++ restO ns ((l, k + 1) :: prs os1))
      rw [restO_cons, restO_cons, restL_step ns l k hkl2]
      simp only [List.append_assoc])
    have HSZ : Hid (szO ns (prs (⟨l, k, some ⟨bl, ol, none⟩, lc⟩ :: os1)) = sz ns l[k] + szO ns (prs (⟨l, k + 1, some ⟨bl, ol, none⟩, lc⟩ :: os1))) := Lib.hid (by
      show szO ns ((l, k) :: prs os1) = _ + szO ns ((l, k + 1) :: prs os1)
      rw [szO_cons, szO_cons, drop_sum ns l k hkl2]
      omega)
    generalize l[k] = p at *
    have hpn2 : p < n := by rw [← HNL.out]; exact hpn
    have HGX : Hid (Gd w0 ns (⟨l, k + 1, some ⟨bl, ol, none⟩, lc⟩ :: os1)) := Lib.hid (fun y hy => by
      rcases List.mem_cons.1 hy with rfl | hy
      · exact ⟨HMEM.out, by simp only; omega, by simp only; rw [HM.out]; exact hll, HI.out⟩
      · exact HG1.out y hy)
    have HB := Lib.hid (fun (wx : World) (T3 : List UInt8) (hT3 : T3 = T ++ (if k = 0 then [] else [32])) (hP : Pr w0 wx q (.slice DA n c) T3 (⟨l, k + 1, some ⟨bl, ol, none⟩, lc⟩ :: os1)) => begin_any ns HNL.out HOK.out HN.out HT.out p hpn2 hP HGX.out (by have := HLEN.out; rw [HE.out, ← List.append_assoc, ← hT3] at this; exact this))
    have cl2 := (HP.out.far.cell (p := ⟨bl, ol + k, none⟩) hbl (by simp)).trans cl
    have hfz1 := HFZ.out (os1.length * 2 + 1)
    have g1 : ((k : Int) == (m : Int)) = false := by rw [beq_eq_false_iff_ne]; omega
    have g2 : decide ((k : Int) = (m : Int)) = false := by simp; omega
    have HKL := Lib.hid (show k < m from hlt)
    have HNX := Lib.hid (fun (wx : World) (z : Int) (bv2 pv2 : Value) (T2 : List UInt8) (hz : z = ((k + 1 : Nat) : Int)) (h : PrV w0 wx q (.slice DA n c) pv2 bv2 (.slice (some ⟨og, 0, none⟩) (os1.length + 1) oc) T2 (⟨l, k, some ⟨bl, ol, none⟩, lc⟩ :: os1)) =>
      (show PrV w0 (wx.setCell ⟨og, os1.length * 2 + 1, none⟩ (.int .i64 z)) q (.slice DA n c) pv2 bv2 (.slice (some ⟨og, 0, none⟩) (os1.length + 1) oc) T2 (⟨l, k + 1, some ⟨bl, ol, none⟩, lc⟩ :: os1) from hz ▸ h.next (k + 1)))
    by_cases hk0 : 0 < (k : Int)
    · have HT3 : Hid (T ++ [32] = T ++ (if k = 0 then [] else [32])) := Lib.hid (by rw [if_neg (by omega)])
      have HT3E : Hid ((if k = 0 then [] else [32]) = ([32] : List UInt8)) := Lib.hid (by rw [if_neg (by omega)])
      have HW := Lib.hid (fun (wx : World) (f : MM.Far [] w wx) => wbyte_any (HP.out.to f) 32 32 rfl (by omega))
      go_enter Tryz.func15, Tryz.ntmps15
      go_wp2
      go_quiet (fail)
      go_wp2
      go_quiet (fail)
      go_wp2_with (first
        | (go_at_call 30; (refine (HW.out _ (by first | exact ((MM.Far.refl [] w).drewN _).drewN _ | exact (MM.Far.refl [] w).drewN _)).mono ?_); rintro e w3 ⟨rfl, -, bv3, hP3⟩
           obtain ⟨og', oc', hov, -, -, d0', d1', hfz3, hog3⟩ := op_at hP3
           injection hov with hov1 hov2 hov3
           injection hov1 with hov1
           injection hov1 with hov1
           subst hov1
           have hfz4 := hfz3 (os1.length * 2 + 1)
           have cl3 := (hP3.far.cell (p := ⟨bl, ol + k, none⟩) hbl (by simp)).trans cl
           simp only at d0' d1'
           rw [HM.out] at d0'
           have HP3 := Lib.hid hP3
           clear hP3 hfz3 hov2 hov3))
      go_quiet (fail)
      go_wp2_with (go_at_call 14; (refine (HB.out _ _ HT3.out ⟨_, _, _, HNX.out _ _ _ _ _ rfl (HP3.out.to (by first | exact (MM.Far.refl [] _).drewN _ | exact ((MM.Far.refl [] _).drewN _).drewN _))⟩).mono ?_); rintro e w5 ⟨T5, os5, rfl, hP5, hE5, hS5, hG5⟩; have HP5 := Lib.hid hP5; have HE5 := Lib.hid hE5; have HS5 := Lib.hid hS5; have HG5 := Lib.hid hG5; clear hP5 hE5 hS5 hG5)
      go_end0
      refine ⟨T5, os5, rfl, HP5.out, ?_, ?_, HG5.out⟩
      · rw [HE5.out, HE.out, HT3E.out]
        simp only [List.append_assoc]
      · have h2 := HSZ.out
        have h3 := HS5.out
        omega
    · have HT3 : Hid (T = T ++ (if k = 0 then [] else [32])) := Lib.hid (by rw [if_pos (by omega)]; simp)
      have HT3E : Hid ((if k = 0 then [] else [32]) = ([] : List UInt8)) := Lib.hid (by rw [if_pos (by omega)])
      go_enter Tryz.func15, Tryz.ntmps15
      go_wp2
      go_quiet (fail)
      go_wp2
      go_quiet (fail)
      go_wp2
      go_quiet (fail)
      go_wp2_with (go_at_call 14; (refine (HB.out _ _ HT3.out ⟨_, _, _, HNX.out _ _ _ _ _ rfl (HP.out.to (by first | exact (MM.Far.refl [] _).drewN _ | exact ((MM.Far.refl [] _).drewN _).drewN _ | exact (((MM.Far.refl [] _).drewN _).drewN _).drewN _))⟩).mono ?_); rintro e w5 ⟨T5, os5, rfl, hP5, hE5, hS5, hG5⟩; have HP5 := Lib.hid hP5; have HE5 := Lib.hid hE5; have HS5 := Lib.hid hS5; have HG5 := Lib.hid hG5; clear hP5 hE5 hS5 hG5)
      go_end0
      refine ⟨T5, os5, rfl, HP5.out, ?_, ?_, HG5.out⟩
      · rw [HE5.out, HE.out, HT3E.out]
        simp only [List.nil_append]
      · have h2 := HSZ.out
        have h3 := HS5.out
        omega
end
end SW
end Go.Proofs.YtpbfgfadickgbaaGreatDoor
/-
  Contract of the builder's String, the builder being a field of the printer. No condition.
-/
namespace Go.Proofs.YtpbfgfadickgbaaGreatDoor
open Go.RowKit
namespace SW
open LX RX RW6
open RC6 (form_)
section
variable {w0 w : World} {q : Nat} {dv pv bv ov : Value} {T : List UInt8} {os : List Op}
set_option maxHeartbeats 2000000 in
set_option maxRecDepth 100000 in
theorem string_any (h : PrV w0 w q dv pv bv ov T os) : Calls Tryz.prog 16 #[.pointer (some ⟨q, 1, none⟩)] w fun e w' => e = .returned (.string (str T)) ∧ MM.Far [] w0 w' := by
  have c2 : w.drew.cell? ⟨q, 2, none⟩ = some bv := h.head.drew.at (i := 2) rfl
  have c2' : w.cell? ⟨q, 2, none⟩ = some bv := h.head.at (i := 2) rfl
  have hown := h.buf
  have hq := h.head.lt
  have HP := Lib.hid h
  have hF := Lib.hid h.far
  clear h
  by_cases hT : T = []
  · subst hT
    have hUS : ∀ (W : World) (x : Option Addr), (Builtin.unsafeString_ #[100, 3] 9 #[.pointer x, .int .i64 0]).run Tryz.prog W = .ok (.string .empty) W := fun W x => Lib.run_unsafeString_none W _ _ _ x
    rcases hown.2 with ⟨rfl, _⟩ | ⟨g, cap, cur, rfl, hbg, hg, _⟩
    · have hSD : ∀ W : World, (Builtin.unsafeSliceData_ #[56] 100 #[.slice none 0 0]).run Tryz.prog W = .ok (.pointer none) W := fun W => rfl
      go_enter Tryz.func16, Tryz.ntmps16
      go_wp2
      go_region
      all_goals
        go_wp2
        go_ret
        exact ⟨rfl, hF.out.drew⟩
    · simp only [List.length_nil] at c2 c2'
      by_cases hc0 : cap = 0
      · subst hc0
        have hsh : w.drew.shape? g = some (5, cur.size) := by
          have hg' : w.drew.heap[g]? = some (.cells cur 5 (0, 0)) := hg
          simp [World.shape?, hg']
        have hSD : (Builtin.unsafeSliceData_ #[56] 100 #[.slice (some ⟨g, 0, none⟩) 0 0]).run Tryz.prog w.drew = .ok (.pointer (some ⟨w.drew.heap.size, 0, none⟩)) (w.drew.alloc (.view ⟨g, 0, none⟩ 5)) :=
          Lib.run_unsafeSliceData_zero w.drew _ _ 5 Tryz.underlying100 ⟨g, 0, none⟩ 0 _ hsh
        have c3 : (w.alloc (.view ⟨g, 0, none⟩ 5)).drew.cell? ⟨q, 2, none⟩ = some (.slice (some ⟨g, 0, none⟩) 0 0) := ((HP.out.to ((MM.Far.refl [] w).alloc (.view ⟨g, 0, none⟩ 5)))).head.at (i := 2) rfl
        have c4 : (w.alloc (.view ⟨g, 0, none⟩ 5)).cell? ⟨q, 2, none⟩ = some (.slice (some ⟨g, 0, none⟩) 0 0) := c3
        go_enter Tryz.func16, Tryz.ntmps16
        go_wp2
        go_region
        all_goals
          go_wp2
          go_ret
          exact ⟨rfl, (hF.out.alloc _).drew⟩
      · have hSD : ∀ W : World, (Builtin.unsafeSliceData_ #[56] 100 #[.slice (some ⟨g, 0, none⟩) 0 cap]).run Tryz.prog W = .ok (.pointer (some ⟨g, 0, none⟩)) W := fun W => Lib.run_unsafeSliceData_row _ _ _ _ _ _ hc0
        clear hc0
        go_enter Tryz.func16, Tryz.ntmps16
        go_wp2
        go_region
        all_goals
          go_wp2
          go_ret
          exact ⟨rfl, hF.out.drew⟩
  · have hl0 : T.length ≠ 0 := by simpa using hT
    rcases hown.2 with ⟨_, hz⟩ | ⟨g, cap, cur, rfl, hbg, hg, hnc, hcm, hcs, htake⟩
    · exact absurd hz hl0
    · have hSD : (Builtin.unsafeSliceData_ #[56] 100 #[.slice (some ⟨g, 0, none⟩) T.length cap]).run Tryz.prog w.drew = .ok (.pointer (some ⟨g, 0, none⟩)) w.drew :=
        Lib.run_unsafeSliceData_row _ _ _ _ _ _ (by omega)
      have hUS : (Builtin.unsafeString_ #[100, 3] 9 #[.pointer (some ⟨g, 0, none⟩), .int .i64 T.length]).run Tryz.prog w.drew = .ok (.string ⟨T.toArray⟩) (w.drew.freeze ⟨g, 0, none⟩ T.length) := by
        refine Lib.run_unsafeString_row w.drew 100 3 9 5 Tryz.underlying100 (by kernel_rfl) g cur.size (by have hg' : w.drew.heap[g]? = some (.cells cur 5 (0, 0)) := hg; simp [World.shape?, hg']) T hT (by omega) (by unfold maxLen at hcm; omega) ?_
        intro j x hx
        have := hown.cells (g := g) rfl j (.int .u8 x.toNat) (by simp [Lib.byteCells, hx])
        exact this
      have hbel : MM.Far [] w0 (w.drew.freeze ⟨g, 0, none⟩ T.length) := MM.Far.of_below (Lib.below_freeze hF.out.drew.below_nil (p := ⟨g, 0, none⟩) hbg _) []
      have HBEL := Lib.hid hbel
      clear hbel hT hl0 hown hcs htake hnc hcm hg
      go_enter Tryz.func16, Tryz.ntmps16
      go_wp2
      go_region
      all_goals
        go_wp2
        go_ret
        exact ⟨rfl, HBEL.out⟩
end
end SW
end Go.Proofs.YtpbfgfadickgbaaGreatDoor
/-
  Contract of the code's Datum over a row of data that may be. Conditions: the text's length; its table is as the program lays it.
-/
namespace Go.Proofs.YtpbfgfadickgbaaGreatDoor
open Go.RowKit
namespace SW
open LX RX RW6 SX
open RC6 (own_off one_far form_ far_app far_app0 own_row)
theorem Pr.start (w : World) (dv : Value) : Pr w (w.alloc (.cells #[dv, .pointer none, .slice none 0 0, .slice none 0 0] 61)) w.heap.size dv [] [] := by
  refine ⟨.pointer none, .slice none 0 0, .slice none 0 0, (MM.Far.refl [] w).alloc _, Nat.le_refl _, MM.Row.new w 61 [dv, .pointer none, .slice none 0 0, .slice none 0 0], .inl rfl, MO.none_ _ _ _ _, MO.none_ _ _ _ _⟩
/-- At the head of Datum's loop: so much work is left. -/
def DatI (w0 : World) (q : Nat) (dv : Value) (ns : List Nd) (D : List UInt8) (k : Nat) (wr : World) : Prop :=
  ∃ T os, Pr w0 wr q dv T os ∧ T ++ restO ns (prs os) = D ∧ szO ns (prs os) = k ∧ Gd w0 ns os
theorem op_len {w0 w : World} {q : Nat} {dv : Value} {T : List UInt8} {os : List Op} (h : Pr w0 w q dv T os) : ∃ A c, w.cell? ⟨q, 3, none⟩ = some (.slice A os.length c) := by
  obtain ⟨pv, bv, ov, h⟩ := h
  obtain ⟨A, c, rfl⟩ := form_ w0 h.op
  exact ⟨A, c, h.head.at (i := 3) rfl⟩
set_option maxHeartbeats 2000000 in
set_option maxRecDepth 20000 in
theorem datum_ok {DA : Option Addr} {n c : Nat} (ns : List Nd) (hn : ns.length = n) (hn2 : n ≤ 100000) (hok : Ok ns) (hll : ∀ x ∈ ns, x.l.length ≤ 100000) (hmay : may (ns.map toI) = true) (w : World) (hN : NdRow w DA ns) (hT0 : Tab w) (i : Nat) (hi : i < n)
    (hlen : (dt ns i).length ≤ 1099511627776) :
    Calls Tryz.prog 6 #[.slice DA n c, .int .i64 (i : Int)] w fun e w' => e = .returned (.tuple #[.string (str (dt ns i)), .int .i64 0]) ∧ MM.Far [] w w' := by
  have HM := Lib.hid (may_yes (ns.map toI) hmay n (by rw [List.length_map]; exact hn) hn2 (fun x hx => by
    obtain ⟨y, hy, rfl⟩ := List.mem_map.1 hx
    unfold toI
    rw [List.length_map]
    exact hll y hy) DA c w (NiRow.of_nd hN))
  have HN := Lib.hid hN
  have HNL := Lib.hid hn
  have HOK := Lib.hid hok
  have HT := Lib.hid hT0
  have HLEN := Lib.hid hlen
  clear hn hok hll hmay hN hT0 hlen
  have hi0 : ¬ ((i : Int) < 0) := by omega
  have hi1 : ¬ ((n : Int) ≤ (i : Int)) := by omega
  go_enter Tryz.func6, Tryz.ntmps6
  go_wp2_with (first
    | (go_at_call 13; (refine HM.out.mono ?_); rintro e w1 ⟨rfl, hF1⟩
       have HF1 := Lib.hid hF1
       have HP0 := Lib.hid (Pr.start w1 (.slice DA n c))
       have HB := Lib.hid (begin_any ns HNL.out HOK.out (HN.out.far hF1) (HT.out.far hF1) i hi HP0.out (fun x hx => by cases hx) (by simpa [prs, restO] using HLEN.out))
       clear hF1)
    | (go_at_call 14; (refine HB.out.mono ?_); rintro e w2 ⟨T2, os2, rfl, hP2, hE2, -, hG2⟩
       have HI2 : Hid (DatI w1 w1.heap.size (.slice DA n c) ns (dt ns i) (szO ns (prs os2)) w2) := Lib.hid ⟨T2, os2, hP2, by rw [hE2]; simp [prs, restO], rfl, hG2⟩
       clear hP2 hE2 hG2))
  generalize szO ns (prs os2) = k0 at HI2
  go_loopg [] k0 (fun k wr => DatI w1 w1.heap.size (.slice DA n c) ns (dt ns i) k wr)
  case atStart => exact HI2.out
  case round =>
    obtain ⟨T, os, hP, hE, hS, hG⟩ := hrel
    obtain ⟨A, oc, c3⟩ := op_len hP
    cases os with
    | nil =>
      have HE : Hid (T = dt ns i) := Lib.hid (by simpa [prs, restO] using hE)
      obtain ⟨pv, bv, ov, hPV⟩ := hP
      have HSt := Lib.hid (string_any hPV)
      clear hE hS hG hPV HI2
      simp only [List.length_nil] at c3
      go_wp2_with (first
        | (go_at_call 16; (refine HSt.out.mono ?_); rintro e w5 ⟨rfl, hF5⟩; have HF5 := Lib.hid hF5; clear hF5))
      go_ret2
      rw [HE.out]
      exact ⟨rfl, HF1.out.trans HF5.out (by simp)⟩
    | cons x os1 =>
      have h1 : (0 : Int) < (os1.length : Int) + 1 := by omega
      rw [List.length_cons] at c3
      have HGO := Lib.hid (goon_any ns HNL.out HOK.out (HN.out.far HF1.out) (HT.out.far HF1.out) x os1 hP hG (by rw [hE]; exact HLEN.out))
      have HE := Lib.hid hE
      have HS := Lib.hid hS
      clear hP hE hS hG HI2
      go_wp2_with (first
        | (go_at_call 15; (refine HGO.out.mono ?_); rintro e w5 ⟨T5, os5, rfl, hP5, hE5, hS5, hG5⟩
           have HP5 := Lib.hid hP5
           have HE5 := Lib.hid hE5
           have HS5 := Lib.hid hS5
           have HG5 := Lib.hid hG5
           clear hP5 hE5 hS5 hG5))
      go_roundg (szO ns (prs os5))
      case measure => have h1 := HS5.out; have h2 := HS.out; omega
      case rel => exact ⟨T5, os5, HP5.out, by rw [HE5.out, HE.out], rfl, HG5.out⟩
end SW
end Go.Proofs.YtpbfgfadickgbaaGreatDoor

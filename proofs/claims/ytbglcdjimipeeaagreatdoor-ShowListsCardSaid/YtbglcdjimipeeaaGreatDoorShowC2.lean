/-
  Contract of the printer's begin. Conditions: the row of data is as the list says; its table is as the program lays it; the text's length.
-/
import Derived.Test.YtbglcdjimipeeaaGreatDoorShowC1
import Derived.Test.YtbglcdjimipeeaaGreatDoorShowItoa
import Derived.Deep.RegionLaw
import Derived.Deep.RegionHeld3
import Derived.Deep.DeepCutAuto
namespace Go.Proofs.YtbglcdjimipeeaaGreatDoor
open Go.RowKit
namespace SW
open LX RX RW6 SX
open RC6 (own_off one_far form_ far_app far_app0 own_row)
theorem two_of (l : List Nat) (h : l.length = 2) : ∃ a b, l = [a, b] := by
  match l, h with
  | [a, b], _ => exact ⟨a, b, rfl⟩
def prs (os : List Op) : List (List Nat × Nat) := os.map fun x => (x.l, x.k)
/-- The lists that are open have places of the row. -/
def Gd (w0 : World) (ns : List Nd) (os : List Op) : Prop := ∀ x ∈ os, (∀ p ∈ x.l, p < ns.length) ∧ x.k ≤ x.l.length ∧ x.l.length ≤ 1099511627776 ∧ IntRow w0 x.A x.l
section
variable {w0 w w1 : World} {q : Nat} {dv : Value} {T : List UInt8} {os : List Op}
theorem Pr.to (h : Pr w0 w q dv T os) (f : MM.Far [] w w1) : Pr w0 w1 q dv T os := by
  obtain ⟨pv, bv, ov, h⟩ := h
  exact ⟨pv, bv, ov, h.to f⟩
theorem Pr.far (h : Pr w0 w q dv T os) : MM.Far [] w0 w := by
  obtain ⟨pv, bv, ov, h⟩ := h
  exact h.far
theorem Pr.cell (h : Pr w0 w q dv T os) : w.cell? ⟨q, 0, none⟩ = some dv := by
  obtain ⟨pv, bv, ov, h⟩ := h
  exact h.head.at (i := 0) rfl
theorem Pr.byte (h : Pr w0 w q dv T os) (c : UInt8) (n : Int) (hn : n = (c.toNat : Int)) (hT : T.length ≤ 70368744177664) :
    Calls Tryz.prog 52 #[.pointer (some ⟨q, 1, none⟩), .int .u8 n] w fun e w' => e = .returned .nilIface ∧ KeepN w w' ∧ Pr w0 w' q dv (T ++ [c]) os := by
  obtain ⟨pv, bv, ov, h⟩ := h
  exact (wbyte_any h c n hn hT).mono fun e w' ⟨a, b, bv, d⟩ => ⟨a, b, _, _, _, d⟩
theorem Pr.str (h : Pr w0 w q dv T os) (s : ByteArray) (hT : T.length ≤ 70368744177664) (hs : s.size ≤ 70368744177664) :
    Calls Tryz.prog 53 #[.pointer (some ⟨q, 1, none⟩), .string s] w fun e w' => (∃ x, e = .returned x) ∧ KeepN w w' ∧ Pr w0 w' q dv (T ++ LX.bts s) os := by
  obtain ⟨pv, bv, ov, h⟩ := h
  exact (wstr_any h s hT hs).mono fun e w' ⟨a, b, bv, d⟩ => ⟨a, b, _, _, _, d⟩
theorem fcell {w w' : World} {p : Addr} {v : Value} (hF : MM.Far [] w w') (h : w.cell? p = some v) : w'.cell? p = some v := (hF.cell (World.block_lt_of_cell? w _ h) (by simp)).trans h
def boolS (b : Bool) : ByteArray := if b = true then str [35, 116] else str [35, 102]
theorem bool_any (b : Bool) (w : World) : Calls Tryz.prog 55 #[.bool b] w fun e w' => e = .returned (.string (boolS b)) ∧ MM.Far [] w w' := by
  cases b
  all_goals
    go_enter Tryz.func55, Tryz.ntmps55
    go_wp2
    go_ret
    exact ⟨rfl, MM.Far.refl [] _⟩
/-- What begin comes to. -/
def BegP (w0 : World) (q : Nat) (dv : Value) (ns : List Nd) (i : Nat) (T : List UInt8) (os : List Op) (e : Ending) (w' : World) : Prop :=
  ∃ T' os', e = .returned (.tuple #[]) ∧ Pr w0 w' q dv T' os' ∧ T' ++ restO ns (prs os') = T ++ (dt ns i ++ restO ns (prs os)) ∧ szO ns (prs os') + 1 ≤ szO ns (prs os) + sz ns i ∧ Gd w0 ns os'
theorem nd_at2 {w0 w : World} {DA : Option Addr} {ns : List Nd} (h : NdRow w0 DA ns) (f : MM.Far [] w0 w) (i : Nat) (hi : i < ns.length) : ∃ b o LA c, DA = some ⟨b, o, none⟩ ∧ b < w.heap.size ∧ w.cell? ⟨b, o + i * 5, none⟩ = some (.int .u8 (ndAt ns i).kind) ∧ w.cell? ⟨b, o + i * 5 + 1, none⟩ = some (.int .i64 (ndAt ns i).at_) ∧
    w.cell? ⟨b, o + i * 5 + 2, none⟩ = some (.int .i64 (ndAt ns i).n) ∧ w.cell? ⟨b, o + i * 5 + 3, none⟩ = some (.string (ndAt ns i).s) ∧ w.cell? ⟨b, o + i * 5 + 4, none⟩ = some (.slice LA (ndAt ns i).l.length c) ∧ IntRow w0 LA (ndAt ns i).l := by
  obtain ⟨b, o, LA, c, e, hb, d0, d1, d2, d3, d4, hL⟩ := nd_at h i hi
  have g (x : Nat) : w.cell? ⟨b, x, none⟩ = w0.cell? ⟨b, x, none⟩ := f.cell (p := ⟨b, x, none⟩) hb (by simp)
  exact ⟨b, o, LA, c, e, Nat.lt_of_lt_of_le hb f.size, (g _).trans d0, (g _).trans d1, (g _).trans d2, (g _).trans d3, (g _).trans d4, hL⟩
theorem quote_at {w : World} {b o : Nat} {ns : List Nd} (h : NdRow w (some ⟨b, o, none⟩) ns) {j : Nat} (hj : j < ns.length) {xk xa xn : Int} {xs : ByteArray} {p0 p1 : Nat} (hx : ndAt ns j = ⟨xk, xa, xn, xs, [p0, p1]⟩) :
    ∃ b3 o3 lc3, b3 < w.heap.size ∧ w.cell? ⟨b, o + j * 5 + 4, none⟩ = some (.slice (some ⟨b3, o3, none⟩) 2 lc3) ∧ w.cell? ⟨b3, o3 + 1, none⟩ = some (.int .i64 (p1 : Int)) := by
  obtain ⟨b2, o2, LA, lc, e, hb, _, _, _, _, d4, hL⟩ := nd_at h j hj
  injection e with e
  injection e with e1 e2
  subst e1 e2
  rw [hx] at d4 hL
  obtain ⟨b3, o3, rfl, hb3, c⟩ := hL 1 (by simp)
  exact ⟨b3, o3, lc, hb3, d4, c⟩
/-- At the head of begin's loop. -/
def BegI (w0 : World) (q : Nat) (dv : Value) (ns : List Nd) (i : Nat) (T : List UInt8) (os : List Op) (j : Nat) (wr : World) : Prop :=
  ∃ T1, Pr w0 wr q dv T1 os ∧ T1 ++ dt ns j = T ++ dt ns i ∧ sz ns j ≤ sz ns i
set_option maxHeartbeats 400000 in
set_option maxRecDepth 20000 in
theorem begin_any {DA : Option Addr} {n c : Nat} (ns : List Nd) (hn : ns.length = n) (hok : Ok ns) (hN : NdRow w0 DA ns) (hT0 : Tab w0) (i : Nat) (hi : i < n) (h : Pr w0 w q (.slice DA n c) T os) (hg : Gd w0 ns os)
    (hlen : (T ++ (dt ns i ++ restO ns (prs os))).length ≤ 1099511627776) :
    Calls Tryz.prog 29 #[.pointer (some ⟨q, 0, none⟩), .int .i64 (i : Int)] w (BegP w0 q (.slice DA n c) ns i T os) := by
  have HN := Lib.hid hN
  have HNL := Lib.hid hn
  have HOK := Lib.hid hok
  have HT := Lib.hid hT0
  have HG := Lib.hid hg
  have HLEN := Lib.hid hlen
  have HB0 : Hid (BegI w0 q (.slice DA n c) ns i T os i w) := Lib.hid ⟨T, h, rfl, Nat.le_refl _⟩
  clear hn hok hN hT0 hg h hlen
  go_enter Tryz.func29, Tryz.ntmps29
  go_wp2_with (fail)
  go_loopw [1] (fun s1 wr => ∃ j : Nat, j < n ∧ s1 = .int .i64 j ∧ Hid (BegI w0 q (.slice DA n c) ns i T os j wr)) (fun s1 _ => (intOf s1).toNat)
  case atStart => exact ⟨i, hi, rfl, HB0⟩
  case round =>
    obtain ⟨j, hj, rfl, hI⟩ := hrel
    obtain ⟨T1, hP, hE, hS⟩ := hI.out
    clear hI HB0
    have hjn : j < ns.length := by rw [HNL.out]; exact hj
    obtain ⟨b, o, LA, lc, rfl, hb, d0, d1, d2, d3, d4, hL⟩ := nd_at2 HN.out hP.far j hjn
    have c0 := hP.cell
    have HIS := Lib.hid (isq_any ns HNL.out c0 (HN.out.far hP.far) (ndAt ns j) LA lc (hL.far hP.far) (fun p hp => by have := HOK.out.lt j hjn p hp; omega))
    obtain ⟨Q, hQ⟩ : ∃ Q, quo ns (ndAt ns j) = Q := ⟨_, rfl⟩
    rw [hQ] at HIS
    have HP := Lib.hid hP
    have HE := Lib.hid hE
    have HS := Lib.hid hS
    have HL := Lib.hid hL
    have hT1 : T1.length ≤ 1099511627776 := by
      have h1 := HLEN.out
      have h2 := congrArg List.length hE
      simp only [List.length_append] at h1 h2
      omega
    clear hP hE hS hL
    cases Q with
    | true =>
      obtain ⟨g1, g2⟩ := sz_quote HOK.out hjn hQ
      have g3 := dt_quote HOK.out hjn hQ
      have h2 := quo_two hQ
      have HG3 := Lib.hid g3
      generalize hx : ndAt ns j = x at *
      obtain ⟨xk, xa, xn, xs, xl⟩ := x
      simp only at d0 d1 d2 d3 d4 HL HIS h2 g1 g2 HG3
      obtain ⟨p0, p1, rfl⟩ := two_of xl h2
      have HX := Lib.hid hx
      have hgd : [p0, p1].getD 1 0 = p1 := rfl
      rw [hgd] at g1 g2 HG3
      simp only [List.length_cons, List.length_nil] at HIS d4
      clear hx hQ h2 g3 hgd
      go_wp2_with (first
        | (go_at_call 51; (with_reducible refine HIS.out.mono ?_); rintro e w2 ⟨rfl, hF2⟩; have HP2 := Lib.hid (HP.out.to hF2); clear hF2)
        | (go_at_call 52; (with_reducible refine (HP2.out.byte 39 39 rfl (by omega)).mono ?_); rintro e w3 ⟨rfl, -, hP3⟩
           have e0 := hP3.cell
           obtain ⟨b3, o3, lc3, hb3, e4, e5⟩ := quote_at (HN.out.far hP3.far) hjn HX.out
           have HP3 := Lib.hid hP3
           clear hP3))
      go_roundw
      case rel =>
        refine ⟨p1, by omega, rfl, Lib.hid ⟨T1 ++ [39], HP3.out, ?_, by have := HS.out; omega⟩⟩
        rw [← HE.out, HG3.out, List.append_assoc]; rfl
      case measure => simp [intOf]; omega
    | false =>
      have HDT : Hid (T1 ++ (dt ns j ++ restO ns (prs os)) = T ++ (dt ns i ++ restO ns (prs os))) := Lib.hid (by rw [← List.append_assoc, HE.out, List.append_assoc])
      have hsz2 := sz_two HOK.out hjn
      have hnum := HOK.out.num j hjn
      have hk := HOK.out.kind_at hjn
      have hll := HOK.out.len j hjn
      obtain ⟨m, hm⟩ : ∃ m, (ndAt ns j).l.length = m := ⟨_, rfl⟩
      have HM := Lib.hid hm
      rw [hm] at d4 HIS hll
      clear hm
      generalize hx : ndAt ns j = x at *
      obtain ⟨xk, xa, xn, xs, xl⟩ := x
      simp only at d0 d1 d2 d3 d4 HL HIS hnum hk HM
      have HX := Lib.hid hx
      have HQ := Lib.hid hQ
      have HNUM := Lib.hid hnum
      have hmem : ∀ p ∈ xl, p < ns.length := fun p hp => by
        have := HOK.out.lt j hjn p (by rw [hx]; exact hp)
        omega
      have HMEM := Lib.hid hmem
      have hlT := HLEN.out
      rw [← HDT.out] at hlT
      have HLT := Lib.hid hlT
      clear hx hQ hnum hmem hlT
      have HFB : ∀ wz : World, Hid (MM.Far [] wz (wz.alloc (.cells #[.int .u8 xk, .int .i64 xa, .int .i64 xn, .string xs, .slice LA m lc] 57))) := fun wz => Lib.hid ((MM.Far.refl [] wz).alloc _)
      rcases hk with rfl | rfl | rfl | rfl
      · have HD := Lib.hid (dt_int HOK.out hjn (by rw [HX.out]))
        rw [HX.out] at HD
        go_wp2_with (first
          | (go_at_call 51; (with_reducible refine HIS.out.mono ?_); rintro e w2 ⟨rfl, hF2⟩
             have y0 := (hF2.cell (p := ⟨b, o + j * 5, none⟩) hb (by simp)).trans d0
             have y1 := (hF2.cell (p := ⟨b, o + j * 5 + 1, none⟩) hb (by simp)).trans d1
             have y2 := (hF2.cell (p := ⟨b, o + j * 5 + 2, none⟩) hb (by simp)).trans d2
             have y3 := (hF2.cell (p := ⟨b, o + j * 5 + 3, none⟩) hb (by simp)).trans d3
             have y4 := (hF2.cell (p := ⟨b, o + j * 5 + 4, none⟩) hb (by simp)).trans d4
             have c2 := (HP.out.to hF2).cell
             have HP2 := Lib.hid (HP.out.to (hF2.trans (HFB w2).out (by simp)))
             have HR := Lib.hid (MM.Row.new w2 57 [.int .u8 1, .int .i64 xa, .int .i64 xn, .string xs, .slice LA m lc])
             clear hF2))
        rw [show w2.alloc (.cells [Value.int .u8 1, .int .i64 xa, .int .i64 xn, .string xs, .slice LA m lc].toArray 57) = w2.alloc (.cells #[.int .u8 1, .int .i64 xa, .int .i64 xn, .string xs, .slice LA m lc] 57) from rfl] at HR
        generalize w2.heap.size = bx at *
        generalize w2.alloc (.cells #[.int .u8 1, .int .i64 xa, .int .i64 xn, .string xs, .slice LA m lc] 57) = W at *
        have zz := HR.out.at (i := 2) rfl
        have hsz : (str (Lib.itoa xn)).size ≤ 21 := by
          have h1 := Lib.itoa_length_le xn HNUM.out.1 HNUM.out.2
          have h2 : (str (Lib.itoa xn)).size = (Lib.itoa xn).length := rfl
          omega
        have HI := Lib.hid (fun (wx : World) (f : MM.Far [] W wx) => itoa_any xn HNUM.out.1 HNUM.out.2 wx (HT.out.far (HP2.out.far.trans f (by simp))))
        have HSt := Lib.hid (fun (wx : World) (f : MM.Far [] W wx) => (HP2.out.to f).str (str (Lib.itoa xn)) (by omega) (by omega))
        go_region_held3 (fun w' => w'.cell? ⟨bx, 2, none⟩ = some (.int .i64 xn)) (go_keep) (first
          | (go_at_call 54
             (with_reducible refine (HI.out _ (by first | exact MM.Far.refl [] _ | exact (MM.Far.refl [] _).drew)).mono ?_)
             rintro e w5 ⟨rfl, hF5⟩
             have zz : w5.cell? ⟨bx, 2, none⟩ = some (.int .i64 xn) := fcell hF5 (by assumption)
             have HF5 : Hid (MM.Far [] W w5) := Lib.hid (by first | exact hF5 | exact (MM.Far.refl [] W).drew.trans hF5 (by simp))
             clear hF5)
          | (go_at_call 53
             (with_reducible refine (HSt.out _ (by first | exact HF5.out | exact HF5.out.drew | exact MM.Far.refl [] _ | exact (MM.Far.refl [] _).drew)).mono ?_)
             rintro e w6 ⟨⟨xx, rfl⟩, hK6, hP6⟩
             have zz : w6.cell? ⟨bx, 2, none⟩ = some (.int .i64 xn) := (hK6.node bx _ (HR.out.far (by first | exact HF5.out | exact HF5.out.drew | exact MM.Far.refl [] _ | exact (MM.Far.refl [] _).drew) (by simp))).at (i := 2) rfl
             have HP6 := Lib.hid hP6
             clear hK6 hP6))
        go_wp2
        go_end0
        refine ⟨_, os, rfl, HP6.out.to (by first | exact MM.Far.refl [] _ | exact (MM.Far.refl [] _).drew | exact (MM.Far.refl [] _).drewN _), ?_, by have := HS.out; omega, HG.out⟩
        rw [← HDT.out, HD.out, List.append_assoc]
        rfl
      · have HD := Lib.hid (dt_bool HOK.out hjn (by rw [HX.out]))
        rw [HX.out] at HD
        go_wp2_with (first
          | (go_at_call 51; (with_reducible refine HIS.out.mono ?_); rintro e w2 ⟨rfl, hF2⟩
             have y0 := (hF2.cell (p := ⟨b, o + j * 5, none⟩) hb (by simp)).trans d0
             have y1 := (hF2.cell (p := ⟨b, o + j * 5 + 1, none⟩) hb (by simp)).trans d1
             have y2 := (hF2.cell (p := ⟨b, o + j * 5 + 2, none⟩) hb (by simp)).trans d2
             have y3 := (hF2.cell (p := ⟨b, o + j * 5 + 3, none⟩) hb (by simp)).trans d3
             have y4 := (hF2.cell (p := ⟨b, o + j * 5 + 4, none⟩) hb (by simp)).trans d4
             have c2 := (HP.out.to hF2).cell
             have HP2 := Lib.hid (HP.out.to (hF2.trans (HFB w2).out (by simp)))
             have HR := Lib.hid (MM.Row.new w2 57 [.int .u8 2, .int .i64 xa, .int .i64 xn, .string xs, .slice LA m lc])
             clear hF2))
        rw [show w2.alloc (.cells [Value.int .u8 2, .int .i64 xa, .int .i64 xn, .string xs, .slice LA m lc].toArray 57) = w2.alloc (.cells #[.int .u8 2, .int .i64 xa, .int .i64 xn, .string xs, .slice LA m lc] 57) from rfl] at HR
        generalize w2.heap.size = bx at *
        generalize w2.alloc (.cells #[.int .u8 2, .int .i64 xa, .int .i64 xn, .string xs, .slice LA m lc] 57) = W at *
        have zz := HR.out.at (i := 2) rfl
        obtain ⟨tb, htb⟩ : ∃ tb, (xn == 1) = tb := ⟨_, rfl⟩
        have htb2 : decide (xn = 1) = tb := by rw [← htb]; rfl
        have HTB := Lib.hid htb2
        clear htb2
        have hsz : (boolS tb).size ≤ 2 := by cases tb <;> decide
        have HI := Lib.hid (fun (wx : World) => bool_any tb wx)
        have HSt := Lib.hid (fun (wx : World) (f : MM.Far [] W wx) => (HP2.out.to f).str (boolS tb) (by omega) (by omega))
        go_region_held3 (fun w' => w'.cell? ⟨bx, 2, none⟩ = some (.int .i64 xn)) (go_keep) (first
          | (go_at_call 55
             (with_reducible refine (HI.out _).mono ?_)
             rintro e w5 ⟨rfl, hF5⟩
             have zz : w5.cell? ⟨bx, 2, none⟩ = some (.int .i64 xn) := fcell hF5 (by assumption)
             have HF5 : Hid (MM.Far [] W w5) := Lib.hid (by first | exact hF5 | exact (MM.Far.refl [] W).drew.trans hF5 (by simp))
             clear hF5)
          | (go_at_call 53
             (with_reducible refine (HSt.out _ (by first | exact HF5.out | exact HF5.out.drew | exact MM.Far.refl [] _ | exact (MM.Far.refl [] _).drew)).mono ?_)
             rintro e w6 ⟨⟨xx, rfl⟩, hK6, hP6⟩
             have zz : w6.cell? ⟨bx, 2, none⟩ = some (.int .i64 xn) := (hK6.node bx _ (HR.out.far (by first | exact HF5.out | exact HF5.out.drew | exact MM.Far.refl [] _ | exact (MM.Far.refl [] _).drew) (by simp))).at (i := 2) rfl
             have HP6 := Lib.hid hP6
             clear hK6 hP6))
        go_wp2
        go_end0
        refine ⟨_, os, rfl, HP6.out.to (by first | exact MM.Far.refl [] _ | exact (MM.Far.refl [] _).drew | exact (MM.Far.refl [] _).drewN _), ?_, by have := HS.out; omega, HG.out⟩
        have e2 : bts (boolS tb) = if xn = 1 then [35, 116] else [35, 102] := by
          have := HTB.out
          by_cases e : xn = 1
          · rw [decide_eq_true e] at this
            subst this
            rw [if_pos e]; rfl
          · rw [decide_eq_false e] at this
            subst this
            rw [if_neg e]; rfl
        rw [← HDT.out, HD.out, e2, List.append_assoc]
      · have HD := Lib.hid (dt_name HOK.out hjn (by rw [HX.out]))
        rw [HX.out] at HD
        go_wp2_with (first
          | (go_at_call 51; (with_reducible refine HIS.out.mono ?_); rintro e w2 ⟨rfl, hF2⟩
             have y0 := (hF2.cell (p := ⟨b, o + j * 5, none⟩) hb (by simp)).trans d0
             have y1 := (hF2.cell (p := ⟨b, o + j * 5 + 1, none⟩) hb (by simp)).trans d1
             have y2 := (hF2.cell (p := ⟨b, o + j * 5 + 2, none⟩) hb (by simp)).trans d2
             have y3 := (hF2.cell (p := ⟨b, o + j * 5 + 3, none⟩) hb (by simp)).trans d3
             have y4 := (hF2.cell (p := ⟨b, o + j * 5 + 4, none⟩) hb (by simp)).trans d4
             have c2 := (HP.out.to hF2).cell
             have HP2 := Lib.hid (HP.out.to (hF2.trans (HFB w2).out (by simp)))
             have HR := Lib.hid (MM.Row.new w2 57 [.int .u8 3, .int .i64 xa, .int .i64 xn, .string xs, .slice LA m lc])
             clear hF2))
        rw [show w2.alloc (.cells [Value.int .u8 3, .int .i64 xa, .int .i64 xn, .string xs, .slice LA m lc].toArray 57) = w2.alloc (.cells #[.int .u8 3, .int .i64 xa, .int .i64 xn, .string xs, .slice LA m lc] 57) from rfl] at HR
        generalize w2.heap.size = bx at *
        generalize w2.alloc (.cells #[.int .u8 3, .int .i64 xa, .int .i64 xn, .string xs, .slice LA m lc] 57) = W at *
        have zz := HR.out.at (i := 3) rfl
        have hsz : xs.size ≤ 1099511627776 := by
          have h1 := HLT.out
          rw [HD.out] at h1
          simp only [List.length_append] at h1
          have h2 : (bts xs).length = xs.size := by unfold bts; rw [Array.length_toList]; rfl
          omega
        have HSt := Lib.hid (fun (wx : World) (f : MM.Far [] W wx) => (HP2.out.to f).str xs (by omega) (by omega))
        go_region_held3 (fun w' => w'.cell? ⟨bx, 3, none⟩ = some (.string xs)) (go_keep) (first
          | (go_at_call 53
             (with_reducible refine (HSt.out _ (by first | exact MM.Far.refl [] _ | exact (MM.Far.refl [] _).drew)).mono ?_)
             rintro e w6 ⟨⟨xx, rfl⟩, hK6, hP6⟩
             have zz : w6.cell? ⟨bx, 3, none⟩ = some (.string xs) := (hK6.node bx _ (HR.out.far (by first | exact MM.Far.refl [] _ | exact (MM.Far.refl [] _).drew) (by simp))).at (i := 3) rfl
             have HP6 := Lib.hid hP6
             clear hK6 hP6))
        go_wp2
        go_end0
        refine ⟨_, os, rfl, HP6.out.to (by first | exact MM.Far.refl [] _ | exact (MM.Far.refl [] _).drew | exact (MM.Far.refl [] _).drewN _), ?_, by have := HS.out; omega, HG.out⟩
        rw [← HDT.out, HD.out, List.append_assoc]
      · have HDL := Lib.hid (dt_list HOK.out hjn (by rw [HX.out]) (by rw [HX.out]; exact HQ.out))
        rw [HX.out] at HDL
        go_wp2_with (first
          | (go_at_call 51; (with_reducible refine HIS.out.mono ?_); rintro e w2 ⟨rfl, hF2⟩
             have hF2' := hF2.cell (p := ⟨b, o + j * 5, none⟩) hb (by simp)
             have y0 := hF2'.trans d0
             have y1 := (hF2.cell (p := ⟨b, o + j * 5 + 1, none⟩) hb (by simp)).trans d1
             have y2 := (hF2.cell (p := ⟨b, o + j * 5 + 2, none⟩) hb (by simp)).trans d2
             have y3 := (hF2.cell (p := ⟨b, o + j * 5 + 3, none⟩) hb (by simp)).trans d3
             have y4 := (hF2.cell (p := ⟨b, o + j * 5 + 4, none⟩) hb (by simp)).trans d4
             have c2 := (HP.out.to hF2).cell
             have HP2 := Lib.hid (HP.out.to (hF2.trans (HFB w2).out (by simp)))
             clear hF2 hF2')
          | (go_at_call 52; (with_reducible refine (HP2.out.byte 40 40 rfl (by omega)).mono ?_); rintro e w3 ⟨rfl, hK3, hP3⟩
             have hB3 := hK3.node _ _ (MM.Row.new w2 57 [.int .u8 4, .int .i64 xa, .int .i64 xn, .string xs, .slice LA m lc])
             have hbx := hB3.lt
             obtain ⟨pv, bv, ov, hP3⟩ := hP3
             obtain ⟨oA, oc, rfl⟩ := form_ w0 hP3.op
             have HP3 := Lib.hid hP3
             have HB3 := Lib.hid hB3
             clear hK3 hB3 hP3
             generalize w2.heap.size = bx at *
             have c3 := HP3.out.head.at (i := 3) rfl
             have z4 := HB3.out.at (i := 4) rfl
             have hA3 := (MM.Far.refl [] w3).alloc (.cells #[.slice LA m lc, .int .i64 0] 126)
             have c3a := (HP3.out.to hA3).head.at (i := 3) rfl
             have z4a := (HB3.out.far hA3 (by simp)).at (i := 4) rfl
             have hb3 := HP3.out.far.size
             have hol : os.length ≤ 1099511627776 := by
               have h1 := restO_len ns (prs os)
               have h2 := HLT.out
               simp only [List.length_append, prs, List.length_map] at h1 h2
               omega
             clear hA3))
        go_region_law (
            refine MO.step_append ?_ (.tmp 74) (.tmp 78) 75 ?_ w0.heap.size 126 _ 2 32 opens_slice open_info rfl (by omega) (.slice oA os.length oc) os.length (oC os.reverse) ?_ ?_ (some ⟨w3.heap.size, 0, none⟩) 1 1 [.slice LA m lc, .int .i64 0] ?_ rfl (fun h => by cases h) [] ?_ (op_one LA m lc 0) ?_ ?_ ?_ ?_
            · rfl
            · rfl
            · rfl
            · exact HP3.out.op.alloc _
            · rfl
            · exact (MM.Src.row (MM.Row.new w3 126 [.slice LA m lc, .int .i64 0]) (by simp) _ (fun j u hu => hu))
            · simp only [maxLen]; omega
            · omega
            · simp; omega
            intro v4 w4 hv4 hg4 hat4
            obtain ⟨A4, c4, rfl⟩ := form_ w0 hv4
            have F4 : MM.Far (Value.slice oA os.length oc).ownBlock.toList w3 w4 := far_app hg4
            rw [← HM.out] at hv4
            obtain ⟨hN4, hH4⟩ := HP3.out.push (x := ⟨xl, 0, LA, lc⟩) hv4 F4
            have HN4 := Lib.hid hN4
            have d3 := hH4.at (i := 3) rfl
            have e3 := hH4.frozen 3
            clear hg4 hv4 hat4 F4 hN4 hH4)
        all_goals
          go_wp2
          go_end0
          refine ⟨_, _, rfl, ⟨_, _, _, HN4.out⟩, ?_, ?_, ?_⟩
          · show T1 ++ [40] ++ restO ns ((xl, 0) :: prs os) = _
            rw [restO_cons, ← HDT.out, HDL.out]
            simp only [List.append_assoc, List.cons_append, List.nil_append]
          · show szO ns ((xl, 0) :: prs os) + 1 ≤ _
            have h1 := sz_eq HOK.out hjn
            rw [HX.out] at h1
            have h2 := HS.out
            rw [szO_cons, List.drop_zero]
            simp only at h1
            omega
          · intro y hy
            rcases List.mem_cons.1 hy with rfl | hy
            · refine ⟨HMEM.out, by simp, by rw [HM.out]; exact hll, ?_⟩
              exact HL.out
            · exact HG.out y hy
end
end SW
end Go.Proofs.YtbglcdjimipeeaaGreatDoor

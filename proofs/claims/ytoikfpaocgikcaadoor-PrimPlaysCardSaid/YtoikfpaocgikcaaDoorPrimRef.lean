/-
  Contract of the document's Do of layer 10, one by one. Conditions: the document's row of things, words lie in 64 bits.
-/
import Derived.Test.YtoikfpaocgikcaaDoorPrimMade
import Derived.Test.YtoikfpaocgikcaaDoorWordWalks5
import Derived.Deep.QuietTactic
namespace Go.Proofs.YtoikfpaocgikcaaDoor
open Go.RowKit
set_option linter.unusedVariables false
namespace PW
open AW AL
theorem rmany_any (k : Nat) (hk : k < 18) (h1 : 1 ≤ k) (w : World) : Calls Tryd.prog 29 #[.int .i64 k] w fun e w' => e = .returned (.int .i64 (PP.cnt k)) ∧ w = w' := by
  match k, hk, h1 with
  | 1, _, _ =>
    rw [show PP.cnt ((1 : Nat) : Int) = 2 from rfl]
    go_enter Tryd.func29, Tryd.ntmps29
    go_wp2
    go_ret
    exact ⟨rfl, rfl⟩
  | 2, _, _ =>
    rw [show PP.cnt ((2 : Nat) : Int) = 2 from rfl]
    go_enter Tryd.func29, Tryd.ntmps29
    go_wp2
    go_ret
    exact ⟨rfl, rfl⟩
  | 3, _, _ =>
    rw [show PP.cnt ((3 : Nat) : Int) = 2 from rfl]
    go_enter Tryd.func29, Tryd.ntmps29
    go_wp2
    go_ret
    exact ⟨rfl, rfl⟩
  | 4, _, _ =>
    rw [show PP.cnt ((4 : Nat) : Int) = 2 from rfl]
    go_enter Tryd.func29, Tryd.ntmps29
    go_wp2
    go_ret
    exact ⟨rfl, rfl⟩
  | 5, _, _ =>
    rw [show PP.cnt ((5 : Nat) : Int) = 2 from rfl]
    go_enter Tryd.func29, Tryd.ntmps29
    go_wp2
    go_ret
    exact ⟨rfl, rfl⟩
  | 6, _, _ =>
    rw [show PP.cnt ((6 : Nat) : Int) = 2 from rfl]
    go_enter Tryd.func29, Tryd.ntmps29
    go_wp2
    go_ret
    exact ⟨rfl, rfl⟩
  | 7, _, _ =>
    rw [show PP.cnt ((7 : Nat) : Int) = 2 from rfl]
    go_enter Tryd.func29, Tryd.ntmps29
    go_wp2
    go_ret
    exact ⟨rfl, rfl⟩
  | 8, _, _ =>
    rw [show PP.cnt ((8 : Nat) : Int) = 2 from rfl]
    go_enter Tryd.func29, Tryd.ntmps29
    go_wp2
    go_ret
    exact ⟨rfl, rfl⟩
  | 9, _, _ =>
    rw [show PP.cnt ((9 : Nat) : Int) = 1 from rfl]
    go_enter Tryd.func29, Tryd.ntmps29
    go_wp2
    go_ret
    exact ⟨rfl, rfl⟩
  | 10, _, _ =>
    rw [show PP.cnt ((10 : Nat) : Int) = 1 from rfl]
    go_enter Tryd.func29, Tryd.ntmps29
    go_wp2
    go_ret
    exact ⟨rfl, rfl⟩
  | 11, _, _ =>
    rw [show PP.cnt ((11 : Nat) : Int) = 1 from rfl]
    go_enter Tryd.func29, Tryd.ntmps29
    go_wp2
    go_ret
    exact ⟨rfl, rfl⟩
  | 12, _, _ =>
    rw [show PP.cnt ((12 : Nat) : Int) = 2 from rfl]
    go_enter Tryd.func29, Tryd.ntmps29
    go_wp2
    go_ret
    exact ⟨rfl, rfl⟩
  | 13, _, _ =>
    rw [show PP.cnt ((13 : Nat) : Int) = 1 from rfl]
    go_enter Tryd.func29, Tryd.ntmps29
    go_wp2
    go_ret
    exact ⟨rfl, rfl⟩
  | 14, _, _ =>
    rw [show PP.cnt ((14 : Nat) : Int) = 1 from rfl]
    go_enter Tryd.func29, Tryd.ntmps29
    go_wp2
    go_ret
    exact ⟨rfl, rfl⟩
  | 15, _, _ =>
    rw [show PP.cnt ((15 : Nat) : Int) = 1 from rfl]
    go_enter Tryd.func29, Tryd.ntmps29
    go_wp2
    go_ret
    exact ⟨rfl, rfl⟩
  | 16, _, _ =>
    rw [show PP.cnt ((16 : Nat) : Int) = 1 from rfl]
    go_enter Tryd.func29, Tryd.ntmps29
    go_wp2
    go_ret
    exact ⟨rfl, rfl⟩
  | 17, _, _ =>
    rw [show PP.cnt ((17 : Nat) : Int) = 1 from rfl]
    go_enter Tryd.func29, Tryd.ntmps29
    go_wp2
    go_ret
    exact ⟨rfl, rfl⟩
  | n + 18, h, _ => omega
section
variable {w : World} {base q n : Nat} {v : Value} {ts : List AP.Th} {hs : List Value}
theorem rpair_any (hR : RW.Rr w base q n v ts hs) (x : Int) (hx : WP.U x) : Calls Tryd.prog 31 #[ptr q, .int .u64 x] w fun e w' => e = .returned (.bool (PP.pairB ts x)) ∧ w = w' := by
  have HK := Lib.hid (RW.rkind_any hR x hx)
  have HL := Lib.hid (RW.rlen_any hR x hx)
  have HE : Hid (PP.pairB ts x = (kindN ts x == 1 && lenN ts x == 2)) := Lib.hid rfl
  generalize PP.pairB ts x = r at *
  generalize kindN ts x = k at *
  generalize lenN ts x = l at *
  clear hR hx
  go_enter Tryd.func31, Tryd.ntmps31
  by_cases hk : k = 1
  · subst hk
    go_wp2_with (first | (go_at_call 35; refine HK.out.mono ?_; rintro e w' ⟨rfl, rfl⟩) | (go_at_call 51; refine HL.out.mono ?_; rintro e w' ⟨rfl, rfl⟩))
    go_ret
    refine ⟨?_, rfl⟩
    rw [HE.out]; rfl
  · have hk1 : (k == 1) = false := by simpa using hk
    go_wp2_with (first | (go_at_call 35; refine HK.out.mono ?_; rintro e w' ⟨rfl, rfl⟩) | (go_at_call 51; refine HL.out.mono ?_; rintro e w' ⟨rfl, rfl⟩))
    go_ret
    refine ⟨?_, rfl⟩
    rw [HE.out, hk1]; rfl
theorem rdo_lo (pv : Value) (op : Int) (A : Option Addr) (m c : Nat) (hm : m ≤ 9223372036854775807) (ho : op < 1) : Calls Tryd.prog 15 #[pv, .int .i64 op, .slice A m c] w fun e w' => e = .returned (.tuple #[.int .u64 0, .int .i64 1]) ∧ w = w' := by
  go_enter Tryd.func15, Tryd.ntmps15
  go_wp2
  go_ret2
  exact ⟨rfl, rfl⟩
theorem rdo_hi (pv : Value) (op : Int) (A : Option Addr) (m c : Nat) (hm : m ≤ 9223372036854775807) (ho : 17 < op) : Calls Tryd.prog 15 #[pv, .int .i64 op, .slice A m c] w fun e w' => e = .returned (.tuple #[.int .u64 0, .int .i64 1]) ∧ w = w' := by
  go_enter Tryd.func15, Tryd.ntmps15
  go_wp2
  go_ret2
  exact ⟨rfl, rfl⟩
theorem rdo_many (pv : Value) (op : Int) (A : Option Addr) (m c : Nat) (hm : m ≤ 9223372036854775807) (h1 : 1 ≤ op) (h2 : op ≤ 17) (hn : (m : Int) ≠ PP.cnt op) : Calls Tryd.prog 15 #[pv, .int .i64 op, .slice A m c] w fun e w' => e = .returned (.tuple #[.int .u64 0, .int .i64 1]) ∧ w = w' := by
  obtain ⟨k, rfl⟩ : ∃ k : Nat, op = k := ⟨op.toNat, by omega⟩
  have HM := Lib.hid (fun W => rmany_any k (by omega) (by omega) W)
  generalize PP.cnt (k : Int) = z at *
  have hz : ((m : Int) != z) = true := by simpa using hn
  go_enter Tryd.func15, Tryd.ntmps15
  go_wp2_with (first | (go_at_call 29; refine (HM.out _).mono ?_; rintro e w' ⟨rfl, rfl⟩))
  go_ret2
  exact ⟨rfl, rfl⟩
def sgnS : ByteArray := ⟨#[43, 45, 42, 47, 37, 60, 61]⟩
theorem rsign_ix (k : Nat) (h : k < 7) (W : World) : (Instr.index 9 (.string sgnS) (.int .i64 (k : Nat))).run Tryd.prog W = .ok (.int .u8 (PP.sgn ((k : Int) + 1))) W :=
  match k, h with
  | 0, _ => by kernel_rfl
  | 1, _ => by kernel_rfl
  | 2, _ => by kernel_rfl
  | 3, _ => by kernel_rfl
  | 4, _ => by kernel_rfl
  | 5, _ => by kernel_rfl
  | 6, _ => by kernel_rfl
  | n + 7, h => absurd h (by omega)
theorem rdo_num (pv : Value) (j : Nat) (b o c : Nat) (x y : Int) (hx : A2 w b o x y) (h2 : j < 7) : Calls Tryd.prog 15 #[pv, .int .i64 ((j : Int) + 1), .slice (some ⟨b, o, none⟩) 2 c] w fun e w' =>
    e = .returned (.tuple #[.int .u64 (WP.doW (PP.sgn ((j : Int) + 1)) x y), .int .i64 (WP.doE (PP.sgn ((j : Int) + 1)) x y)]) ∧ MM.Far [] w w' := by
  obtain ⟨hx0, hx1, ux, uy⟩ := hx
  have HM := Lib.hid (fun W => rmany_any (j + 1) (by omega) (by omega) W)
  have h2c : PP.cnt ((j + 1 : Nat) : Int) = 2 := by have := PP.cnt_cases (j + 1 : Nat) (by omega) (by omega); omega
  rw [h2c, show ((j + 1 : Nat) : Int) = (j : Int) + 1 from by omega] at HM
  have hix := fun W => rsign_ix j h2 W
  unfold sgnS at hix
  have HD := Lib.hid (fun W => WW.rdo_any (PP.sgn ((j : Int) + 1)) x y ux uy W)
  generalize WP.doW (PP.sgn ((j : Int) + 1)) x y = rw_ at *
  generalize WP.doE (PP.sgn ((j : Int) + 1)) x y = re at *
  generalize PP.sgn ((j : Int) + 1) = s at *
  clear ux uy h2c
  go_enter Tryd.func15, Tryd.ntmps15
  go_wp2_with (first | (go_at_call 29; refine (HM.out _).mono ?_; rintro e w' ⟨rfl, rfl⟩))
  go_quiet ((go_at_call 30; exact quiet_d (HD.out _)))
  go_wp2
  go_ret2
  exact ⟨rfl, (MM.Far.refl _ _).drewN _⟩
theorem rdo_8 (hR : RW.Rr w base q n v ts hs) (b o c : Nat) (x y : Int) (hx : A2 w b o x y) : Calls Tryd.prog 15 #[ptr q, .int .i64 8, .slice (some ⟨b, o, none⟩) 2 c] w fun e w' =>
    e = .returned (.tuple #[.int .u64 (WP.boolW (x == y)), .int .i64 (0)]) ∧ w = w' := by
  obtain ⟨hx0, hx1, ux, uy⟩ := hx
  have HM := Lib.hid (fun W => rmany_any 8 (by omega) (by omega) W)
  rw [show PP.cnt ((8 : Nat) : Int) = 2 from rfl] at HM
  have HP := Lib.hid (rpair_any hR x ux)
  generalize PP.pairB ts x = r at *
  clear hR ux uy
  go_enter Tryd.func15, Tryd.ntmps15
  go_wp2_with (first | (go_at_call 29; refine (HM.out _).mono ?_; rintro e w' ⟨rfl, rfl⟩) | (go_at_call 31; refine HP.out.mono ?_; rintro e w' ⟨rfl, rfl⟩) | (go_at_call 32; refine (WW.rbool_any _ _).mono ?_; rintro e w' ⟨rfl, rfl⟩))
  go_ret2
  exact ⟨rfl, rfl⟩
theorem rdo_9 (hR : RW.Rr w base q n v ts hs) (b o c : Nat) (x : Int) (hx : A1 w b o x) : Calls Tryd.prog 15 #[ptr q, .int .i64 9, .slice (some ⟨b, o, none⟩) 1 c] w fun e w' =>
    e = .returned (.tuple #[.int .u64 (WP.boolW (x == 10)), .int .i64 (0)]) ∧ w = w' := by
  obtain ⟨hx0, ux⟩ := hx
  have HM := Lib.hid (fun W => rmany_any 9 (by omega) (by omega) W)
  rw [show PP.cnt ((9 : Nat) : Int) = 1 from rfl] at HM
  have HP := Lib.hid (rpair_any hR x ux)
  generalize PP.pairB ts x = r at *
  clear hR ux 
  go_enter Tryd.func15, Tryd.ntmps15
  go_wp2_with (first | (go_at_call 29; refine (HM.out _).mono ?_; rintro e w' ⟨rfl, rfl⟩) | (go_at_call 31; refine HP.out.mono ?_; rintro e w' ⟨rfl, rfl⟩) | (go_at_call 32; refine (WW.rbool_any _ _).mono ?_; rintro e w' ⟨rfl, rfl⟩))
  go_ret2
  exact ⟨rfl, rfl⟩
theorem rdo_10 (hR : RW.Rr w base q n v ts hs) (b o c : Nat) (x : Int) (hx : A1 w b o x) : Calls Tryd.prog 15 #[ptr q, .int .i64 10, .slice (some ⟨b, o, none⟩) 1 c] w fun e w' =>
    e = .returned (.tuple #[.int .u64 (WP.boolW (x == 2)), .int .i64 (0)]) ∧ w = w' := by
  obtain ⟨hx0, ux⟩ := hx
  have HM := Lib.hid (fun W => rmany_any 10 (by omega) (by omega) W)
  rw [show PP.cnt ((10 : Nat) : Int) = 1 from rfl] at HM
  have HP := Lib.hid (rpair_any hR x ux)
  generalize PP.pairB ts x = r at *
  clear hR ux 
  go_enter Tryd.func15, Tryd.ntmps15
  go_wp2_with (first | (go_at_call 29; refine (HM.out _).mono ?_; rintro e w' ⟨rfl, rfl⟩) | (go_at_call 31; refine HP.out.mono ?_; rintro e w' ⟨rfl, rfl⟩) | (go_at_call 32; refine (WW.rbool_any _ _).mono ?_; rintro e w' ⟨rfl, rfl⟩))
  go_ret2
  exact ⟨rfl, rfl⟩
theorem rdo_11 (hR : RW.Rr w base q n v ts hs) (b o c : Nat) (x : Int) (hx : A1 w b o x) : Calls Tryd.prog 15 #[ptr q, .int .i64 11, .slice (some ⟨b, o, none⟩) 1 c] w fun e w' =>
    e = .returned (.tuple #[.int .u64 (WP.boolW (PP.pairB ts x)), .int .i64 (0)]) ∧ w = w' := by
  obtain ⟨hx0, ux⟩ := hx
  have HM := Lib.hid (fun W => rmany_any 11 (by omega) (by omega) W)
  rw [show PP.cnt ((11 : Nat) : Int) = 1 from rfl] at HM
  have HP := Lib.hid (rpair_any hR x ux)
  generalize PP.pairB ts x = r at *
  clear hR ux 
  go_enter Tryd.func15, Tryd.ntmps15
  go_wp2_with (first | (go_at_call 29; refine (HM.out _).mono ?_; rintro e w' ⟨rfl, rfl⟩) | (go_at_call 31; refine HP.out.mono ?_; rintro e w' ⟨rfl, rfl⟩) | (go_at_call 32; refine (WW.rbool_any _ _).mono ?_; rintro e w' ⟨rfl, rfl⟩))
  go_ret2
  exact ⟨rfl, rfl⟩
theorem rdo_15 (hR : RW.Rr w base q n v ts hs) (b o c : Nat) (x : Int) (hx : A1 w b o x) : Calls Tryd.prog 15 #[ptr q, .int .i64 15, .slice (some ⟨b, o, none⟩) 1 c] w fun e w' =>
    e = .returned (.tuple #[.int .u64 (WP.boolW (WP.toIntB x)), .int .i64 (0)]) ∧ w = w' := by
  obtain ⟨hx0, ux⟩ := hx
  have HM := Lib.hid (fun W => rmany_any 15 (by omega) (by omega) W)
  rw [show PP.cnt ((15 : Nat) : Int) = 1 from rfl] at HM
  have HP := Lib.hid (rpair_any hR x ux)
  have HI := Lib.hid (fun W => WW.rtoint_any x ux W)
  generalize PP.pairB ts x = r at *
  generalize WP.toIntB x = s at *
  clear hR ux 
  go_enter Tryd.func15, Tryd.ntmps15
  go_wp2_with (first | (go_at_call 29; refine (HM.out _).mono ?_; rintro e w' ⟨rfl, rfl⟩) | (go_at_call 31; refine HP.out.mono ?_; rintro e w' ⟨rfl, rfl⟩) | (go_at_call 32; refine (WW.rbool_any _ _).mono ?_; rintro e w' ⟨rfl, rfl⟩) | (go_at_call 33; refine (HI.out _).mono ?_; rintro e w' ⟨rfl, rfl⟩))
  go_ret2
  exact ⟨rfl, rfl⟩
theorem rdo_16 (hR : RW.Rr w base q n v ts hs) (b o c : Nat) (x : Int) (hx : A1 w b o x) : Calls Tryd.prog 15 #[ptr q, .int .i64 16, .slice (some ⟨b, o, none⟩) 1 c] w fun e w' =>
    e = .returned (.tuple #[.int .u64 (WP.boolW (WP.toB 3 x)), .int .i64 (0)]) ∧ w = w' := by
  obtain ⟨hx0, ux⟩ := hx
  have HM := Lib.hid (fun W => rmany_any 16 (by omega) (by omega) W)
  rw [show PP.cnt ((16 : Nat) : Int) = 1 from rfl] at HM
  have HP := Lib.hid (rpair_any hR x ux)
  have HI := Lib.hid (fun W => WW.rto_any 3 x ux W)
  generalize PP.pairB ts x = r at *
  generalize WP.toB 3 x = s at *
  clear hR ux 
  go_enter Tryd.func15, Tryd.ntmps15
  go_wp2_with (first | (go_at_call 29; refine (HM.out _).mono ?_; rintro e w' ⟨rfl, rfl⟩) | (go_at_call 31; refine HP.out.mono ?_; rintro e w' ⟨rfl, rfl⟩) | (go_at_call 32; refine (WW.rbool_any _ _).mono ?_; rintro e w' ⟨rfl, rfl⟩) | (go_at_call 34; refine (HI.out _).mono ?_; rintro e w' ⟨rfl, rfl⟩))
  go_ret2
  exact ⟨rfl, rfl⟩
theorem rdo_17 (hR : RW.Rr w base q n v ts hs) (b o c : Nat) (x : Int) (hx : A1 w b o x) : Calls Tryd.prog 15 #[ptr q, .int .i64 17, .slice (some ⟨b, o, none⟩) 1 c] w fun e w' =>
    e = .returned (.tuple #[.int .u64 (WP.boolW (PP.fnB ts x)), .int .i64 (0)]) ∧ w = w' := by
  obtain ⟨hx0, ux⟩ := hx
  have HM := Lib.hid (fun W => rmany_any 17 (by omega) (by omega) W)
  rw [show PP.cnt ((17 : Nat) : Int) = 1 from rfl] at HM
  have HP := Lib.hid (rpair_any hR x ux)
  have HI := Lib.hid (RW.rkind_any hR x ux)
  have HE : Hid (PP.fnB ts x = (kindN ts x == 2 || kindN ts x == 5)) := Lib.hid rfl
  generalize PP.pairB ts x = r at *
  generalize PP.fnB ts x = s at *
  generalize kindN ts x = k at *
  clear hR ux 
  go_enter Tryd.func15, Tryd.ntmps15
  by_cases hk : k = 2
  · subst hk
    go_wp2_with (first | (go_at_call 29; refine (HM.out _).mono ?_; rintro e w' ⟨rfl, rfl⟩) | (go_at_call 31; refine HP.out.mono ?_; rintro e w' ⟨rfl, rfl⟩) | (go_at_call 32; refine (WW.rbool_any _ _).mono ?_; rintro e w' ⟨rfl, rfl⟩) | (go_at_call 35; refine HI.out.mono ?_; rintro e w' ⟨rfl, rfl⟩))
    go_ret2
    refine ⟨?_, rfl⟩
    rw [HE.out]; rfl
  · have hk1 : (k == 2) = false := by simpa using hk
    go_wp2_with (first | (go_at_call 29; refine (HM.out _).mono ?_; rintro e w' ⟨rfl, rfl⟩) | (go_at_call 31; refine HP.out.mono ?_; rintro e w' ⟨rfl, rfl⟩) | (go_at_call 32; refine (WW.rbool_any _ _).mono ?_; rintro e w' ⟨rfl, rfl⟩) | (go_at_call 35; refine HI.out.mono ?_; rintro e w' ⟨rfl, rfl⟩))
    go_ret2
    refine ⟨?_, rfl⟩
    rw [HE.out, hk1]; rfl
theorem rdo_13 (hR : RW.Rr w base q n v ts hs) (b o c : Nat) (x : Int) (hx : A1 w b o x) : Calls Tryd.prog 15 #[ptr q, .int .i64 13, .slice (some ⟨b, o, none⟩) 1 c] w fun e w' =>
    e = .returned (.tuple #[.int .u64 (if PP.pairB ts x then getW ts x 0 else 0), .int .i64 (if PP.pairB ts x then getE ts x 0 else 100)]) ∧ w = w' := by
  obtain ⟨hx0, ux⟩ := hx
  have HM := Lib.hid (fun W => rmany_any 13 (by omega) (by omega) W)
  rw [show PP.cnt ((13 : Nat) : Int) = 1 from rfl] at HM
  have HP := Lib.hid (rpair_any hR x ux)
  have HI := Lib.hid (RW.rget_any hR x ux 0)
  generalize PP.pairB ts x = r at *
  generalize getW ts x 0 = s at *
  generalize getE ts x 0 = t at *
  clear hR ux 
  go_enter Tryd.func15, Tryd.ntmps15
  cases r
  · go_wp2_with (first | (go_at_call 29; refine (HM.out _).mono ?_; rintro e w' ⟨rfl, rfl⟩) | (go_at_call 31; refine HP.out.mono ?_; rintro e w' ⟨rfl, rfl⟩) | (go_at_call 36; refine HI.out.mono ?_; rintro e w' ⟨rfl, rfl⟩))
    go_ret2
    exact ⟨rfl, rfl⟩
  · go_wp2_with (first | (go_at_call 29; refine (HM.out _).mono ?_; rintro e w' ⟨rfl, rfl⟩) | (go_at_call 31; refine HP.out.mono ?_; rintro e w' ⟨rfl, rfl⟩) | (go_at_call 36; refine HI.out.mono ?_; rintro e w' ⟨rfl, rfl⟩))
    go_ret2
    exact ⟨rfl, rfl⟩
theorem rdo_14 (hR : RW.Rr w base q n v ts hs) (b o c : Nat) (x : Int) (hx : A1 w b o x) : Calls Tryd.prog 15 #[ptr q, .int .i64 14, .slice (some ⟨b, o, none⟩) 1 c] w fun e w' =>
    e = .returned (.tuple #[.int .u64 (if PP.pairB ts x then getW ts x 1 else 0), .int .i64 (if PP.pairB ts x then getE ts x 1 else 100)]) ∧ w = w' := by
  obtain ⟨hx0, ux⟩ := hx
  have HM := Lib.hid (fun W => rmany_any 14 (by omega) (by omega) W)
  rw [show PP.cnt ((14 : Nat) : Int) = 1 from rfl] at HM
  have HP := Lib.hid (rpair_any hR x ux)
  have HI := Lib.hid (RW.rget_any hR x ux 1)
  generalize PP.pairB ts x = r at *
  generalize getW ts x 1 = s at *
  generalize getE ts x 1 = t at *
  clear hR ux 
  go_enter Tryd.func15, Tryd.ntmps15
  cases r
  · go_wp2_with (first | (go_at_call 29; refine (HM.out _).mono ?_; rintro e w' ⟨rfl, rfl⟩) | (go_at_call 31; refine HP.out.mono ?_; rintro e w' ⟨rfl, rfl⟩) | (go_at_call 36; refine HI.out.mono ?_; rintro e w' ⟨rfl, rfl⟩))
    go_ret2
    exact ⟨rfl, rfl⟩
  · go_wp2_with (first | (go_at_call 29; refine (HM.out _).mono ?_; rintro e w' ⟨rfl, rfl⟩) | (go_at_call 31; refine HP.out.mono ?_; rintro e w' ⟨rfl, rfl⟩) | (go_at_call 36; refine HI.out.mono ?_; rintro e w' ⟨rfl, rfl⟩))
    go_ret2
    exact ⟨rfl, rfl⟩
theorem rdo_12 (hR : RW.Rr w base q n v ts hs) (hb : base ≤ w.heap.size) (b o c : Nat) (x y : Int) (hx : A2 w b o x y) : Calls Tryd.prog 15 #[ptr q, .int .i64 12, .slice (some ⟨b, o, none⟩) 2 c] w fun e w' =>
    e = .returned (.tuple #[.int .u64 (allW n ts 1 2), .int .i64 (allE n ts 1 2)]) ∧ ∃ v' hs', RW.Rr w' base q n v' (allT n ts 1 [x, y]) hs' ∧ RW.Fr q base w w' := by
  obtain ⟨hx0, hx1, ux, uy⟩ := hx
  have HM := Lib.hid (fun W => rmany_any 12 (by omega) (by omega) W)
  rw [show PP.cnt ((12 : Nat) : Int) = 2 from rfl] at HM
  have HP := Lib.hid (rpair_any hR x ux)
  have hF := (MM.Far.refl [] w).alloc (.cells #[.int .u64 x, .int .u64 y] 36)
  have hsrc := src_new w [] [x, y] (by simp)
  have HA := Lib.hid (RW.ralloc_len (hR.far hF (by simp)) (by have := hF.size; omega) 1 (some ⟨w.heap.size, 0, none⟩) 2 2 [x, y] rfl (by omega) (by intro z hz; simp at hz; rcases hz with rfl | rfl; exact ux; exact uy) (fun e => by cases e) hsrc)
  have HF := Lib.hid (RW.Fr.of_nil (q := q) (base := base) hF)
  generalize PP.pairB ts x = r at *
  generalize allW n ts 1 2 = s at *
  generalize allE n ts 1 2 = t at *
  generalize allT n ts 1 [x, y] = T at *
  clear hR ux uy hF hsrc hb
  go_enter Tryd.func15, Tryd.ntmps15
  go_wp2_with (first | (go_at_call 29; refine (HM.out _).mono ?_; rintro e w' ⟨rfl, rfl⟩) | (go_at_call 31; refine HP.out.mono ?_; rintro e w' ⟨rfl, rfl⟩) | (go_at_call 13; refine HA.out.mono ?_; rintro e w' ⟨rfl, v2, hs2, hR2, hF2⟩))
  go_ret2
  exact ⟨rfl, v2, hs2, hR2, HF.out.trans hF2⟩
end
end PW
end Go.Proofs.YtoikfpaocgikcaaDoor

/-
  Contract of layer 10's code: Do of 8 to 17, one by one. Conditions: the arena's rows are as the list of things says, words lie in 64 bits, the tables are as laid.
-/
import Derived.Test.YtoikfpaocgikcaaDoorPrimC3
namespace Go.Proofs.YtoikfpaocgikcaaDoor
open Go.RowKit
set_option linter.unusedVariables false
namespace PW
open AW AL
section
variable {w : World} {p g h n : Nat} {ts : List AP.Th}
theorem do_8 (hT : CT w) (pv : Value) (b o c : Nat) (x y : Int) (hx : A2 w b o x y) : Calls Tryd.prog 14 #[pv, .int .i64 8, .slice (some ⟨b, o, none⟩) 2 c] w fun e w' =>
    e = .returned (.tuple #[.int .u64 (WP.boolW (x == y)), .int .i64 0]) ∧ MM.Far [] w w' := by
  have hc := hT.cntAt 8 (by omega)
  rw [show PP.cnt ((8 : Nat) : Int) = 2 from rfl] at hc
  have HF := Lib.hid ((MM.Far.refl [] w).alloc (.cells #[.int .u64 y] 36))
  have HW := Lib.hid (whether_any x 42 #[ptr w.heap.size] (x == y) (w.alloc (.cells #[.int .u64 y] 36)) (fun W => by kernel_rfl) (equals1_any w.heap.size x y _ ((MM.Row.new w 36 [.int .u64 y]).at (i := 0) rfl)))
  generalize (x == y) = r at *
  obtain ⟨hx0, hx1, ux, uy⟩ := hx
  clear hT ux uy
  go_enter Tryd.func14, Tryd.ntmps14
  go_wp2_with (first | (go_at_call 23; refine (equals_any y _).mono ?_; rintro e w' ⟨rfl, rfl⟩) | (go_at_call 22; refine HW.out.mono ?_; rintro e w' ⟨rfl, rfl⟩))
  go_ret2
  exact ⟨rfl, HF.out⟩
theorem do_9 (hT : CT w) (pv : Value) (b o c : Nat) (x : Int) (hx : A1 w b o x) : Calls Tryd.prog 14 #[pv, .int .i64 9, .slice (some ⟨b, o, none⟩) 1 c] w fun e w' =>
    e = .returned (.tuple #[.int .u64 (WP.boolW (x == 10)), .int .i64 0]) ∧ MM.Far [] w w' := by
  have hc := hT.cntAt 9 (by omega)
  rw [show PP.cnt ((9 : Nat) : Int) = 1 from rfl] at hc
  have HF := Lib.hid ((MM.Far.refl [] w).alloc (.cells #[.int .u64 10] 36))
  have HW := Lib.hid (whether_any x 42 #[ptr w.heap.size] (x == 10) (w.alloc (.cells #[.int .u64 10] 36)) (fun W => by kernel_rfl) (equals1_any w.heap.size x 10 _ ((MM.Row.new w 36 [.int .u64 10]).at (i := 0) rfl)))
  generalize (x == 10) = r at *
  obtain ⟨hx0, ux⟩ := hx
  clear hT ux 
  go_enter Tryd.func14, Tryd.ntmps14
  go_wp2_with (first | (go_at_call 23; refine (equals_any 10 _).mono ?_; rintro e w' ⟨rfl, rfl⟩) | (go_at_call 22; refine HW.out.mono ?_; rintro e w' ⟨rfl, rfl⟩))
  go_ret2
  exact ⟨rfl, HF.out⟩
theorem do_10 (hT : CT w) (pv : Value) (b o c : Nat) (x : Int) (hx : A1 w b o x) : Calls Tryd.prog 14 #[pv, .int .i64 10, .slice (some ⟨b, o, none⟩) 1 c] w fun e w' =>
    e = .returned (.tuple #[.int .u64 (WP.boolW (x == 2)), .int .i64 0]) ∧ MM.Far [] w w' := by
  have hc := hT.cntAt 10 (by omega)
  rw [show PP.cnt ((10 : Nat) : Int) = 1 from rfl] at hc
  have HF := Lib.hid ((MM.Far.refl [] w).alloc (.cells #[.int .u64 2] 36))
  have HW := Lib.hid (whether_any x 42 #[ptr w.heap.size] (x == 2) (w.alloc (.cells #[.int .u64 2] 36)) (fun W => by kernel_rfl) (equals1_any w.heap.size x 2 _ ((MM.Row.new w 36 [.int .u64 2]).at (i := 0) rfl)))
  generalize (x == 2) = r at *
  obtain ⟨hx0, ux⟩ := hx
  clear hT ux 
  go_enter Tryd.func14, Tryd.ntmps14
  go_wp2_with (first | (go_at_call 23; refine (equals_any 2 _).mono ?_; rintro e w' ⟨rfl, rfl⟩) | (go_at_call 22; refine HW.out.mono ?_; rintro e w' ⟨rfl, rfl⟩))
  go_ret2
  exact ⟨rfl, HF.out⟩
theorem do_11 (hT : CT w) (hA : Ar w p g h n ts) (b o c : Nat) (x : Int) (hx : A1 w b o x) : Calls Tryd.prog 14 #[ptr p, .int .i64 11, .slice (some ⟨b, o, none⟩) 1 c] w fun e w' =>
    e = .returned (.tuple #[.int .u64 (WP.boolW (PP.pairB ts x)), .int .i64 0]) ∧ MM.Far [] w w' := by
  have hc := hT.cntAt 11 (by omega)
  rw [show PP.cnt ((11 : Nat) : Int) = 1 from rfl] at hc
  have hF := (MM.Far.refl [] w).alloc (.cells #[ptr p] 25)
  have HW := Lib.hid (whether_any x 43 #[ptr w.heap.size] (PP.pairB ts x) (w.alloc (.cells #[ptr p] 25)) (fun W => by kernel_rfl) (isPair1_any (hA.far hF (by simp) (by simp) (by simp)) w.heap.size x hx.2 ((MM.Row.new w 25 [ptr p]).at (i := 0) rfl)))
  have HF := Lib.hid hF
  generalize PP.pairB ts x = r at *
  obtain ⟨hx0, ux⟩ := hx
  clear hT ux hA hF
  go_enter Tryd.func14, Tryd.ntmps14
  go_wp2_with (first | (go_at_call 24; refine (isPair_any p _).mono ?_; rintro e w' ⟨rfl, rfl⟩) | (go_at_call 22; refine HW.out.mono ?_; rintro e w' ⟨rfl, rfl⟩))
  go_ret2
  exact ⟨rfl, HF.out⟩
theorem do_17 (hT : CT w) (hA : Ar w p g h n ts) (b o c : Nat) (x : Int) (hx : A1 w b o x) : Calls Tryd.prog 14 #[ptr p, .int .i64 17, .slice (some ⟨b, o, none⟩) 1 c] w fun e w' =>
    e = .returned (.tuple #[.int .u64 (WP.boolW (PP.fnB ts x)), .int .i64 0]) ∧ MM.Far [] w w' := by
  have hc := hT.cntAt 17 (by omega)
  rw [show PP.cnt ((17 : Nat) : Int) = 1 from rfl] at hc
  have hF := (MM.Far.refl [] w).alloc (.cells #[ptr p] 25)
  have HW := Lib.hid (whether_any x 48 #[ptr w.heap.size] (PP.fnB ts x) (w.alloc (.cells #[ptr p] 25)) (fun W => by kernel_rfl) (isFn1_any (hA.far hF (by simp) (by simp) (by simp)) w.heap.size x hx.2 ((MM.Row.new w 25 [ptr p]).at (i := 0) rfl)))
  have HF := Lib.hid hF
  generalize PP.fnB ts x = r at *
  obtain ⟨hx0, ux⟩ := hx
  clear hT ux hA hF
  go_enter Tryd.func14, Tryd.ntmps14
  go_wp2_with (first | (go_at_call 28; refine (isFn_any p _).mono ?_; rintro e w' ⟨rfl, rfl⟩) | (go_at_call 22; refine HW.out.mono ?_; rintro e w' ⟨rfl, rfl⟩))
  go_ret2
  exact ⟨rfl, HF.out⟩
theorem do_15 (hT : CT w) (pv : Value) (b o c : Nat) (x : Int) (hx : A1 w b o x) : Calls Tryd.prog 14 #[pv, .int .i64 15, .slice (some ⟨b, o, none⟩) 1 c] w fun e w' =>
    e = .returned (.tuple #[.int .u64 (WP.boolW (WP.toIntB x)), .int .i64 0]) ∧ MM.Far [] w w' := by
  have hc := hT.cntAt 15 (by omega)
  rw [show PP.cnt ((15 : Nat) : Int) = 1 from rfl] at hc
  have HW := Lib.hid (whether_any x 26 #[] (WP.toIntB x) w (fun W => by kernel_rfl) (isInt_any x hx.2 w))
  generalize WP.toIntB x = r at *
  obtain ⟨hx0, ux⟩ := hx
  clear hT ux
  go_enter Tryd.func14, Tryd.ntmps14
  go_wp2_with (first | (go_at_call 22; refine HW.out.mono ?_; rintro e w' ⟨rfl, rfl⟩))
  go_ret2
  exact ⟨rfl, MM.Far.refl _ _⟩
theorem do_16 (hT : CT w) (pv : Value) (b o c : Nat) (x : Int) (hx : A1 w b o x) : Calls Tryd.prog 14 #[pv, .int .i64 16, .slice (some ⟨b, o, none⟩) 1 c] w fun e w' =>
    e = .returned (.tuple #[.int .u64 (WP.boolW (WP.toB 3 x)), .int .i64 0]) ∧ MM.Far [] w w' := by
  have hc := hT.cntAt 16 (by omega)
  rw [show PP.cnt ((16 : Nat) : Int) = 1 from rfl] at hc
  have HW := Lib.hid (whether_any x 27 #[] (WP.toB 3 x) w (fun W => by kernel_rfl) (isName_any x hx.2 w))
  generalize WP.toB 3 x = r at *
  obtain ⟨hx0, ux⟩ := hx
  clear hT ux
  go_enter Tryd.func14, Tryd.ntmps14
  go_wp2_with (first | (go_at_call 22; refine HW.out.mono ?_; rintro e w' ⟨rfl, rfl⟩))
  go_ret2
  exact ⟨rfl, MM.Far.refl _ _⟩
theorem do_13 (hT : CT w) (hA : Ar w p g h n ts) (b o c : Nat) (x : Int) (hx : A1 w b o x) : Calls Tryd.prog 14 #[ptr p, .int .i64 13, .slice (some ⟨b, o, none⟩) 1 c] w fun e w' =>
    e = .returned (.tuple #[.int .u64 (if PP.pairB ts x then getW ts x 0 else 0), .int .i64 (if PP.pairB ts x then getE ts x 0 else 100)]) ∧ MM.Far [] w w' := by
  have hc := hT.cntAt 13 (by omega)
  rw [show PP.cnt ((13 : Nat) : Int) = 1 from rfl] at hc
  have HP := Lib.hid (part_any hA x hx.2 0)
  generalize (if PP.pairB ts x then getW ts x 0 else 0) = r at *
  generalize (if PP.pairB ts x then getE ts x 0 else 100) = s at *
  obtain ⟨hx0, ux⟩ := hx
  clear hT ux hA
  go_enter Tryd.func14, Tryd.ntmps14
  go_wp2_with (first | (go_at_call 25; refine HP.out.mono ?_; rintro e w' ⟨rfl, hF⟩))
  go_ret2
  exact ⟨rfl, hF⟩
theorem do_14 (hT : CT w) (hA : Ar w p g h n ts) (b o c : Nat) (x : Int) (hx : A1 w b o x) : Calls Tryd.prog 14 #[ptr p, .int .i64 14, .slice (some ⟨b, o, none⟩) 1 c] w fun e w' =>
    e = .returned (.tuple #[.int .u64 (if PP.pairB ts x then getW ts x 1 else 0), .int .i64 (if PP.pairB ts x then getE ts x 1 else 100)]) ∧ MM.Far [] w w' := by
  have hc := hT.cntAt 14 (by omega)
  rw [show PP.cnt ((14 : Nat) : Int) = 1 from rfl] at hc
  have HP := Lib.hid (part_any hA x hx.2 1)
  generalize (if PP.pairB ts x then getW ts x 1 else 0) = r at *
  generalize (if PP.pairB ts x then getE ts x 1 else 100) = s at *
  obtain ⟨hx0, ux⟩ := hx
  clear hT ux hA
  go_enter Tryd.func14, Tryd.ntmps14
  go_wp2_with (first | (go_at_call 25; refine HP.out.mono ?_; rintro e w' ⟨rfl, hF⟩))
  go_ret2
  exact ⟨rfl, hF⟩
theorem do_12 (hT : CT w) (hA : Ar w p g h n ts) (b o c : Nat) (x y : Int) (hx : A2 w b o x y) (hb : b ∉ [p, g, h]) (hbl : b < w.heap.size) : Calls Tryd.prog 14 #[ptr p, .int .i64 12, .slice (some ⟨b, o, none⟩) 2 c] w fun e w' =>
    e = .returned (.tuple #[.int .u64 (allW n ts 1 2), .int .i64 (allE n ts 1 2)]) ∧ Ar w' p g h n (allT n ts 1 [x, y]) ∧ MM.Far [p, g, h] w w' := by
  have hc := hT.cntAt 12 (by omega)
  rw [show PP.cnt ((12 : Nat) : Int) = 2 from rfl] at hc
  have HP := Lib.hid (alloc_to hA 1 (some ⟨b, o, none⟩) 2 c [x, y] (allW n ts 1 2) (allE n ts 1 2) (allT n ts 1 [x, y]) rfl (by omega) (by intro z hz; simp at hz; rcases hz with rfl | rfl; exact hx.2.2.1; exact hx.2.2.2) rfl rfl rfl (by
    intro _
    refine ⟨_, rfl, hb, hbl, fun j u hu => ?_⟩
    match j, hu with
    | 0, hu => simp [U64s] at hu; subst hu; exact hx.1
    | 1, hu => simp [U64s] at hu; subst hu; exact hx.2.1
    | j + 2, hu => simp [U64s] at hu))
  generalize allW n ts 1 2 = r at *
  generalize allE n ts 1 2 = s at *
  generalize allT n ts 1 [x, y] = T at *
  obtain ⟨hx0, hx1, ux, uy⟩ := hx
  clear hT ux uy hA hb hbl
  go_enter Tryd.func14, Tryd.ntmps14
  go_wp2_with (first | (go_at_call 12; refine HP.out.mono ?_; rintro e w' ⟨rfl, hA2, hF⟩))
  go_ret2
  exact ⟨rfl, hA2, hF⟩
end
end PW
end Go.Proofs.YtoikfpaocgikcaaDoor

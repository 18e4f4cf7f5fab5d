/-
  Contracts of layer 10's code: the tables; the predicates, as functions that are handed over. Conditions: the arena's rows are as the list of things says, a word lies in 64 bits.
-/
import Derived.Test.YtoikfpaocgikcaaDoorPrimPlain
import Derived.Lib.LaidTab
namespace Go.Proofs.YtoikfpaocgikcaaDoor
open Go.RowKit
set_option linter.unusedVariables false
namespace PW
open AW
/-- The program's two tables. -/
structure CT (w : World) : Prop where
  cnt : Lib.TabIs Tryd.prog w "eddywheel/prim.counts" .i64 PP.cntL
  sgn : Lib.TabIs Tryd.prog w "eddywheel/prim.signs" .u8 PP.sgnL
theorem cnt_named : Tryd.prog.globalNamed "eddywheel/prim.counts" = some 0 := by kernel_rfl
theorem sgn_named : Tryd.prog.globalNamed "eddywheel/prim.signs" = some 1 := by kernel_rfl
theorem tab_far {n : String} {g : Nat} (hg : Tryd.prog.globalNamed n = some g) {k : IntKind} {l : List Int} {W w : World} (h : Lib.TabIs Tryd.prog W n k l) (f : MM.Far [] W w) : Lib.TabIs Tryd.prog w n k l := by
  unfold Lib.TabIs World.var? at *
  rw [hg] at h ⊢
  simp only [Option.bind_some] at h ⊢
  have hlt : g < W.heap.size := by
    rcases Nat.lt_or_ge g W.heap.size with hb | hb
    · exact hb
    · rw [Array.getElem?_eq_none hb] at h; cases h
  rw [f.block g hlt (by simp)]
  exact h
theorem CT.far {W w : World} (h : CT W) (f : MM.Far [] W w) : CT w := ⟨tab_far cnt_named h.cnt f, tab_far sgn_named h.sgn f⟩
theorem CT.cntAt {w : World} (h : CT w) (op : Nat) (ho : op < 18) : w.cell? ⟨0, op, none⟩ = some (.int .i64 (PP.cnt op)) := by
  have := h.cnt.cell cnt_named op (by simpa [PP.cntL] using ho)
  simpa [PP.cnt] using this
theorem CT.sgnAt {w : World} (h : CT w) (op : Nat) (ho : op < 8) : w.cell? ⟨1, op, none⟩ = some (.int .u8 (PP.sgn op)) := by
  have := h.sgn.cell sgn_named op (by simpa [PP.sgnL] using ho)
  simpa [PP.sgn] using this
theorem isInt_any (x : Int) (hx : WP.U x) (w : World) : Calls Tryd.prog 26 #[.int .u64 x] w fun e w' => e = .returned (.bool (WP.toIntB x)) ∧ w = w' := by
  have HX := Lib.hid hx
  clear hx
  go_enter Tryd.func26, Tryd.ntmps26
  go_wp2_with (first | (go_at_call 38; refine (WW.toint_any _ HX.out _).mono ?_; rintro e w' ⟨rfl, rfl⟩))
  go_ret
  exact ⟨rfl, rfl⟩
theorem isName_any (x : Int) (hx : WP.U x) (w : World) : Calls Tryd.prog 27 #[.int .u64 x] w fun e w' => e = .returned (.bool (WP.toB 3 x)) ∧ w = w' := by
  have HX := Lib.hid hx
  clear hx
  go_enter Tryd.func27, Tryd.ntmps27
  go_wp2_with (first | (go_at_call 47; refine (WW.to_any _ _ HX.out _).mono ?_; rintro e w' ⟨rfl, rfl⟩))
  go_ret
  exact ⟨rfl, rfl⟩
/-! ### functions that are made -/
theorem equals_any (y : Int) (w : World) : Calls Tryd.prog 23 #[.int .u64 y] w fun e w' => e = .returned (.func (.func 42) #[] #[ptr w.heap.size]) ∧ w' = w.alloc (.cells #[.int .u64 y] 36) := by
  go_enter Tryd.func23, Tryd.ntmps23
  go_wp2
  go_ret
  exact ⟨rfl, rfl⟩
theorem equals1_any (b : Nat) (x y : Int) (w : World) (hb : w.cell? ⟨b, 0, none⟩ = some (.int .u64 y)) : Calls Tryd.prog 42 #[.int .u64 x, ptr b] w fun e w' => e = .returned (.bool (x == y)) ∧ w = w' := by
  go_enter Tryd.func42, Tryd.ntmps42
  go_wp2
  go_ret
  exact ⟨rfl, rfl⟩
theorem isPair_any (p : Nat) (w : World) : Calls Tryd.prog 24 #[ptr p] w fun e w' => e = .returned (.func (.func 43) #[] #[ptr w.heap.size]) ∧ w' = w.alloc (.cells #[ptr p] 25) := by
  go_enter Tryd.func24, Tryd.ntmps24
  go_wp2
  go_ret
  exact ⟨rfl, rfl⟩
theorem isFn_any (p : Nat) (w : World) : Calls Tryd.prog 28 #[ptr p] w fun e w' => e = .returned (.func (.func 48) #[] #[ptr w.heap.size]) ∧ w' = w.alloc (.cells #[ptr p] 25) := by
  go_enter Tryd.func28, Tryd.ntmps28
  go_wp2
  go_ret
  exact ⟨rfl, rfl⟩
section
variable {w : World} {p g h n : Nat} {ts : List AP.Th}
theorem isPair1_any (hA : Ar w p g h n ts) (b : Nat) (x : Int) (hx : WP.U x) (hb : w.cell? ⟨b, 0, none⟩ = some (ptr p)) : Calls Tryd.prog 43 #[.int .u64 x, ptr b] w fun e w' => e = .returned (.bool (PP.pairB ts x)) ∧ w = w' := by
  have HK := Lib.hid (kind_any hA x hx)
  have HL := Lib.hid (len_any hA x hx)
  have HE : Hid (PP.pairB ts x = (kindN ts x == 1 && lenN ts x == 2)) := Lib.hid rfl
  generalize PP.pairB ts x = r at *
  generalize kindN ts x = k at *
  generalize lenN ts x = l at *
  clear hA hx
  go_enter Tryd.func43, Tryd.ntmps43
  by_cases hk : k = 1
  · subst hk
    go_wp2_with (first | (go_at_call 44; refine HK.out.mono ?_; rintro e w' ⟨rfl, rfl⟩) | (go_at_call 45; refine HL.out.mono ?_; rintro e w' ⟨rfl, rfl⟩))
    go_ret
    refine ⟨?_, rfl⟩
    rw [HE.out]; rfl
  · have hk1 : (k == 1) = false := by simpa using hk
    go_wp2_with (first | (go_at_call 44; refine HK.out.mono ?_; rintro e w' ⟨rfl, rfl⟩) | (go_at_call 45; refine HL.out.mono ?_; rintro e w' ⟨rfl, rfl⟩))
    go_ret
    refine ⟨?_, rfl⟩
    rw [HE.out, hk1]; rfl
theorem isFn1_any (hA : Ar w p g h n ts) (b : Nat) (x : Int) (hx : WP.U x) (hb : w.cell? ⟨b, 0, none⟩ = some (ptr p)) : Calls Tryd.prog 48 #[.int .u64 x, ptr b] w fun e w' => e = .returned (.bool (PP.fnB ts x)) ∧ w = w' := by
  have HK := Lib.hid (kind_any hA x hx)
  have HE : Hid (PP.fnB ts x = (kindN ts x == 2 || kindN ts x == 5)) := Lib.hid rfl
  generalize PP.fnB ts x = r at *
  generalize kindN ts x = k at *
  clear hA hx
  go_enter Tryd.func48, Tryd.ntmps48
  by_cases hk : k = 2
  · subst hk
    go_wp2_with (first | (go_at_call 44; refine HK.out.mono ?_; rintro e w' ⟨rfl, rfl⟩))
    go_ret
    refine ⟨?_, rfl⟩
    rw [HE.out]; rfl
  · have hk1 : (k == 2) = false := by simpa using hk
    go_wp2_with (first | (go_at_call 44; refine HK.out.mono ?_; rintro e w' ⟨rfl, rfl⟩))
    go_ret
    refine ⟨?_, rfl⟩
    rw [HE.out, hk1]; rfl
/-! ### whether -/
theorem whether_any (x : Int) (f : Nat) (cs : Array Value) (b : Bool) (w : World) (hf : ∀ W, (callFunc f (#[.int .u64 x] ++ cs)).run Tryd.prog W = .ok (.enter f (#[.int .u64 x] ++ cs)) W)
    (hc : Calls Tryd.prog f (#[.int .u64 x] ++ cs) w fun e w' => e = .returned (.bool b) ∧ w = w') :
    Calls Tryd.prog 22 #[.int .u64 x, .func (.func f) #[] cs] w fun e w' => e = .returned (.tuple #[.int .u64 (WP.boolW b), .int .i64 0]) ∧ w = w' := by
  have HC := Lib.hid hc
  clear hc
  go_enter Tryd.func22, Tryd.ntmps22
  go_wp2_with (first | (go_at_call 41; refine (WW.bool_any _ _).mono ?_; rintro e w' ⟨rfl, rfl⟩) | (refine HC.out.mono ?_; rintro e w' ⟨rfl, rfl⟩))
  go_ret2
  exact ⟨rfl, rfl⟩
end
end PW
end Go.Proofs.YtoikfpaocgikcaaDoor

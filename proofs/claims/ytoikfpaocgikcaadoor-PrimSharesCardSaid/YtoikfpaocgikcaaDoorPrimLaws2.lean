/-
  The walk of PrimShares: what is put together twice of the same is two things. Condition: the arguments' readings, the tables.
-/
import Derived.Test.YtoikfpaocgikcaaDoorPrimShown
namespace Go.Proofs.YtoikfpaocgikcaaDoor
open Go.RowKit
set_option linter.unusedVariables false
namespace PW
open AW AL
set_option maxHeartbeats 4000000 in
set_option maxRecDepth 20000 in
theorem shares_any (x y : Int) (w : World) (ux : WP.U x) (uy : WP.U y) (hT : CT w) : Calls Tryd.prog 8 #[.int .u64 x, .int .u64 y] w fun e w' => e = .returned (.bool true) ∧ Below w.heap.size w w' := by
  have HT := Lib.hid hT
  have U2 : Hid (∀ z ∈ [x, y], WP.U z) := Lib.hid (by intro z hz; simp at hz; rcases hz with rfl | rfl; exact ux; exact uy)
  clear hT ux uy
  go_enter Tryd.func8, Tryd.ntmps8
  go_wp2_with (fail)
  refine (shown_any HT.out).mono ?_
  rintro e w0 ⟨rfl, hF0⟩
  go_wp2_with (fail)
  refine (new_int w0 20 (by omega) (by omega)).mono ?_
  rintro e w1 ⟨p, g, h, rfl, hp, hg, hh, hA1, hF1⟩
  have hs : ∀ b, b ∈ [p, g, h] → b < w.heap.size → b ∈ ([] : List Nat) := by
    intro b hb; have := hF0.size; simp at hb; omega
  have F1 := hF0.trans hF1 (by simp)
  go_wp2_with (fail)
  refine (do_new (HT.out.far F1) hA1 12 [x, y] 2 2 1 0 [⟨1, [x, y]⟩] rfl (by omega) U2.out (by kernel_rfl) (by kernel_rfl) (by kernel_rfl)).mono ?_
  rintro e w2 ⟨rfl, hA2, hF2⟩
  have F2 := F1.trans hF2 hs
  go_wp2_with (fail)
  refine (do_new (HT.out.far F2) hA2 12 [x, y] 2 2 25 0 [⟨1, [x, y]⟩, ⟨1, [x, y]⟩] rfl (by omega) U2.out (by kernel_rfl) (by kernel_rfl) (by kernel_rfl)).mono ?_
  rintro e w3 ⟨rfl, hA3, hF3⟩
  have F3 := F2.trans hF3 hs
  go_wp2_with (fail)
  refine (do_new (HT.out.far F3) hA3 12 [1, 1] 2 2 49 0 [⟨1, [x, y]⟩, ⟨1, [x, y]⟩, ⟨1, [1, 1]⟩] rfl (by omega) (u_all _ (by decide)) (by kernel_rfl) (by kernel_rfl) (by kernel_rfl)).mono ?_
  rintro e w4 ⟨rfl, hA4, hF4⟩
  have F4 := F3.trans hF4 hs
  obtain ⟨T, hTT⟩ : ∃ T, T = ([⟨1, [x, y]⟩, ⟨1, [x, y]⟩, ⟨1, [1, 1]⟩] : List AP.Th) := ⟨_, rfl⟩
  rw [← hTT] at hA4
  go_wp2_with (fail)
  refine (do_new (HT.out.far F4) hA4 8 [1, 25] 2 2 10 0 T rfl (by omega) (u_all _ (by decide)) (by rw [hTT]; kernel_rfl) (by rw [hTT]; kernel_rfl) (by rw [hTT]; kernel_rfl)).mono ?_
  rintro e w5 ⟨rfl, hA5, hF5⟩
  have F5 := F4.trans hF5 hs
  go_wp2_with (fail)
  refine (do_new (HT.out.far F5) hA5 13 [1] 1 1 x 0 T rfl (by omega) (u_all _ (by decide)) (by rw [hTT]; kernel_rfl) (by rw [hTT]; kernel_rfl) (by rw [hTT]; kernel_rfl)).mono ?_
  rintro e w6 ⟨rfl, hA6, hF6⟩
  have F6 := F5.trans hF6 hs
  go_wp2_with (fail)
  refine (do_new (HT.out.far F6) hA6 13 [25] 1 1 x 0 T rfl (by omega) (u_all _ (by decide)) (by rw [hTT]; kernel_rfl) (by rw [hTT]; kernel_rfl) (by rw [hTT]; kernel_rfl)).mono ?_
  rintro e w7 ⟨rfl, hA7, hF7⟩
  have F7 := F6.trans hF7 hs
  go_wp2_with (fail)
  refine (do_new (HT.out.far F7) hA7 14 [1] 1 1 y 0 T rfl (by omega) (u_all _ (by decide)) (by rw [hTT]; kernel_rfl) (by rw [hTT]; kernel_rfl) (by rw [hTT]; kernel_rfl)).mono ?_
  rintro e w8 ⟨rfl, hA8, hF8⟩
  have F8 := F7.trans hF8 hs
  go_wp2_with (fail)
  refine (do_new (HT.out.far F8) hA8 14 [25] 1 1 y 0 T rfl (by omega) (u_all _ (by decide)) (by rw [hTT]; kernel_rfl) (by rw [hTT]; kernel_rfl) (by rw [hTT]; kernel_rfl)).mono ?_
  rintro e w9 ⟨rfl, hA9, hF9⟩
  have F9 := F8.trans hF9 hs
  go_wp2_with (fail)
  refine (do_new (HT.out.far F9) hA9 13 [49] 1 1 1 0 T rfl (by omega) (u_all _ (by decide)) (by rw [hTT]; kernel_rfl) (by rw [hTT]; kernel_rfl) (by rw [hTT]; kernel_rfl)).mono ?_
  rintro e w10 ⟨rfl, hA10, hF10⟩
  have F10 := F9.trans hF10 hs
  go_wp2_with (fail)
  refine (do_new (HT.out.far F10) hA10 14 [49] 1 1 1 0 T rfl (by omega) (u_all _ (by decide)) (by rw [hTT]; kernel_rfl) (by rw [hTT]; kernel_rfl) (by rw [hTT]; kernel_rfl)).mono ?_
  rintro e w11 ⟨rfl, hA11, hF11⟩
  have F11 := F10.trans hF11 hs
  go_wp2_with (fail)
  refine (do_new (HT.out.far F11) hA11 8 [1, 1] 2 2 18 0 T rfl (by omega) (u_all _ (by decide)) (by rw [hTT]; kernel_rfl) (by rw [hTT]; kernel_rfl) (by rw [hTT]; kernel_rfl)).mono ?_
  rintro e w12 ⟨rfl, hA12, hF12⟩
  have F12 := F11.trans hF12 hs
  have hsz : AP.sz T = 9 := by rw [hTT]; rfl
  have HU := Lib.hid (used_any hA12)
  rw [hsz] at HU
  have HF := Lib.hid F12
  clear hA1 hA2 hA3 hA4 hA5 hA6 hA7 hA8 hA9 hA10 hA11 hA12 hF1 hF2 hF3 hF4 hF5 hF6 hF7 hF8 hF9 hF10 hF11 hF12 F1 F2 F3 F4 F5 F6 F7 F8 F9 F10 F11 F12 hTT hsz hs
  go_wp2_with (first | (go_at_call 16; refine HU.out.mono ?_; rintro e w' ⟨rfl, rfl⟩))
  go_ret
  exact ⟨rfl, HF.out.below_nil⟩
end PW
end Go.Proofs.YtoikfpaocgikcaaDoor

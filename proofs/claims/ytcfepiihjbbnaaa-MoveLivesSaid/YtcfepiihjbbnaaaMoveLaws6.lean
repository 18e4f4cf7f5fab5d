/-
  The walk of MoveLives: what is kept, where, and how much is reached, are the document's. Condition: the arguments' readings.
-/
import Derived.Test.YtcfepiihjbbnaaaMoveAlike
import Derived.Test.YtcfepiihjbbnaaaMoveRef5
namespace Go.Proofs.Ytcfepiihjbbnaaa
open Go.RowKit
namespace ML
open AW MW RW
set_option maxRecDepth 100000 in
set_option maxHeartbeats 4000000 in
theorem lives (w : World) (size : Int) (a : Option Addr) (len cap : Nat) (tl : List Tg) (a2 : Option Addr) (len2 cap2 : Nat) (roots : List Int) (hz : Hp w size a len cap tl a2 len2 cap2 roots) :
    Calls Try.prog 3 #[.agg #[.int .i64 size, .slice a len cap, .slice a2 len2 cap2]] w fun e w' => e = .returned (.bool true) ∧ Below w.heap.size w w' := by
  have HZ := Lib.hid hz
  clear hz
  go_enter Try.func3, Try.ntmps3
  go_wp2_with (fail)
  have hX := MM.Row.new w 25 [.int .i64 size, .slice a len cap, .slice a2 len2 cap2]
  have hF := (MM.Far.refl [] w).alloc (.cells #[.int .i64 size, .slice a len cap, .slice a2 len2 cap2] 25)
  refine (MW.shown_any _).mono ?_
  rintro e w0 ⟨rfl, hF0⟩
  have hX0 := hX.far hF0 (by simp)
  have hF0w := hF.trans hF0 (by simp)
  have x0 := hX0.at (i := 0) rfl
  have x1 := hX0.at (i := 1) rfl
  have x2 := hX0.at (i := 2) rfl
  clear hX hF hF0
  go_wp2_with (fail)
  refine (build_any w0 size a len cap tl a2 len2 cap2 roots (HZ.out.far hF0w) _ rfl).mono ?_
  rintro e w1 ⟨base, p, g, h, q, n, ts, v, hs, rfl, hn1, hT⟩
  clear x0 x1 x2 hX0
  have hF1w := hF0w.trans hT.far (by simp)
  have hR := cut20 HZ.out.roots hF1w
  have hnil : a2 = none → cap2 = 0 ∧ min len2 20 = 0 := fun e => by
    have h1 := HZ.out.roots.nil e
    have h2 := HZ.out.roots.le
    omega
  generalize min len2 20 = m at hR hnil ⊢
  generalize roots.take 20 = R at hR
  have hA := hT.ar
  have hRr := hT.rr
  have hm20 := hR.le
  have HNil := Lib.hid hnil
  have HA := Lib.hid (fun (w' : World) (f : MM.Far [] w1 w') => hA.far f (by simp) (by simp) (by simp))
  have HRr := Lib.hid (fun (w' : World) (f : MM.Far [] w1 w') => hRr.far_nil f)
  have HRt := Lib.hid (fun (w' : World) (f : MM.Far [] w1 w') => hR.far f)
  have HRu := Lib.hid hR.u
  have HRl := Lib.hid hR.len
  have HF1 := Lib.hid hF1w
  clear hT hF0w hA hRr hR hF1w hnil
  go_wp2_with (fail)
  refine (live_any (HA.out w1 (MM.Far.refl _ _)) hn1 R a2 m cap2 HRl.out (by omega) (HRt.out w1 (MM.Far.refl _ _)).src HRu.out).mono ?_
  rintro e w2 ⟨pb, gb, hb, wb, rfl, hB, hAb, hRb, hF2⟩
  have HF2 := Lib.hid hF2
  have HAb := Lib.hid hAb
  have HRb := Lib.hid hRb
  clear hAb hRb hF2 hB
  rw [HRl.out]
  go_wp2_with (fail)
  refine (rlive_any (HRr.out w2 HF2.out) R a2 m cap2 HRl.out (by omega) (HRt.out w2 HF2.out).src HRu.out).mono ?_
  rintro e w3 ⟨qb, vb, hb', vo, rfl, hqb, hRb3, hvo, hF3⟩
  have hrow := hvo
  rw [HRl.out] at hrow
  obtain ⟨A3, c3, e3, _, _, _, hsrc3, _⟩ := MO.form hrow
  have HAb3 := Lib.hid (HAb.out.far hF3 (by simp) (by simp) (by simp))
  have HLl := Lib.hid ((MP.liveW_len (ts := ts) R).trans HRl.out)
  have HW := Lib.hid (words_eq w3 (MP.liveW ts R) m (some ⟨wb, 0, none⟩) A3 m c3 HLl.out (by omega) (src_row (HRb.out.far hF3 (by simp))) (hsrc3 [] (by simp)))
  have HRb3 := Lib.hid hRb3
  have HF3 := Lib.hid (HF2.out.trans hF3 (by simp))
  have E3 := Lib.hid e3
  clear hRb3 hvo hrow hsrc3 hF3
  rw [e3]
  clear e3
  go_wp2_with (fail)
  refine HW.out.mono ?_
  rintro e w4 ⟨rfl, hF4⟩
  have HF4 := Lib.hid (HF3.out.trans hF4 (by simp))
  have HA4 := Lib.hid (alike_any (HAb3.out.far hF4 (by simp) (by simp) (by simp)) (HRb3.out.far_nil hF4))
  clear hF4
  go_wp2_with (fail)
  refine HA4.out.mono ?_
  rintro e w5 ⟨rfl, hF5⟩
  have HF5 := Lib.hid (HF4.out.trans hF5 (by simp))
  clear hF5
  go_wp2_with (fail)
  refine (alike_any (HA.out w5 HF5.out) (HRr.out w5 HF5.out)).mono ?_
  rintro e w6 ⟨rfl, hF6⟩
  have HF6 := Lib.hid (HF5.out.trans hF6 (by simp))
  clear hF6
  go_wp2_with (fail)
  obtain ⟨rr, hrr⟩ : ∃ rr : Int, (MP.reach ts R : Int) = rr := ⟨_, rfl⟩
  refine (reach_is (HA.out w6 HF6.out) hn1 R a2 m cap2 rr hrr HRl.out (by omega) (HRt.out w6 HF6.out).src HRu.out).mono ?_
  rintro e w7 ⟨rfl, hF7⟩
  have HF7 := Lib.hid (HF6.out.trans hF7 (by simp))
  have HRR := Lib.hid hrr
  clear hF7 hrr
  go_wp2_with (fail)
  have hrc := rreach_any (HRr.out w7 HF7.out) R a2 m cap2 HRl.out (by omega) HNil.out (HRt.out w7 HF7.out).src HRu.out
  rw [HRR.out] at hrc
  refine hrc.mono ?_
  rintro e w8 ⟨rfl, hF8⟩
  go_wp2_with (fail)
  go_ret
  exact ⟨by simp, ((HF1.out.trans HF7.out (by simp)).trans hF8 (by simp)).below_nil⟩
end ML
end Go.Proofs.Ytcfepiihjbbnaaa

/-
  The walk of MoveGoes: what is kept can be gone on with. Condition: the arguments' readings.
-/
import Derived.Test.YtokpiljbcbemlaaMoveLaws1
import Derived.Test.YtokpiljbcbemlaaMoveEnd
namespace Go.Proofs.Ytokpiljbcbemlaa
open Go.RowKit
namespace ML
open AW MW AL
set_option maxRecDepth 100000 in
set_option maxHeartbeats 4000000 in
theorem goes (w : World) (size : Int) (a : Option Addr) (len cap : Nat) (tl : List Tg) (a2 : Option Addr) (len2 cap2 : Nat) (roots : List Int) (num : Int) (hz : Hp w size a len cap tl a2 len2 cap2 roots) (hw : (Lit.int .u8 num).wf = true) :
    Calls Try.prog 9 #[.agg #[.int .i64 size, .slice a len cap, .slice a2 len2 cap2], .int .u8 num] w fun e w' => e = .returned (.bool true) ∧ Below w.heap.size w w' := by
  obtain ⟨hw0, hw1⟩ := u8_of hw
  have HZ := Lib.hid hz
  clear hz hw
  obtain ⟨k, hk⟩ : ∃ k : Nat, num % 10 = k := ⟨(num % 10).toNat, by omega⟩
  have hk9 : k ≤ 9 := by omega
  have hm1 := run_make_row' (P := Try.prog) 23 42 (.int .u64 0) 8 words_slice word_info rfl .u8 .u8 k (by omega) (by omega)
  go_enter Try.func9, Try.ntmps9
  go_wp2_with (fail)
  have hX := MM.Row.new w 25 [.int .i64 size, .slice a len cap, .slice a2 len2 cap2]
  have hF := (MM.Far.refl [] w).alloc (.cells #[.int .i64 size, .slice a len cap, .slice a2 len2 cap2] 25)
  refine (MW.shown_any _).mono ?_
  rintro e w0 ⟨rfl, hF0⟩
  have hX0 := hX.far hF0 (by simp)
  have hF0w := hF.trans hF0 (by simp)
  have x0 := hX0.at (i := 0) rfl
  have x1 := hX0.at (i := 1) rfl
  have x2 := hX0.at (i := 2) rfl
  clear hX hF hF0
  go_wp2_with (fail)
  refine (build_any w0 size a len cap tl a2 len2 cap2 roots (HZ.out.far hF0w) _ rfl).mono ?_
  rintro e w1 ⟨base, p, g, h, q, n, ts, v, hs, rfl, hn1, hT⟩
  clear x0 x1 x2 hX0
  have hF1w := hF0w.trans hT.far (by simp)
  have hR := cut20 HZ.out.roots hF1w
  generalize min len2 20 = m at hR ⊢
  generalize roots.take 20 = R at hR
  have hA := hT.ar
  have HAok := Lib.hid hA.ok
  have hm20 := hR.le
  clear hT hF0w
  go_wp2_with (fail)
  refine (live_to hA hn1 R a2 m cap2 _ _ rfl rfl hR.len (by omega) hR.src hR.u).mono ?_
  rintro e w2 ⟨pb, gb, hb, wb, rfl, hB, hAb, hRb, hF2⟩
  have HG := Lib.hid (MP.goes HAok.out R ⟨9, List.replicate k 0⟩)
  have hLl := Lib.hid ((MP.liveW_len ts R).trans hR.len)
  have HLu := Lib.hid (MP.liveW_u (ts := ts) hR.u)
  have hsz2 := Lib.hid (show AP.sz (MP.liveT ts R) ≤ 65536 by
    have h1 := HAok.out.room
    have h2 := HAok.out.size
    have h3 := MP.reach_le HAok.out R
    unfold MP.reach at h3
    omega)
  generalize MP.liveT ts R = T at hAb HG hsz2
  generalize MP.liveW ts R = L at hRb HG hLl HLu
  obtain ⟨U, hU⟩ : ∃ U, AP.sz T = U := ⟨_, rfl⟩
  have HU := Lib.hid (used_is hAb U (by rw [hU]))
  have hU6 : U ≤ 65536 := by rw [← hU]; exact hsz2.out
  have hn6 : n ≤ 65536 := hAb.ok.size
  go_wp2_with (first | (go_at_call 23; (with_reducible refine HU.out.mono ?_); rintro e w' ⟨rfl, rfl⟩))
  have hMk := made_half w2 (List.replicate k 0)
  rw [half_zero, List.length_replicate] at hMk
  have hrl : List.replicate k (0 : Int) = List.replicate k 0 := rfl
  have hFm := (MM.Far.refl [] w2).alloc (.cells (madeCells #[.int .u64 0] k) 42)
  have hfs : w2.heap.size ∉ [pb, gb, hb] := by
    have h1 := hAb.head.lt; have h2 := hAb.words.lt; have h3 := hAb.kinds.lt
    simp; omega
  have hF12 := hF2
  obtain ⟨fs, hfs0⟩ : ∃ fs, List.replicate k (0 : Int) = fs := ⟨_, rfl⟩
  have hfl : fs.length = k := by rw [← hfs0]; simp
  have hfu : ∀ x ∈ fs, WP.U x := by
    intro x hx
    rw [← hfs0] at hx
    have := List.eq_of_mem_replicate hx
    subst this; unfold WP.U; omega
  rw [hfs0] at hMk HG
  have HAl := Lib.hid (fun W E T' h1 h2 h3 => alloc_to (hAb.far hFm (by simp) (by simp) (by simp)) 9 (some ⟨w2.heap.size, 0, none⟩) k k fs W E T' hfl (by omega) hfu h1 h2 h3 (MM.Src.row hMk hfs _ (fun _ _ hu => hu)))
  have HRb := Lib.hid (hRb.far hFm (by simp))
  have hbd : w1.heap.size ≤ pb ∧ w1.heap.size ≤ gb ∧ w1.heap.size ≤ hb := by omega
  have HFm := Lib.hid (hF2.trans hFm (by simp))
  have HF1w := Lib.hid hF1w
  have hwbne : wb ∉ [pb, gb, hb] := by
    simp; omega
  clear hrl hMk hFm hfs hF12 hF2 hRb hfs0 hA hR hF1w
  by_cases hfit : n ≤ U + k
  · have hE : allE n T 9 k = 20 := by unfold allE; rw [if_neg (by omega), if_pos (by omega)]
    have hW : allW n T 9 k = 0 := by unfold allW; rw [if_neg (by omega)]
    have hTT : allT n T 9 fs = T := by unfold allT; rw [hfl, if_neg (by omega)]
    refine (HAl.out 0 20 T hW hE hTT).mono ?_
    rintro e w3 ⟨rfl, hA3, hF3⟩
    have HS3 := Lib.hid (size_any hA3)
    have HU3 := Lib.hid (used_is hA3 U (by rw [hU]))
    have s1 := HF1w.out.size
    have hF3w := (HF1w.out.trans HFm.out (by simp)).trans hF3 (by simp; omega)
    clear s1
    have HF3w := Lib.hid hF3w.below_nil
    clear hE hW hTT hA3 hF3 hF3w hU hAb
    go_wp2_with (first
      | (go_at_call 24; (with_reducible refine HS3.out.mono ?_); rintro e w' ⟨rfl, rfl⟩)
      | (go_at_call 23; (with_reducible refine HU3.out.mono ?_); rintro e w' ⟨rfl, rfl⟩))
    go_ret
    exact ⟨rfl, HF3w.out⟩
  · have hE : allE n T 9 k = 0 := by unfold allE; rw [if_neg (by omega), if_neg (by omega)]
    obtain ⟨X, hX⟩ : ∃ X, WP.ofW 1 (U : Int) = X := ⟨_, rfl⟩
    have hW : allW n T 9 k = X := by unfold allW; rw [if_pos hE, hU, hX]
    have hTT : allT n T 9 fs = T ++ [⟨9, fs⟩] := by unfold allT; rw [hfl, if_pos hE]
    have hor := at_or U hU6
    rw [hX] at hor
    refine (HAl.out X 0 _ hW hE hTT).mono ?_
    rintro e w3 ⟨rfl, hA3, hF3⟩
    have hlk := MP.goes_W (T := T) ⟨9, fs⟩ hA3.ok
    rw [hU, hX] at hlk
    obtain ⟨y, hy1, hy2, hy3⟩ := HG.out hA3.ok X hlk
    have hXu : WP.U X := by rw [← hX]; exact WP.ofW_u _ _
    have hszT : AP.sz (T ++ [⟨9, fs⟩]) = U + k + 1 := by rw [AP.sz_snoc, hU, hfl]
    have s1 := HF1w.out.size
    have hF3w := (HF1w.out.trans HFm.out (by simp)).trans hF3 (by simp; omega)
    have hL3 := HRb.out.far hF3 hwbne
    generalize T ++ [⟨9, fs⟩] = T2 at hA3 hy1 hy2 hy3 hszT
    have HS3 := Lib.hid (size_any hA3)
    have HSL := Lib.hid (src_row (hL3.far ((MM.Far.refl [] w3).alloc (.cells #[] 42)) (by simp)))
    have HL3 := Lib.hid hL3
    have HA3 := Lib.hid hA3
    have HF3w := Lib.hid hF3w
    have HY1 := Lib.hid hy1
    have HY2 := Lib.hid hy2
    have HY3 := Lib.hid hy3
    have HsT := Lib.hid hszT
    have HXu := Lib.hid hXu
    clear hE hW hTT hA3 hF3 hF3w hU hAb hlk hy1 hy2 hy3 hL3 s1 hszT hX hXu
    go_wp2_with (first
      | (go_at_call 24; (with_reducible refine HS3.out.mono ?_); rintro e w' ⟨rfl, rfl⟩)
      | (refine app ?_ (.tmp 66) (.tmp 67) ?_ w3.heap.size (.slice (some ⟨w3.heap.size, 0, none⟩) 0 0) 0 [] ?_ (some ⟨wb, 0, none⟩) m m L ?_ (empty_row _ _ (Nat.le_refl _)) hLl.out (fun h => by cases h) [] HSL.out (by omega) (by simp) ?_
         · rfl
         · rfl
         · rfl
         · rfl
         intro v4 w4 hv4 hg4 hat4
         rw [Nat.zero_add, List.nil_append] at hv4
         have hc4 : Copied w3 v4 L w4 := copied_of (MM.Far.refl _ _) hLl.out.symm rfl hv4 hg4
         have HV4 := Lib.hid hv4
         have HF4 := Lib.hid hc4.2
         have s4 := hc4.2.size
         clear hv4 hg4 hat4 hc4)
      | (refine app ?_ (.tmp 68) (.tmp 70) ?_ w3.heap.size v4 m L ?_ (some ⟨w4.heap.size, 0, none⟩) 1 1 [X] ?_ (HV4.out.alloc _) rfl (fun h => by cases h) [] (one_row w4 X [] (by simp)) (by omega) (by simp; omega) ?_
         · rfl
         · rfl
         · rfl
         · rfl
         intro v5 w5 hv5 hg5 hat5
         have hlow := MM.own_lt HV4.out
         have hF5 := grown_far hg5
         have HF5 := Lib.hid (HF4.out.trans hF5 (S := []) (fun b hb hlt => by have := hlow b (by simpa using hb); omega))
         have hfm := MO.form hv5
         obtain ⟨A5, c5, rfl, _, _, _, hsrc5, _⟩ := hfm
         have HSr := Lib.hid (hsrc5 [] (by simp))
         clear hv5 hg5 hat5 hlow hF5 hsrc5)
      | (go_at_call 13
         (with_reducible refine (live_to (HA3.out.far HF5.out (by simp) (by simp) (by simp)) hn1 (L ++ [X]) A5 (m + 1) c5 _ (L ++ [y]) rfl HY1.out (by simp [hLl.out]) (by omega) HSr.out (by intro z hz; rcases List.mem_append.1 hz with hz | hz; exact HLu.out z hz; simp at hz; subst hz; exact HXu.out)).mono ?_)
         rintro e w6 ⟨pc, gc, hc, wm, rfl, _, hAc, hRm, hF6⟩))
    have hF36 := HF5.out.trans hF6 (by simp)
    have HU6 := Lib.hid (used_is (HA3.out.far hF36 (by simp) (by simp) (by simp)) ((U : Int) + (k : Int) + 1) (by rw [HsT.out]; omega))
    have htk : (L ++ [y]).take m = L := by rw [← hLl.out, List.take_left]
    have hS1 : ∀ A, A = some ⟨wm, 0, none⟩ → MM.Src w6 [] A (U64s L) := by
      intro A hA
      have := src_take (src_row hRm) m A (fun _ => hA)
      rw [htk] at this; exact this
    have HWd := Lib.hid (words_eq w6 L m _ (some ⟨wb, 0, none⟩) (m + 1) m hLl.out (by omega) (hS1 _ rfl) (src_row (HL3.out.far hF36 (by simp))))
    have HRm := Lib.hid hRm
    have HAc := Lib.hid hAc
    have HF36 := Lib.hid hF36
    have HLy := Lib.hid (show m < (L ++ [y]).length by simp [hLl.out])
    have HyE := Lib.hid (show ∀ (h : m < (L ++ [y]).length), (L ++ [y])[m] = y by
      intro h
      have := hLl.out
      rw [List.getElem_append_right (by omega)]
      simp)
    have HyU := Lib.hid (show WP.U y by
      have := MP.liveW_u (ts := T2) (roots := L ++ [X]) (by intro z hz; rcases List.mem_append.1 hz with hz | hz; exact HLu.out z hz; simp at hz; subst hz; exact HXu.out)
      rw [HY1.out] at this
      exact this y (by simp))
    have i1 : (m : Int) ≤ (m : Int) + 1 := by omega
    have i2 : ¬ m + 1 = 0 := by omega
    clear hF36 hF6 hRm hAc htk hS1
    go_wp2_with (first
      | (go_at_call 23; (with_reducible refine HU6.out.mono ?_); rintro e w' ⟨rfl, rfl⟩)
      | (go_at_call 15; (with_reducible refine HWd.out.mono ?_); rintro e w7 ⟨rfl, hF7⟩
         have hcy := row_word (HRm.out.far hF7 (by simp)) HLy.out
         rw [HyE.out] at hcy
         have HK7 := Lib.hid (kind_to (HAc.out.far hF7 (by simp) (by simp) (by simp)) y 9 HyU.out HY2.out)
         have HU7 := Lib.hid (used_is (HAc.out.far hF7 (by simp) (by simp) (by simp)) ((U : Int) + (k : Int) + 1) (by rw [HY3.out, HsT.out]; omega))
         have HU8 := Lib.hid (used_is (HA3.out.far (HF36.out.trans hF7 (by simp)) (by simp) (by simp) (by simp)) ((U : Int) + (k : Int) + 1) (by rw [HsT.out]; omega))
         have HB7 := Lib.hid (((HF3w.out.trans HF36.out (by simp)).trans hF7 (by simp)).below_nil)
         clear hF7)
      | (go_at_call 19; (with_reducible refine HK7.out.mono ?_); rintro e w' ⟨rfl, rfl⟩)
      | (go_at_call 23; (with_reducible refine HU7.out.mono ?_); rintro e w' ⟨rfl, rfl⟩)
      | (go_at_call 23; (with_reducible refine HU8.out.mono ?_); rintro e w' ⟨rfl, rfl⟩))
    go_ret
    exact ⟨rfl, HB7.out⟩
end ML
end Go.Proofs.Ytokpiljbcbemlaa

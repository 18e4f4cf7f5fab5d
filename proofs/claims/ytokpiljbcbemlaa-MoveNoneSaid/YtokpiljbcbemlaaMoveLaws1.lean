/-
  The walk of MoveTwice: to copy what is reached twice is to do it once. Condition: the argument's reading.
-/
import Derived.Test.YtokpiljbcbemlaaMoveWords
import Derived.Deep.DeepCutAuto
namespace Go.Proofs.Ytokpiljbcbemlaa
open Go.RowKit
namespace ML
open AW MW AL
/-- The words to begin at, cut, as they can be read later on. -/
structure Cut20 (w : World) (a2 : Option Addr) (m : Nat) (R : List Int) : Prop where
  len : R.length = m
  le : m ≤ 20
  u : ∀ x ∈ R, WP.U x
  src : MM.Src w [] a2 (U64s R)
theorem cut20 {w w' : World} {a2 : Option Addr} {len2 cap2 : Nat} {roots : List Int} (h : MR.Ints .u64 w a2 len2 cap2 roots) (f : MM.Far [] w w') : Cut20 w' a2 (min len2 20) (roots.take 20) :=
  ⟨by rw [List.length_take, h.len_]; omega, by omega, roots_u h 20, take_src h f 20⟩
theorem Cut20.far {w w' : World} {a2 : Option Addr} {m : Nat} {R : List Int} (h : Cut20 w a2 m R) (f : MM.Far [] w w') : Cut20 w' a2 m R := ⟨h.len, h.le, h.u, h.src.far f (by simp)⟩
theorem src_row {w : World} {b : Nat} {l : List Int} (h : MM.Row w b 42 (U64s l)) : MM.Src w [] (some ⟨b, 0, none⟩) (U64s l) := MM.Src.row h (by simp) _ (fun _ _ hu => hu)
theorem at_or (j : Nat) (hj : j ≤ 65536) : bits .or .u64 ((j : Int) * 8) 1 = WP.ofW 1 j := by
  have h : WP.ofB 1 j = true := by rw [WP.ofB_iff]; omega
  rw [WP.orN _ _ (by omega) (by omega) (by omega) (by omega) (by omega)]
  unfold WP.ofW; rw [if_pos h]
theorem lenN_nat {n : Nat} {T : List AP.Th} (hO : Ok n T) (X : Int) : ∃ N : Nat, lenN T X = N ∧ N ≤ 255 := by
  cases h : AW.look T X with
  | none => exact ⟨0, by simp [lenN, h], by omega⟩
  | some i => exact ⟨(AP.th T i).l.length, by simp [lenN, h], (hO.each i (MP.look_lt h)).2.2.1⟩
set_option maxRecDepth 100000 in
set_option maxHeartbeats 400000 in
theorem twice (w : World) (size : Int) (a : Option Addr) (len cap : Nat) (tl : List Tg) (a2 : Option Addr) (len2 cap2 : Nat) (roots : List Int) (hz : Hp w size a len cap tl a2 len2 cap2 roots) :
    Calls Try.prog 5 #[.agg #[.int .i64 size, .slice a len cap, .slice a2 len2 cap2]] w fun e w' => e = .returned (.bool true) ∧ Below w.heap.size w w' := by
  have HZ := Lib.hid hz
  clear hz
  go_enter Try.func5, Try.ntmps5
  go_wp2_with (fail)
  have hX := MM.Row.new w 25 [.int .i64 size, .slice a len cap, .slice a2 len2 cap2]
  have hF := (MM.Far.refl [] w).alloc (.cells #[.int .i64 size, .slice a len cap, .slice a2 len2 cap2] 25)
  refine (MW.shown_any _).mono ?_
  rintro e w0 ⟨rfl, hF0⟩
  have hX0 := hX.far hF0 (by simp)
  have hF0w := hF.trans hF0 (by simp)
  have x0 := hX0.at (i := 0) rfl
  have x1 := hX0.at (i := 1) rfl
  have x2 := hX0.at (i := 2) rfl
  clear hX hF hF0
  go_wp2_with (fail)
  refine (build_any w0 size a len cap tl a2 len2 cap2 roots (HZ.out.far hF0w) _ rfl).mono ?_
  rintro e w1 ⟨base, p, g, h, q, n, ts, v, hs, rfl, hn1, hT⟩
  clear x0 x1 x2 hX0
  have hF1w := hF0w.trans hT.far (by simp)
  have hR := cut20 HZ.out.roots hF1w
  generalize min len2 20 = m at hR ⊢
  generalize roots.take 20 = R at hR
  have hA := hT.ar
  have hO := hA.ok
  clear hT hF0w
  go_wp2_with (fail)
  refine (live_any hA hn1 R a2 m cap2 hR.len (by have := hR.le; omega) hR.src hR.u).mono ?_
  rintro e w2 ⟨pb, gb, hb, wb, rfl, hB, hAb, hRb, hF2⟩
  obtain ⟨t1, t2⟩ := MP.twice hO R
  have hLl := Lib.hid (MP.liveW_len ts R)
  have hLu := MP.liveW_u (ts := ts) hR.u
  have hRl20 := Lib.hid (show R.length ≤ 20 by rw [hR.len]; exact hR.le)
  have hsz := MP.reach_le hO R
  unfold MP.reach at hsz
  have hsz2 : AP.sz (MP.liveT ts R) ≤ 65536 := by
    have h1 := hO.room
    have h2 := hO.size
    omega
  have HA := Lib.hid hA
  clear hsz hR hO hA
  generalize MP.liveT ts R = T at hAb t1 t2 hsz2
  generalize MP.liveW ts R = L at hRb t1 t2 hLl hLu
  go_wp2_with (fail)
  refine (live_to hAb hn1 L _ _ _ T L t1 t2 hLl.out (by have := hRl20.out; omega) (src_row hRb) hLu).mono ?_
  rintro e w3 ⟨pc, gc, hc, wc3, rfl, hC, hAc, hRc, hF3⟩
  have HAa := Lib.hid (fun (w4 : World) (hF : MM.Far [] w3 w4) => HA.out.far ((hF2.trans hF3 (by simp)).trans hF (by simp)) (by simp) (by simp) (by simp))
  have HAb := Lib.hid (fun (w4 : World) (hF : MM.Far [] w3 w4) => hAb.far (hF3.trans hF (by simp)) (by simp) (by simp) (by simp))
  have HAc := Lib.hid (fun (w4 : World) (hF : MM.Far [] w3 w4) => hAc.far hF (by simp) (by simp) (by simp))
  have hF3w := (hF1w.trans hF2 (by simp)).trans hF3 (by simp)
  have HW := Lib.hid (words_eq w3 L R.length _ _ R.length R.length hLl.out (by have := hRl20.out; omega) (src_row (hRb.far hF3 (by simp))) (src_row hRc))
  clear hAb hAc hF2 hF3 hRb hRc hB hC hF1w HA t1 t2
  go_wp2_with (first
    | (go_at_call 15; refine HW.out.mono ?_; rintro e w4 ⟨rfl, hF4⟩)
    | (go_at_call 23; (with_reducible refine (used_any (HAb.out _ hF4)).mono ?_); rintro e w' ⟨rfl, rfl⟩)
    | (go_at_call 23; (with_reducible refine (used_any (HAc.out _ hF4)).mono ?_); rintro e w' ⟨rfl, rfl⟩)
    | (go_at_call 24; (with_reducible refine (size_any (HAa.out _ hF4)).mono ?_); rintro e w' ⟨rfl, rfl⟩)
    | (go_at_call 24; (with_reducible refine (size_any (HAc.out _ hF4)).mono ?_); rintro e w' ⟨rfl, rfl⟩))
  generalize AP.sz T = U at hsz2 ⊢
  go_loopw [65] (fun s65 wr => ∃ k : Nat, k ≤ U ∧ s65 = .int .i64 k ∧ MM.Far [] w3 wr) (fun s65 _ => U - (intOf s65).toNat)
  case atStart => exact ⟨0, Nat.zero_le _, rfl, hF4⟩
  case round =>
    obtain ⟨k, hk, rfl, hF⟩ := hrel
    by_cases hlt : k < U
    · have hor := at_or k (by omega)
      obtain ⟨X, hX⟩ : ∃ X, WP.ofW 1 (k : Int) = X := ⟨_, rfl⟩
      rw [hX] at hor
      have HXu := Lib.hid (show WP.U X by rw [← hX]; exact WP.ofW_u _ _)
      obtain ⟨N, hN, hN255⟩ := lenN_nat (HAb.out _ hF).ok X
      have HLb := Lib.hid (len_any (HAb.out _ hF) X HXu.out)
      have HLc := Lib.hid (len_any (HAc.out _ hF) X HXu.out)
      rw [hN] at HLb HLc
      have HKb := Lib.hid (kind_any (HAb.out _ hF) X HXu.out)
      have HKc := Lib.hid (kind_any (HAc.out _ hF) X HXu.out)
      generalize kindN T X = kk at HKb HKc
      clear hX hN
      go_wp2_with (first
        | (go_at_call 19; (with_reducible refine HKb.out.mono ?_); rintro e w' ⟨rfl, rfl⟩)
        | (go_at_call 19; (with_reducible refine HKc.out.mono ?_); rintro e w' ⟨rfl, rfl⟩)
        | (go_at_call 21; (with_reducible refine HLb.out.mono ?_); rintro e w' ⟨rfl, rfl⟩)
        | (go_at_call 21; (with_reducible refine HLc.out.mono ?_); rintro e w' ⟨rfl, rfl⟩))
      have HFo := Lib.hid hF
      clear hF HLb HLc HKb HKc
      go_loopw [91] (fun s91 w5 => ∃ j : Nat, j ≤ N ∧ s91 = .int .i64 j ∧ MM.Far [] w3 w5) (fun s91 _ => N - (intOf s91).toNat)
      case atStart => exact ⟨0, Nat.zero_le _, rfl, HFo.out⟩
      case round =>
        obtain ⟨j, hj, rfl, hF5⟩ := hrel
        by_cases hlj : j < N
        · have HGb := Lib.hid (get_any (HAb.out _ hF5) X HXu.out j)
          have HGc := Lib.hid (get_any (HAc.out _ hF5) X HXu.out j)
          generalize getW T X j = y at HGb HGc
          generalize getE T X j = ye at HGb HGc
          go_wp2_with (first
            | (go_at_call 22; (with_reducible refine HGb.out.mono ?_); rintro e w' ⟨rfl, rfl⟩)
            | (go_at_call 22; (with_reducible refine HGc.out.mono ?_); rintro e w' ⟨rfl, rfl⟩))
          go_roundw
          case rel => exact ⟨j + 1, by omega, by go_num, hF5⟩
          case measure => simp [intOf]; omega
        · have HF5 := Lib.hid hF5
          clear hF5
          go_wp2_with (fail)
          go_roundw
          case rel => exact ⟨k + 1, by omega, by go_num, HF5.out⟩
          case measure => simp [intOf]; omega
    · have HF5 := Lib.hid (hF3w.trans hF (by simp)).below_nil
      clear hF hF3w
      go_wp2_with (fail)
      go_ret
      exact ⟨rfl, HF5.out⟩
end ML
end Go.Proofs.Ytokpiljbcbemlaa

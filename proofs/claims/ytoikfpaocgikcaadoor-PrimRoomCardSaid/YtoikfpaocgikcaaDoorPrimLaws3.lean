/-
  The walk of PrimRoom: without room nothing is put together. Condition: the arguments' readings, the tables.
-/
import Derived.Test.YtoikfpaocgikcaaDoorPrimShown
namespace Go.Proofs.YtoikfpaocgikcaaDoor
open Go.RowKit
set_option linter.unusedVariables false
namespace PW
open AW AL
def reps (x y : Int) (k : Nat) : List AP.Th := List.replicate k ⟨1, [x, y]⟩
theorem sz_reps (x y : Int) (k : Nat) : AP.sz (reps x y k) = 3 * k := by
  induction k with
  | zero => rfl
  | succ k ih => unfold reps at *; rw [List.replicate_succ]; simp only [AP.sz, ih, List.length_cons, List.length_nil]; omega
theorem reps_succ (x y : Int) (k : Nat) : reps x y (k + 1) = reps x y k ++ [⟨1, [x, y]⟩] := by unfold reps; rw [List.replicate_succ']
theorem do12 (n : Nat) (ts : List AP.Th) (x y : Int) : PP.doW n ts 12 [x, y] = allW n ts 1 2 ∧ PP.doE n ts 12 [x, y] = allE n ts 1 2 ∧ PP.doT n ts 12 [x, y] = allT n ts 1 [x, y] := by
  have hok : PP.okB 12 ([x, y] : List Int).length = true := (PP.okB_iff _ _).2 ⟨by omega, by omega, rfl⟩
  refine ⟨?_, ?_, ?_⟩
  · unfold PP.doW; rw [if_pos hok]; simp [PP.valW]
  · unfold PP.doE; rw [if_pos hok]; simp [PP.valE]
  · unfold PP.doT; rw [hok]; rfl
theorem cons_vals {n : Nat} {ts : List AP.Th} {x y : Int} (h : AP.sz ts + 2 < n) : PP.doW n ts 12 [x, y] = WP.ofW 1 (AP.sz ts) ∧ PP.doE n ts 12 [x, y] = 0 ∧ PP.doT n ts 12 [x, y] = ts ++ [⟨1, [x, y]⟩] := by
  have e : allE n ts 1 2 = 0 := by unfold allE; rw [if_neg (by omega), if_neg (by omega)]
  obtain ⟨d1, d2, d3⟩ := do12 n ts x y
  refine ⟨?_, ?_, ?_⟩
  · rw [d1]; unfold allW; rw [if_pos e]
  · rw [d2]; exact e
  · rw [d3]; unfold allT; rw [if_pos (show allE n ts 1 [x, y].length = 0 from e)]
theorem cons_full {n : Nat} {ts : List AP.Th} {x y : Int} (h : n ≤ AP.sz ts + 2) : PP.doW n ts 12 [x, y] = 0 ∧ PP.doE n ts 12 [x, y] = 20 ∧ PP.doT n ts 12 [x, y] = ts := by
  have e : allE n ts 1 2 = 20 := by unfold allE; rw [if_neg (by omega), if_pos (by omega)]
  obtain ⟨d1, d2, d3⟩ := do12 n ts x y
  refine ⟨?_, ?_, ?_⟩
  · rw [d1]; unfold allW; rw [e]; rfl
  · rw [d2]; exact e
  · rw [d3]; unfold allT; rw [show allE n ts 1 [x, y].length = 20 from e]; rfl
set_option maxHeartbeats 4000000 in
set_option maxRecDepth 20000 in
theorem room_any (x y z : Int) (w : World) (ux : WP.U x) (uy : WP.U y) (uz : (Lit.int .u8 z).wf = true) (hT : CT w) : Calls Tryd.prog 6 #[.int .u64 x, .int .u64 y, .int .u8 z] w fun e w' => e = .returned (.bool true) ∧ Below w.heap.size w w' := by
  have HT := Lib.hid hT
  have U1 : Hid (∀ z ∈ [x], WP.U z) := Lib.hid (by intro z hz; simp at hz; subst hz; exact ux)
  have U2 : Hid (∀ z ∈ [x, y], WP.U z) := Lib.hid (by intro z hz; simp at hz; rcases hz with rfl | rfl; exact ux; exact uy)
  obtain ⟨z0, z1⟩ := u8_of uz
  obtain ⟨K, hK⟩ : ∃ K : Nat, z % 41 = K := ⟨(z % 41).toNat, by omega⟩
  have hK41 : K < 41 := by omega
  clear hT ux uy uz
  go_enter Tryd.func6, Tryd.ntmps6
  go_wp2_with (fail)
  refine (shown_any HT.out).mono ?_
  rintro e w0 ⟨rfl, hF0⟩
  go_wp2_with (fail)
  refine (new_int w0 (3 * (K : Int) + 2) (by omega) (by omega)).mono ?_
  rintro e w1 ⟨p, g, h, rfl, hp, hg, hh, hA1, hF1⟩
  rw [show (3 * (K : Int) + 2).toNat = 3 * K + 2 from by omega] at hA1
  have hs : ∀ b, b ∈ [p, g, h] → b < w.heap.size → b ∈ ([] : List Nat) := by
    intro b hb; have := hF0.size; simp at hb; omega
  have HS := Lib.hid hs
  have F1 := Lib.hid (hF0.trans hF1 (by simp))
  have HA1 := Lib.hid hA1
  clear hs hA1 hF0 hF1
  go_wp2_with (fail)
  go_loopw [43] (fun s43 wr => ∃ k : Nat, k ≤ K ∧ s43 = .int .i64 (k : Int) ∧ Hid (Ar wr p g h (3 * K + 2) (reps x y k) ∧ MM.Far [] w wr)) (fun s43 _ => K - (intOf s43).toNat)
  case atStart => exact ⟨0, by omega, rfl, Lib.hid ⟨HA1.out, F1.out⟩⟩
  case round =>
    obtain ⟨k, hk, rfl, hH⟩ := hrel
    by_cases hlt : k < K
    · obtain ⟨e1, e2, e3⟩ := cons_vals (n := 3 * K + 2) (ts := reps x y k) (x := x) (y := y) (by rw [sz_reps]; omega)
      rw [← reps_succ] at e3
      have HD := Lib.hid (do_new (HT.out.far hH.out.2) hH.out.1 12 [x, y] 2 2 _ _ _ rfl (by omega) U2.out e1 e2 e3)
      generalize WP.ofW 1 (AP.sz (reps x y k)) = v at *
      clear e1 e2 e3
      go_wp2_with (go_at_call 14; refine HD.out.mono ?_; rintro e w2 ⟨rfl, hA2, hF2⟩; have HA2 := Lib.hid hA2; have HF2 := Lib.hid hF2; clear hA2 hF2)
      go_roundw
      case rel => exact ⟨k + 1, by omega, by go_num, Lib.hid ⟨HA2.out, hH.out.2.trans HF2.out HS.out⟩⟩
      case measure => simp [intOf]; omega
    · obtain rfl : k = K := by omega
      obtain ⟨hA, F2⟩ := hH.out
      have hsz := sz_reps x y k
      obtain ⟨e1, e2, e3⟩ := cons_full (n := 3 * k + 2) (ts := reps x y k) (x := x) (y := y) (by rw [sz_reps]; omega)
      obtain ⟨T, hTT⟩ : ∃ T, T = reps x y k := ⟨_, rfl⟩
      rw [← hTT] at hA hsz e1 e2 e3
      obtain ⟨n, hn⟩ : ∃ n, n = 3 * k + 2 := ⟨_, rfl⟩
      rw [← hn] at hA e1 e2 e3
      clear hTT hH HA1 F1 hn
      have E1 := Lib.hid e1
      have E2 := Lib.hid e2
      have E3 := Lib.hid e3
      have HSZ := Lib.hid hsz
      clear e1 e2 e3 hsz
      go_wp2_with (fail)
      refine (do_new (HT.out.far F2) hA 12 [x, y] 2 2 _ _ _ rfl (by omega) U2.out E1.out E2.out E3.out).mono ?_
      rintro e w3 ⟨rfl, hA3, hF3⟩
      have F3 := F2.trans hF3 HS.out
      go_wp2_with (fail)
      refine (do_new (HT.out.far F3) hA3 12 [x] 1 1 0 1 T rfl (by omega) U1.out (by rfl) (by rfl) (by rfl)).mono ?_
      rintro e w4 ⟨rfl, hA4, hF4⟩
      have F4 := F3.trans hF4 HS.out
      go_wp2_with (fail)
      refine (do_new (HT.out.far F4) hA4 13 [x, y] 2 2 0 1 T rfl (by omega) U2.out (by rfl) (by rfl) (by rfl)).mono ?_
      rintro e w5 ⟨rfl, hA5, hF5⟩
      have F5 := F4.trans hF5 HS.out
      go_wp2_with (fail)
      refine (do_new (HT.out.far F5) hA5 18 [x] 1 1 0 1 T rfl (by omega) U1.out (by rfl) (by rfl) (by rfl)).mono ?_
      rintro e w6 ⟨rfl, hA6, hF6⟩
      have F6 := F5.trans hF6 HS.out
      go_wp2_with (fail)
      refine (do_new (HT.out.far F6) hA6 0 [x, y] 2 2 0 1 T rfl (by omega) U2.out (by rfl) (by rfl) (by rfl)).mono ?_
      rintro e w7 ⟨rfl, hA7, hF7⟩
      have F7 := F6.trans hF7 HS.out
      obtain ⟨r, hr⟩ : ∃ r, (x == y) = r := ⟨_, rfl⟩
      go_wp2_with (fail)
      refine (do_new (HT.out.far F7) hA7 8 [x, y] 2 2 (WP.boolW r) 0 T rfl (by omega) U2.out (by rw [← hr]; rfl) (by rfl) (by rfl)).mono ?_
      rintro e w8 ⟨rfl, hA8, hF8⟩
      have HF8 := Lib.hid (F7.trans hF8 HS.out)
      have HU := Lib.hid (used_any hA8)
      have hz3 : (AP.sz T : Int) = 3 * (k : Int) := by have := HSZ.out; omega
      rw [hz3] at HU
      clear hA hA3 hA4 hA5 hA6 hA7 hA8 hF3 hF4 hF5 hF6 hF7 hF8 F2 F3 F4 F5 F6 F7 hz3
      cases r
      · rw [show WP.boolW false = 10 from rfl]
        go_wp2_with (first | (go_at_call 16; refine HU.out.mono ?_; rintro e w' ⟨rfl, rfl⟩))
        go_ret
        exact ⟨rfl, HF8.out.below_nil⟩
      · rw [show WP.boolW true = 18 from rfl]
        go_wp2_with (first | (go_at_call 16; refine HU.out.mono ?_; rintro e w' ⟨rfl, rfl⟩))
        go_ret
        exact ⟨rfl, HF8.out.below_nil⟩
end PW
end Go.Proofs.YtoikfpaocgikcaaDoor

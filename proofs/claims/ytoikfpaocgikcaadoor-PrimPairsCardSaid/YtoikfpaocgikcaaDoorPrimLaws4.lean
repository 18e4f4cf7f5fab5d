/-
  The walk of PrimPairs: what was put together is taken apart again. Condition: the argument's reading, the tables.
-/
import Derived.Test.YtoikfpaocgikcaaDoorPrimChain
namespace Go.Proofs.YtoikfpaocgikcaaDoor
open Go.RowKit
set_option linter.unusedVariables false
namespace PW
open AW AL
theorem slice_c {ad : Option Addr} {a b c : Nat} (h : a = b) : Value.slice ad a c = .slice ad b c := by rw [h]
/-- What is known at the loops' heads. -/
def Pq (w wr : World) (p g h : Nat) (T : List AP.Th) : Prop := Ar wr p g h 100 T ∧ MM.Far [] w wr
set_option maxHeartbeats 8000000 in
set_option maxRecDepth 20000 in
theorem pairs_any (a : Option Addr) (len cap : Nat) (zs : List Int) (w : World) (hz : MR.Ints .u64 w a len cap zs) (hT : CT w) : Calls Tryd.prog 4 #[.slice a len cap] w fun e w' => e = .returned (.bool true) ∧ Below w.heap.size w w' := by
  have HT := Lib.hid hT
  have hle := hz.le
  have hmax := hz.max
  unfold maxLen at hmax
  have HZ := Lib.hid hz
  have hnil := hz.nil
  clear hT hz
  go_enter Tryd.func4, Tryd.ntmps4
  go_wp2_with (fail)
  refine (shown_any HT.out).mono ?_
  rintro e w0 ⟨rfl, hF0⟩
  go_wp2_with (fail)
  refine (new_int w0 100 (by omega) (by omega)).mono ?_
  rintro e w1 ⟨p, g, h, rfl, hp, hg, hh, hA1, hF1⟩
  have hs : ∀ b, b ∈ [p, g, h] → b < w.heap.size → b ∈ ([] : List Nat) := by
    intro b hb; have := hF0.size; simp at hb; omega
  have HS := Lib.hid hs
  have HP1 : Hid (Pq w w1 p g h []) := Lib.hid ⟨hA1, hF0.trans hF1 (by simp)⟩
  clear hs hA1 hF0 hF1 hp hg hh
  go_upto_region 5 with (fail)
  obtain ⟨m, hm⟩ : ∃ m, m = min len 30 := ⟨_, rfl⟩
  have hm1 : m ≤ len := by omega
  have hm2 : m ≤ 30 := by omega
  go_cut [6] (fun s6 wx => s6 = .slice a m cap ∧ wx = w1)
  case first =>
    cases a with
    | none =>
      obtain rfl : cap = 0 := hnil rfl
      obtain rfl : len = 0 := by omega
      obtain rfl : m = 0 := by omega
      clear hm
      go_wp2
      go_meet
      exact ⟨rfl, rfl⟩
    | some ad =>
      by_cases h20 : len ≤ 30
      · obtain rfl : m = len := by omega
        clear hm
        go_wp2
        go_meet
        exact ⟨slice_c (by omega), rfl⟩
      · obtain rfl : m = 30 := by omega
        clear hm
        go_wp2
        go_meet
        exact ⟨slice_c (by omega), rfl⟩
  case rest =>
    obtain ⟨rfl, hwc⟩ := hcut
    subst hwc
    obtain ⟨l, hl⟩ : ∃ l, l = zs.take m := ⟨_, rfl⟩
    have hll : l.length = m := by have := HZ.out.len_; rw [hl, List.length_take]; omega
    have HC : Hid (∀ i, i < m → ∃ b off, a = some ⟨b, off, none⟩ ∧ WP.U (l.getD i 0) ∧ ∀ wr, MM.Far [] w wr → wr.cell? ⟨b, off + i, none⟩ = some (.int .u64 (l.getD i 0))) := Lib.hid (by
      intro i hi
      obtain ⟨b, off, e, _⟩ := cell_at HZ.out (MM.Far.refl [] w) i (by omega)
      have e2 : l.getD i 0 = zs.getD i 0 := by rw [hl]; simp [List.getD, hi]
      refine ⟨b, off, e, ?_, fun wr f => ?_⟩
      · rw [e2]
        have hil : i < zs.length := by have := HZ.out.len_; omega
        have := HZ.out.wf (zs.getD i 0) (by simp [List.getD, List.getElem?_eq_getElem hil])
        exact u_of this
      · obtain ⟨b', off', e', h'⟩ := cell_at HZ.out f i (by omega)
        rw [e] at e'
        injection e' with e'
        injection e' with e1 e3
        subst e1; subst e3
        rw [e2]; exact h')
    have HLL := Lib.hid hll
    clear hm hl hll HZ hnil
    go_wp2_with (fail)
    go_loopw [7, 47] (fun s7 s47 wr => ∃ k : Nat, k ≤ m ∧ s47 = .int .i64 (k : Int) ∧ s7 = .int .u64 (pv k) ∧ Hid (Pq w wr p g h (chT l k))) (fun _ s47 _ => m - (intOf s47).toNat)
    case atStart => exact ⟨0, by omega, rfl, rfl, HP1⟩
    case round =>
      obtain ⟨k, hk, rfl, rfl, hH⟩ := hrel
      by_cases hlt : k < m
      · obtain ⟨b, off, rfl, hu, hc0⟩ := HC.out (m - 1 - k) (by omega)
        have hc := hc0 _ hH.out.2
        rw [show ((off + (m - 1 - k) : Nat)) = off + (m - 1 - k) from rfl] at hc
        have hix : (m : Int) - 1 - (k : Int) = ((m - 1 - k : Nat) : Int) := by omega
        have hpu := pv_u k (by omega)
        obtain ⟨e1, e2, e3⟩ := cons_vals' (l := l) (k := k) (x := l.getD (m - 1 - k) 0) (by omega) (by rw [HLL.out])
        have HD := Lib.hid (do_new (HT.out.far hH.out.2) hH.out.1 12 [l.getD (m - 1 - k) 0, pv k] 2 2 _ _ _ rfl (by omega) (by intro z hz; simp only [List.mem_cons, List.not_mem_nil, or_false] at hz; rcases hz with rfl | rfl; exact hu; exact hpu) e1 e2 e3)
        have hne : (pv (k + 1) == pv k) = false := by simpa using pv_ne k
        have hlt2 : m - 1 - k < m := by omega
        generalize l.getD (m - 1 - k) 0 = z at *
        obtain ⟨v2, hv2⟩ : ∃ v2, v2 = pv (k + 1) := ⟨_, rfl⟩
        rw [← hv2] at HD hne
        generalize pv k = v at *
        have HV2 := Lib.hid hv2
        clear hv2
        generalize m - 1 - k = j at *
        clear e1 e2 e3 hc0 hu hpu
        go_wp2_with (go_at_call 14; refine HD.out.mono ?_; rintro e w2 ⟨rfl, hA2, hF2⟩; have HA2 := Lib.hid hA2; have HF2 := Lib.hid hF2; clear hA2 hF2)
        go_roundw
        case rel => exact ⟨k + 1, by omega, by go_num, by rw [← HV2.out], Lib.hid ⟨HA2.out, hH.out.2.trans HF2.out HS.out⟩⟩
        case measure => simp [intOf]; omega
      · obtain rfl : k = m := by omega
        have HH := hH
        have hO := hH.out.1.ok
        have HCP := Lib.hid (fun (i : Nat) (hi : i < k) => ch_pair hO i hi (by omega))
        have HSZ := Lib.hid (ch_sz l k)
        have HNP := Lib.hid (ch_nil (chT l k))
        obtain ⟨T, hTT⟩ : ∃ T, T = chT l k := ⟨_, rfl⟩
        rw [← hTT] at HH HCP HSZ HNP
        clear hO hH hTT HP1
        have hP2 : Hid (Pq w wr p g h T ∧ pv k = pv (k - 0)) := Lib.hid ⟨HH.out, rfl⟩
        clear HH
        go_wp2_with (fail)
        go_loopw [7, 76] (fun s7 s76 wx => ∃ r : Nat, r ≤ k ∧ s76 = .int .i64 (r : Int) ∧ s7 = .int .u64 (pv (k - r)) ∧ Hid (Pq w wx p g h T)) (fun _ s76 _ => k - (intOf s76).toNat)
        case atStart => exact ⟨0, by omega, rfl, rfl, Lib.hid hP2.out.1⟩
        case round =>
          clear hP2
          obtain ⟨r, hr, rfl, rfl, hX⟩ := hrel
          by_cases hlr : r < k
          · obtain ⟨b, off, rfl, hu, hc0⟩ := HC.out r hlr
            have hc := hc0 _ hX.out.2
            obtain ⟨q1, q2, q3, q4, q5⟩ := HCP.out (k - r - 1) (by omega)
            rw [show k - r - 1 + 1 = k - r from by omega] at q1 q2 q3 q4 q5
            rw [HLL.out, show k - 1 - (k - r - 1) = r from by omega] at q2
            have hvu := pv_u (k - r) (by omega)
            have hv2 : (pv (k - r) == 2) = false := by
              have : pv (k - r) ≠ 2 := by unfold pv; rw [if_neg (by omega)]; omega
              simpa using this
            have hnx : pv (k - (r + 1)) = pv (k - r - 1) := by rw [show k - (r + 1) = k - r - 1 from by omega]
            have hself : (pv (k - r) == pv (k - r)) = true := by simp
            generalize pv (k - r) = v at *
            obtain ⟨v2, hV2⟩ : ∃ v2, v2 = pv (k - r - 1) := ⟨_, rfl⟩
            rw [← hV2] at q3 hnx
            generalize l.getD r 0 = z at *
            have U1 : Hid (∀ z ∈ [v], WP.U z) := Lib.hid (by intro z hz; simp at hz; subst hz; exact hvu)
            have U2 : Hid (∀ z ∈ [v, v], WP.U z) := Lib.hid (by intro z hz; simp at hz; subst hz; exact hvu)
            obtain ⟨a1, a2, a3⟩ := do_11v 100 T v
            obtain ⟨b1, b2, b3⟩ := do_10v 100 T v
            obtain ⟨c1, c2, c3⟩ := do_13v 100 T v
            obtain ⟨d1, d2, d3⟩ := do_14v 100 T v
            obtain ⟨e1, e2, e3⟩ := do_8v 100 T v v
            rw [q1] at a1
            rw [hv2] at b1
            rw [q1, if_pos rfl, q2] at c1
            rw [q1, if_pos rfl, q4] at c2
            rw [q1, if_pos rfl, q3] at d1
            rw [q1, if_pos rfl, q5] at d2
            rw [hself] at e1
            have HD1 := Lib.hid (And.intro a1 (And.intro a2 a3))
            have HD2 := Lib.hid (And.intro b1 (And.intro b2 b3))
            have HD3 := Lib.hid (And.intro c1 (And.intro c2 c3))
            have HD4 := Lib.hid (And.intro d1 (And.intro d2 d3))
            have HD5 := Lib.hid (And.intro e1 (And.intro e2 e3))
            have HNX := Lib.hid hnx
            clear a1 a2 a3 b1 b2 b3 c1 c2 c3 d1 d2 d3 e1 e2 e3 q1 q2 q3 q4 q5 hself hv2 hvu hnx hV2 hu hc0
            obtain ⟨hA, F2⟩ := hX.out
            clear hX
            go_wp2_with (fail)
            refine (do_new (HT.out.far F2) hA 11 [v] 1 1 18 0 T rfl (by omega) U1.out HD1.out.1 HD1.out.2.1 HD1.out.2.2).mono ?_
            rintro e w3 ⟨rfl, hA3, hF3⟩
            have F3 := F2.trans hF3 HS.out
            clear hA F2 hF3
            go_wp2_with (fail)
            refine (do_new (HT.out.far F3) hA3 10 [v] 1 1 10 0 T rfl (by omega) U1.out HD2.out.1 HD2.out.2.1 HD2.out.2.2).mono ?_
            rintro e w4 ⟨rfl, hA4, hF4⟩
            have F4 := F3.trans hF4 HS.out
            clear hA3 F3 hF4
            go_wp2_with (fail)
            refine (do_new (HT.out.far F4) hA4 13 [v] 1 1 z 0 T rfl (by omega) U1.out HD3.out.1 HD3.out.2.1 HD3.out.2.2).mono ?_
            rintro e w5 ⟨rfl, hA5, hF5⟩
            have F5 := F4.trans hF5 HS.out
            clear hA4 F4 hF5
            go_wp2_with (fail)
            refine (do_new (HT.out.far F5) hA5 14 [v] 1 1 v2 0 T rfl (by omega) U1.out HD4.out.1 HD4.out.2.1 HD4.out.2.2).mono ?_
            rintro e w6 ⟨rfl, hA6, hF6⟩
            have F6 := F5.trans hF6 HS.out
            clear hA5 F5 hF6
            go_wp2_with (fail)
            refine (do_new (HT.out.far F6) hA6 8 [v, v] 2 2 18 0 T rfl (by omega) U2.out HD5.out.1 HD5.out.2.1 HD5.out.2.2).mono ?_
            rintro e w7 ⟨rfl, hA7, hF7⟩
            have HP7 : Hid (Pq w w7 p g h T) := Lib.hid ⟨hA7, F6.trans hF7 HS.out⟩
            clear hA6 F6 hF7 hA7
            go_wp2_with (fail)
            go_roundw
            case rel => exact ⟨r + 1, by omega, by go_num, by rw [HNX.out], HP7⟩
            case measure => simp [intOf]; omega
          · obtain rfl : r = k := by omega
            rw [Nat.sub_self]
            obtain ⟨hA, F2⟩ := hX.out
            clear hX HC HCP
            obtain ⟨b1, b2, b3⟩ := do_10v 100 T 2
            obtain ⟨c1, c2, c3⟩ := do_13v 100 T 2
            obtain ⟨d1, d2, d3⟩ := do_14v 100 T 2
            have hn := HNP.out
            rw [show pv 0 = 2 from rfl] at hn ⊢
            rw [hn] at c1 c2 d1 d2
            have HD2 := Lib.hid (And.intro b1 (And.intro b2 b3))
            have HD3 := Lib.hid (And.intro c1 (And.intro c2 c3))
            have HD4 := Lib.hid (And.intro d1 (And.intro d2 d3))
            clear b1 b2 b3 c1 c2 c3 d1 d2 d3 hn
            go_wp2_with (fail)
            refine (do_new (HT.out.far F2) hA 10 [2] 1 1 18 0 T rfl (by omega) (u_all _ (by decide)) HD2.out.1 HD2.out.2.1 HD2.out.2.2).mono ?_
            rintro e w3 ⟨rfl, hA3, hF3⟩
            have F3 := F2.trans hF3 HS.out
            clear hA F2 hF3
            go_wp2_with (fail)
            refine (do_new (HT.out.far F3) hA3 13 [2] 1 1 0 100 T rfl (by omega) (u_all _ (by decide)) HD3.out.1 HD3.out.2.1 HD3.out.2.2).mono ?_
            rintro e w4 ⟨rfl, hA4, hF4⟩
            have F4 := F3.trans hF4 HS.out
            clear hA3 F3 hF4
            go_wp2_with (fail)
            refine (do_new (HT.out.far F4) hA4 14 [2] 1 1 0 100 T rfl (by omega) (u_all _ (by decide)) HD4.out.1 HD4.out.2.1 HD4.out.2.2).mono ?_
            rintro e w5 ⟨rfl, hA5, hF5⟩
            have HF5 := Lib.hid (F4.trans hF5 HS.out)
            clear F4 hF5
            have HU := Lib.hid (used_any hA5)
            have hz3 : (AP.sz T : Int) = 3 * (r : Int) := by have := HSZ.out; omega
            rw [hz3] at HU
            clear hz3 hA5
            go_wp2_with (first | (go_at_call 16; refine HU.out.mono ?_; rintro e w' ⟨rfl, rfl⟩))
            go_ret
            exact ⟨rfl, HF5.out.below_nil⟩
end PW
end Go.Proofs.YtoikfpaocgikcaaDoor

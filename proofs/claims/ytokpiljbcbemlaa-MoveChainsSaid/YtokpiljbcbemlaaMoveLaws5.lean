/-
  The walk of MoveChains: of rows of things just those from where it is begun on are kept, also in a circle. Condition: the arguments are numbers that fit their kind.
-/
import Derived.Test.YtokpiljbcbemlaaMoveChain
import Derived.Test.YtokpiljbcbemlaaMoveLaws1
import Derived.Deep.RegionHeld3
import Derived.IntWalk
namespace Go.Proofs.Ytokpiljbcbemlaa
open Go.RowKit
namespace ML
open AW MW AL
def ads (k : Nat) : List Int := (List.range k).map MP.ad
theorem ads_succ (k : Nat) : ads (k + 1) = ads k ++ [MP.ad k] := by unfold ads; rw [List.range_succ, List.map_append]; rfl
theorem ads_len (k : Nat) : (ads k).length = k := by simp [ads]
theorem ads_at {k i : Nat} (h : i < k) : (U64s (ads k))[i]? = some (.int .u64 (MP.ad i)) := by simp [U64s, ads, h]
theorem ad_u (i : Nat) (h : i ≤ 1000) : WP.U (MP.ad i) := by unfold MP.ad WP.U; omega
theorem set_nx {N : Nat} {c : Bool} {k : Nat} (hN : N ≤ 1000) (hk : k < N) (v : Int) (hv : MP.nx N c k = v) : setT (MP.chain N c k) (MP.ad k) 1 v = MP.chain N c (k + 1) ∧ getE (MP.chain N c k) (MP.ad k) 1 = 0 := by
  have hl := MP.chain_look (c := c) hN k hk
  have ht : (AP.th (MP.chain N c k) k).l.length = 2 := by rw [MP.chain_th _ _ _ _ hk]; simp [MP.cth]
  refine ⟨?_, ?_⟩
  · unfold setT; rw [hl]; simp only
    rw [if_pos (by rw [ht]; omega), ← hv]
    exact MP.chain_put N c k hk
  · unfold getE; rw [hl]; simp only
    rw [if_pos (by rw [ht]; omega)]
theorem chain_get0 {n N : Nat} {c : Bool} {k i : Nat} (h : 3 * N ≤ n) (hn : n ≤ 65536) (hN : N ≤ 1000) (hk : k < N) (hi : i < MP.want N c k) :
    getW (MP.liveT (MP.chain N c N) [MP.ad k]) (MP.wv N c k i) 0 = 8 * (((k + i) % N : Nat) : Int) ∧ getE (MP.liveT (MP.chain N c N) [MP.ad k]) (MP.wv N c k i) 0 = 0 ∧
    getW (MP.liveT (MP.chain N c N) [MP.ad k]) (MP.wv N c k i) 1 = MP.wv N c k (i + 1) ∧ getE (MP.liveT (MP.chain N c N) [MP.ad k]) (MP.wv N c k i) 1 = 0 := by
  obtain ⟨p, h1, h2⟩ := MP.chain_get h hn hN hk hi
  have hl : (AP.th (MP.liveT (MP.chain N c N) [MP.ad k]) p).l.length = 2 := by rw [h2]; rfl
  unfold getW getE
  rw [h1]
  simp only
  rw [if_pos (by rw [hl]; omega), if_pos (by rw [hl]; omega), if_pos (by rw [hl]; omega), if_pos (by rw [hl]; omega), h2]
  exact ⟨rfl, rfl, rfl, rfl⟩
theorem liveW_one (ts : List AP.Th) {n : Nat} (hO : Ok n ts) (x : Int) : MP.liveW ts [x] = [MP.phi ts (MP.liveS ts [x]) x] := (MP.live hO [x]).words
theorem wv_zero {N : Nat} {c : Bool} {k : Nat} (hk : k < N) : MP.wv N c k 0 = MP.phi (MP.chain N c N) (MP.liveS (MP.chain N c N) [MP.ad k]) (MP.ad k) := by
  unfold MP.wv; rw [if_pos (.inr (by omega)), Nat.add_zero, Nat.mod_eq_of_lt hk]
theorem wv_circle {N k : Nat} : MP.wv N true k N = MP.wv N true k 0 := by
  unfold MP.wv; rw [if_pos (.inl rfl), if_pos (.inl rfl), Nat.add_mod_right, Nat.add_zero]
theorem wv_end {N k : Nat} (hk : k < N) : MP.wv N false k (N - k) = 2 := by
  unfold MP.wv; rw [if_neg (by intro h; rcases h with h | h; cases h; omega)]
theorem wv_u {N : Nat} {c : Bool} {k i : Nat} (hN : N ≤ 1000) (hk : 0 < N := by omega) : WP.U (MP.wv N c k i) := by
  unfold MP.wv
  split
  · unfold MP.phi
    split
    · refine MP.bare_u (ad_u _ ?_)
      have := Nat.mod_lt (k + i) hk
      omega
    · split
      · exact pl_u _ _
      · unfold WP.U; omega
  · unfold WP.U; omega
set_option maxRecDepth 100000 in
set_option maxHeartbeats 4000000 in
theorem chains (w : World) (many from_ : Int) (c : Bool) (hm : (Lit.int .u8 many).wf = true) (hf : (Lit.int .u8 from_).wf = true) :
    Calls Try.prog 7 #[.int .u8 many, .int .u8 from_, .bool c] w fun e w' => e = .returned (.bool true) ∧ Below w.heap.size w w' := by
  obtain ⟨hm0, hm1⟩ := u8_of hm
  obtain ⟨hf0, hf1⟩ := u8_of hf
  obtain ⟨r, hr⟩ : ∃ r : Nat, many % 40 = r := ⟨(many % 40).toNat, by omega⟩
  have hr39 : r ≤ 39 := by omega
  clear hm hf
  go_enter Try.func7, Try.ntmps7
  go_wp2_with (fail)
  refine (MW.shown_any _).mono ?_
  rintro e w0 ⟨rfl, hF0⟩
  go_wp2_with (fail)
  obtain ⟨N, hN⟩ : ∃ N : Nat, ((r : Int) + 1) = N := ⟨r + 1, by omega⟩
  have hN1 : 1 ≤ N := by omega
  have hN40 : N ≤ 40 := by omega
  rw [hN]
  clear hN hr hr39
  refine (new_int w0 (3 * (N : Int) + 5) (by omega) (by omega)).mono ?_
  rintro e w1 ⟨p, g, h, rfl, hp, hg, hh, hA1, hF1⟩
  obtain ⟨n, hn⟩ : ∃ n : Nat, (3 * (N : Int) + 5).toNat = n := ⟨_, rfl⟩
  have hnN : n = 3 * N + 5 := by omega
  rw [hn] at hA1
  clear hn
  have hp1 := hA1.head.lt
  have hg1 := hA1.words.lt
  have hh1 := hA1.kinds.lt
  have s0 := hF0.size
  have s1 := hF1.size
  have HA1 := Lib.hid hA1
  have HF01 := Lib.hid (hF0.trans hF1 (by simp))
  obtain ⟨B, hB⟩ : ∃ B, w1.heap.size = B := ⟨_, rfl⟩
  rw [hB] at hp1 hg1 hh1
  have hwB : w.heap.size ≤ B := by omega
  have hpw : w.heap.size ≤ p ∧ w.heap.size ≤ g ∧ w.heap.size ≤ h := by omega
  clear hA1 hF0 hF1 s0 s1 hp hg hh
  go_wp2_with (fail)
  go_loopw [11, 43] (fun s11 s43 wr => ∃ k : Nat, k ≤ N ∧ s43 = .int .i64 k ∧ Ar wr p g h n (MP.raws k) ∧ wr.ownsRow B 42 1 s11 k (U64s (ads k)) ∧ MM.Far [] w wr ∧ B ≤ wr.heap.size) (fun _ s43 _ => N - (intOf s43).toNat)
  case atStart => exact ⟨0, Nat.zero_le _, rfl, HA1.out, MO.none_ _ _ _ _, HF01.out, by omega⟩
  case round =>
    clear hB
    obtain ⟨k, hk, rfl, hA, hO, hF, hs⟩ := hrel
    by_cases hlt : k < N
    · have hsz := MP.raws_sz k
      have hE : allE n (MP.raws k) 1 2 = 0 := by unfold allE; rw [if_neg (by omega), if_neg (by omega)]
      have hW : allW n (MP.raws k) 1 2 = MP.ad k := by
        unfold allW; rw [if_pos hE, hsz]
        have : WP.ofB 1 ((3 * k : Nat) : Int) = true := by rw [WP.ofB_iff]; omega
        unfold WP.ofW; rw [if_pos this]; unfold MP.ad; omega
      have hT : allT n (MP.raws k) 1 [(k : Int) * 8, 2] = MP.raws (k + 1) := by
        unfold allT
        rw [if_pos (by simpa using hE), MP.raws_snoc, show (k : Int) * 8 = 8 * (k : Int) by omega]
      have HAl := Lib.hid (alloc_to (hA.far ((MM.Far.refl [] wr).alloc (.cells #[.int .u64 ((k : Int) * 8), .int .u64 2] 42)) (by simp) (by simp) (by simp)) 1 (some ⟨wr.heap.size, 0, none⟩) 2 2 [(k : Int) * 8, 2] (MP.ad k) 0 (MP.raws (k + 1)) rfl (by omega)
        (by intro x hx; simp at hx; rcases hx with rfl | rfl <;> unfold WP.U <;> omega) hW hE hT
        (MM.Src.row (MM.Row.new wr 42 [.int .u64 ((k : Int) * 8), .int .u64 2]) (by simp; omega) _ (fun _ _ hu => hu)))
      have hlow := MM.own_lt hO
      have HO := Lib.hid hO
      have HLow := Lib.hid hlow
      have HF := Lib.hid hF
      have HadU := Lib.hid (ads_succ k)
      generalize MP.ad k = y at HAl HadU
      clear hA hO hF hE hW hT hsz hlow
      go_wp2_with (first
        | (go_at_call 26
           (with_reducible refine HAl.out.mono ?_)
           rintro e w2 ⟨rfl, hA2, hF2⟩
           have s2 := hF2.size
           have hF2' : MM.Far [p, g, h] wr w2 := ((MM.Far.refl [p, g, h] wr).alloc _).trans hF2 (fun b hb _ => hb)
           have s2' := hF2'.size
           have HO2 := Lib.hid (MM.own_far HO.out hF2' (fun b hb hm => by have := HLow.out b hb; simp at hm; omega))
           have HA2 := Lib.hid hA2
           have HF2 := Lib.hid (HF.out.trans hF2' (by simp; omega))
           clear hA2 hF2 hF2')
        | (refine app ?_ (.tmp 57) (.tmp 59) ?_ B _ k (ads k) ?_ (some ⟨w2.heap.size, 0, none⟩) 1 1 [y] ?_ (HO2.out.alloc _) rfl (fun h => by cases h) [] (one_row w2 y [] (by simp)) (by omega) (by simp; omega) ?_
           · rfl
           · rfl
           · rfl
           · rfl
           intro v3 w3 hv3 hg3 hat3
           have hF3 := grown_far hg3))
      go_roundw
      case rel =>
        have s3 := hF3.size
        have hl3 := MM.own_lt HO2.out
        refine ⟨k + 1, by omega, by go_num, HA2.out.far hF3 ?_ ?_ ?_, by rw [HadU.out]; exact hv3, HF2.out.trans hF3 (fun b hb hlt => ?_), by omega⟩
        · intro hm; have := hl3 p (by simpa using hm); omega
        · intro hm; have := hl3 g (by simpa using hm); omega
        · intro hm; have := hl3 h (by simpa using hm); omega
        · have := hl3 b (by simpa using hb); omega
      case measure => simp [intOf]; omega
    · obtain rfl : k = N := by omega
      obtain ⟨Aa, ca, rfl, _, _, _, _, hca⟩ := MO.form hO
      have hg0 : ∃ ga, Aa = some ⟨ga, 0, none⟩ ∧ B ≤ ga ∧ ga < wr.heap.size := by
        rcases hca with ⟨_, h0, _⟩ | h1
        · omega
        · exact h1
      obtain ⟨ga, rfl, hga, hga2⟩ := hg0
      rw [← MP.chain_zero k c] at hA
      have HA := Lib.hid hA
      have HO := Lib.hid hO
      have HF := Lib.hid hF
      clear hA hO hF hca hlt hk
      go_wp2_with (fail)
      go_loopw [63] (fun s63 w2 => ∃ j : Nat, j ≤ k ∧ s63 = .int .i64 j ∧ Ar w2 p g h n (MP.chain k c j) ∧ w2.ownsRow B 42 1 (.slice (some ⟨ga, 0, none⟩) k ca) k (U64s (ads k)) ∧ MM.Far [] w w2) (fun s63 _ => k - (intOf s63).toNat)
      case atStart => exact ⟨0, Nat.zero_le _, rfl, HA.out, HO.out, HF.out⟩
      case round =>
        clear HA HO HF
        obtain ⟨j, hj, rfl, hA, hO, hF⟩ := hrel
        by_cases hlj : j < k
        · have gne : ga ∉ [g] := by simp; omega
          have c0 : wr.cell? ⟨ga, j, none⟩ = some (.int .u64 (MP.ad j)) := (hO.cellAt j (by omega)).trans (ads_at hlj)
          have c1 : j + 1 < k → wr.cell? ⟨ga, j + 1, none⟩ = some (.int .u64 (MP.ad (j + 1))) := fun h1 => (hO.cellAt (j + 1) (by omega)).trans (ads_at h1)
          have cz : wr.cell? ⟨ga, 0, none⟩ = some (.int .u64 (MP.ad 0)) := (hO.cellAt 0 (by omega)).trans (ads_at (by omega))
          by_cases hlast : j + 1 < k
          · clear cz
            have c1 := c1 hlast
            have i1 : IntKind.i64.wrap ((j : Int) + 1) = (j : Int) + 1 := IntWalk.i64_in _ (by omega)
            have i2 : (0 : Int) ≤ (j : Int) + 1 := by omega
            have i3 : ((j : Int) + 1).toNat = j + 1 := by omega
            have i4 : (j : Int) + 1 < (k : Int) := by omega
            have i5 : (j : Int) < (k : Int) := by omega
            obtain ⟨e1, e2⟩ := set_nx (c := c) (N := k) (k := j) (by omega) hlj (MP.ad (j + 1)) (by rw [MP.nx_in, if_pos hlast])
            have hA2 := set_any (hA.far ((MM.Far.refl [] wr).drew) (by simp) (by simp) (by simp)) (MP.ad j) (ad_u j (by omega)) 1 (MP.ad (j + 1)) (ad_u _ (by omega))
            rw [e1, e2] at hA2
            have HS := Lib.hid hA2
            have HO := Lib.hid hO
            have HF := Lib.hid hF
            clear hA hO hF e1 e2 hA2
            go_wp2_with (fail)
            go_region_held3 (fun w' => w'.cell? ⟨ga, j, none⟩ = some (.int .u64 (MP.ad j)) ∧ w'.cell? ⟨ga, j + 1, none⟩ = some (.int .u64 (MP.ad (j + 1)))) (go_keep) (first
              | (go_at_call 27
                 (with_reducible refine HS.out.mono ?_)
                 rintro e w3 ⟨rfl, hA3, hF3⟩
                 have hF3' := ((MM.Far.refl [g] wr).drew).trans hF3 (fun b hb _ => hb)
                 have HO3 := Lib.hid (MM.own_far HO.out hF3' (fun b hb hm => by
                   have : ga = b := by simpa [Value.ownBlock] using hb
                   subst this; exact gne hm))
                 have d0 : w3.cell? ⟨ga, j, none⟩ = some (.int .u64 (MP.ad j)) := (HO3.out.cellAt j (by omega)).trans (ads_at hlj)
                 have d1 : w3.cell? ⟨ga, j + 1, none⟩ = some (.int .u64 (MP.ad (j + 1))) := (HO3.out.cellAt _ (by omega)).trans (ads_at (by omega))
                 have HA3 := Lib.hid hA3
                 have HF3 := Lib.hid (HF.out.trans hF3' (by simp; omega))
                 clear hA3 hF3 hF3'))
            all_goals
              go_wp2_with (fail)
              go_roundw
              case rel => exact ⟨j + 1, by omega, by go_num, HA3.out, HO3.out, HF3.out⟩
              case measure => simp [intOf]; omega
          · clear c1
            cases c with
            | true =>
              have i4 : ¬ (j : Int) + 1 < (k : Int) := by omega
              have i5 : (j : Int) < (k : Int) := by omega
              have i6 : (0 : Int) < (k : Int) := by omega
              have i7 : ¬ k = 0 := by omega
              have i8 : 0 < k := by omega
              obtain ⟨e1, e2⟩ := set_nx (c := true) (N := k) (k := j) (by omega) hlj (MP.ad 0) (by rw [MP.nx_in, if_neg hlast, if_pos rfl])
              have hA2 := set_any (hA.far ((MM.Far.refl [] wr).drew) (by simp) (by simp) (by simp)) (MP.ad j) (ad_u j (by omega)) 1 (MP.ad 0) (ad_u _ (by omega))
              rw [e1, e2] at hA2
              have HS := Lib.hid hA2
              have HO := Lib.hid hO
              have HF := Lib.hid hF
              clear hA hO hF e1 e2 hA2
              go_wp2_with (fail)
              go_region_held3 (fun w' => w'.cell? ⟨ga, j, none⟩ = some (.int .u64 (MP.ad j)) ∧ w'.cell? ⟨ga, 0, none⟩ = some (.int .u64 (MP.ad 0))) (go_keep) (first
                | (go_at_call 27
                   (with_reducible refine HS.out.mono ?_)
                   rintro e w3 ⟨rfl, hA3, hF3⟩
                   have hF3' := ((MM.Far.refl [g] wr).drew).trans hF3 (fun b hb _ => hb)
                   have HO3 := Lib.hid (MM.own_far HO.out hF3' (fun b hb hm => by
                     have : ga = b := by simpa [Value.ownBlock] using hb
                     subst this; exact gne hm))
                   have d0 : w3.cell? ⟨ga, j, none⟩ = some (.int .u64 (MP.ad j)) := (HO3.out.cellAt j (by omega)).trans (ads_at hlj)
                   have d1 : w3.cell? ⟨ga, 0, none⟩ = some (.int .u64 (MP.ad 0)) := (HO3.out.cellAt _ (by omega)).trans (ads_at (by omega))
                   have HA3 := Lib.hid hA3
                   have HF3 := Lib.hid (HF.out.trans hF3' (by simp; omega))
                   clear hA3 hF3 hF3'))
              all_goals
                go_wp2_with (fail)
                go_roundw
                case rel => exact ⟨j + 1, by omega, by go_num, HA3.out, HO3.out, HF3.out⟩
                case measure => simp [intOf]; omega
            | false =>
              have i4 : ¬ (j : Int) + 1 < (k : Int) := by omega
              rw [MP.chain_last k j (by omega)] at hA
              have HA := Lib.hid hA
              have HO := Lib.hid hO
              have HF := Lib.hid hF
              clear hA hO hF
              go_wp2_with (fail)
              go_roundw
              case rel => exact ⟨j + 1, by omega, by go_num, HA.out, HO.out, HF.out⟩
              case measure => simp [intOf]; omega
        · obtain rfl : j = k := by omega
          clear hlj hj
          obtain ⟨q, hq⟩ : ∃ q : Nat, from_ % (j : Int) = q := ⟨(from_ % (j : Int)).toNat, by have := Int.emod_nonneg from_ (show (j : Int) ≠ 0 by omega); omega⟩
          have hqj : q < j := by have := Int.emod_lt_of_pos from_ (show (0 : Int) < (j : Int) by omega); omega
          have cq : wr.cell? ⟨ga, q, none⟩ = some (.int .u64 (MP.ad q)) := (hO.cellAt q (by omega)).trans (ads_at hqj)
          obtain ⟨W, hW⟩ : ∃ W : Nat, MP.want j c q = W := ⟨_, rfl⟩
          have hn6 : n ≤ 65536 := by omega
          have hUs := MP.chain_used (c := c) (n := n) (by omega) hn6 (by omega) hqj
          rw [hW] at hUs
          have HA := Lib.hid hA
          have HO := Lib.hid hO
          have HF := Lib.hid hF
          have HUs := Lib.hid hUs
          have hW40 : W ≤ 40 := by rw [← hW]; unfold MP.want; split <;> omega
          have HW := Lib.hid hW
          clear hA hO hF hUs hW
          cases c with
          | true =>
            obtain rfl : j = W := by have := HW.out; simpa [MP.want] using this
            have hWI : MP.want j true q = j := HW.out
            go_upto_region 24 with (fail)
            rw [hq]
            clear hq
            have i1 : (0 : Int) ≤ (q : Int) := by omega
            have i2 : (q : Int) < (j : Int) := by omega
            clear hWI
            go_wp2_with (fail)
            have hfa := (MM.Far.refl [] wr).alloc (.cells #[.int .u64 (MP.ad q)] 42)
            refine (live_to (HA.out.far hfa (by simp) (by simp) (by simp)) (by omega) [MP.ad q] _ 1 1 (MP.liveT (MP.chain j true j) [MP.ad q]) [MP.wv j true q 0] rfl (by rw [liveW_one _ HA.out.ok, wv_zero hqj]) rfl (by omega) (one_row wr (MP.ad q) [] (by simp)) (by intro x hx; simp at hx; subst hx; exact ad_u q (by omega))).mono ?_
            rintro e w3 ⟨pb, gb, hb, wm, rfl, _, hAb, hRm, hF3⟩
            have hF13 := hfa.trans hF3 (by simp)
            have hA3 := HA.out.far hF13 (by simp) (by simp) (by simp)
            have hO3 := MM.own_far HO.out hF13 (by simp)
            have cq3 : w3.cell? ⟨ga, q, none⟩ = some (.int .u64 (MP.ad q)) := (hO3.cellAt q (by omega)).trans (ads_at hqj)
            have HU3 := Lib.hid (used_is hAb (3 * (j : Int)) (by have := HUs.out; unfold MP.reach at this; omega))
            have HRe := Lib.hid (reach_is (hA3.far ((MM.Far.refl [] w3).alloc (.cells #[.int .u64 (MP.ad q)] 42)) (by simp) (by simp) (by simp)) (by omega) [MP.ad q] (some ⟨w3.heap.size, 0, none⟩) 1 1 (3 * (j : Int)) (by rw [HUs.out]; omega) rfl (by omega) (one_row w3 (MP.ad q) [] (by simp)) (by intro x hx; simp at hx; subst hx; exact ad_u q (by omega)))
            have HRm := Lib.hid hRm
            have HAb := Lib.hid hAb
            have HF3 := Lib.hid (HF.out.trans hF13 (by simp))
            clear hfa hF3 hF13 hA3 hO3 hRm hAb cq
            obtain ⟨x0, hx0⟩ : ∃ x0, MP.wv j true q 0 = x0 := ⟨_, rfl⟩
            have HX0 := Lib.hid hx0
            have c0 : w3.cell? ⟨wm, 0, none⟩ = some (.int .u64 x0) := by
              have := row_word HRm.out (k := 0) (by simp)
              simp at this
              rw [this, hx0]
            clear hx0
            go_wp2_with (first
              | (go_at_call 23; (with_reducible refine HU3.out.mono ?_); rintro e w' ⟨rfl, rfl⟩)
              | (go_at_call 17; (with_reducible refine HRe.out.mono ?_); rintro e w4 ⟨rfl, hF4⟩
                 have HF34 := Lib.hid (((MM.Far.refl [] w3).alloc (.cells #[.int .u64 (MP.ad q)] 42)).trans hF4 (by simp))
                 have d0 : w4.cell? ⟨wm, 0, none⟩ = some (.int .u64 x0) := by
                   have := row_word (HRm.out.far HF34.out (by simp)) (k := 0) (by simp)
                   simp at this
                   rw [this, HX0.out]
                 clear hF4))
            have hAb4 := HAb.out.far HF34.out (by simp) (by simp) (by simp)
            have HAb4 := Lib.hid hAb4
            clear hAb4
            go_loopw [20, 141] (fun s20 s141 w5 => ∃ i : Nat, i ≤ j ∧ s141 = .int .i64 i ∧ s20 = .int .u64 (MP.wv j true q i) ∧ w5 = w4) (fun _ s141 _ => j - (intOf s141).toNat)
            case atStart => exact ⟨0, Nat.zero_le _, rfl, by rw [HX0.out], rfl⟩
            case round =>
              obtain ⟨i, hi, rfl, rfl, hw4⟩ := hrel
              subst wr
              by_cases hli : i < j
              · obtain ⟨g1, g2, g3, g4⟩ := chain_get0 (c := true) (n := n) (N := j) (k := q) (i := i) (by omega) hn6 (by omega) hqj (by rw [HW.out]; exact hli)
                obtain ⟨mm, hmm⟩ : ∃ mm : Nat, (q + i) % j = mm := ⟨_, rfl⟩
                have hmj : mm < j := by rw [← hmm]; exact Nat.mod_lt _ (by omega)
                have hmI : ((q : Int) + (i : Int)) % (j : Int) = (mm : Int) := by rw [← hmm]; simp
                rw [hmm] at g1
                have hwu : WP.U (MP.wv j true q i) := wv_u (by omega)
                have HG0 := Lib.hid (get_is HAb4.out (MP.wv j true q i) hwu 0 ((mm : Int) * 8) 0 (by rw [g1]; omega) g2)
                have HG1 := Lib.hid (get_is HAb4.out (MP.wv j true q i) hwu 1 (MP.wv j true q (i + 1)) 0 g3 g4)
                generalize MP.wv j true q i = x at HG0 HG1
                obtain ⟨x', hx'⟩ : ∃ x', MP.wv j true q (i + 1) = x' := ⟨_, rfl⟩
                rw [hx'] at HG1
                have HX' := Lib.hid hx'
                clear hx'
                clear hmm hwu g1 g2 g3 g4
                go_wp2_with (first
                  | (go_at_call 22; (with_reducible refine HG0.out.mono ?_); rintro e w' ⟨rfl, rfl⟩)
                  | (go_at_call 22; (with_reducible refine HG1.out.mono ?_); rintro e w' ⟨rfl, rfl⟩))
                go_roundw
                case rel => exact ⟨i + 1, by omega, by go_num, by rw [HX'.out], trivial⟩
                case measure => simp [intOf]; omega
              · obtain rfl : i = j := by omega
                have hE : MP.wv i true q i = x0 := by rw [wv_circle, HX0.out]
                rw [hE]
                have HB := Lib.hid ((HF3.out.trans HF34.out (by simp)).below_nil)
                clear hE hi
                go_wp2_with (fail)
                go_ret
                exact ⟨rfl, HB.out⟩
          | false =>
            have hWq : W = j - q := by have := HW.out; simp [MP.want] at this; omega
            have hWI : (j : Int) - (q : Int) = (W : Int) := by omega
            go_upto_region 24 with (fail)
            rw [hq]
            clear hq
            have i1 : (0 : Int) ≤ (q : Int) := by omega
            have i2 : (q : Int) < (j : Int) := by omega
            go_wp2_with (fail)
            clear hWI
            have hfa := (MM.Far.refl [] wr).alloc (.cells #[.int .u64 (MP.ad q)] 42)
            refine (live_to (HA.out.far hfa (by simp) (by simp) (by simp)) (by omega) [MP.ad q] _ 1 1 (MP.liveT (MP.chain j false j) [MP.ad q]) [MP.wv j false q 0] rfl (by rw [liveW_one _ HA.out.ok, wv_zero hqj]) rfl (by omega) (one_row wr (MP.ad q) [] (by simp)) (by intro x hx; simp at hx; subst hx; exact ad_u q (by omega))).mono ?_
            rintro e w3 ⟨pb, gb, hb, wm, rfl, _, hAb, hRm, hF3⟩
            have hF13 := hfa.trans hF3 (by simp)
            have hA3 := HA.out.far hF13 (by simp) (by simp) (by simp)
            have hO3 := MM.own_far HO.out hF13 (by simp)
            have cq3 : w3.cell? ⟨ga, q, none⟩ = some (.int .u64 (MP.ad q)) := (hO3.cellAt q (by omega)).trans (ads_at hqj)
            have HU3 := Lib.hid (used_is hAb (3 * (W : Int)) (by have := HUs.out; unfold MP.reach at this; omega))
            have HRe := Lib.hid (reach_is (hA3.far ((MM.Far.refl [] w3).alloc (.cells #[.int .u64 (MP.ad q)] 42)) (by simp) (by simp) (by simp)) (by omega) [MP.ad q] (some ⟨w3.heap.size, 0, none⟩) 1 1 (3 * (W : Int)) (by rw [HUs.out]; omega) rfl (by omega) (one_row w3 (MP.ad q) [] (by simp)) (by intro x hx; simp at hx; subst hx; exact ad_u q (by omega)))
            have HRm := Lib.hid hRm
            have HAb := Lib.hid hAb
            have HF3 := Lib.hid (HF.out.trans hF13 (by simp))
            clear hfa hF3 hF13 hA3 hO3 hRm hAb cq
            obtain ⟨x0, hx0⟩ : ∃ x0, MP.wv j false q 0 = x0 := ⟨_, rfl⟩
            have HX0 := Lib.hid hx0
            have c0 : w3.cell? ⟨wm, 0, none⟩ = some (.int .u64 x0) := by
              have := row_word HRm.out (k := 0) (by simp)
              simp at this
              rw [this, hx0]
            clear hx0
            go_wp2_with (first
              | (go_at_call 23; (with_reducible refine HU3.out.mono ?_); rintro e w' ⟨rfl, rfl⟩)
              | (go_at_call 17; (with_reducible refine HRe.out.mono ?_); rintro e w4 ⟨rfl, hF4⟩
                 have HF34 := Lib.hid (((MM.Far.refl [] w3).alloc (.cells #[.int .u64 (MP.ad q)] 42)).trans hF4 (by simp))
                 have d0 : w4.cell? ⟨wm, 0, none⟩ = some (.int .u64 x0) := by
                   have := row_word (HRm.out.far HF34.out (by simp)) (k := 0) (by simp)
                   simp at this
                   rw [this, HX0.out]
                 clear hF4))
            have hAb4 := HAb.out.far HF34.out (by simp) (by simp) (by simp)
            have HAb4 := Lib.hid hAb4
            clear hAb4
            go_loopw [20, 141] (fun s20 s141 w5 => ∃ i : Nat, i ≤ W ∧ s141 = .int .i64 i ∧ s20 = .int .u64 (MP.wv j false q i) ∧ w5 = w4) (fun _ s141 _ => W - (intOf s141).toNat)
            case atStart => exact ⟨0, Nat.zero_le _, rfl, by rw [HX0.out], rfl⟩
            case round =>
              obtain ⟨i, hi, rfl, rfl, hw4⟩ := hrel
              subst wr
              by_cases hli : i < W
              · obtain ⟨g1, g2, g3, g4⟩ := chain_get0 (c := false) (n := n) (N := j) (k := q) (i := i) (by omega) hn6 (by omega) hqj (by rw [HW.out]; exact hli)
                obtain ⟨mm, hmm⟩ : ∃ mm : Nat, (q + i) % j = mm := ⟨_, rfl⟩
                have hmj : mm < j := by rw [← hmm]; exact Nat.mod_lt _ (by omega)
                have hmI : ((q : Int) + (i : Int)) % (j : Int) = (mm : Int) := by rw [← hmm]; simp
                rw [hmm] at g1
                have hwu : WP.U (MP.wv j false q i) := wv_u (by omega)
                have HG0 := Lib.hid (get_is HAb4.out (MP.wv j false q i) hwu 0 ((mm : Int) * 8) 0 (by rw [g1]; omega) g2)
                have HG1 := Lib.hid (get_is HAb4.out (MP.wv j false q i) hwu 1 (MP.wv j false q (i + 1)) 0 g3 g4)
                generalize MP.wv j false q i = x at HG0 HG1
                obtain ⟨x', hx'⟩ : ∃ x', MP.wv j false q (i + 1) = x' := ⟨_, rfl⟩
                rw [hx'] at HG1
                have HX' := Lib.hid hx'
                clear hx'
                clear hmm hwu g1 g2 g3 g4
                go_wp2_with (first
                  | (go_at_call 22; (with_reducible refine HG0.out.mono ?_); rintro e w' ⟨rfl, rfl⟩)
                  | (go_at_call 22; (with_reducible refine HG1.out.mono ?_); rintro e w' ⟨rfl, rfl⟩))
                go_roundw
                case rel => exact ⟨i + 1, by omega, by go_num, by rw [HX'.out], trivial⟩
                case measure => simp [intOf]; omega
              · obtain rfl : i = W := by omega
                have hE : MP.wv j false q i = 2 := by rw [hWq]; exact wv_end hqj
                rw [hE]
                have HB := Lib.hid ((HF3.out.trans HF34.out (by simp)).below_nil)
                clear hE hi
                go_wp2_with (fail)
                go_ret
                exact ⟨rfl, HB.out⟩
end ML
end Go.Proofs.Ytokpiljbcbemlaa

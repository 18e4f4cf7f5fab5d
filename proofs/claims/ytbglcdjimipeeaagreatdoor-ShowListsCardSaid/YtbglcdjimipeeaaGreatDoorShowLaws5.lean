/-
  P7.2's law of rows of numbers, shown as lists and read again. Conditions: the argument's reading; the numbers' table.
-/
import Derived.Test.YtbglcdjimipeeaaGreatDoorShowLaws2
import Derived.Test.YtbglcdjimipeeaaGreatDoorShowBackP
import Derived.IntWalk
namespace Go.Proofs.YtbglcdjimipeeaaGreatDoor
open Go.RowKit
set_option linter.unusedVariables false
namespace SX
open LX RX
theorem small_ok : ∀ n : Fin 1999, ((dgs ((n.1 : Int) - 999)).all let_ = true ∧ dgs ((n.1 : Int) - 999) ≠ [] ∧ number (dgs ((n.1 : Int) - 999)) = true ∧ value (dgs ((n.1 : Int) - 999)) = (n.1 : Int) - 999 ∧ (dgs ((n.1 : Int) - 999)).length ≤ 4) := by decide +kernel
theorem small_itoa (u : Int) (h1 : -1000 < u) (h2 : u < 1000) : (Lib.itoa u).length ≤ 4 ∧ ∀ a : Int, Leaf ⟨1, a, u, emp, []⟩ := by
  obtain ⟨g1, g2, g3, g4, g5⟩ := small_ok ⟨(u + 999).toNat, by omega⟩
  have e : (((u + 999).toNat : Nat) : Int) - 999 = u := by omega
  simp only [e] at g1 g2 g3 g4 g5
  rw [dgs_itoa u (by omega) (by omega)] at g1 g2 g3 g4 g5
  refine ⟨g5, fun a => .inl ⟨rfl, rfl, rfl, g1, g2, ?_⟩⟩
  show one (Lib.itoa u) = .tok 4 u emp (Lib.itoa u).length
  unfold one
  rw [if_neg (by rw [g3]; decide), if_neg (by omega), g4, if_neg (by omega)]
theorem rt_flat (us : List Int) : rt us = (us.flatMap fun u => 32 :: Lib.itoa u) ++ [41] := by
  induction us with
  | nil => rfl
  | cons u us ih =>
    rw [List.flatMap_cons]
    simp only [rt, ih, List.cons_append, List.append_assoc]
theorem wt_join (us : List Int) : wt us.length us = joinB (us.map Lib.itoa) ++ [41] := by
  cases us with
  | nil => rfl
  | cons u us =>
    unfold wt
    rw [if_neg (by simp), rt_flat, List.flatMap_cons, List.map_cons]
    simp [joinB, List.flatMap_map]
/-- The data of a list of numbers. -/
def numL (us : List Int) : List Nd := us.map (fun u => ⟨1, 0, u, emp, []⟩) ++ [⟨4, 0, 0, emp, List.range us.length⟩]
theorem numL_len (us : List Int) : (numL us).length = us.length + 1 := by simp [numL]
theorem numL_num (us : List Int) (j : Nat) (h : j < us.length) : (numL us)[j]? = some ⟨1, 0, us[j], emp, []⟩ := by
  unfold numL
  rw [List.getElem?_append_left (by simpa using h), List.getElem?_map, List.getElem?_eq_getElem h]; rfl
theorem numL_last (us : List Int) : (numL us)[us.length]? = some ⟨4, 0, 0, emp, List.range us.length⟩ := by
  unfold numL
  rw [List.getElem?_append_right (by simp)]
  simp
theorem numL_at (us : List Int) (j : Nat) (h : j < us.length) : ndAt (numL us) j = ⟨1, 0, us[j], emp, []⟩ := (nd_some (numL_num us j h)).2
theorem numL_atL (us : List Int) : ndAt (numL us) us.length = ⟨4, 0, 0, emp, List.range us.length⟩ := (nd_some (numL_last us)).2
theorem numL_ok (us : List Int) (h : ∀ u ∈ us, -1000 < u ∧ u < 1000) (hl : us.length ≤ 1000) : Ok (numL us) := by
  refine ⟨fun x hx => ?_, fun x hx hk => ?_, fun i hi p hp => ?_, fun i hi => ?_, fun i hi => ?_⟩
  · unfold numL at hx
    rcases List.mem_append.1 hx with hx | hx
    · obtain ⟨u, _, rfl⟩ := List.mem_map.1 hx
      exact .inl rfl
    · rw [List.mem_singleton] at hx; subst hx
      exact .inr (.inr (.inr rfl))
  · unfold numL at hx
    rcases List.mem_append.1 hx with hx | hx
    · obtain ⟨u, _, rfl⟩ := List.mem_map.1 hx
      rfl
    · rw [List.mem_singleton] at hx; subst hx
      exact absurd rfl hk
  · rw [numL_len] at hi
    rcases Nat.lt_or_ge i us.length with h1 | h1
    · rw [numL_at us i h1] at hp
      cases hp
    · obtain rfl : i = us.length := by omega
      rw [numL_atL] at hp
      exact List.mem_range.1 hp
  · rw [numL_len] at hi
    rcases Nat.lt_or_ge i us.length with h1 | h1
    · rw [numL_at us i h1]; simp
    · obtain rfl : i = us.length := by omega
      rw [numL_atL]; simp; omega
  · rw [numL_len] at hi
    rcases Nat.lt_or_ge i us.length with h1 | h1
    · rw [numL_at us i h1]
      have := h _ (List.getElem_mem h1)
      show -9223372036854775808 ≤ us[i] ∧ us[i] ≤ 9223372036854775807
      omega
    · obtain rfl : i = us.length := by omega
      rw [numL_atL]
      show (-9223372036854775808 : Int) ≤ 0 ∧ (0 : Int) ≤ 9223372036854775807
      omega
theorem numL_dat (us : List Int) (h : ∀ u ∈ us, -1000 < u ∧ u < 1000) : Dat (numL us) 50 0 us.length := by
  refine .inr ⟨_, numL_last us, rfl, rfl, rfl, ?_⟩
  have key : ∀ j, j ≤ us.length → Ch (Dat (numL us) 49) 0 j (List.range j) := by
    intro j
    induction j with
    | zero => intro _; exact .nil 0
    | succ j ih =>
      intro hj
      rw [List.range_succ]
      have hb := h _ (List.getElem_mem (show j < us.length by omega))
      exact .snoc (ih (by omega)) (dat_leaf (numL_num us j (by omega)) ((small_itoa _ hb.1 hb.2).2 0))
  exact key _ (Nat.le_refl _)
theorem numL_dt (us : List Int) (h : ∀ u ∈ us, -1000 < u ∧ u < 1000) (hl : us.length ≤ 1000) : dt (numL us) us.length = [40] ++ wt us.length us := by
  have hok := numL_ok us h hl
  have hi : us.length < (numL us).length := by rw [numL_len]; omega
  have hq : quo (numL us) (ndAt (numL us) us.length) = false := by
    rw [numL_atL]
    unfold quo
    by_cases h2 : us.length = 2
    · have e : (List.range us.length).getD 0 0 = 0 := by rw [h2]; rfl
      rw [e, numL_at us 0 (by omega)]
      simp
    · simp [h2]
  rw [dt_list hok hi (by rw [numL_atL]) hq, numL_atL, wt_join]
  unfold restL
  rw [if_pos rfl]
  have e : (List.range us.length).map (dt (numL us)) = us.map Lib.itoa := by
    apply List.ext_getElem
    · simp
    · intro j h1 h2
      have hj : j < us.length := by simpa using h2
      simp only [List.getElem_map, List.getElem_range]
      rw [dt_int hok (by rw [numL_len]; omega) (by rw [numL_at us j hj]), numL_at us j hj]
  simp only [e]
  rfl
theorem wt_len4 (us : List Int) (h : ∀ u ∈ us, -1000 < u ∧ u < 1000) (m : Nat) : (wt m us).length ≤ 5 * us.length + 1 := by
  have : (rt us).length ≤ 5 * us.length + 1 := by
    induction us with
    | nil => simp [rt]
    | cons u us ih =>
      have h1 := h u (List.mem_cons_self ..)
      have h2 := (small_itoa u h1.1 h1.2).1
      have h3 := ih (fun x hx => h x (List.mem_cons_of_mem _ hx))
      simp only [rt, List.length_cons, List.length_append]
      omega
  unfold wt
  split
  · exact this
  · rw [List.length_drop]; omega
theorem wt_last41 (us : List Int) : (wt us.length us).getLast? = some 41 := by rw [wt_join]; simp
end SX
namespace SW
open LX RX RW6 SX
theorem tho (n : Int) : -1000 < n.tmod 1000 ∧ n.tmod 1000 < 1000 := ⟨Int.lt_tmod_of_pos n (by decide), Int.tmod_lt_of_pos n (by decide)⟩
theorem tail_run (s y : ByteArray) (h : s.extract 117 120 = y) (hs : s.size = 120) (W : World) : (Instr.slice 9 (.string s) (some (.int .i64 117)) none none).run Tryz.prog W = .ok (.string y) W := by
  subst h
  simp [Instr.slice, Instr.sliceBounds, Instr.sliceBound, asIntOf, run_underlying Tryz.underlying9, hs]
/-- At the head of the loop. -/
def LiI (W : World) (p g h : Nat) (vs : List Int) (k : Nat) (wr : World) : Prop := MM.Far [] W wr ∧ AW.Ar wr p g h 700 (prsT (chn (vs.take k)))
set_option maxHeartbeats 2000000 in
set_option maxRecDepth 20000 in
theorem lists_law (W : World) (a : Option Addr) (len cap : Nat) (zs : List Int) (hz : MR.Ints .i64 W a len cap zs) (hT : Tab W) : Calls Tryz.prog 6 #[.slice a len cap] W fun e w' => e = .returned (.bool true) ∧ Below W.heap.size W w' := by
  have HS := Lib.hid (shown_any W hT)
  have HT := Lib.hid hT
  have HZ := Lib.hid hz
  have hle := hz.le
  have hmax := hz.max
  unfold maxLen at hmax
  clear hz hT
  go_enter Tryz.func6, Tryz.ntmps6
  go_wp2_with (first
    | (go_at_call 13; (with_reducible refine HS.out.mono ?_); rintro e w0 ⟨rfl, hF0⟩; have HF0 := Lib.hid hF0; clear hF0)
    | (go_at_call 14; (refine (AW.new_int _ 700 (by omega) (by omega)).mono ?_); rintro e w1 ⟨p, g, h, rfl, hp, hg, hh, hA1, hF1⟩
       have HA1 := Lib.hid (show AW.Ar w1 p g h 700 [] from hA1)
       have HF1 := Lib.hid (HF0.out.trans hF1 (by simp))
       have HPG := Lib.hid (show (W.heap.size ≤ p ∧ W.heap.size ≤ g ∧ W.heap.size ≤ h) ∧ p < w1.heap.size ∧ g < w1.heap.size ∧ h < w1.heap.size from ⟨by have := HF0.out.size; omega, hA1.head.lt, hA1.words.lt, hA1.kinds.lt⟩)
       have HI3 := Lib.hid (in_three (W := W) rfl HPG.out.1)
       clear hA1 hF1 hp hg hh))
  have e1 : (min (len : Int) 200).toNat = min len 200 := by omega
  have e2 : max (min (len : Int) 200) 0 = ((min len 200 : Nat) : Int) := by omega
  have e3 : min (len : Int) 200 = ((min len 200 : Nat) : Int) := by omega
  rw [e2, e1, e3]
  clear e1 e2 e3
  obtain ⟨m, hm⟩ : ∃ m, min len 200 = m := ⟨_, rfl⟩
  rw [hm]
  have hm200 : m ≤ 200 := by omega
  have hml : m ≤ len := by omega
  obtain ⟨us, hus⟩ : ∃ us, us = (zs.take m).map (fun z => z.tmod 1000) := ⟨_, rfl⟩
  have hul : us.length = m := by rw [hus, List.length_map, List.length_take, HZ.out.len_]; omega
  have hub : ∀ u ∈ us, -1000 < u ∧ u < 1000 := fun u hu => by
    rw [hus] at hu
    obtain ⟨z, _, rfl⟩ := List.mem_map.1 hu
    exact tho z
  have huk : ∀ j, j < m → ∃ z, zs[j]? = some z ∧ us[j]? = some (z.tmod 1000) := fun j hjk => by
    have hj : j < zs.length := by rw [HZ.out.len_]; omega
    refine ⟨zs[j], List.getElem?_eq_getElem hj, ?_⟩
    rw [hus, List.getElem?_map, List.getElem?_take, if_pos (by omega), List.getElem?_eq_getElem hj]; rfl
  obtain ⟨vs, hvs⟩ : ∃ vs, vs = us.reverse := ⟨_, rfl⟩
  have hvl : vs.length = m := by rw [hvs, List.length_reverse]; exact hul
  have hvk : ∀ k j, j + k + 1 = m → ∃ z, zs[j]? = some z ∧ vs[k]? = some (z.tmod 1000) := fun k j hjk => by
    obtain ⟨z, h1, h2⟩ := huk j (by omega)
    refine ⟨z, h1, ?_⟩
    rw [hvs, List.getElem?_reverse (by omega), hul, show m - 1 - k = j by omega]
    exact h2
  have HUL := Lib.hid hul
  have HUB := Lib.hid hub
  have HUK := Lib.hid huk
  have HVS := Lib.hid hvs
  have HVL := Lib.hid hvl
  have HVK := Lib.hid hvk
  have HI0 : Hid (LiI W p g h vs 0 w1) := Lib.hid ⟨HF1.out, HA1.out⟩
  clear hus hul hub huk hvs hvl hvk hm
  go_loopw [7, 36] (fun s7 s36 wr => ∃ k : Nat, k ≤ m ∧ s7 = .int .u64 (last k) ∧ s36 = .int .i64 k ∧ Hid (LiI W p g h vs k wr)) (fun _ s36 _ => m - (intOf s36).toNat)
  case atStart => exact ⟨0, by omega, rfl, rfl, HI0⟩
  case round =>
    obtain ⟨k, hk, rfl, rfl, hI⟩ := hrel
    clear HI0
    by_cases hlt : k < m
    · obtain ⟨j, hj⟩ : ∃ j, j + k + 1 = m := ⟨m - k - 1, by omega⟩
      obtain ⟨z, hz1, hz2⟩ := HVK.out k j hj
      have hkv : k < vs.length := by rw [HVL.out]; exact hlt
      have htk2 : vs.take (k + 1) = vs.take k ++ [z.tmod 1000] := by
        rw [List.take_succ_eq_append_getElem hkv]
        have : vs[k] = z.tmod 1000 := by
          have := List.getElem?_eq_getElem hkv
          rw [this] at hz2
          exact Option.some.inj hz2
        rw [this]
      obtain ⟨v1, v2⟩ := tho z
      have he := enc_wrap (z.tmod 1000)
      have HEU := Lib.hid (enc_u (z.tmod 1000))
      obtain ⟨ad, rfl, _, hadl, hc0⟩ := HZ.out.src (by simp [HZ.out.len_]; omega)
      obtain ⟨b, off, spot⟩ := ad
      have hc := hc0 j (.int .i64 z) (by rw [List.getElem?_map, hz1]; rfl)
      have hz00 : ∃ z0, zs[0]? = some z0 := ⟨_, List.getElem?_eq_getElem (by rw [HZ.out.len_]; omega)⟩
      obtain rfl : spot = none := by
        obtain ⟨z0, hz0⟩ := hz00
        have h1 := hc0 0 (.int .i64 z0) (by rw [List.getElem?_map, hz0]; rfl)
        rw [MR.add_zero_] at h1
        exact World.cell?_spot h1
      rw [MR.mk_add] at hc
      have c0 : wr.cell? ⟨b, off + j, none⟩ = some (.int .i64 z) := (hI.out.1.cell (p := ⟨b, off + j, none⟩) hadl (by simp)).trans hc
      have hx : (m : Int) - 1 - (k : Int) = (j : Int) := by omega
      have hck : (chn (vs.take k)).length = k := by rw [chn_len, List.length_take]; omega
      obtain ⟨q1, q2, q3⟩ := all_prs 700 (chn (vs.take k)) (WP.encW (z.tmod 1000)) (last k) (by omega) (by omega)
      rw [hck] at q1
      rw [show chn (vs.take k) ++ [(WP.encW (z.tmod 1000), last k)] = chn (vs.take (k + 1)) by rw [htk2, chn_snoc, List.length_take, Nat.min_eq_left (by omega)]] at q3
      have HAL := Lib.hid (alloc_two hI.out.2 (WP.encW (z.tmod 1000)) (last k) _ _ _ HEU.out (last_u k (by omega)) q1 q2 q3)
      have HLK : Hid (at_ k = last (k + 1)) := Lib.hid (by unfold last; rw [if_neg (by omega)]; rfl)
      clear hz1 hz2 htk2 hc hc0 hz00 hck q1 q2 q3 hkv
      go_wp2_with (first
        | (go_at_call 17; ((with_reducible refine HAL.out.mono ?_); rintro e w2 ⟨rfl, hA2, hF2⟩); have HA2 := Lib.hid hA2; have HF2 := Lib.hid hF2; clear hA2 hF2))
      go_roundw
      case rel => exact ⟨k + 1, by omega, by rw [HLK.out], by go_num, Lib.hid ⟨hI.out.1.trans HF2.out HI3.out, HA2.out⟩⟩
      case measure => simp [intOf]; omega
    · obtain rfl : k = m := by omega
      have hvt : vs.take k = vs := List.take_of_length_le (by rw [HVL.out]; exact Nat.le_refl _)
      have hSh := sh_all vs (fun u hu => by
        rw [HVS.out] at hu
        have := HUB.out u (List.mem_reverse.1 hu)
        rw [WP.inR_iff]; omega) (by rw [HVL.out]; omega)
      rw [HVL.out, HVS.out, List.reverse_reverse] at hSh
      have hAk : AW.Ar wr p g h 700 (prsT (chn vs)) := by have := hI.out.2; rw [hvt] at this; exact this
      rw [HVS.out] at hAk
      have HFk := Lib.hid hI.out.1
      have HTk := Lib.hid (HT.out.far hI.out.1)
      have hdt := numL_dt us HUB.out (by rw [HUL.out]; omega)
      have hlast := wt_last41 us
      have hl4 := wt_len4 us HUB.out k
      rw [HUL.out] at hdt hlast hl4
      obtain ⟨L, hL⟩ : ∃ L, wt k us = L := ⟨_, rfl⟩
      rw [hL] at hSh hdt hlast hl4
      have HWD := Lib.hid (fun (V : ByteArray) (hV : str (cutL ([40] ++ L)) = V) => shown_as hAk HTk.out (last k) (last_u k (by omega)) hSh V hV)
      clear hvt hSh hAk hL
      by_cases h120 : L.length + 1 ≤ 120
      · obtain ⟨r2, hr2, hbare, htops⟩ := back_one (numL_ok us HUB.out (by rw [HUL.out]; omega)) (numL_dat us HUB.out) (numL_len us) (by rw [HUL.out, hdt, List.length_append]; simp; omega)
        rw [HUL.out, hdt] at hr2
        rw [HUL.out] at htops
        have hcf : cutL ([40] ++ L) = [40] ++ L := cut_few (by simp; omega)
        obtain ⟨S, hS⟩ : ∃ S, str ([40] ++ L) = S := ⟨_, rfl⟩
        have HC := Lib.hid (HWD.out S (by rw [hcf]; exact hS))
        have hSs : S.size = L.length + 1 := by rw [← hS, str_size, List.length_append]; simp; omega
        rw [hS] at hr2
        have H2 := Lib.hid (RC6.read_any S (by omega))
        rw [hr2] at H2
        have hsa := read_sizes hr2
        have hN : r2.row.length = k + 1 := by have := congrArg List.length hbare; simp [numL_len] at this; rw [this, HUL.out]
        have hM : r2.tops.length = 1 := by rw [htops]; rfl
        have HN := Lib.hid hN
        have HM := Lib.hid hM
        have HBA := Lib.hid hbare
        have hS120 : S.size ≤ 120 := by omega
        have htail : S.size = 120 → (S.extract 117 120).toList ≠ [46, 46, 46] := fun h => by
          rw [← hS, Lib.toList_data]
          intro e
          have e2 : (str ([40] ++ L)).extract 117 120 = str ((([40] ++ L).drop 117).take 3) := by
            apply ByteArray.ext
            simp [str, ByteArray.data_extract]
          rw [e2] at e
          have e3 : (([40] ++ L).drop 117).take 3 = [46, 46, 46] := by simpa [str] using e
          have h3 : (([40] ++ L).drop 117).length = 3 := by rw [List.length_drop, List.length_append]; simp; omega
          rw [List.take_of_length_le (by omega)] at e3
          have h4 : (([40] ++ L).drop 117).getLast? = some 41 := by
            rw [List.getLast?_drop, if_neg (by simp; omega), List.getLast?_append, hlast]; rfl
          rw [e3] at h4
          exact absurd h4 (by decide)
        have HTL := Lib.hid htail
        have hL120 : L.length + 1 ≤ 120 := h120
        clear hr2 hsa hbare htops hcf hS hdt hlast hl4 hN hM htail HWD
        go_upto_region 18 with (first
          | (go_at_call 20; ((with_reducible refine HC.out.mono ?_); rintro e w4 ⟨rfl, hF4⟩); have HF4 := Lib.hid hF4; clear hF4))
        go_cut [77] (fun s77 wx => s77 = .bool false ∧ wx = w4)
        case first =>
          by_cases hsz : S.size = 120
          · have ht := HTL.out hsz
            obtain ⟨y, hy⟩ : ∃ y, S.extract 117 120 = y := ⟨_, rfl⟩
            rw [hy] at ht
            have hsl := tail_run S y hy hsz
            have ht2 : (y.toList == [46, 46, 46]) = false := by rw [beq_eq_false_iff_ne]; exact ht
            clear hy HTL
            go_wp2
            go_meet
            exact ⟨rfl, rfl⟩
          · have e2 : ((S.size : Int) == 120) = false := by rw [beq_eq_false_iff_ne]; omega
            have e3 : ¬ ((S.size : Int) = 120) := by omega
            clear HTL hSs
            go_wp2
            go_meet
            exact ⟨rfl, rfl⟩
        case rest =>
        obtain ⟨rfl, hwx⟩ := hcut
        replace hwx := hwx.symm
        subst hwx
        go_wp2_with (first
          | (go_at_call 22; ((with_reducible refine (H2.out _).mono ?_); rintro e w5 ⟨rv, tv, rs, rfl, hD, hrs⟩)
             obtain ⟨A3, c3, hrv, -, -, -, hN⟩ := hD.nodes
             obtain ⟨B3, d3, htv, -, -, -, hI⟩ := hD.tops_row
             have hlen : rs.length = k + 1 := by have := congrArg List.length hrs; rw [List.length_map] at this; exact this.trans HN.out
             rw [hlen] at hrv
             rw [HM.out] at htv
             subst hrv htv
             have HN3 := Lib.hid (hrs ▸ hN)
             have HF5 := Lib.hid hD.far
             clear hD hN hI hrs hlen))
        go_loopw [108] (fun s108 wx => ∃ j : Nat, j ≤ k ∧ s108 = .int .i64 j ∧ Hid (MM.Far [] w5 wx)) (fun s108 _ => k - (intOf s108).toNat)
        case atStart => exact ⟨0, by omega, rfl, Lib.hid (MM.Far.refl _ _)⟩
        case round wx =>
          obtain ⟨j, hj, rfl, hFj⟩ := hrel
          have HFa := Lib.hid (((HFk.out.trans HF4.out (by simp)).trans HF5.out (by simp)).trans hFj.out (by simp))
          by_cases hlt : j < k
          · obtain ⟨z, hz1, hz2⟩ := HUK.out j hlt
            obtain ⟨ad, rfl, _, hadl, hc0⟩ := HZ.out.src (by simp [HZ.out.len_]; omega)
            obtain ⟨b, off, spot⟩ := ad
            have hc := hc0 j (.int .i64 z) (by rw [List.getElem?_map, hz1]; rfl)
            have hz00 : ∃ z0, zs[0]? = some z0 := ⟨_, List.getElem?_eq_getElem (by rw [HZ.out.len_]; omega)⟩
            obtain rfl : spot = none := by
              obtain ⟨z0, hz0⟩ := hz00
              have h1 := hc0 0 (.int .i64 z0) (by rw [List.getElem?_map, hz0]; rfl)
              rw [MR.add_zero_] at h1
              exact World.cell?_spot h1
            rw [MR.mk_add] at hc
            have c0 := (HFa.out.cell (p := ⟨b, off + j, none⟩) hadl (by simp)).trans hc
            have hj1 : j < r2.row.length := by rw [HN.out]; omega
            have hju : j < us.length := by rw [HUL.out]; exact hlt
            obtain ⟨g1, o1, L1, e1, rfl, hg1, a0, a1, a2, a3, a4, -⟩ := (HN3.out.far hFj.out) j hj1
            have hxy : bare r2.row[j] = ⟨1, 0, z.tmod 1000, emp, []⟩ := by
              have h1 := congrArg (fun l : List Nd => l[j]?) HBA.out
              simp only [List.getElem?_map, numL_num us j hju, List.getElem?_eq_getElem hj1, Option.map_some] at h1
              rw [List.getElem?_eq_getElem hju] at hz2
              have h2 := Option.some.inj hz2
              rw [h2] at h1
              exact Option.some.inj h1
            generalize r2.row[j] = x at *
            obtain ⟨xk, xa, xn, xs, xl⟩ := x
            simp only [bare, Nd.mk.injEq] at hxy
            obtain ⟨rfl, -, rfl, rfl, rfl⟩ := hxy
            simp only at a0 a1 a2 a3 a4
            clear hz1 hz2 hc hc0 hz00 hj1 hju
            go_wp2
            go_roundw
            case rel => exact ⟨j + 1, by omega, by go_num, hFj⟩
            case measure => simp [intOf]; omega
          · obtain rfl : j = k := by omega
            have hj1 : j < r2.row.length := by rw [HN.out]; omega
            obtain ⟨g1, o1, L1, e1, rfl, hg1, a0, a1, a2, a3, a4, -⟩ := (HN3.out.far hFj.out) j hj1
            have hxy : (r2.row[j]).kind = 4 := by
              have h1 := congrArg (fun l : List Nd => l[j]?) HBA.out
              have h3 := numL_last us
              rw [HUL.out] at h3
              simp only [List.getElem?_map, h3, List.getElem?_eq_getElem hj1, Option.map_some] at h1
              have := congrArg Nd.kind (Option.some.inj h1)
              exact this
            rw [hxy] at a0
            clear hj1 hxy a1 a2 a3 a4
            go_wp2
            go_ret
            exact ⟨rfl, HFa.out.below_nil⟩
      · obtain ⟨Y, hY⟩ : ∃ Y, str (([40] ++ L).take 117) = Y := ⟨_, rfl⟩
        have hYs : Y.size = 117 := by
          rw [← hY]
          show (([40] ++ L).take 117).length = 117
          rw [List.length_take, List.length_append]; simp; omega
        have hVs : (Y ++ (⟨#[46, 46, 46]⟩ : ByteArray)).size = 120 := by
          rw [ByteArray.size_append, hYs]; rfl
        have hXe : (Y ++ (⟨#[46, 46, 46]⟩ : ByteArray)).extract 117 120 = ⟨#[46, 46, 46]⟩ := by
          apply ByteArray.ext
          have h1 : Y.data.size = 117 := hYs
          simp [ByteArray.data_append, ByteArray.data_extract, Array.extract_append, h1]
        have hsl := tail_run (Y ++ (⟨#[46, 46, 46]⟩ : ByteArray)) ⟨#[46, 46, 46]⟩ hXe hVs
        have HC := Lib.hid (HWD.out (Y ++ ⟨#[46, 46, 46]⟩) (by rw [← hY]; unfold cutL; rw [if_neg (by simp; omega)]; exact (str_two _ [46, 46, 46]).symm))
        have h20 : (20 : Int) < (k : Int) := by omega
        clear hXe hY hYs hdt hlast hl4 HWD
        generalize Y ++ (⟨#[46, 46, 46]⟩ : ByteArray) = S at *
        go_wp2_with (first
          | (go_at_call 20; ((with_reducible refine HC.out.mono ?_); rintro e w4 ⟨rfl, hF4⟩); have HF4 := Lib.hid hF4; clear hF4))
        go_ret
        exact ⟨rfl, (HFk.out.trans HF4.out (by simp)).below_nil⟩
end SW
end Go.Proofs.YtbglcdjimipeeaaGreatDoor

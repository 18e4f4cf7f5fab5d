/-
  P7.2's law of texts that are cut. Conditions: the argument's reading; the numbers' table.
-/
import Derived.Test.YtbglcdjimipeeaaGreatDoorShowLawKit
import Derived.IntWalk
namespace Go.Proofs.YtbglcdjimipeeaaGreatDoor
open Go.RowKit
namespace SX
open LX
/-- A list's text behind its bracket, of so many numbers in all; what is there so far. -/
def wt (m : Nat) (us : List Int) : List UInt8 := if us.length < m ∨ us.length = 0 then rt us else (rt us).drop 1
theorem wt_zero (m : Nat) : wt m [] = [41] := by unfold wt; rw [if_pos (.inr rfl)]; rfl
theorem wt_more (m : Nat) (u : Int) (us : List Int) (h : us.length + 1 < m) : wt m (u :: us) = 32 :: (Lib.itoa u ++ wt m us) := by
  unfold wt
  rw [if_pos (.inl (by simpa using h)), if_pos (.inl (by omega))]; rfl
theorem wt_last (m : Nat) (u : Int) (us : List Int) (h : us.length + 1 = m) : wt m (u :: us) = Lib.itoa u ++ wt m us := by
  unfold wt
  rw [if_neg (by simp; omega), if_pos (.inl (by omega))]; rfl
theorem sh_all (vs : List Int) (hv : ∀ u ∈ vs, WP.inR u = true) (hl : vs.length < 100000) : Sh noS noB (prsT (chn vs)) false (last vs.length) ([40] ++ wt vs.length vs.reverse) := by
  rcases List.eq_nil_or_concat vs with rfl | ⟨us, v, rfl⟩
  · have : Sh noS noB (prsT (chn [])) false 2 (sg noS noB (prsT (chn [])) 2) := .sing (pr_no _ _ (by decide))
    exact this
  · rw [List.concat_eq_append] at *
    have hlen : (us ++ [v]).length = us.length + 1 := by simp
    rw [List.reverse_append, List.reverse_singleton, show [v] ++ us.reverse = v :: us.reverse from rfl, wt_last _ _ _ (by simp)]
    have hs := sh_list noS noB us v hv (by rw [hlen] at hl; omega)
    have e1 : last (us ++ [v]).length = at_ us.length := by rw [hlen]; unfold last; rw [if_neg (by omega)]; rfl
    have e2 : wt (us ++ [v]).length us.reverse = rt us.reverse := by unfold wt; rw [if_pos (.inl (by simp))]
    rw [e1, e2, ← List.append_assoc]
    exact hs
theorem rt_len (us : List Int) (h : ∀ u ∈ us, -100 < u ∧ u < 100) : (rt us).length ≤ 22 * us.length + 1 := by
  induction us with
  | nil => simp [rt]
  | cons u us ih =>
    have h1 := h u (List.mem_cons_self ..)
    have h2 := Lib.itoa_length_le u (by omega) (by omega)
    have h3 := ih (fun x hx => h x (List.mem_cons_of_mem _ hx))
    simp only [rt, List.length_cons, List.length_append]
    omega
theorem wt_len (m : Nat) (us : List Int) (h : ∀ u ∈ us, -100 < u ∧ u < 100) : (wt m us).length ≤ 22 * us.length + 1 := by
  have := rt_len us h
  unfold wt
  split
  · exact this
  · rw [List.length_drop]; omega
theorem last_u (k : Nat) (h : k ≤ 100000) : WP.U (last k) := by
  unfold last at_ WP.U
  split <;> omega
end SX
namespace SW
open LX RX RW6 SX
theorem hun (n : Int) : -100 < n.tmod 100 ∧ n.tmod 100 < 100 := ⟨Int.lt_tmod_of_pos n (by decide), Int.tmod_lt_of_pos n (by decide)⟩
theorem cut_run (s y : ByteArray) (h : s.extract 0 117 = y) (hs : 117 ≤ s.size) (W : World) : (Instr.slice 9 (.string s) none (some (.int .i64 117)) none).run Tryz.prog W = .ok (.string y) W := by
  subst h
  simp [Instr.slice, Instr.sliceBounds, Instr.sliceBound, asIntOf, run_underlying Tryz.underlying9]
  intro h
  omega
/-- At the head of the loop. -/
def ShI (W : World) (p g h : Nat) (vs : List Int) (k : Nat) (wr : World) : Prop := MM.Far [] W wr ∧ AW.Ar wr p g h 400 (prsT (chn (vs.take k)))
set_option maxHeartbeats 2000000 in
set_option maxRecDepth 20000 in
theorem short_law (W : World) (a : Option Addr) (len cap : Nat) (zs : List Int) (hz : MR.Ints .i64 W a len cap zs) (hT : Tab W) : Calls Tryz.prog 7 #[.slice a len cap] W fun e w' => e = .returned (.bool true) ∧ Below W.heap.size W w' := by
  have HS := Lib.hid (shown_any W hT)
  have HT := Lib.hid hT
  have HZ := Lib.hid hz
  have hle := hz.le
  have hmax := hz.max
  unfold maxLen at hmax
  clear hz hT
  go_enter Tryz.func7, Tryz.ntmps7
  go_wp2_with (first
    | (go_at_call 13; (with_reducible refine HS.out.mono ?_); rintro e w0 ⟨rfl, hF0⟩; have HF0 := Lib.hid hF0; clear hF0)
    | (go_at_call 14; (refine (AW.new_int _ 400 (by omega) (by omega)).mono ?_); rintro e w1 ⟨p, g, h, rfl, hp, hg, hh, hA1, hF1⟩
       have HA1 := Lib.hid (show AW.Ar w1 p g h 400 [] from hA1)
       have HF1 := Lib.hid (HF0.out.trans hF1 (by simp))
       have HPG := Lib.hid (show (W.heap.size ≤ p ∧ W.heap.size ≤ g ∧ W.heap.size ≤ h) ∧ p < w1.heap.size ∧ g < w1.heap.size ∧ h < w1.heap.size from ⟨by have := HF0.out.size; omega, hA1.head.lt, hA1.words.lt, hA1.kinds.lt⟩)
       have HI3 := Lib.hid (in_three (W := W) rfl HPG.out.1)
       clear hA1 hF1 hp hg hh))
  have e1 : (min (len : Int) 100).toNat = min len 100 := by omega
  have e2 : max (min (len : Int) 100) 0 = ((min len 100 : Nat) : Int) := by omega
  have e3 : min (len : Int) 100 = ((min len 100 : Nat) : Int) := by omega
  rw [e2, e1, e3]
  clear e1 e2 e3
  obtain ⟨m, hm⟩ : ∃ m, min len 100 = m := ⟨_, rfl⟩
  rw [hm]
  have hm100 : m ≤ 100 := by omega
  have hml : m ≤ len := by omega
  obtain ⟨vs, hvs⟩ : ∃ vs, vs = ((zs.take m).reverse).map (fun z => z.tmod 100) := ⟨_, rfl⟩
  have hvl : vs.length = m := by rw [hvs, List.length_map, List.length_reverse, List.length_take, HZ.out.len_]; omega
  have hvb : ∀ u ∈ vs, -100 < u ∧ u < 100 := fun u hu => by
    rw [hvs] at hu
    obtain ⟨z, _, rfl⟩ := List.mem_map.1 hu
    exact hun z
  have hvk : ∀ k j, j + k + 1 = m → ∃ z, zs[j]? = some z ∧ vs[k]? = some (z.tmod 100) := fun k j hjk => by
    have hj : j < zs.length := by rw [HZ.out.len_]; omega
    refine ⟨zs[j], List.getElem?_eq_getElem hj, ?_⟩
    rw [hvs, List.getElem?_map, List.getElem?_reverse (by rw [List.length_take, HZ.out.len_]; omega), List.length_take, HZ.out.len_, show min m len - 1 - k = j by omega, List.getElem?_take, if_pos (by omega), List.getElem?_eq_getElem hj]; rfl
  have HVL := Lib.hid hvl
  have HVB := Lib.hid hvb
  have HVK := Lib.hid hvk
  have HI0 : Hid (ShI W p g h vs 0 w1) := Lib.hid ⟨HF1.out, HA1.out⟩
  clear hvs hvl hvb hvk hm
  go_loopw [7, 8, 32] (fun s7 s8 s32 wr => ∃ k : Nat, k ≤ m ∧ s7 = .int .u64 (last k) ∧ s8 = .string (str (wt m (vs.take k).reverse)) ∧ s32 = .int .i64 k ∧ Hid (ShI W p g h vs k wr)) (fun _ _ s32 _ => m - (intOf s32).toNat)
  case atStart => exact ⟨0, by omega, rfl, by rw [List.take_zero, List.reverse_nil, wt_zero]; rfl, rfl, HI0⟩
  case round =>
    obtain ⟨k, hk, rfl, rfl, rfl, hI⟩ := hrel
    clear HI0
    have hwl : (str (wt m (vs.take k).reverse)).size ≤ 2500 := by
      have := wt_len m (vs.take k).reverse (fun u hu => HVB.out u (List.mem_of_mem_take (List.mem_reverse.1 hu)))
      rw [List.length_reverse, List.length_take] at this
      show (wt m (vs.take k).reverse).length ≤ 2500
      omega
    by_cases hlt : k < m
    · obtain ⟨j, hj⟩ : ∃ j, j + k + 1 = m := ⟨m - k - 1, by omega⟩
      obtain ⟨z, hz1, hz2⟩ := HVK.out k j hj
      have hkv : k < vs.length := by rw [HVL.out]; exact hlt
      have htk : (vs.take (k + 1)).reverse = z.tmod 100 :: (vs.take k).reverse := by
        rw [List.take_succ_eq_append_getElem hkv, List.reverse_append]
        have : vs[k] = z.tmod 100 := by
          have := List.getElem?_eq_getElem hkv
          rw [this] at hz2
          exact Option.some.inj hz2
        rw [this]; rfl
      have htk2 : vs.take (k + 1) = vs.take k ++ [z.tmod 100] := by
        have := congrArg List.reverse htk
        rw [List.reverse_reverse, List.reverse_cons, List.reverse_reverse] at this
        exact this
      obtain ⟨v1, v2⟩ := hun z
      have he := enc_wrap (z.tmod 100)
      have HEU := Lib.hid (enc_u (z.tmod 100))
      obtain ⟨ad, rfl, _, hadl, hc0⟩ := HZ.out.src (by simp [HZ.out.len_]; omega)
      obtain ⟨b, off, spot⟩ := ad
      have hc := hc0 j (.int .i64 z) (by rw [List.getElem?_map, hz1]; rfl)
      have hz00 : ∃ z0, zs[0]? = some z0 := ⟨_, List.getElem?_eq_getElem (by rw [HZ.out.len_]; omega)⟩
      obtain rfl : spot = none := by
        obtain ⟨z0, hz0⟩ := hz00
        have h1 := hc0 0 (.int .i64 z0) (by rw [List.getElem?_map, hz0]; rfl)
        rw [MR.add_zero_] at h1
        exact World.cell?_spot h1
      rw [MR.mk_add] at hc
      have c0 : wr.cell? ⟨b, off + j, none⟩ = some (.int .i64 z) := (hI.out.1.cell (p := ⟨b, off + j, none⟩) hadl (by simp)).trans hc
      have hx : (m : Int) - 1 - (k : Int) = (j : Int) := by omega
      have hck : (chn (vs.take k)).length = k := by rw [chn_len, List.length_take]; omega
      obtain ⟨q1, q2, q3⟩ := all_prs 400 (chn (vs.take k)) (WP.encW (z.tmod 100)) (last k) (by omega) (by omega)
      rw [hck] at q1
      rw [show chn (vs.take k) ++ [(WP.encW (z.tmod 100), last k)] = chn (vs.take (k + 1)) by rw [htk2, chn_snoc, List.length_take, Nat.min_eq_left (by omega)]] at q3
      have HAL := Lib.hid (alloc_two hI.out.2 (WP.encW (z.tmod 100)) (last k) _ _ _ HEU.out (last_u k (by omega)) q1 q2 q3)
      have HTK := Lib.hid htk
      have HLK : Hid (at_ k = last (k + 1)) := Lib.hid (by unfold last; rw [if_neg (by omega)]; rfl)
      have HKL := Lib.hid (show (vs.take k).reverse.length = k by rw [List.length_reverse, List.length_take]; omega)
      have HDG := Lib.hid (fun (w : World) => digits_any (z.tmod 100) (by omega) (by omega) w)
      have hdl : (str (Lib.itoa (z.tmod 100))).size ≤ 21 := hsz_itoa _ (by omega) (by omega)
      clear hz1 hz2 htk htk2 hc hc0 hz00 hck q1 q2 q3 hkv
      by_cases hk1 : k + 1 < m
      · have g1 : (k : Int) + 1 < (m : Int) := by omega
        go_wp2_with (first
          | (go_at_call 17; ((with_reducible refine HAL.out.mono ?_); rintro e w2 ⟨rfl, hA2, hF2⟩); have HA2 := Lib.hid hA2; have HF2 := Lib.hid hF2; clear hA2 hF2)
          | (go_at_call 25; ((with_reducible refine (HDG.out _).mono ?_); rintro e w3 ⟨rfl, hF3⟩); have HF3 := Lib.hid hF3; clear hF3))
        go_roundw
        case rel =>
          refine ⟨k + 1, by omega, by rw [HLK.out], ?_, by go_num, Lib.hid ⟨(hI.out.1.trans HF2.out HI3.out).trans HF3.out (by simp), HA2.out.far HF3.out (by simp) (by simp) (by simp)⟩⟩
          rw [HTK.out, wt_more _ _ _ (by rw [HKL.out]; exact hk1)]
          rw [str_two]
          exact congrArg Value.string (str_two [32] _)
        case measure => simp [intOf]; omega
      · have g1 : ¬ ((k : Int) + 1 < (m : Int)) := by omega
        go_wp2_with (first
          | (go_at_call 17; ((with_reducible refine HAL.out.mono ?_); rintro e w2 ⟨rfl, hA2, hF2⟩); have HA2 := Lib.hid hA2; have HF2 := Lib.hid hF2; clear hA2 hF2)
          | (go_at_call 25; ((with_reducible refine (HDG.out _).mono ?_); rintro e w3 ⟨rfl, hF3⟩); have HF3 := Lib.hid hF3; clear hF3))
        go_roundw
        case rel =>
          refine ⟨k + 1, by omega, by rw [HLK.out], ?_, by go_num, Lib.hid ⟨(hI.out.1.trans HF2.out HI3.out).trans HF3.out (by simp), HA2.out.far HF3.out (by simp) (by simp) (by simp)⟩⟩
          rw [HTK.out, wt_last _ _ _ (by rw [HKL.out]; omega), str_two]
        case measure => simp [intOf]; omega
    · obtain rfl : k = m := by omega
      have hvt : vs.take k = vs := List.take_of_length_le (by rw [HVL.out]; exact Nat.le_refl _)
      rw [hvt] at hwl ⊢
      have hSh := sh_all vs (fun u hu => by have := HVB.out u hu; rw [WP.inR_iff]; omega) (by rw [HVL.out]; omega)
      rw [HVL.out] at hSh
      have hAk : AW.Ar wr p g h 400 (prsT (chn vs)) := by have := hI.out.2; rw [hvt] at this; exact this
      have HFk := Lib.hid hI.out.1
      have HTk := Lib.hid (HT.out.far hI.out.1)
      obtain ⟨L, hL⟩ : ∃ L, wt k vs.reverse = L := ⟨_, rfl⟩
      rw [hL] at hSh hwl ⊢
      have HWD := Lib.hid (fun (V : ByteArray) (hV : str (cutL ([40] ++ L)) = V) => shown_as hAk HTk.out (last k) (last_u k (by omega)) hSh V hV)
      have hsz : (str L).size = L.length := rfl
      clear hvt hSh hAk hL
      by_cases h120 : L.length + 1 ≤ 120
      · have HC := Lib.hid (HWD.out (⟨#[40]⟩ ++ str L) (by rw [cut_few (by simp; omega)]; exact (str_two [40] L).symm))
        go_wp2_with (first
          | (go_at_call 20; ((with_reducible refine HC.out.mono ?_); rintro e w4 ⟨rfl, hF4⟩); have HF4 := Lib.hid hF4; clear hF4))
        go_ret
        exact ⟨rfl, (HFk.out.trans HF4.out (by simp)).below_nil⟩
      · obtain ⟨Y, hY⟩ : ∃ Y, str (([40] ++ L).take 117) = Y := ⟨_, rfl⟩
        have hYs : Y.size = 117 := by
          rw [← hY]
          show (([40] ++ L).take 117).length = 117
          rw [List.length_take, List.length_append]; simp; omega
        have hVs : (Y ++ (⟨#[46, 46, 46]⟩ : ByteArray)).size = 120 := by
          rw [ByteArray.size_append, hYs]; rfl
        have hXs : 117 ≤ ((⟨#[40]⟩ : ByteArray) ++ str L).size := by
          rw [ByteArray.size_append, hsz]; show 117 ≤ 1 + L.length; omega
        have hXe : ((⟨#[40]⟩ : ByteArray) ++ str L).extract 0 117 = Y := by
          rw [← hY, show (⟨#[40]⟩ : ByteArray) ++ str L = str ([40] ++ L) from str_two [40] L]
          apply ByteArray.ext
          simp [str, ByteArray.data_extract]
        have hsl := cut_run ((⟨#[40]⟩ : ByteArray) ++ str L) Y hXe hXs
        have HC := Lib.hid (HWD.out (Y ++ ⟨#[46, 46, 46]⟩) (by rw [← hY]; unfold cutL; rw [if_neg (by simp; omega)]; exact (str_two _ [46, 46, 46]).symm))
        have hY117 : Y.size ≤ 117 := by omega
        clear hXe hXs hY hYs
        go_wp2_with (first
          | (go_at_call 20; ((with_reducible refine HC.out.mono ?_); rintro e w4 ⟨rfl, hF4⟩); have HF4 := Lib.hid hF4; clear hF4))
        go_ret
        exact ⟨rfl, (HFk.out.trans HF4.out (by simp)).below_nil⟩
end SW
end Go.Proofs.YtbglcdjimipeeaaGreatDoor

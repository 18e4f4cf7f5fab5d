/-
  The walk of MoveMore: to begin at more words keeps no less. Condition: the arguments' readings.
-/
import Derived.Test.YtokpiljbcbemlaaMoveLaws1
import Derived.Deep.RegionHeld3
namespace Go.Proofs.Ytokpiljbcbemlaa
open Go.RowKit
namespace ML
open AW MW AL
/-- Words that lie somewhere, the first k of them, and what is behind. -/
theorem src_take {w : World} {b off : Nat} {l : List Int} (h : MM.Src w [] (some ⟨b, off, none⟩) (U64s l)) (k : Nat) (A : Option Addr) (hA : 0 < k → A = some ⟨b, off, none⟩) : MM.Src w [] A (U64s (l.take k)) := by
  intro hp
  have hk : 0 < k := by simp [U64s] at hp; omega
  have hl : 0 < (U64s l).length := by simp [U64s] at hp ⊢; omega
  obtain ⟨ad, e, hb, hs, hc⟩ := h hl
  refine ⟨ad, (hA hk).trans e, hb, hs, fun j u hu => hc j u ?_⟩
  unfold U64s at hu
  rw [List.map_take, List.getElem?_take] at hu
  split at hu
  · exact hu
  · cases hu
theorem src_drop {w : World} {b off : Nat} {l : List Int} (h : MM.Src w [] (some ⟨b, off, none⟩) (U64s l)) (k : Nat) (A : Option Addr) (hA : k < l.length → A = some ⟨b, off + k, none⟩) : MM.Src w [] A (U64s (l.drop k)) := by
  intro hp
  have hk : k < l.length := by simp [U64s] at hp; omega
  have hl : 0 < (U64s l).length := by simp [U64s]; omega
  obtain ⟨ad, e, hb, hs, hc⟩ := h hl
  cases e
  refine ⟨⟨b, off + k, none⟩, hA hk, hb, hs, fun j u hu => ?_⟩
  unfold U64s at hu
  rw [List.map_drop, List.getElem?_drop] at hu
  have := hc (k + j) u hu
  rw [MR.mk_add] at this ⊢
  rw [Nat.add_assoc]; exact this
theorem src_none {w : World} {A : Option Addr} {l : List Int} (h : l.length = 0) : MM.Src w [] A (U64s l) := fun hp => absurd hp (by simp [U64s, h])
section
variable {w1 w8 w' : World} {p g h n pb gb hb wb k m : Nat} {ts : List AP.Th} {R : List Int}
/-- How much is reached of the copies from the first words. -/
theorem more1 (hO : Ok n ts) (hl : R.length = m) {X : Nat} (hX : MP.reach ts (R.take k) = X) (hn1 : 1 ≤ n) (hAb : Ar w8 pb gb hb n (MP.liveT ts R)) (hRb : MM.Row w8 wb 42 (U64s (MP.liveW ts R))) (hk : k ≤ m) (hu : ∀ x ∈ R, WP.U x) (hm : m ≤ 20) (A : Option Addr) (c : Nat) (hA : 0 < k → A = some ⟨wb, 0, none⟩) :
    Calls Try.prog 17 #[ptr pb, .slice A k c] w8 fun e w' => e = .returned (.int .i64 X) ∧ MM.Far [] w8 w' := by
  have hr : MP.reach (MP.liveT ts R) ((MP.liveW ts R).take k) = X := by
    have := (MP.again_take hO R k).1
    unfold MP.reach at hX ⊢; rw [this]; exact hX
  exact reach_is hAb hn1 _ A k c X (by rw [hr]) (by rw [List.length_take, MP.liveW_len, hl]; omega) (by omega) (src_take (src_row hRb) k A hA) (fun x hx => MP.liveW_u hu x (List.mem_of_mem_take hx))
theorem more2 (hO : Ok n ts) (hl : R.length = m) {Y : Nat} (hY : MP.reach ts (R.drop k) = Y) (hn1 : 1 ≤ n) (hAb : Ar w8 pb gb hb n (MP.liveT ts R)) (hRb : MM.Row w8 wb 42 (U64s (MP.liveW ts R))) (hk : k ≤ m) (hu : ∀ x ∈ R, WP.U x) (hm : m ≤ 20) (hF : MM.Far [] w8 w') (A : Option Addr) (mk c : Nat) (hmk : mk = m - k) (hA : 0 < m - k → A = some ⟨wb, k, none⟩) :
    Calls Try.prog 17 #[ptr pb, .slice A mk c] w' fun e w'' => e = .returned (.int .i64 Y) ∧ MM.Far [] w' w'' := by
  have hr : MP.reach (MP.liveT ts R) ((MP.liveW ts R).drop k) = Y := by
    have := (MP.again_take hO R k).2
    unfold MP.reach at hY ⊢; rw [this]; exact hY
  refine reach_is (hAb.far hF (by simp) (by simp) (by simp)) hn1 _ A mk c Y (by rw [hr]) (by rw [List.length_drop, MP.liveW_len, hl]; omega) (by omega) (src_drop (b := wb) (off := 0) (src_row (hRb.far hF (by simp))) k A (fun h0 => ?_)) (fun x hx => MP.liveW_u hu x (List.mem_of_mem_drop hx))
  rw [Nat.zero_add]
  exact hA (by rw [MP.liveW_len, hl] at h0; omega)
end
set_option maxRecDepth 100000 in
set_option maxHeartbeats 4000000 in
theorem more (w : World) (size : Int) (a : Option Addr) (len cap : Nat) (tl : List Tg) (a2 : Option Addr) (len2 cap2 : Nat) (roots : List Int) (at_ : Int) (hz : Hp w size a len cap tl a2 len2 cap2 roots) (hw : (Lit.int .u8 at_).wf = true) :
    Calls Try.prog 8 #[.agg #[.int .i64 size, .slice a len cap, .slice a2 len2 cap2], .int .u8 at_] w fun e w' => e = .returned (.bool true) ∧ Below w.heap.size w w' := by
  obtain ⟨hw0, hw1⟩ := u8_of hw
  have HZ := Lib.hid hz
  clear hz hw
  go_enter Try.func8, Try.ntmps8
  go_wp2_with (fail)
  have hX := MM.Row.new w 25 [.int .i64 size, .slice a len cap, .slice a2 len2 cap2]
  have hF := (MM.Far.refl [] w).alloc (.cells #[.int .i64 size, .slice a len cap, .slice a2 len2 cap2] 25)
  refine (MW.shown_any _).mono ?_
  rintro e w0 ⟨rfl, hF0⟩
  have hX0 := hX.far hF0 (by simp)
  have hF0w := hF.trans hF0 (by simp)
  have x0 := hX0.at (i := 0) rfl
  have x1 := hX0.at (i := 1) rfl
  have x2 := hX0.at (i := 2) rfl
  clear hX hF hF0
  go_wp2_with (fail)
  refine (build_any w0 size a len cap tl a2 len2 cap2 roots (HZ.out.far hF0w) _ rfl).mono ?_
  rintro e w1 ⟨base, p, g, h, q, n, ts, v, hs, rfl, hn1, hT⟩
  clear x0 x1 x2 hX0
  have hF1w := hF0w.trans hT.far (by simp)
  have hR := cut20 HZ.out.roots hF1w
  have hmc : min len2 20 ≤ cap2 := by have := HZ.out.roots.le; omega
  have hc63 : cap2 ≤ 9223372036854775807 := by have := HZ.out.roots.max; unfold maxLen at this; omega
  have hnl := HZ.out.roots.nil
  generalize min len2 20 = m at hR hmc ⊢
  generalize roots.take 20 = R at hR
  have hA := hT.ar
  clear hT hF0w
  have hm20 := hR.le
  obtain ⟨k, hk⟩ : ∃ k : Nat, at_ % ((m : Int) + 1) = k := ⟨(at_ % ((m : Int) + 1)).toNat, by have := Int.emod_nonneg at_ (show (m : Int) + 1 ≠ 0 by omega); omega⟩
  have hkm : k ≤ m := by have := Int.emod_lt_of_pos at_ (show (0 : Int) < (m : Int) + 1 by omega); omega
  have HR := Lib.hid hR
  have HA := Lib.hid hA
  obtain ⟨X, hX⟩ : ∃ X, MP.reach ts (R.take k) = X := ⟨_, rfl⟩
  obtain ⟨Y, hY⟩ : ∃ Y, MP.reach ts (R.drop k) = Y := ⟨_, rfl⟩
  obtain ⟨Z, hZ⟩ : ∃ Z, MP.reach ts R = Z := ⟨_, rfl⟩
  have hXZ : X ≤ Z := by rw [← hX, ← hZ]; exact MP.reach_mono hA.ok (fun x hx => List.mem_of_mem_take hx)
  have hYZ : Y ≤ Z := by rw [← hY, ← hZ]; exact MP.reach_mono hA.ok (fun x hx => List.mem_of_mem_drop hx)
  have hZS : Z ≤ X + Y := by
    have := MP.reach_add hA.ok (R.take k) (R.drop k)
    rw [List.take_append_drop] at this
    omega
  have hZu : Z ≤ AP.sz ts := by rw [← hZ]; exact MP.reach_le hA.ok R
  have hS6 : AP.sz ts ≤ 65536 := by have := hA.ok.room; have := hA.ok.size; omega
  have HX := Lib.hid hX
  have HY := Lib.hid hY
  have HZz := Lib.hid hZ
  have H1 := Lib.hid (fun (w2 : World) (hF : MM.Far [] w1 w2) (A : Option Addr) (c : Nat) (hS : MM.Src w2 [] A (U64s (R.take k))) =>
    reach_is (hA.far hF (by simp) (by simp) (by simp)) hn1 (R.take k) A k c X (by rw [hX]) (by rw [List.length_take, hR.len]; omega) (by omega) hS (fun x hx => hR.u x (List.mem_of_mem_take hx)))
  have H2 := Lib.hid (fun (w2 : World) (hF : MM.Far [] w1 w2) (A : Option Addr) (mk c : Nat) (hmk : mk = m - k) (hS : MM.Src w2 [] A (U64s (R.drop k))) =>
    reach_is (hA.far hF (by simp) (by simp) (by simp)) hn1 (R.drop k) A mk c Y (by rw [hY]) (by rw [List.length_drop, hR.len]; omega) (by omega) hS (fun x hx => hR.u x (List.mem_of_mem_drop hx)))
  have H3 := Lib.hid (fun (w2 : World) (hF : MM.Far [] w1 w2) (c : Nat) =>
    reach_is (hA.far hF (by simp) (by simp) (by simp)) hn1 R a2 m c Z (by rw [hZ]) hR.len (by omega) (hR.src.far hF (by simp)) hR.u)
  clear hX hY hZ hA hR
  have hdr := Lib.hid (MM.Far.refl [] w1).drew
  go_wp2_with (fail)
  rw [hk]
  clear hk
  cases a2 with
  | none =>
    obtain rfl : cap2 = 0 := hnl rfl
    obtain rfl : m = 0 := by omega
    obtain rfl : k = 0 := by omega
    have HS1 := Lib.hid (fun (w2 : World) (_ : MM.Far [] w1 w2) (A : Option Addr) (_ : True) => src_none (w := w2) (A := A) (l := R.take 0) (by simp))
    have HS2 := Lib.hid (fun (w2 : World) (_ : MM.Far [] w1 w2) (A : Option Addr) (_ : True) => src_none (w := w2) (A := A) (l := R.drop 0) (by rw [List.length_drop, HR.out.len]))
    go_region_held3 (fun _ => True) (trivial) (first
      | (go_at_call 17
         (with_reducible refine (H1.out w1.drew hdr.out _ _ (HS1.out w1.drew hdr.out _ trivial)).mono ?_)
         rintro e w5 ⟨rfl, hF5⟩
         have HF5 := Lib.hid (hdr.out.trans hF5 (by simp))
         clear hF5)
      | (go_at_call 17
         (with_reducible refine (H2.out w5 HF5.out _ _ _ ?_ (HS2.out w5 HF5.out _ trivial)).mono ?_)
         · omega
         rintro e w6 ⟨rfl, hF6⟩
         have HF6 := Lib.hid (HF5.out.trans hF6 (by simp))
         clear hF6)
      | (go_at_call 17
         (with_reducible refine (H3.out w6 HF6.out _).mono ?_)
         rintro e w7 ⟨rfl, hF7⟩
         have HF7 := Lib.hid (HF6.out.trans hF7 (by simp))
         clear hF7))
    all_goals
      have hFc := HF7.out
      clear HF5 HF6 HF7
      go_wp2_with (fail)
      refine (live_to (HA.out.far hFc (by simp) (by simp) (by simp)) hn1 R _ _ _ _ _ rfl rfl HR.out.len (by omega) (HR.out.src.far hFc (by simp)) HR.out.u).mono ?_
      rintro e w8 ⟨pb, gb, hb, wb, rfl, _, hAb, hRb, hF8⟩
      have HF8 := Lib.hid (hFc.trans hF8 (by simp))
      have HUa := Lib.hid (used_any (HA.out.far HF8.out (by simp) (by simp) (by simp)))
      have HUb := Lib.hid (used_is hAb Z (by have := HZz.out; unfold MP.reach at this; omega))
      have H4 := Lib.hid (more1 HA.out.ok HR.out.len HX.out hn1 hAb hRb hkm HR.out.u hm20)
      have H5 := Lib.hid (fun w9 => more2 (w' := w9) HA.out.ok HR.out.len HY.out hn1 hAb hRb hkm HR.out.u hm20)
      clear hFc hF8 hAb hRb
      go_wp2_with (first
        | (go_at_call 23; (with_reducible refine HUa.out.mono ?_); rintro e w' ⟨rfl, rfl⟩)
        | (go_at_call 23; (with_reducible refine HUb.out.mono ?_); rintro e w' ⟨rfl, rfl⟩)
        | (go_at_call 17; (with_reducible refine (H4.out _ _ (fun h0 => absurd h0 (by omega))).mono ?_); rintro e w9 ⟨rfl, hF9⟩)
        | (go_at_call 17; (with_reducible refine (H5.out w9 hF9 _ _ _ ?_ (fun h0 => absurd h0 (by omega))).mono ?_); (· omega); rintro e w10 ⟨rfl, hF10⟩))
      all_goals
        go_ret
        exact ⟨rfl, (((hF1w.trans HF8.out (by simp)).trans hF9 (by simp)).trans hF10 (by simp)).below_nil⟩
  | some ad =>
    rcases Nat.eq_zero_or_pos m with hm0 | hm0
    · subst hm0
      obtain rfl : k = 0 := by omega
      rcases Nat.eq_zero_or_pos cap2 with hc0 | hc0
      · subst hc0
        have HS1 := Lib.hid (fun (w2 : World) (_ : MM.Far [] w1 w2) (A : Option Addr) (_ : True) => src_none (w := w2) (A := A) (l := R.take 0) (by simp))
        have HS2 := Lib.hid (fun (w2 : World) (_ : MM.Far [] w1 w2) (A : Option Addr) (_ : True) => src_none (w := w2) (A := A) (l := R.drop 0) (by rw [List.length_drop, HR.out.len]))
        go_region_held3 (fun _ => True) (trivial) (first
          | (go_at_call 17
             (with_reducible refine (H1.out w1.drew hdr.out _ _ (HS1.out w1.drew hdr.out _ trivial)).mono ?_)
             rintro e w5 ⟨rfl, hF5⟩
             have HF5 := Lib.hid (hdr.out.trans hF5 (by simp))
             clear hF5)
          | (go_at_call 17
             (with_reducible refine (H2.out w5 HF5.out _ _ _ ?_ (HS2.out w5 HF5.out _ trivial)).mono ?_)
             · omega
             rintro e w6 ⟨rfl, hF6⟩
             have HF6 := Lib.hid (HF5.out.trans hF6 (by simp))
             clear hF6)
          | (go_at_call 17
             (with_reducible refine (H3.out w6 HF6.out _).mono ?_)
             rintro e w7 ⟨rfl, hF7⟩
             have HF7 := Lib.hid (HF6.out.trans hF7 (by simp))
             clear hF7))
        all_goals
          have hFc := HF7.out
          clear HF5 HF6 HF7
          go_wp2_with (fail)
          refine (live_to (HA.out.far hFc (by simp) (by simp) (by simp)) hn1 R _ _ _ _ _ rfl rfl HR.out.len (by omega) (HR.out.src.far hFc (by simp)) HR.out.u).mono ?_
          rintro e w8 ⟨pb, gb, hb, wb, rfl, _, hAb, hRb, hF8⟩
          have HF8 := Lib.hid (hFc.trans hF8 (by simp))
          have HUa := Lib.hid (used_any (HA.out.far HF8.out (by simp) (by simp) (by simp)))
          have HUb := Lib.hid (used_is hAb Z (by have := HZz.out; unfold MP.reach at this; omega))
          have H4 := Lib.hid (more1 HA.out.ok HR.out.len HX.out hn1 hAb hRb hkm HR.out.u hm20)
          have H5 := Lib.hid (fun w9 => more2 (w' := w9) HA.out.ok HR.out.len HY.out hn1 hAb hRb hkm HR.out.u hm20)
          clear hFc hF8 hAb hRb
          go_wp2_with (first
            | (go_at_call 23; (with_reducible refine HUa.out.mono ?_); rintro e w' ⟨rfl, rfl⟩)
            | (go_at_call 23; (with_reducible refine HUb.out.mono ?_); rintro e w' ⟨rfl, rfl⟩)
            | (go_at_call 17; (with_reducible refine (H4.out _ _ (fun h0 => absurd h0 (by omega))).mono ?_); rintro e w9 ⟨rfl, hF9⟩)
            | (go_at_call 17; (with_reducible refine (H5.out w9 hF9 _ _ _ ?_ (fun h0 => absurd h0 (by omega))).mono ?_); (· omega); rintro e w10 ⟨rfl, hF10⟩))
          all_goals
            go_ret
            exact ⟨rfl, (((hF1w.trans HF8.out (by simp)).trans hF9 (by simp)).trans hF10 (by simp)).below_nil⟩
      · have i0 : ¬ cap2 = 0 := by omega
        have HS1 := Lib.hid (fun (w2 : World) (_ : MM.Far [] w1 w2) (A : Option Addr) (_ : True) => src_none (w := w2) (A := A) (l := R.take 0) (by simp))
        have HS2 := Lib.hid (fun (w2 : World) (_ : MM.Far [] w1 w2) (A : Option Addr) (_ : True) => src_none (w := w2) (A := A) (l := R.drop 0) (by rw [List.length_drop, HR.out.len]))
        go_region_held3 (fun _ => True) (trivial) (first
          | (go_at_call 17
             (with_reducible refine (H1.out w1.drew hdr.out _ _ (HS1.out w1.drew hdr.out _ trivial)).mono ?_)
             rintro e w5 ⟨rfl, hF5⟩
             have HF5 := Lib.hid (hdr.out.trans hF5 (by simp))
             clear hF5)
          | (go_at_call 17
             (with_reducible refine (H2.out w5 HF5.out _ _ _ ?_ (HS2.out w5 HF5.out _ trivial)).mono ?_)
             · omega
             rintro e w6 ⟨rfl, hF6⟩
             have HF6 := Lib.hid (HF5.out.trans hF6 (by simp))
             clear hF6)
          | (go_at_call 17
             (with_reducible refine (H3.out w6 HF6.out _).mono ?_)
             rintro e w7 ⟨rfl, hF7⟩
             have HF7 := Lib.hid (HF6.out.trans hF7 (by simp))
             clear hF7))
        all_goals
          have hFc := HF7.out
          clear HF5 HF6 HF7
          go_wp2_with (fail)
          refine (live_to (HA.out.far hFc (by simp) (by simp) (by simp)) hn1 R _ _ _ _ _ rfl rfl HR.out.len (by omega) (HR.out.src.far hFc (by simp)) HR.out.u).mono ?_
          rintro e w8 ⟨pb, gb, hb, wb, rfl, _, hAb, hRb, hF8⟩
          have HF8 := Lib.hid (hFc.trans hF8 (by simp))
          have HUa := Lib.hid (used_any (HA.out.far HF8.out (by simp) (by simp) (by simp)))
          have HUb := Lib.hid (used_is hAb Z (by have := HZz.out; unfold MP.reach at this; omega))
          have H4 := Lib.hid (more1 HA.out.ok HR.out.len HX.out hn1 hAb hRb hkm HR.out.u hm20)
          have H5 := Lib.hid (fun w9 => more2 (w' := w9) HA.out.ok HR.out.len HY.out hn1 hAb hRb hkm HR.out.u hm20)
          clear hFc hF8 hAb hRb
          go_wp2_with (first
            | (go_at_call 23; (with_reducible refine HUa.out.mono ?_); rintro e w' ⟨rfl, rfl⟩)
            | (go_at_call 23; (with_reducible refine HUb.out.mono ?_); rintro e w' ⟨rfl, rfl⟩)
            | (go_at_call 17; (with_reducible refine (H4.out _ _ (fun h0 => absurd h0 (by omega))).mono ?_); rintro e w9 ⟨rfl, hF9⟩)
            | (go_at_call 17; (with_reducible refine (H5.out w9 hF9 _ _ _ ?_ (fun h0 => absurd h0 (by omega))).mono ?_); (· omega); rintro e w10 ⟨rfl, hF10⟩))
          all_goals
            go_ret
            exact ⟨rfl, (((hF1w.trans HF8.out (by simp)).trans hF9 (by simp)).trans hF10 (by simp)).below_nil⟩
    · obtain ⟨b, off, e, _, _, _⟩ := src_at HR.out.src (by rw [HR.out.len]; exact hm0)
      cases e
      have i0 : ¬ cap2 = 0 := by omega
      by_cases hkm2 : k = m
      · subst hkm2
        have HS1 := Lib.hid (fun (w2 : World) (hF : MM.Far [] w1 w2) (A : Option Addr) (hA : A = some ⟨b, off, none⟩) => src_take (HR.out.src.far hF (by simp)) k A (fun _ => hA))
        have HS2 := Lib.hid (fun (w2 : World) (_ : MM.Far [] w1 w2) (A : Option Addr) (_ : True) => src_none (w := w2) (A := A) (l := R.drop k) (by rw [List.length_drop, HR.out.len]; omega))
        have i1 : (0 : Int) ≤ (k : Int) := by omega
        have i2 : (k : Int) ≤ (cap2 : Int) := by omega
        by_cases hck : cap2 = k
        · subst hck
          go_region_held3 (fun _ => True) (trivial) (first
            | (go_at_call 17
               (with_reducible refine (H1.out w1.drew hdr.out _ _ (HS1.out w1.drew hdr.out _ rfl)).mono ?_)
               rintro e w5 ⟨rfl, hF5⟩
               have HF5 := Lib.hid (hdr.out.trans hF5 (by simp))
               clear hF5)
            | (go_at_call 17
               (with_reducible refine (H2.out w5 HF5.out _ _ _ ?_ (HS2.out w5 HF5.out _ trivial)).mono ?_)
               · omega
               rintro e w6 ⟨rfl, hF6⟩
               have HF6 := Lib.hid (HF5.out.trans hF6 (by simp))
               clear hF6)
            | (go_at_call 17
               (with_reducible refine (H3.out w6 HF6.out _).mono ?_)
               rintro e w7 ⟨rfl, hF7⟩
               have HF7 := Lib.hid (HF6.out.trans hF7 (by simp))
               clear hF7))
          all_goals
            have hFc := HF7.out
            clear HF5 HF6 HF7
            go_wp2_with (fail)
            refine (live_to (HA.out.far hFc (by simp) (by simp) (by simp)) hn1 R _ _ _ _ _ rfl rfl HR.out.len (by omega) (HR.out.src.far hFc (by simp)) HR.out.u).mono ?_
            rintro e w8 ⟨pb, gb, hb, wb, rfl, _, hAb, hRb, hF8⟩
            have HF8 := Lib.hid (hFc.trans hF8 (by simp))
            have HUa := Lib.hid (used_any (HA.out.far HF8.out (by simp) (by simp) (by simp)))
            have HUb := Lib.hid (used_is hAb Z (by have := HZz.out; unfold MP.reach at this; omega))
            have H4 := Lib.hid (more1 HA.out.ok HR.out.len HX.out hn1 hAb hRb hkm HR.out.u hm20)
            have H5 := Lib.hid (fun w9 => more2 (w' := w9) HA.out.ok HR.out.len HY.out hn1 hAb hRb hkm HR.out.u hm20)
            clear hFc hF8 hAb hRb
            go_wp2_with (first
              | (go_at_call 23; (with_reducible refine HUa.out.mono ?_); rintro e w' ⟨rfl, rfl⟩)
              | (go_at_call 23; (with_reducible refine HUb.out.mono ?_); rintro e w' ⟨rfl, rfl⟩)
              | (go_at_call 17; (with_reducible refine (H4.out _ _ (fun h0 => rfl)).mono ?_); rintro e w9 ⟨rfl, hF9⟩)
              | (go_at_call 17; (with_reducible refine (H5.out w9 hF9 _ _ _ ?_ (fun h0 => absurd h0 (by omega))).mono ?_); (· omega); rintro e w10 ⟨rfl, hF10⟩))
            all_goals
              go_ret
              exact ⟨rfl, (((hF1w.trans HF8.out (by simp)).trans hF9 (by simp)).trans hF10 (by simp)).below_nil⟩
        · have i3 : ¬ cap2 = k := hck
          go_region_held3 (fun _ => True) (trivial) (first
            | (go_at_call 17
               (with_reducible refine (H1.out w1.drew hdr.out _ _ (HS1.out w1.drew hdr.out _ rfl)).mono ?_)
               rintro e w5 ⟨rfl, hF5⟩
               have HF5 := Lib.hid (hdr.out.trans hF5 (by simp))
               clear hF5)
            | (go_at_call 17
               (with_reducible refine (H2.out w5 HF5.out _ _ _ ?_ (HS2.out w5 HF5.out _ trivial)).mono ?_)
               · omega
               rintro e w6 ⟨rfl, hF6⟩
               have HF6 := Lib.hid (HF5.out.trans hF6 (by simp))
               clear hF6)
            | (go_at_call 17
               (with_reducible refine (H3.out w6 HF6.out _).mono ?_)
               rintro e w7 ⟨rfl, hF7⟩
               have HF7 := Lib.hid (HF6.out.trans hF7 (by simp))
               clear hF7))
          all_goals
            have hFc := HF7.out
            clear HF5 HF6 HF7
            go_wp2_with (fail)
            refine (live_to (HA.out.far hFc (by simp) (by simp) (by simp)) hn1 R _ _ _ _ _ rfl rfl HR.out.len (by omega) (HR.out.src.far hFc (by simp)) HR.out.u).mono ?_
            rintro e w8 ⟨pb, gb, hb, wb, rfl, _, hAb, hRb, hF8⟩
            have HF8 := Lib.hid (hFc.trans hF8 (by simp))
            have HUa := Lib.hid (used_any (HA.out.far HF8.out (by simp) (by simp) (by simp)))
            have HUb := Lib.hid (used_is hAb Z (by have := HZz.out; unfold MP.reach at this; omega))
            have H4 := Lib.hid (more1 HA.out.ok HR.out.len HX.out hn1 hAb hRb hkm HR.out.u hm20)
            have H5 := Lib.hid (fun w9 => more2 (w' := w9) HA.out.ok HR.out.len HY.out hn1 hAb hRb hkm HR.out.u hm20)
            clear hFc hF8 hAb hRb
            go_wp2_with (first
              | (go_at_call 23; (with_reducible refine HUa.out.mono ?_); rintro e w' ⟨rfl, rfl⟩)
              | (go_at_call 23; (with_reducible refine HUb.out.mono ?_); rintro e w' ⟨rfl, rfl⟩)
              | (go_at_call 17; (with_reducible refine (H4.out _ _ (fun h0 => rfl)).mono ?_); rintro e w9 ⟨rfl, hF9⟩)
              | (go_at_call 17; (with_reducible refine (H5.out w9 hF9 _ _ _ ?_ (fun h0 => absurd h0 (by omega))).mono ?_); (· omega); rintro e w10 ⟨rfl, hF10⟩))
            all_goals
              go_ret
              exact ⟨rfl, (((hF1w.trans HF8.out (by simp)).trans hF9 (by simp)).trans hF10 (by simp)).below_nil⟩
      · have HS1 := Lib.hid (fun (w2 : World) (hF : MM.Far [] w1 w2) (A : Option Addr) (hA : A = some ⟨b, off, none⟩) => src_take (HR.out.src.far hF (by simp)) k A (fun _ => hA))
        have HS2 := Lib.hid (fun (w2 : World) (hF : MM.Far [] w1 w2) (A : Option Addr) (hA : A = some ⟨b, off + k, none⟩) => src_drop (HR.out.src.far hF (by simp)) k A (fun _ => hA))
        have i1 : (0 : Int) ≤ (k : Int) := by omega
        have i2 : (k : Int) ≤ (cap2 : Int) := by omega
        have i3 : ¬ cap2 = k := by omega
        have i4 : (k : Int) ≤ (m : Int) := by omega
        have i5 : k ≤ m := by omega
        have i6 : ¬ m = k := by omega
        have i7 : ¬ m = 0 := by omega
        go_region_held3 (fun _ => True) (trivial) (first
          | (go_at_call 17
             (with_reducible refine (H1.out w1.drew hdr.out _ _ (HS1.out w1.drew hdr.out _ rfl)).mono ?_)
             rintro e w5 ⟨rfl, hF5⟩
             have HF5 := Lib.hid (hdr.out.trans hF5 (by simp))
             clear hF5)
          | (go_at_call 17
             (with_reducible refine (H2.out w5 HF5.out _ _ _ ?_ (HS2.out w5 HF5.out _ rfl)).mono ?_)
             · omega
             rintro e w6 ⟨rfl, hF6⟩
             have HF6 := Lib.hid (HF5.out.trans hF6 (by simp))
             clear hF6)
          | (go_at_call 17
             (with_reducible refine (H3.out w6 HF6.out _).mono ?_)
             rintro e w7 ⟨rfl, hF7⟩
             have HF7 := Lib.hid (HF6.out.trans hF7 (by simp))
             clear hF7))
        all_goals
          have hFc := HF7.out
          clear HF5 HF6 HF7
          go_wp2_with (fail)
          refine (live_to (HA.out.far hFc (by simp) (by simp) (by simp)) hn1 R _ _ _ _ _ rfl rfl HR.out.len (by omega) (HR.out.src.far hFc (by simp)) HR.out.u).mono ?_
          rintro e w8 ⟨pb, gb, hb, wb, rfl, _, hAb, hRb, hF8⟩
          have HF8 := Lib.hid (hFc.trans hF8 (by simp))
          have HUa := Lib.hid (used_any (HA.out.far HF8.out (by simp) (by simp) (by simp)))
          have HUb := Lib.hid (used_is hAb Z (by have := HZz.out; unfold MP.reach at this; omega))
          have H4 := Lib.hid (more1 HA.out.ok HR.out.len HX.out hn1 hAb hRb hkm HR.out.u hm20)
          have H5 := Lib.hid (fun w9 => more2 (w' := w9) HA.out.ok HR.out.len HY.out hn1 hAb hRb hkm HR.out.u hm20)
          clear hFc hF8 hAb hRb
          go_wp2_with (first
            | (go_at_call 23; (with_reducible refine HUa.out.mono ?_); rintro e w' ⟨rfl, rfl⟩)
            | (go_at_call 23; (with_reducible refine HUb.out.mono ?_); rintro e w' ⟨rfl, rfl⟩)
            | (go_at_call 17; (with_reducible refine (H4.out _ _ (fun h0 => rfl)).mono ?_); rintro e w9 ⟨rfl, hF9⟩)
            | (go_at_call 17; (with_reducible refine (H5.out w9 hF9 _ _ _ ?_ (fun h0 => rfl)).mono ?_); (· omega); rintro e w10 ⟨rfl, hF10⟩))
          all_goals
            go_ret
            exact ⟨rfl, (((hF1w.trans HF8.out (by simp)).trans hF9 (by simp)).trans hF10 (by simp)).below_nil⟩
end ML
end Go.Proofs.Ytokpiljbcbemlaa

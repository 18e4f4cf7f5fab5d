/-
  What a word's text is when it is whole, and how it is cut. No condition.
-/
import Derived.Test.YtbglcdjimipeeaaGreatDoorWordC3
namespace Go.Proofs.YtbglcdjimipeeaaGreatDoor
namespace SX
open LX
/-- L is a word's whole text; or what follows a Pair's first word. -/
inductive Sh (tS : Int → ByteArray) (tB : Int → Bool) (ts : List AP.Th) : Bool → Int → List UInt8 → Prop
  | sing {x : Int} : prB ts x = false → Sh tS tB ts false x (sg tS tB ts x)
  | pair {m : Bool} {x : Int} {A B : List UInt8} : prB ts x = true → Sh tS tB ts false (AW.getW ts x 0) A → Sh tS tB ts true (AW.getW ts x 1) B → Sh tS tB ts m x ((if m = true then [32] else [40]) ++ A ++ B)
  | nil {x : Int} : prB ts x = false → x = 2 → Sh tS tB ts true x [41]
  | dot {x : Int} : prB ts x = false → x ≠ 2 → Sh tS tB ts true x ([32, 46, 32] ++ sg tS tB ts x ++ [41])
theorem sh_wrt {tS : Int → ByteArray} {tB : Int → Bool} {ts : List AP.Th} {m : Bool} {x : Int} {L : List UInt8} (h : Sh tS tB ts m x L) : ∀ (f : Nat) (T : List UInt8), T.length ≤ 120 → 122 ≤ f + T.length → match wrt tS tB ts f m T x with
    | .ok R => R = T ++ L
    | .error E => ∃ U, T ++ L = E ++ U := by
  induction h with
  | sing hp =>
    intro f T h1 h2
    obtain ⟨k, rfl⟩ : ∃ k, f = k + 1 := ⟨f - 1, by omega⟩
    unfold wrt
    rw [if_neg (by rw [hp]; decide), if_pos rfl]
    split
    · rename_i R hR
      exact (ad_ok hR).1
    · rename_i E hE
      exact ⟨[], by rw [(ad_err hE).1, List.append_nil]⟩
  | @pair m x A B hp _ _ iA iB =>
    intro f T h1 h2
    obtain ⟨k, rfl⟩ : ∃ k, f = k + 1 := ⟨f - 1, by omega⟩
    unfold wrt
    rw [if_pos hp]
    generalize hs : (if m = true then [32] else [40] : List UInt8) = s
    have hs1 : s.length = 1 := by rw [← hs]; split <;> rfl
    cases hT : ad T s with
    | error E => exact ⟨A ++ B, by simp only [(ad_err hT).1, List.append_assoc]⟩
    | ok T1 =>
      obtain ⟨e1, l1, g1⟩ := ad_ok hT
      simp only
      have := iA k T1 l1 (by omega)
      cases hA : wrt tS tB ts k false T1 (AW.getW ts x 0) with
      | error E =>
        rw [hA] at this
        obtain ⟨U, hU⟩ := this
        exact ⟨U ++ B, by rw [← List.append_assoc E, ← hU, e1]; simp only [List.append_assoc]⟩
      | ok T2 =>
        rw [hA] at this
        simp only at this ⊢
        obtain ⟨l2, g2⟩ := wr_len hA
        have h3 := iB k T2 l2 (by omega)
        split
        · rename_i R hR
          rw [hR] at h3
          simp only at h3
          rw [h3, this, e1]
          simp only [List.append_assoc]
        · rename_i E hE
          rw [hE] at h3
          obtain ⟨U, hU⟩ := h3
          exact ⟨U, by rw [← hU, this, e1]; simp only [List.append_assoc]⟩
  | nil hp hx =>
    intro f T h1 h2
    obtain ⟨k, rfl⟩ : ∃ k, f = k + 1 := ⟨f - 1, by omega⟩
    unfold wrt
    rw [if_neg (by rw [hp]; decide), if_neg (by decide), if_pos hx]
    split
    · rename_i R hR
      exact (ad_ok hR).1
    · rename_i E hE
      exact ⟨[], by rw [(ad_err hE).1, List.append_nil]⟩
  | dot hp hx =>
    intro f T h1 h2
    obtain ⟨k, rfl⟩ : ∃ k, f = k + 1 := ⟨f - 1, by omega⟩
    unfold wrt
    rw [if_neg (by rw [hp]; decide), if_neg (by decide), if_neg hx]
    rename_i x
    cases hT : ad T [32, 46, 32] with
    | error E => exact ⟨sg tS tB ts x ++ [41], by simp only [(ad_err hT).1, List.append_assoc]⟩
    | ok T1 =>
      obtain ⟨e1, l1, _⟩ := ad_ok hT
      simp only
      cases hT2 : ad T1 (sg tS tB ts x) with
      | error E => exact ⟨[41], by simp only [(ad_err hT2).1, e1, List.append_assoc]⟩
      | ok T2 =>
        obtain ⟨e2, _, _⟩ := ad_ok hT2
        simp only
        split
        · rename_i R hR
          rw [(ad_ok hR).1, e2, e1]
          simp only [List.append_assoc]
        · rename_i E hE
          exact ⟨[], by rw [(ad_err hE).1, e2, e1, List.append_nil]; simp only [List.append_assoc]⟩
/-- A text as it is shown. -/
def cutL (L : List UInt8) : List UInt8 := if L.length ≤ 120 then L else L.take 117 ++ [46, 46, 46]
theorem cut_sh {tS : Int → ByteArray} {tB : Int → Bool} {ts : List AP.Th} {x : Int} {L : List UInt8} (h : Sh tS tB ts false x L) : cutX (wrt tS tB ts 122 false [] x) = cutL L := by
  have h1 := sh_wrt h 122 [] (by simp) (by simp)
  unfold cutX cutL
  cases hX : wrt tS tB ts 122 false [] x with
  | ok R =>
    rw [hX] at h1
    simp only [List.nil_append] at h1
    have := (wr_len hX).1
    subst h1
    rw [if_pos this]
  | error E =>
    rw [hX] at h1
    obtain ⟨U, hU⟩ := h1
    have := wrt_err _ _ _ _ _ (by decide) (by simp) hX
    rw [List.nil_append] at hU
    subst hU
    rw [if_neg (by rw [List.length_append]; omega), List.take_append_of_le_length (by omega)]
/-! ### numbers -/
theorem enc_int (v : Int) (h : WP.inR v = true) : WP.toIntB (WP.encW v) = true ∧ WP.toIntN (WP.encW v) = v ∧ WP.encW v % 8 = 0 := by
  have e := WP.sgn_encW v h
  have hb : WP.toIntB (WP.encW v) = true := by
    rw [WP.toIntB_iff, e.1]
    rw [WP.inR_iff] at h
    exact ⟨e.2, h⟩
  refine ⟨hb, ?_, e.2⟩
  unfold WP.toIntN
  rw [if_pos hb]
  exact e.1
theorem sg_int (tS : Int → ByteArray) (tB : Int → Bool) (ts : List AP.Th) (v : Int) (h : WP.inR v = true) : sg tS tB ts (WP.encW v) = Lib.itoa v := by
  obtain ⟨h1, h2, h3⟩ := enc_int v h
  unfold sg
  rw [if_neg (by intro e; rw [e] at h3; omega), if_neg (by intro e; rw [e] at h3; omega), if_neg (by intro e; rw [e] at h3; omega), if_neg (by intro e; rw [e] at h3; omega), if_pos h1, h2]
theorem pr_no (ts : List AP.Th) (x : Int) (h : x % 8 ≠ 1) : prB ts x = false := by
  have : WP.toB 1 x = false := by
    rcases hb : WP.toB 1 x with _ | _
    · rfl
    · exact absurd ((WP.toB_iff 1 x).1 hb).2.1 h
  unfold prB AW.kindN AW.look
  rw [this]
  rfl
theorem sh_int (tS : Int → ByteArray) (tB : Int → Bool) (ts : List AP.Th) (v : Int) (h : WP.inR v = true) : Sh tS tB ts false (WP.encW v) (Lib.itoa v) := by
  rw [← sg_int tS tB ts v h]
  exact .sing (pr_no _ _ (by have := (enc_int v h).2.2; omega))
theorem sh_dot (tS : Int → ByteArray) (tB : Int → Bool) (ts : List AP.Th) (v : Int) (h : WP.inR v = true) : Sh tS tB ts true (WP.encW v) ([32, 46, 32] ++ Lib.itoa v ++ [41]) := by
  rw [← sg_int tS tB ts v h]
  have h3 := (enc_int v h).2.2
  exact .dot (pr_no _ _ (by omega)) (by intro e; rw [e] at h3; omega)
theorem sh_nil (tS : Int → ByteArray) (tB : Int → Bool) (ts : List AP.Th) : Sh tS tB ts true 2 [41] := .nil (pr_no _ _ (by decide)) rfl
end SX
end Go.Proofs.YtbglcdjimipeeaaGreatDoor

/-
  A word behind a text as the document writes it, in plain words; it is the code's, but for what is cut off. No condition.
-/
import Derived.Test.YtbglcdjimipeeaaGreatDoorShowWordAll
namespace Go.Proofs.YtbglcdjimipeeaaGreatDoor
namespace SX
open LX
/-- What ends a row of Pairs. -/
def tl_ (tS : Int → ByteArray) (tB : Int → Bool) (ts : List AP.Th) (R : List UInt8) (r : Int) : List UInt8 := (if r = 2 then R else R ++ [32, 46, 32] ++ sg tS tB ts r) ++ [41]
/-- A word behind a text (false), a Pair behind a text and a bracket (true). -/
def rx (tS : Int → ByteArray) (tB : Int → Bool) (ts : List AP.Th) : Nat → Bool → List UInt8 → Int → List UInt8
  | 0, _, T, _ => T
  | k + 1, false, T, x => if 120 < T.length then T else if prB ts x = true then rx tS tB ts k true (T ++ [40]) x else T ++ sg tS tB ts x
  | k + 1, true, T, x => if 120 < T.length then T else if prB ts (AW.getW ts x 1) = true then rx tS tB ts k true (rx tS tB ts k false T (AW.getW ts x 0) ++ [32]) (AW.getW ts x 1) else tl_ tS tB ts (rx tS tB ts k false T (AW.getW ts x 0)) (AW.getW ts x 1)
def Rel (X : Except (List UInt8) (List UInt8)) (R : List UInt8) : Prop := match X with
  | .ok R0 => R = R0
  | .error E => ∃ U, R = E ++ U
section
variable {tS : Int → ByteArray} {tB : Int → Bool} {ts : List AP.Th}
theorem rx_long (g : Nat) (m : Bool) (T : List UInt8) (x : Int) (h : 120 < T.length) : rx tS tB ts g m T x = T := by
  cases g with
  | zero => rfl
  | succ g => cases m <;> (unfold rx; rw [if_pos h])
theorem rx_ge : ∀ (g : Nat) (m : Bool) (T : List UInt8) (x : Int), T.length ≤ (rx tS tB ts g m T x).length := by
  intro g
  induction g with
  | zero => intro m T x; exact Nat.le_refl _
  | succ g ih =>
    intro m T x
    cases m with
    | false =>
      unfold rx
      split
      · exact Nat.le_refl _
      split
      · have := ih true (T ++ [40]) x
        rw [List.length_append] at this
        omega
      · rw [List.length_append]; omega
    | true =>
      unfold rx
      have h1 := ih false T (AW.getW ts x 0)
      split
      · exact Nat.le_refl _
      split
      · have := ih true (rx tS tB ts g false T (AW.getW ts x 0) ++ [32]) (AW.getW ts x 1)
        rw [List.length_append] at this
        omega
      · unfold tl_
        split <;> simp only [List.length_append] <;> omega
theorem rx_len (hs : ∀ x, WP.U x → (sg tS tB ts x).length ≤ 1000100) (hu : ∀ x j, WP.U (AW.getW ts x j)) : ∀ (g : Nat) (m : Bool) (T : List UInt8) (x : Int), WP.U x → T.length ≤ 121 → (rx tS tB ts g m T x).length ≤ 130 + 1000200 * (g + 1) := by
  intro g
  induction g with
  | zero => intro m T x _ h; show T.length ≤ _; omega
  | succ g ih =>
    intro m T x hx hT
    cases m with
    | false =>
      unfold rx
      split
      · omega
      split
      · have := ih true (T ++ [40]) x hx (by rw [List.length_append, List.length_singleton]; omega)
        exact Nat.le_trans this (Nat.add_le_add_left (Nat.mul_le_mul_left _ (by omega)) _)
      · have := hs x hx
        rw [List.length_append]
        generalize (sg tS tB ts x).length = a at *
        omega
    | true =>
      unfold rx
      have h1 := ih false T (AW.getW ts x 0) (hu _ _) hT
      split
      · omega
      split
      · by_cases h2 : 120 < (rx tS tB ts g false T (AW.getW ts x 0) ++ [32]).length
        · rw [rx_long g true _ _ h2, List.length_append, List.length_singleton]
          omega
        · have := ih true (rx tS tB ts g false T (AW.getW ts x 0) ++ [32]) (AW.getW ts x 1) (hu _ _) (by omega)
          exact Nat.le_trans this (Nat.add_le_add_left (Nat.mul_le_mul_left _ (by omega)) _)
      · have := hs (AW.getW ts x 1) (hu _ _)
        have e : (tl_ tS tB ts (rx tS tB ts g false T (AW.getW ts x 0)) (AW.getW ts x 1)).length ≤ (rx tS tB ts g false T (AW.getW ts x 0)).length + (sg tS tB ts (AW.getW ts x 1)).length + 4 := by
          unfold tl_
          split <;> simp only [List.length_append, List.length_cons, List.length_nil] <;> omega
        generalize (sg tS tB ts (AW.getW ts x 1)).length = a at *
        generalize (tl_ tS tB ts (rx tS tB ts g false T (AW.getW ts x 0)) (AW.getW ts x 1)).length = b at *
        generalize (rx tS tB ts g false T (AW.getW ts x 0)).length = c at *
        omega
theorem rel_tail (f : Nat) (T2 : List UInt8) (r : Int) (hp : prB ts r = false) (R : List UInt8) (hR : R = T2) : Rel (wrt tS tB ts (f + 1) true T2 r) (tl_ tS tB ts R r) := by
  subst hR
  unfold wrt tl_
  rw [if_neg (by rw [hp]; decide), if_neg (by decide)]
  by_cases h2 : r = 2
  · rw [if_pos h2, if_pos h2]
    cases h : ad R [41] with
    | ok T => exact (ad_ok h).1.symm
    | error E => exact ⟨[], by rw [(ad_err h).1, List.append_nil]⟩
  · rw [if_neg h2, if_neg h2]
    cases h : ad R [32, 46, 32] with
    | error E => exact ⟨sg tS tB ts r ++ [41], by rw [(ad_err h).1]; simp only [List.append_assoc]⟩
    | ok T1 =>
      obtain ⟨e1, _, _⟩ := ad_ok h
      simp only
      cases h3 : ad T1 (sg tS tB ts r) with
      | error E => exact ⟨[41], by rw [(ad_err h3).1, e1]⟩
      | ok T3 =>
        obtain ⟨e3, _, _⟩ := ad_ok h3
        simp only
        cases h4 : ad T3 [41] with
        | ok T => show _ = T; rw [(ad_ok h4).1, e3, e1]
        | error E => exact ⟨[], by rw [(ad_err h4).1, List.append_nil, e3, e1]⟩
theorem rx_any : ∀ f : Nat, (∀ (T : List UInt8) (x : Int) (g : Nat), T.length ≤ 120 → 122 ≤ f + T.length → 243 ≤ g + 2 * T.length → Rel (wrt tS tB ts f false T x) (rx tS tB ts g false T x)) ∧
    (∀ (T : List UInt8) (x : Int) (g : Nat), T.length ≤ 120 → 122 ≤ f + T.length → 244 ≤ g + 2 * T.length → Rel (match wrt tS tB ts f false T (AW.getW ts x 0) with | .error e => .error e | .ok T2 => wrt tS tB ts f true T2 (AW.getW ts x 1)) (rx tS tB ts g true T x)) := by
  intro f
  induction f with
  | zero => exact ⟨fun T x g h1 h2 => by omega, fun T x g h1 h2 => by omega⟩
  | succ f ih =>
    obtain ⟨ihA, ihB⟩ := ih
    have hA : ∀ (T : List UInt8) (x : Int) (g : Nat), T.length ≤ 120 → 122 ≤ f + 1 + T.length → 243 ≤ g + 2 * T.length → Rel (wrt tS tB ts (f + 1) false T x) (rx tS tB ts g false T x) := by
      intro T x g h1 h2 h3
      obtain ⟨k, rfl⟩ : ∃ k, g = k + 1 := ⟨g - 1, by omega⟩
      unfold wrt rx
      rw [if_neg (show ¬ 120 < T.length by omega)]
      by_cases hp : prB ts x = true
      · rw [if_pos hp, if_pos hp, if_neg (by decide)]
        cases h : ad T [40] with
        | error E =>
          obtain ⟨e1, e2⟩ := ad_err h
          rw [← e1, rx_long k true E x e2]
          exact ⟨[], by rw [List.append_nil]⟩
        | ok T1 =>
          obtain ⟨e1, e2, e3⟩ := ad_ok h
          simp only [List.length_cons, List.length_nil] at e3
          rw [← e1]
          exact ihB T1 x k e2 (by omega) (by omega)
      · rw [if_neg hp, if_neg hp, if_pos rfl]
        cases h : ad T (sg tS tB ts x) with
        | error E => exact ⟨[], by rw [(ad_err h).1, List.append_nil]⟩
        | ok T1 => exact (ad_ok h).1.symm
    refine ⟨hA, fun T x g h1 h2 h3 => ?_⟩
    obtain ⟨k, rfl⟩ : ∃ k, g = k + 1 := ⟨g - 1, by omega⟩
    have hR := hA T (AW.getW ts x 0) k h1 h2 (by omega)
    have hge := rx_ge (tS := tS) (tB := tB) (ts := ts) k false T (AW.getW ts x 0)
    unfold rx
    rw [if_neg (show ¬ 120 < T.length by omega)]
    generalize rx tS tB ts k false T (AW.getW ts x 0) = R at *
    cases hW : wrt tS tB ts (f + 1) false T (AW.getW ts x 0) with
    | error E =>
      rw [hW] at hR
      obtain ⟨U, rfl⟩ := hR
      have hE := wrt_err _ _ _ _ _ (by omega) h1 hW
      simp only
      split
      · rw [rx_long k true _ _ (by simp only [List.length_append]; omega)]
        exact ⟨U ++ [32], by rw [List.append_assoc]⟩
      · unfold tl_
        split
        · exact ⟨U ++ [41], by rw [List.append_assoc]⟩
        · exact ⟨U ++ [32, 46, 32] ++ sg tS tB ts (AW.getW ts x 1) ++ [41], by simp only [List.append_assoc]⟩
    | ok T2 =>
      rw [hW] at hR
      have hR2 : R = T2 := hR
      obtain ⟨l2, g2⟩ := wr_len hW
      simp only
      by_cases hp : prB ts (AW.getW ts x 1) = true
      · rw [if_pos hp]
        conv => lhs; unfold wrt
        rw [if_pos hp, if_pos rfl, hR2]
        cases h : ad T2 [32] with
        | error E =>
          obtain ⟨e1, e2⟩ := ad_err h
          rw [← e1, rx_long k true E _ e2]
          exact ⟨[], by rw [List.append_nil]⟩
        | ok T3 =>
          obtain ⟨e1, e2, e3⟩ := ad_ok h
          simp only [List.length_cons, List.length_nil] at e3
          rw [← e1]
          exact ihB T3 (AW.getW ts x 1) k e2 (by omega) (by omega)
      · rw [if_neg hp]
        exact rel_tail f T2 _ (by simpa using hp) R hR2
theorem rx_cut (x : Int) : cutL (rx tS tB ts 243 false [] x) = cutX (wrt tS tB ts 122 false [] x) := by
  have h := (rx_any (tS := tS) (tB := tB) (ts := ts) 122).1 [] x 243 (by simp) (by simp) (by simp)
  cases hW : wrt tS tB ts 122 false [] x with
  | ok R0 =>
    rw [hW] at h
    have h2 : rx tS tB ts 243 false [] x = R0 := h
    rw [h2]
    have := (wr_len hW).1
    unfold cutL cutX
    rw [if_pos this]
  | error E =>
    rw [hW] at h
    obtain ⟨U, h2⟩ := h
    have hE := wrt_err _ _ _ _ _ (by simp) (by simp) hW
    rw [h2]
    unfold cutL cutX
    rw [if_neg (by rw [List.length_append]; omega), List.take_append_of_le_length (by omega)]
end
end SX
end Go.Proofs.YtbglcdjimipeeaaGreatDoor

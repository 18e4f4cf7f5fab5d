/-
  P5.2's law of joined texts. No condition.
-/
import Derived.Test.YtbglcdjimipeeaaDoorLexLaws2
namespace Go.Proofs.YtbglcdjimipeeaaDoor
open Go.RowKit
namespace LX
theorem lexL_errpos : ∀ (n : Nat) (l : List UInt8) (p : Nat) (out : List Tk) (q : Nat) (e : Int), l.length ≤ n → lexL l p out = .error (q, e) → q ≤ p + l.length := by
  intro n
  induction n with
  | zero =>
    intro l p out q e h hl
    have : l = [] := List.eq_nil_of_length_eq_zero (by omega)
    subst this
    cases hl
  | succ n ih =>
    intro l p out q e h hl
    cases l with
    | nil => cases hl
    | cons c r =>
      rw [lexL_step] at hl
      simp only [List.length_cons] at h ⊢
      cases hs : step (c :: r) with
      | err e => rw [hs] at hl; cases hl; omega
      | skip k =>
        obtain ⟨h1, h2⟩ := adv_le hs (by intro e he; cases he)
        simp only [adv] at h1 h2
        rw [hs] at hl
        have := ih _ _ _ _ _ (by rw [List.length_drop, List.length_cons]; omega) hl
        rw [List.length_drop, List.length_cons] at this; omega
      | tok kd n s k =>
        obtain ⟨h1, h2⟩ := adv_le hs (by intro e he; cases he)
        simp only [adv] at h1 h2
        rw [hs] at hl
        have := ih _ _ _ _ _ (by rw [List.length_drop, List.length_cons]; omega) hl
        rw [List.length_drop, List.length_cons] at this; omega
theorem lexL_at : ∀ (n : Nat) (l : List UInt8) (p : Nat) (out ts : List Tk), l.length ≤ n → (∀ t ∈ out, 0 ≤ t.at_ ∧ t.at_ < p) → lexL l p out = .ok ts → ∀ t ∈ ts, 0 ≤ t.at_ ∧ t.at_ < (p + l.length : Nat) := by
  intro n
  induction n with
  | zero =>
    intro l p out ts h ho hl
    have : l = [] := List.eq_nil_of_length_eq_zero (by omega)
    subst this
    cases hl
    simpa using ho
  | succ n ih =>
    intro l p out ts h ho hl
    cases l with
    | nil => cases hl; simpa using ho
    | cons c r =>
      rw [lexL_step] at hl
      simp only [List.length_cons] at h ⊢
      cases hs : step (c :: r) with
      | err e => rw [hs] at hl; cases hl
      | skip k =>
        obtain ⟨h1, h2⟩ := adv_le hs (by intro e he; cases he)
        simp only [adv] at h1 h2
        rw [hs] at hl
        intro t ht
        have := ih _ _ _ _ (by rw [List.length_drop, List.length_cons]; omega) (fun t ht => by have := ho t ht; omega) hl t ht
        rw [List.length_drop, List.length_cons] at this; omega
      | tok kd n s k =>
        obtain ⟨h1, h2⟩ := adv_le hs (by intro e he; cases he)
        simp only [adv] at h1 h2
        rw [hs] at hl
        intro t ht
        have := ih _ _ _ _ (by rw [List.length_drop, List.length_cons]; omega) (fun t ht => by
          rcases List.mem_append.1 ht with ht | ht
          · have := ho t ht; omega
          · have : t = ⟨kd, p, n, s⟩ := by simpa using ht
            subst this
            exact ⟨by simp, by simp; omega⟩) hl t ht
        rw [List.length_drop, List.length_cons] at this; omega
theorem lex_at {s : ByteArray} {ts : List Tk} (h : lex s = .ok ts) : ∀ t ∈ ts, 0 ≤ t.at_ ∧ t.at_ < 4000 := by
  intro t ht
  have h2 := (lex_len h).2
  rw [lex_small h2] at h
  have := lexL_at _ _ _ _ _ (Nat.le_refl _) (by simp) h t ht
  rw [size_bts] at this; omega
theorem lex_errpos {s : ByteArray} {p : Nat} {e : Int} (h : lex s = .error (p, e)) : p ≤ s.size := by
  unfold lex at h
  split at h
  · cases h; omega
  · have := lexL_errpos _ _ _ _ _ _ (Nat.le_refl _) h
    rw [size_bts] at this; omega
theorem bts_append (a b : ByteArray) : bts (a ++ b) = bts a ++ bts b := by
  unfold bts
  rw [ByteArray.data_append, Array.toList_append]
theorem size_append (a b : ByteArray) : (a ++ b).size = a.size + b.size := by
  rw [← size_bts, bts_append, List.length_append, size_bts, size_bts]
theorem join_facts (a b y : ByteArray) (ha : a.size ≤ 500) (hb : b.size ≤ 500) (hy : a ++ ⟨#[10]⟩ ++ b = y) :
    (∀ p e, lex a = .error (p, e) → lex y = .error (p, e)) ∧
    (∀ ta, lex a = .ok ta → (∀ q e, lex b = .error (q, e) → lex y = .error (q + (a.size + 1), e)) ∧ ∀ tb, lex b = .ok tb → lex y = .ok (ta ++ tb.map (shiftT (a.size + 1)))) := by
  have hby : bts y = bts a ++ 10 :: bts b := by
    rw [← hy, bts_append, bts_append, List.append_assoc]; rfl
  have hys : y.size ≤ 4000 := by
    rw [← size_bts, hby, List.length_append, List.length_cons, size_bts, size_bts]; omega
  rw [lex_small (show a.size ≤ 4000 by omega), lex_small (show b.size ≤ 4000 by omega), lex_small hys, hby]
  rw [lexL_nl _ _ _ _ _ (Nat.le_refl _)]
  refine ⟨fun p e h => by rw [h], fun ta h => ?_⟩
  rw [h]
  have hsh := lexL_shift (a.size + 1) ta _ (bts b) 0 [] (Nat.le_refl _)
  rw [List.map_nil, List.append_nil] at hsh
  have e0 : 0 + (bts a).length + 1 = 0 + (a.size + 1) := by rw [size_bts]; omega
  simp only [e0, hsh]
  exact ⟨fun q e h2 => by rw [h2], fun tb h2 => by rw [h2]⟩
end LX
namespace LW
open LX
theorem tks_one (ts : List Tk) : ∀ u ∈ tks ts, u.oneCell' = true := by
  intro u hu
  unfold tks at hu
  obtain ⟨t, _, h⟩ := List.mem_flatMap.1 hu
  exact cellsT_one t u h
theorem call_at {s t : ByteArray} {w : World} {Q : Ending → World → Prop} (h : s = t) (H : Calls Tryd.prog 8 #[.string s] w Q) : Calls Tryd.prog 8 #[.string t] w Q := h ▸ H
end LW
end Go.Proofs.YtbglcdjimipeeaaDoor

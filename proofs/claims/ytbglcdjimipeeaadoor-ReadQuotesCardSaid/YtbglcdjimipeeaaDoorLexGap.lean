/-
  Layer 5 in plain words, besides: how many bytes a text's blanks and remarks have (gap), and what comes behind them. No condition.
-/
import Derived.Test.YtbglcdjimipeeaaDoorLexRef6
import Derived.Laws.RangeAny
namespace Go.Proofs.YtbglcdjimipeeaaDoor
open Go.RowKit
namespace LX
/-- How many bytes of blanks and remarks a text begins with; c: within a remark? -/
def gapF : Bool → List UInt8 → Nat
  | _, [] => 0
  | c, b :: r => if b = 10 then 1 + gapF false r else if b = 59 then 1 + gapF true r else if c = false ∧ b ≠ 32 ∧ b ≠ 9 then 0 else 1 + gapF c r
theorem gapF_nl (c : Bool) (r : List UInt8) : gapF c (10 :: r) = 1 + gapF false r := by simp [gapF]
theorem gapF_note (c : Bool) (r : List UInt8) : gapF c (59 :: r) = 1 + gapF true r := by simp [gapF]
theorem gapF_blank (c : Bool) {b : UInt8} (r : List UInt8) (h : b = 32 ∨ b = 9) : gapF c (b :: r) = 1 + gapF c r := by
  rcases h with rfl | rfl <;> simp [gapF]
theorem gapF_in {b : UInt8} (r : List UInt8) (h1 : b ≠ 10) (h2 : b ≠ 59) : gapF true (b :: r) = 1 + gapF true r := by simp [gapF, h1, h2]
theorem gapF_end {b : UInt8} (r : List UInt8) (h1 : b ≠ 10) (h2 : b ≠ 59) (h3 : b ≠ 32) (h4 : b ≠ 9) : gapF false (b :: r) = 0 := by simp [gapF, h1, h2, h3, h4]
theorem gapF_le (c : Bool) (l : List UInt8) : gapF c l ≤ l.length := by
  induction l generalizing c with
  | nil => simp [gapF]
  | cons b r ih =>
    simp only [gapF, List.length_cons]
    have h1 := ih false; have h2 := ih true; have h3 := ih c
    split
    · omega
    · split
      · omega
      · split <;> omega
/-- A remark goes on to its newline. -/
theorem gapF_true (l : List UInt8) : gapF true l = (note l).length + gapF false (l.drop (note l).length) := by
  induction l with
  | nil => rfl
  | cons b r ih =>
    by_cases h : b = 10
    · subst h
      have e : note (10 :: r) = [] := by simp [note]
      rw [e, gapF_nl]; simp [gapF_nl]
    · have e : note (b :: r) = b :: note r := by simp [note, h]
      rw [e, List.length_cons, List.drop_succ_cons]
      by_cases h2 : b = 59
      · subst h2; rw [gapF_note, ih]; omega
      · rw [gapF_in r h h2, ih]; omega
theorem gapF_hi : ∀ (k : Nat) (l : List UInt8), (∀ j, j < k → ∃ x, l[j]? = some x ∧ 128 ≤ x.toNat) → gapF true l = k + gapF true (l.drop k) := by
  intro k
  induction k with
  | zero => intro l _; simp
  | succ k ih =>
    intro l h
    obtain ⟨x, hx, h128⟩ := h 0 (by omega)
    cases l with
    | nil => simp at hx
    | cons b r =>
      have hb : b = x := by simpa using hx
      subst hb
      have n1 : b ≠ 10 := by rintro rfl; exact absurd h128 (by decide)
      have n2 : b ≠ 59 := by rintro rfl; exact absurd h128 (by decide)
      rw [gapF_in r n1 n2, ih r (fun j hj => h (j + 1) (by omega)), List.drop_succ_cons]; omega
/-- Blanks and remarks ahead of a text's rest change nothing but the place. -/
theorem lexL_gap : ∀ (f : Nat) (l : List UInt8) (a : Nat) (out : List Tk), l.length ≤ f → lexL l a out = lexL (l.drop (gapF false l)) (a + gapF false l) out := by
  intro f
  induction f with
  | zero =>
    intro l a out h
    have : l = [] := List.eq_nil_of_length_eq_zero (by omega)
    subst this; rfl
  | succ f ih =>
    intro l a out h
    cases l with
    | nil => rfl
    | cons b r =>
      rw [List.length_cons] at h
      by_cases h1 : blank b = true
      · have e : gapF false (b :: r) = 1 + gapF false r := by
          simp only [blank, Bool.or_eq_true, beq_iff_eq] at h1
          rcases h1 with (h1 | h1) | h1
          · exact gapF_blank _ r (.inl h1)
          · exact gapF_blank _ r (.inr h1)
          · subst h1; exact gapF_nl _ r
        rw [lexL_step, step_blank h1, e]
        simp only
        rw [Nat.add_comm 1, List.drop_succ_cons, List.drop_succ_cons, List.drop_zero, ih r _ _ (by omega)]
        congr 1; omega
      · have h1 : blank b = false := by simpa using h1
        by_cases h2 : b = 59
        · have e : gapF false (b :: r) = (note (b :: r)).length + gapF false ((b :: r).drop (note (b :: r)).length) := by
            have := gapF_true (b :: r)
            rw [h2, gapF_note] at this
            rw [h2, gapF_note]; exact this
          have hn0 : 0 < (note (b :: r)).length := by rw [h2]; simp [note]
          rw [lexL_step, step_note h1 h2, e]
          simp only
          rw [ih _ _ _ (by rw [List.length_drop, List.length_cons]; omega), List.drop_drop, Nat.add_assoc]
        · obtain ⟨b1, b2, b3⟩ := blank_no h1
          rw [gapF_end r b3 h2 b1 b2]; rfl
/-- What stands behind blanks and remarks is none. -/
theorem gapF_stop : ∀ (l : List UInt8) (c : Bool), gapF false (l.drop (gapF c l)) = 0 := by
  intro l
  induction l with
  | nil => intro c; rfl
  | cons b r ih =>
    intro c
    by_cases h1 : b = 10
    · subst h1; rw [gapF_nl, Nat.add_comm 1, List.drop_succ_cons]; exact ih false
    · by_cases h2 : b = 59
      · subst h2; rw [gapF_note, Nat.add_comm 1, List.drop_succ_cons]; exact ih true
      · by_cases h3 : c = false ∧ b ≠ 32 ∧ b ≠ 9
        · obtain ⟨rfl, h3, h4⟩ := h3
          rw [gapF_end r h1 h2 h3 h4, List.drop_zero, gapF_end r h1 h2 h3 h4]
        · have e : gapF c (b :: r) = 1 + gapF c r := by simp only [gapF, if_neg h1, if_neg h2, if_neg h3]
          rw [e, Nat.add_comm 1, List.drop_succ_cons]; exact ih c
theorem gapF_head {b : UInt8} {r : List UInt8} (h : gapF false (b :: r) = 0) : blank b = false ∧ b ≠ 59 := by
  by_cases h1 : b = 10
  · subst h1; rw [gapF_nl] at h; omega
  · by_cases h2 : b = 59
    · subst h2; rw [gapF_note] at h; omega
    · by_cases h3 : b = 32 ∨ b = 9
      · rw [gapF_blank _ r h3] at h; omega
      · refine ⟨?_, h2⟩
        simp only [not_or] at h3
        simp [blank, h1, h3.1, h3.2]
end LX
namespace LW
open LX
/-- The bytes of one that is above the first 128 are all above. -/
theorem decode_bytes (s : ByteArray) (i : Nat) (h : i < s.size) (ha : 128 ≤ (s[i]'h).toNat) : ∀ j, j < (Utf8.decode s i).2 → ∃ hj : i + j < s.size, 128 ≤ (s[i + j]'hj).toNat := by
  have g (k : Nat) (hk : i + k < s.size) : s.get! (i + k) = s[i + k]'hk := get_at s (i + k) hk
  have hn : ¬ (s.get! (i + 0)).toNat < 0x80 := by rw [g 0 (by omega)]; exact Nat.not_lt.2 ha
  have c0 : ∃ hj : i + 0 < s.size, 128 ≤ (s[i + 0]'hj).toNat := ⟨h, ha⟩
  have ck (k : Nat) (hc : (decide (i + k < s.size) && ((s.get! (i + k)).toNat / 64 == 2)) = true) : ∃ hj : i + k < s.size, 128 ≤ (s[i + k]'hj).toNat := by
    rw [Bool.and_eq_true, decide_eq_true_eq, beq_iff_eq] at hc
    refine ⟨hc.1, ?_⟩
    have := hc.2
    rw [g k hc.1] at this
    omega
  intro j hj
  unfold Utf8.decode at hj
  simp only [if_neg hn] at hj
  have one (hj : j < 1) : ∃ hj : i + j < s.size, 128 ≤ (s[i + j]'hj).toNat := by
    obtain rfl : j = 0 := by omega
    exact c0
  split at hj
  · rename_i hc
    rw [Bool.and_eq_true] at hc
    split at hj
    · rcases (show j = 0 ∨ j = 1 by simp only at hj; omega) with rfl | rfl
      · exact c0
      · exact ck 1 hc.2
    · exact one hj
  · split at hj
    · rename_i hc
      rw [Bool.and_eq_true, Bool.and_eq_true] at hc
      split at hj
      · rcases (show j = 0 ∨ j = 1 ∨ j = 2 by simp only at hj; omega) with rfl | rfl | rfl
        · exact c0
        · exact ck 1 hc.1.2
        · exact ck 2 hc.2
      · exact one hj
    · split at hj
      · rename_i hc
        rw [Bool.and_eq_true, Bool.and_eq_true, Bool.and_eq_true] at hc
        split at hj
        · rcases (show j = 0 ∨ j = 1 ∨ j = 2 ∨ j = 3 by simp only at hj; omega) with rfl | rfl | rfl | rfl
          · exact c0
          · exact ck 1 hc.1.1.2
          · exact ck 2 hc.1.2
          · exact ck 3 hc.2
        · exact one hj
      · exact one hj
end LW
end Go.Proofs.YtbglcdjimipeeaaDoor

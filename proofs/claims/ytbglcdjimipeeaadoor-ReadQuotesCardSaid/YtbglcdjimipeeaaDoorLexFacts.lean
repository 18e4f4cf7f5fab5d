/-
  Layer 5 in plain words: what a newline, a blank, a shift do to a text's tokens. No condition.
-/
import Derived.Test.YtbglcdjimipeeaaDoorLexPlain
namespace Go.Proofs.YtbglcdjimipeeaaDoor
namespace LX
theorem tw_app (p : UInt8 → Bool) (l b : List UInt8) (x : UInt8) (h : p x = false) : (l ++ x :: b).takeWhile p = l.takeWhile p := by
  induction l with
  | nil => simp [h]
  | cons c l ih =>
    by_cases hc : p c = true
    · simp only [List.cons_append, List.takeWhile_cons, hc, if_true, ih]
    · simp only [List.cons_append, List.takeWhile_cons, hc, Bool.false_eq_true, if_false]
theorem word_app (l b : List UInt8) (x : UInt8) (h : let_ x = false) : word (l ++ x :: b) = word l := tw_app _ l b x h
theorem note_app (l b : List UInt8) : note (l ++ 10 :: b) = note l := tw_app _ l b 10 (by decide)
theorem step_app {c : UInt8} {r b : List UInt8} {x : UInt8} (h : let_ x = false) (hc : c ≠ 59 ∨ x = 10) : step ((c :: r) ++ x :: b) = step (c :: r) := by
  have e1 : word (r ++ x :: b) = word r := word_app r b x h
  have e2 : word (c :: (r ++ x :: b)) = word (c :: r) := word_app (c :: r) b x h
  unfold step
  simp only [List.cons_append, e1, e2]
  by_cases h59 : c = 59
  · rcases hc with hc | rfl
    · exact absurd h59 hc
    · have e3 : note (c :: (r ++ 10 :: b)) = note (c :: r) := note_app (c :: r) b
      rw [e3]
  · simp only [if_neg h59]
theorem adv_le {c : UInt8} {r : List UInt8} {s : St} (h : step (c :: r) = s) (hs : ∀ e, s ≠ .err e) : 0 < adv s ∧ adv s ≤ r.length + 1 := by
  rcases step_adv c r with ⟨e, he⟩ | h2
  · exact absurd (h.symm.trans he) (hs e)
  · rw [h] at h2; simpa using h2
theorem step_nl (b : List UInt8) : step (10 :: b) = .skip 1 := by unfold step; simp only []; rw [if_pos (by decide)]
theorem tw_len (p : UInt8 → Bool) (l m : List UInt8) : (l.takeWhile p).length ≤ ((l ++ m).takeWhile p).length := by
  induction l with
  | nil => simp
  | cons c l ih =>
    by_cases hc : p c = true
    · simp only [List.cons_append, List.takeWhile_cons, hc, if_true, List.length_cons]; omega
    · simp only [List.cons_append, List.takeWhile_cons, hc, Bool.false_eq_true, if_false]; exact Nat.le_refl _
theorem tw_stop (p : UInt8 → Bool) (l m : List UInt8) (h : (l.takeWhile p).length < l.length) : (l ++ m).takeWhile p = l.takeWhile p := by
  induction l with
  | nil => simp at h
  | cons c l ih =>
    by_cases hc : p c = true
    · simp only [List.cons_append, List.takeWhile_cons, hc, if_true, List.length_cons] at h ⊢; rw [ih (by omega)]
    · simp only [List.cons_append, List.takeWhile_cons, hc, Bool.false_eq_true, if_false]
/-- A newline between two texts. -/
theorem lexL_nl (b : List UInt8) : ∀ (n : Nat) (a : List UInt8) (p : Nat) (out : List Tk), a.length ≤ n →
    lexL (a ++ 10 :: b) p out = match lexL a p out with | .error e => .error e | .ok ts => lexL b (p + a.length + 1) ts := by
  intro n
  induction n with
  | zero =>
    intro a p out h
    have : a = [] := List.eq_nil_of_length_eq_zero (by omega)
    subst this
    rw [List.nil_append, lexL_step, lexL_nil, step_nl]
    simp
  | succ n ih =>
    intro a p out h
    cases a with
    | nil =>
      rw [List.nil_append, lexL_step, lexL_nil, step_nl]
      simp
    | cons c r =>
      rw [List.cons_append, lexL_step, lexL_step, ← List.cons_append, step_app (by decide) (.inr rfl)]
      simp only [List.length_cons] at h
      cases hs : step (c :: r) with
      | err e => rfl
      | skip k =>
        obtain ⟨h1, h2⟩ := adv_le hs (by intro e he; cases he)
        simp only [adv] at h1 h2
        simp only
        rw [List.drop_append_of_le_length (by simpa using h2), ih _ _ _ (by rw [List.length_drop, List.length_cons]; omega)]
        rw [List.length_drop, List.length_cons, show p + k + (r.length + 1 - k) = p + (r.length + 1) from by omega]
      | tok kd n s k =>
        obtain ⟨h1, h2⟩ := adv_le hs (by intro e he; cases he)
        simp only [adv] at h1 h2
        simp only
        rw [List.drop_append_of_le_length (by simpa using h2), ih _ _ _ (by rw [List.length_drop, List.length_cons]; omega)]
        rw [List.length_drop, List.length_cons, show p + k + (r.length + 1 - k) = p + (r.length + 1) from by omega]
/-- A token so much further on. -/
def shiftT (d : Nat) (t : Tk) : Tk := ⟨t.kind, t.at_ + d, t.n, t.s⟩
theorem lexL_shift (d : Nat) (pre : List Tk) : ∀ (n : Nat) (l : List UInt8) (p : Nat) (out : List Tk), l.length ≤ n →
    lexL l (p + d) (pre ++ out.map (shiftT d)) = match lexL l p out with | .error (q, e) => .error (q + d, e) | .ok ts => .ok (pre ++ ts.map (shiftT d)) := by
  intro n
  induction n with
  | zero =>
    intro l p out h
    have : l = [] := List.eq_nil_of_length_eq_zero (by omega)
    subst this
    rfl
  | succ n ih =>
    intro l p out h
    cases l with
    | nil => rfl
    | cons c r =>
      rw [lexL_step, lexL_step]
      simp only [List.length_cons] at h
      cases hs : step (c :: r) with
      | err e => rfl
      | skip k =>
        obtain ⟨h1, h2⟩ := adv_le hs (by intro e he; cases he)
        simp only [adv] at h1 h2
        simp only
        rw [show p + d + k = p + k + d from by omega]
        exact ih _ _ _ (by rw [List.length_drop, List.length_cons]; omega)
      | tok kd n s k =>
        obtain ⟨h1, h2⟩ := adv_le hs (by intro e he; cases he)
        simp only [adv] at h1 h2
        simp only
        rw [show p + d + k = p + k + d from by omega, ← ih _ _ _ (by rw [List.length_drop, List.length_cons]; omega)]
        congr 1
        rw [List.map_append, ← List.append_assoc]
        simp [shiftT]
/-- What a text's rest adds. -/
theorem lexL_more : ∀ (n : Nat) (l : List UInt8) (p : Nat) (out ts : List Tk), l.length ≤ n → lexL l p out = .ok ts → ∃ more, ts = out ++ more ∧ ∀ t ∈ more, (p : Int) ≤ t.at_ := by
  intro n
  induction n with
  | zero =>
    intro l p out ts h hl
    have : l = [] := List.eq_nil_of_length_eq_zero (by omega)
    subst this
    cases hl
    exact ⟨[], by simp, by simp⟩
  | succ n ih =>
    intro l p out ts h hl
    cases l with
    | nil => cases hl; exact ⟨[], by simp, by simp⟩
    | cons c r =>
      rw [lexL_step] at hl
      simp only [List.length_cons] at h
      cases hs : step (c :: r) with
      | err e => rw [hs] at hl; cases hl
      | skip k =>
        obtain ⟨h1, h2⟩ := adv_le hs (by intro e he; cases he)
        simp only [adv] at h1 h2
        rw [hs] at hl
        obtain ⟨more, e, hm⟩ := ih _ _ _ _ (by rw [List.length_drop, List.length_cons]; omega) hl
        exact ⟨more, e, fun t ht => by have := hm t ht; omega⟩
      | tok kd n s k =>
        obtain ⟨h1, h2⟩ := adv_le hs (by intro e he; cases he)
        simp only [adv] at h1 h2
        rw [hs] at hl
        obtain ⟨more, e, hm⟩ := ih _ _ _ _ (by rw [List.length_drop, List.length_cons]; omega) hl
        refine ⟨⟨kd, p, n, s⟩ :: more, by rw [e]; simp, ?_⟩
        intro t ht
        rcases List.mem_cons.1 ht with rfl | ht
        · exact Int.le_refl _
        · have := hm t ht; omega
/-- A text that goes on behind a blank. -/
theorem lexL_cut (b : List UInt8) (x : UInt8) (hx : x = 32 ∨ x = 10) : ∀ (n : Nat) (a : List UInt8) (p : Nat) (out : List Tk), a.length ≤ n →
    match lexL a p out with | .error e => lexL (a ++ x :: b) p out = .error e | .ok ts => ∃ l q, lexL (a ++ x :: b) p out = lexL l q ts ∧ p + a.length ≤ q := by
  have hlx : let_ x = false := by rcases hx with rfl | rfl <;> decide
  intro n
  induction n with
  | zero =>
    intro a p out h
    have : a = [] := List.eq_nil_of_length_eq_zero (by omega)
    subst this
    exact ⟨x :: b, p, rfl, Nat.le_refl _⟩
  | succ n ih =>
    intro a p out h
    cases a with
    | nil => exact ⟨x :: b, p, rfl, Nat.le_refl _⟩
    | cons c r =>
      simp only [List.length_cons] at h
      by_cases hc : c ≠ 59 ∨ x = 10
      · rw [List.cons_append, lexL_step, lexL_step, ← List.cons_append, step_app hlx hc]
        cases hs : step (c :: r) with
        | err e => rfl
        | skip k =>
          obtain ⟨h1, h2⟩ := adv_le hs (by intro e he; cases he)
          simp only [adv] at h1 h2
          simp only
          rw [List.drop_append_of_le_length (by simpa using h2)]
          have := ih ((c :: r).drop k) (p + k) out (by rw [List.length_drop, List.length_cons]; omega)
          rw [List.length_drop, List.length_cons, show p + k + (r.length + 1 - k) = p + (r.length + 1) from by omega] at this
          exact this
        | tok kd n s k =>
          obtain ⟨h1, h2⟩ := adv_le hs (by intro e he; cases he)
          simp only [adv] at h1 h2
          simp only
          rw [List.drop_append_of_le_length (by simpa using h2)]
          have := ih ((c :: r).drop k) (p + k) (out ++ [⟨kd, p, n, s⟩]) (by rw [List.length_drop, List.length_cons]; omega)
          rw [List.length_drop, List.length_cons, show p + k + (r.length + 1 - k) = p + (r.length + 1) from by omega] at this
          exact this
      · have h59 : c = 59 := by simpa using fun h => hc (.inl h)
        subst h59
        have hs (r : List UInt8) : step (59 :: r) = .skip (note (59 :: r)).length := by unfold step; simp only []; rw [if_neg (by decide), if_pos trivial]
        have hn := note_le (59 :: r)
        have hn0 : 0 < (note (59 :: r)).length := by simp [note]
        by_cases he : (note (59 :: r)).length = (59 :: r).length
        · rw [List.cons_append, lexL_step, lexL_step, hs, hs, ← List.cons_append]
          simp only
          rw [he, List.drop_length, lexL_nil]
          refine ⟨_, _, rfl, ?_⟩
          have : (note (59 :: r)).length ≤ (note (59 :: r ++ x :: b)).length := by
            unfold note
            exact tw_len _ _ _
          omega
        · have hno : note (59 :: r ++ x :: b) = note (59 :: r) := by
            unfold note at he ⊢
            exact tw_stop _ _ _ (by have := note_le (59 :: r); unfold note at this; omega)
          rw [List.cons_append, lexL_step, lexL_step, hs, hs, ← List.cons_append, hno]
          simp only
          rw [List.drop_append_of_le_length hn]
          simp only [List.length_cons] at hn
          have := ih ((59 :: r).drop (note (59 :: r)).length) (p + (note (59 :: r)).length) out (by rw [List.length_drop, List.length_cons]; omega)
          rw [List.length_drop, List.length_cons, show p + (note (59 :: r)).length + (r.length + 1 - (note (59 :: r)).length) = p + (r.length + 1) from by omega] at this
          exact this
end LX
end Go.Proofs.YtbglcdjimipeeaaDoor

/-
  Plain facts for layer 1's WordApart: the words of one number as number, place, name and handle, and the marks, are all unlike, and each may be. No Go in sight; no condition.
-/
import Derived.Test.YtonjmebhiegbpaaWordPlain6
import Derived.Maps.Views
namespace Go.Proofs.Ytonjmebhiegbpaa
namespace WP
open Go.RowKit
def W1 (a : Int) : Nat → List Int
  | 0 => []
  | j + 1 => W1 a j ++ (if ofB (kAt j) a then [ofW (kAt j) a] else [])
def W2 (a : Int) : List Int := W1 a 3 ++ (if inR a then [intW a] else [])
def W3 (a : Int) : List Int := W2 a ++ [2, 18, 10, 26]
theorem W1_yes (a : Int) (j : Nat) (h : ofB (kAt j) a = true) : W1 a (j + 1) = W1 a j ++ [ofW (kAt j) a] := by simp [W1, h]
theorem W1_no (a : Int) (j : Nat) (h : ofB (kAt j) a = false) : W1 a (j + 1) = W1 a j := by simp [W1, h]
theorem W2_yes (a : Int) (h : inR a = true) : W2 a = W1 a 3 ++ [intW a] := by simp [W2, h]
theorem W2_no (a : Int) (h : inR a = false) : W2 a = W1 a 3 := by simp [W2, h]
theorem W1_len (a : Int) (j : Nat) : (W1 a j).length ≤ j := by
  induction j with
  | zero => simp [W1]
  | succ j ih => simp only [W1, List.length_append]; split <;> simp <;> omega
theorem W2_len (a : Int) : (W2 a).length ≤ 4 := by
  have := W1_len a 3
  unfold W2; rw [List.length_append]; split <;> simp <;> omega
theorem W3_len (a : Int) : (W3 a).length = (W2 a).length + 4 := by simp [W3]
theorem W3_forms (a : Int) : (ofB 1 a = true ∧ inR a = true ∧ W3 a = [a * 8 + 1, a * 8 + 3, a * 8 + 4, intW a, 2, 18, 10, 26]) ∨
    (inR a = true ∧ W3 a = [intW a, 2, 18, 10, 26]) ∨ (W3 a = [2, 18, 10, 26]) := by
  by_cases h : 0 ≤ a ∧ a < 1099511627776
  · have h1 : ofB 1 a = true := by rw [ofB_iff]; omega
    have h3 : ofB 3 a = true := by rw [ofB_iff]; omega
    have h4 : ofB 4 a = true := by rw [ofB_iff]; omega
    have hr : inR a = true := by rw [inR_iff]; omega
    exact .inl ⟨h1, hr, by simp [W3, W2, W1, kAt, h1, h3, h4, hr, ofW]⟩
  · have h1 : ofB 1 a = false := by rw [← Bool.not_eq_true, ofB_iff]; omega
    have h3 : ofB 3 a = false := by rw [← Bool.not_eq_true, ofB_iff]; omega
    have h4 : ofB 4 a = false := by rw [← Bool.not_eq_true, ofB_iff]; omega
    cases hr : inR a
    · exact .inr (.inr (by simp [W3, W2, W1, kAt, h1, h3, h4, hr]))
    · exact .inr (.inl ⟨rfl, by simp [W3, W2, W1, kAt, h1, h3, h4, hr]⟩)
theorem intW_mod (a : Int) (h : inR a = true) : intW a % 8 = 0 := by
  simp only [intW, h, if_true]; exact (sgn_encW a h).2
theorem W3_nodup (a : Int) : (W3 a).Nodup := by
  rcases W3_forms a with ⟨_, hr, e⟩ | ⟨hr, e⟩ | e
  · have := intW_mod a hr
    rw [e]; simp only [List.nodup_cons, List.mem_cons, List.not_mem_nil, or_false, not_or, List.nodup_nil, and_true, not_false_eq_true]; omega
  · have := intW_mod a hr
    rw [e]; simp only [List.nodup_cons, List.mem_cons, List.not_mem_nil, or_false, not_or, List.nodup_nil, and_true, not_false_eq_true]; omega
  · rw [e]; decide
theorem W3_may (a : Int) : ∀ x ∈ W3 a, mayB x = true := by
  have m2 : mayB 2 = true := by decide
  have m18 : mayB 18 = true := by decide
  have m10 : mayB 10 = true := by decide
  have m26 : mayB 26 = true := by decide
  rcases W3_forms a with ⟨ho, hr, e⟩ | ⟨hr, e⟩ | e
  · have hi : mayB (intW a) = true := may_yes _ (toInt_intW a hr).1
    have hk := ((ofB_iff 1 a).1 ho).2
    have o1 := (of_ok 1 a (by rw [ofB_iff]; omega)).2.2.2
    have o3 := (of_ok 3 a (by rw [ofB_iff]; omega)).2.2.2
    have o4 := (of_ok 4 a (by rw [ofB_iff]; omega)).2.2.2
    have f1 : ofW 1 a = a * 8 + 1 := by unfold ofW; rw [if_pos (by rw [ofB_iff]; omega)]
    have f3 : ofW 3 a = a * 8 + 3 := by unfold ofW; rw [if_pos (by rw [ofB_iff]; omega)]
    have f4 : ofW 4 a = a * 8 + 4 := by unfold ofW; rw [if_pos (by rw [ofB_iff]; omega)]
    rw [f1] at o1; rw [f3] at o3; rw [f4] at o4
    rw [e]; intro x hx
    simp only [List.mem_cons, List.not_mem_nil, or_false] at hx
    rcases hx with rfl | rfl | rfl | rfl | rfl | rfl | rfl | rfl <;> assumption
  · have hi : mayB (intW a) = true := may_yes _ (toInt_intW a hr).1
    rw [e]; intro x hx
    simp only [List.mem_cons, List.not_mem_nil, or_false] at hx
    rcases hx with rfl | rfl | rfl | rfl | rfl <;> assumption
  · rw [e]; intro x hx
    simp only [List.mem_cons, List.not_mem_nil, or_false] at hx
    rcases hx with rfl | rfl | rfl | rfl <;> assumption
theorem W3_u (a : Int) : ∀ x ∈ W3 a, U x := by
  intro x hx
  have hm := W3_may a x hx
  by_cases h : x = 2 ∨ x = 10 ∨ x = 18 ∨ x = 26
  · unfold U; omega
  · rcases W3_forms a with ⟨ho, hr, e⟩ | ⟨hr, e⟩ | e
    · have hk := ((ofB_iff 1 a).1 ho).2
      have hu := intW_u a
      rw [e] at hx; simp only [List.mem_cons, List.not_mem_nil, or_false] at hx
      rcases hx with rfl | rfl | rfl | rfl | rfl | rfl | rfl | rfl <;> first | exact hu | (unfold U; omega)
    · have hu := intW_u a
      rw [e] at hx; simp only [List.mem_cons, List.not_mem_nil, or_false] at hx
      rcases hx with rfl | rfl | rfl | rfl | rfl <;> first | exact hu | (unfold U; omega)
    · rw [e] at hx; simp only [List.mem_cons, List.not_mem_nil, or_false] at hx
      omega
/-- two numbers in the range are one just if their words are -/
theorem int_apart (a b : Int) (ha : inR a = true) (hb : inR b = true) : (intW a == intW b) = (a == b) := by
  by_cases h : a = b
  · subst h; simp
  · have h1 : intW a ≠ intW b := by
      intro e
      have x := toInt_intW a ha
      have y := toInt_intW b hb
      rw [e, y.2] at x
      exact h x.2.symm
    rw [beq_eq_false_iff_ne.2 h1, beq_eq_false_iff_ne.2 h]
/-- the words as values -/
def vs (L : List Int) : List Value := L.map fun x => .int .u64 x
theorem vs_app (L M : List Int) : vs (L ++ M) = vs L ++ vs M := by simp [vs]
theorem vs_one (L : List Int) : ∀ u ∈ vs L, u.oneCell' = true := by
  intro u hu
  obtain ⟨x, _, rfl⟩ := List.mem_map.1 hu
  rfl
theorem vs_at (L : List Int) (j : Nat) (h : j < L.length) : (vs L)[j]? = some (.int .u64 (L.getD j 0)) := by
  simp [vs, h]
theorem getD_mem (L : List Int) (j : Nat) (h : j < L.length) : L.getD j 0 ∈ L := by
  simp [h]
/-- the set of the first j words, as a datum -/
def DM (L : List Int) : Nat → DataW Unit
  | 0 => .map []
  | j + 1 => (DM L j).put (.int .u64 (L.getD j 0)) (.lit (.bool true))
theorem DM_not (L : List Int) (i j : Nat) (hi : i < L.length) (hj : j ≤ i) (hn : L.Nodup) (z : DataW Unit) : (DM L j).atKey (.int .u64 (L.getD i 0)) z = z := by
  induction j with
  | zero => rfl
  | succ j ih =>
    have hne : (Lit.int .u64 (L.getD i 0)) ≠ .int .u64 (L.getD j 0) := by
      intro e
      injection e with _ e
      have hjl : j < L.length := by omega
      rw [List.getD_eq_getElem?_getD, List.getD_eq_getElem?_getD, List.getElem?_eq_getElem hi, List.getElem?_eq_getElem hjl] at e
      simp only [Option.getD_some] at e
      have hp := List.pairwise_iff_getElem.1 hn j i hjl hi (by omega)
      exact hp e.symm
    rw [DM, Maps.atKey_put_other hne]
    exact ih (by omega)
end WP
end Go.Proofs.Ytonjmebhiegbpaa

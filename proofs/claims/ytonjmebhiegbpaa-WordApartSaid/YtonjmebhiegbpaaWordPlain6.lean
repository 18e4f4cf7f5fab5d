/-
  Plain facts for layer 1's WordOne: a word that may be is one thing alone: how many things a word is. No Go in sight; the condition: a word lies in 64 bits.
-/
import Derived.Test.YtonjmebhiegbpaaWordPlain3
namespace Go.Proofs.Ytonjmebhiegbpaa
namespace WP
open Go.RowKit
def b2i (b : Bool) : Int := if b then 1 else 0
def kAt : Nat → Int
  | 0 => 1
  | 1 => 3
  | _ => 4
def mAt : Nat → Int
  | 0 => 2
  | 1 => 10
  | 2 => 18
  | _ => 26
def th1 (w : Int) : Nat → Int
  | 0 => b2i (toIntB w)
  | j + 1 => th1 w j + b2i (toB (kAt j) w)
def th2 (w : Int) : Nat → Int
  | 0 => th1 w 3
  | j + 1 => th2 w j + b2i (mAt j == w)
theorem b2i_bd (b : Bool) : 0 ≤ b2i b ∧ b2i b ≤ 1 := by unfold b2i; split <;> omega
theorem th1_bd (w : Int) (j : Nat) : 0 ≤ th1 w j ∧ th1 w j ≤ 1 + j := by
  induction j with
  | zero => exact ⟨(b2i_bd _).1, by have := (b2i_bd (toIntB w)).2; simp [th1]; omega⟩
  | succ j ih => have := b2i_bd (toB (kAt j) w); simp only [th1]; omega
theorem th2_bd (w : Int) (j : Nat) : 0 ≤ th2 w j ∧ th2 w j ≤ 4 + j := by
  induction j with
  | zero => have := th1_bd w 3; simp only [th2]; omega
  | succ j ih => have := b2i_bd (mAt j == w); simp only [th2]; omega
theorem th1_yes (w : Int) (j : Nat) (h : toB (kAt j) w = true) : th1 w j + 1 = th1 w (j + 1) := by simp [th1, b2i, h]
theorem th1_no (w : Int) (j : Nat) (h : toB (kAt j) w = false) : th1 w j = th1 w (j + 1) := by simp [th1, b2i, h]
theorem th2_yes (w : Int) (j : Nat) (h : (mAt j == w) = true) : th2 w j + 1 = th2 w (j + 1) := by simp only [th2, h, b2i, if_true]
theorem th2_no (w : Int) (j : Nat) (h : (mAt j == w) = false) : th2 w j = th2 w (j + 1) := by simp [th2, b2i, h]
theorem th_all (w : Int) : (th2 w 4 == 1) = mayB w ∧ th2 w 4 ≤ 1 := by
  have e : th2 w 4 = b2i (toIntB w) + b2i (toB 1 w) + b2i (toB 3 w) + b2i (toB 4 w) + b2i (2 == w) + b2i (10 == w) + b2i (18 == w) + b2i (26 == w) := rfl
  rw [e]
  by_cases hm : w = 2 ∨ w = 10 ∨ w = 18 ∨ w = 26
  · rcases hm with rfl | rfl | rfl | rfl <;> decide
  · have m1 : ((2 : Int) == w) = false := by rw [beq_eq_false_iff_ne]; omega
    have m2 : ((10 : Int) == w) = false := by rw [beq_eq_false_iff_ne]; omega
    have m3 : ((18 : Int) == w) = false := by rw [beq_eq_false_iff_ne]; omega
    have m4 : ((26 : Int) == w) = false := by rw [beq_eq_false_iff_ne]; omega
    have hr := may_rest w (by rw [beq_eq_false_iff_ne]; omega) (by rw [beq_eq_false_iff_ne]; omega) (by rw [beq_eq_false_iff_ne]; omega) (by rw [beq_eq_false_iff_ne]; omega)
    rw [hr, m1, m2, m3, m4]
    have z : b2i false = 0 := rfl
    have o : b2i true = 1 := rfl
    have ei : toIntB w = true → w % 8 = 0 := fun h => ((toIntB_iff w).1 h).1
    have e1 : toB 1 w = true → w % 8 = 1 := fun h => ((toB_iff 1 w).1 h).2.1
    have e3 : toB 3 w = true → w % 8 = 3 := fun h => ((toB_iff 3 w).1 h).2.1
    have e4 : toB 4 w = true → w % 8 = 4 := fun h => ((toB_iff 4 w).1 h).2.1
    cases h0 : toIntB w <;> cases h1 : toB 1 w <;> cases h3 : toB 3 w <;> cases h4 : toB 4 w <;> first | decide | (exfalso; first | (have a := ei h0; have b := e1 h1; omega) | (have a := ei h0; have b := e3 h3; omega) | (have a := ei h0; have b := e4 h4; omega) | (have a := e1 h1; have b := e3 h3; omega) | (have a := e1 h1; have b := e4 h4; omega) | (have a := e3 h3; have b := e4 h4; omega))
/-- what is asked of n once a kind is known -/
theorem of_ok (k n : Int) (h : ofB k n = true) : ofE k n = 0 ∧ toB k (ofW k n) = true ∧ toN k (ofW k n) = n ∧ mayB (ofW k n) = true := by
  have t := to_of k n h
  refine ⟨by simp [ofE, h], t.1, t.2, ?_⟩
  have hk := ((ofB_iff k n).1 h).1
  rcases hk with rfl | rfl | rfl <;> simp [mayB, t.1]
theorem of_no (k n : Int) (h : ofB k n = false) : ofE k n = 1 := by simp [ofE, h]
theorem to_ok (k w : Int) (hu : U w) (h : toB k w = true) : ofE k (toN k w) = 0 ∧ (ofW k (toN k w) != w) = false := by
  have t := of_to k w hu h
  exact ⟨by simp [ofE, t.1], by rw [t.2]; simp⟩
theorem int_ok (w : Int) (hu : U w) (h : toIntB w = true) : intE (toIntN w) = 0 ∧ (intW (toIntN w) != w) = false := by
  have t := intW_toInt w hu h
  exact ⟨t.2.2, by rw [t.2.1]; simp⟩
theorem int_back (n : Int) : intE n = 10 ∨ (intE n = 0 ∧ toIntB (intW n) = true ∧ toIntN (intW n) = n) := by
  cases h : inR n
  · exact .inl (by simp [intE, h])
  · exact .inr ⟨by simp [intE, h], (toInt_intW n h).1, (toInt_intW n h).2⟩
end WP
end Go.Proofs.Ytonjmebhiegbpaa

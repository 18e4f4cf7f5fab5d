/-
  Plain facts for layer 1's WordSigns: sizes and signs of a quotient and of its rest. No Go in sight; no condition.
-/
import Derived.Test.YtonjmebhiegbpaaWordPlain3
namespace Go.Proofs.Ytonjmebhiegbpaa
namespace WP
open Go.RowKit
theorem ab_ite (n : Int) : (if n < -n then -n else n) = ab n := by unfold ab; split <;> split <;> omega
theorem ab_tdiv (A B : Int) : ab (A.tdiv B) = ab A / ab B := by
  rw [ab_natAbs, ab_natAbs, ab_natAbs, Int.natAbs_tdiv]; rfl
theorem ab_tmod (A B : Int) (h : B ≠ 0) : ab (A.tmod B) < ab B := by
  rw [ab_natAbs, ab_natAbs, Int.natAbs_tmod]
  have hb : 0 < B.natAbs := by omega
  have := Nat.mod_lt A.natAbs hb
  omega
theorem tmod_sign (A B : Int) (h : A.tmod B ≠ 0) : decide (A.tmod B < 0) = decide (A < 0) := by
  rw [decide_eq_decide]
  by_cases ha : 0 ≤ A
  · have := Int.tmod_nonneg B ha; omega
  · have e : A.tmod B = -((-A).tmod B) := by rw [Int.neg_tmod]; omega
    have := Int.tmod_nonneg B (show 0 ≤ -A by omega); omega
theorem tdiv_sign (A B : Int) (h : A.tdiv B ≠ 0) : decide (A.tdiv B < 0) = !(decide (A < 0) == decide (B < 0)) := by
  have hA : A ≠ 0 := by rintro rfl; simp at h
  have hB : B ≠ 0 := by rintro rfl; simp at h
  by_cases ha : 0 ≤ A <;> by_cases hb : 0 ≤ B
  · have := Int.tdiv_nonneg ha hb
    simp [show ¬ A < 0 by omega, show ¬ B < 0 by omega]; omega
  · have e : A.tdiv B = -(A.tdiv (-B)) := by rw [Int.tdiv_neg]; omega
    have := Int.tdiv_nonneg ha (show 0 ≤ -B by omega)
    simp [show ¬ A < 0 by omega, show B < 0 by omega]; omega
  · have e : A.tdiv B = -((-A).tdiv B) := by rw [Int.neg_tdiv]; omega
    have := Int.tdiv_nonneg (show 0 ≤ -A by omega) hb
    simp [show A < 0 by omega, show ¬ B < 0 by omega]; omega
  · have e : A.tdiv B = (-A).tdiv (-B) := by rw [Int.neg_tdiv, Int.tdiv_neg]; omega
    have := Int.tdiv_nonneg (show 0 ≤ -A by omega) (show 0 ≤ -B by omega)
    simp [show A < 0 by omega, show B < 0 by omega]; omega
structure Signs (A B X Y K R : Int) : Prop where
  ux : U X
  uy : U Y
  e1 : doE 47 X Y = 0
  e2 : doE 37 X Y = 0
  t1 : toIntB (doW 47 X Y) = true
  t2 : toIntB (doW 37 X Y) = true
  n1 : toIntN (doW 47 X Y) = K
  n2 : toIntN (doW 37 X Y) = R
  s1 : (ab K == ab A / ab B) = true
  s2 : ab R < ab B
  s3 : R = 0 ∨ (R ≠ 0 ∧ decide (R < 0) = decide (A < 0))
  s4 : K = 0 ∨ (K ≠ 0 ∧ decide (K < 0) = !(decide (A < 0) == decide (B < 0)))
  k1 : inR K = true
  r1 : inR R = true
theorem signs_of (A B : Int) (hA : inR A = true) (hB : inR B = true) (h : B ≠ 0) : Signs A B (intW A) (intW B) (A.tdiv B) (A.tmod B) := by
  have q := do_quo A B hA hB h
  have r := do_rem A B hA hB h
  have tq := toInt_intW _ (tdiv_in A B hA)
  have tr := toInt_intW _ (tmod_in A B hA)
  refine ⟨intW_u _, intW_u _, q.2, r.2, ?_, ?_, ?_, ?_, ?_, ab_tmod A B h, ?_, ?_, tdiv_in A B hA, tmod_in A B hA⟩
  · rw [q.1]; exact tq.1
  · rw [r.1]; exact tr.1
  · rw [q.1]; exact tq.2
  · rw [r.1]; exact tr.2
  · rw [ab_tdiv]; simp
  · by_cases e : A.tmod B = 0
    · exact .inl e
    · exact .inr ⟨e, tmod_sign A B e⟩
  · by_cases e : A.tdiv B = 0
    · exact .inl e
    · exact .inr ⟨e, tdiv_sign A B e⟩
end WP
end Go.Proofs.Ytonjmebhiegbpaa

/-
  Plain laws of layer 1's Do on words of numbers: order does not matter, what is added is taken away, quotient and rest make the number, signs. No Go in sight; no condition.
-/
import Derived.Test.YtonjmebhiegbpaaWordPlain2
namespace Go.Proofs.Ytonjmebhiegbpaa
namespace WP
open Go.RowKit

theorem both_ints (A B : Int) (hA : inR A = true) (hB : inR B = true) : bothB (intW A) (intW B) = true ∧ toIntN (intW A) = A ∧ toIntN (intW B) = B := by
  have a := toInt_intW A hA
  have b := toInt_intW B hB
  exact ⟨by simp [bothB, a.1, b.1], a.2, b.2⟩
theorem doW_ints (o A B : Int) (hA : inR A = true) (hB : inR B = true) (ho : opB o = true) : doW o (intW A) (intW B) = arW o A B := by
  have h := both_ints A B hA hB
  unfold doW; rw [if_pos ho, if_pos h.1, h.2.1, h.2.2]
theorem doE_ints (o A B : Int) (hA : inR A = true) (hB : inR B = true) (ho : opB o = true) : doE o (intW A) (intW B) = arE o A B := by
  have h := both_ints A B hA hB
  unfold doE; rw [if_pos ho, if_pos h.1, h.2.1, h.2.2]
theorem ar_add (A B : Int) : arW 43 A B = intW (A + B) ∧ arE 43 A B = intE (A + B) := by simp [arW, arE, arN]
theorem ar_sub (A B : Int) : arW 45 A B = intW (A - B) ∧ arE 45 A B = intE (A - B) := by simp [arW, arE, arN]
theorem ar_mul (A B : Int) : arW 42 A B = intW (A * B) ∧ arE 42 A B = intE (A * B) := by simp [arW, arE, arN]
theorem ar_quo (A B : Int) (h : B ≠ 0) : arW 47 A B = intW (A.tdiv B) ∧ arE 47 A B = intE (A.tdiv B) := by simp [arW, arE, arN, h]
theorem ar_rem (A B : Int) (h : B ≠ 0) : arW 37 A B = intW (A.tmod B) ∧ arE 37 A B = intE (A.tmod B) := by simp [arW, arE, arN, h]
theorem ar_lt (A B : Int) : arW 60 A B = boolW (decide (A < B)) ∧ arE 60 A B = 0 := by simp [arW, arE]
theorem ar_eq (A B : Int) : arW 61 A B = boolW (A == B) ∧ arE 61 A B = 0 := by simp [arW, arE]
theorem ar_zero (A : Int) : arE 47 A 0 = 12 ∧ arE 37 A 0 = 12 := by simp [arE]
theorem intE_ok (n : Int) (h : inR n = true) : intE n = 0 := by simp [intE, h]
theorem intE_no (n : Int) (h : inR n = false) : intE n = 10 := by simp [intE, h]

theorem do_add (A B : Int) (hA : inR A = true) (hB : inR B = true) : doW 43 (intW A) (intW B) = intW (A + B) ∧ doE 43 (intW A) (intW B) = intE (A + B) :=
  ⟨(doW_ints 43 A B hA hB (by decide)).trans (ar_add A B).1, (doE_ints 43 A B hA hB (by decide)).trans (ar_add A B).2⟩
theorem do_sub (A B : Int) (hA : inR A = true) (hB : inR B = true) : doW 45 (intW A) (intW B) = intW (A - B) ∧ doE 45 (intW A) (intW B) = intE (A - B) :=
  ⟨(doW_ints 45 A B hA hB (by decide)).trans (ar_sub A B).1, (doE_ints 45 A B hA hB (by decide)).trans (ar_sub A B).2⟩
theorem do_mul (A B : Int) (hA : inR A = true) (hB : inR B = true) : doW 42 (intW A) (intW B) = intW (A * B) ∧ doE 42 (intW A) (intW B) = intE (A * B) :=
  ⟨(doW_ints 42 A B hA hB (by decide)).trans (ar_mul A B).1, (doE_ints 42 A B hA hB (by decide)).trans (ar_mul A B).2⟩
theorem do_quo (A B : Int) (hA : inR A = true) (hB : inR B = true) (h : B ≠ 0) : doW 47 (intW A) (intW B) = intW (A.tdiv B) ∧ doE 47 (intW A) (intW B) = 0 :=
  ⟨(doW_ints 47 A B hA hB (by decide)).trans (ar_quo A B h).1, ((doE_ints 47 A B hA hB (by decide)).trans (ar_quo A B h).2).trans (intE_ok _ (tdiv_in A B hA))⟩
theorem do_rem (A B : Int) (hA : inR A = true) (hB : inR B = true) (h : B ≠ 0) : doW 37 (intW A) (intW B) = intW (A.tmod B) ∧ doE 37 (intW A) (intW B) = 0 :=
  ⟨(doW_ints 37 A B hA hB (by decide)).trans (ar_rem A B h).1, ((doE_ints 37 A B hA hB (by decide)).trans (ar_rem A B h).2).trans (intE_ok _ (tmod_in A B hA))⟩
theorem do_zero (A B : Int) (hA : inR A = true) (hB : inR B = true) (h : B = 0) : doE 47 (intW A) (intW B) = 12 ∧ doE 37 (intW A) (intW B) = 12 := by
  subst h
  exact ⟨(doE_ints 47 A 0 hA hB (by decide)).trans (ar_zero A).1, (doE_ints 37 A 0 hA hB (by decide)).trans (ar_zero A).2⟩
theorem do_lt (A B : Int) (hA : inR A = true) (hB : inR B = true) : doW 60 (intW A) (intW B) = boolW (decide (A < B)) ∧ doE 60 (intW A) (intW B) = 0 :=
  ⟨(doW_ints 60 A B hA hB (by decide)).trans (ar_lt A B).1, (doE_ints 60 A B hA hB (by decide)).trans (ar_lt A B).2⟩
theorem do_eq (A B : Int) (hA : inR A = true) (hB : inR B = true) : doW 61 (intW A) (intW B) = boolW (A == B) ∧ doE 61 (intW A) (intW B) = 0 :=
  ⟨(doW_ints 61 A B hA hB (by decide)).trans (ar_eq A B).1, (doE_ints 61 A B hA hB (by decide)).trans (ar_eq A B).2⟩

/-! ### WordRing -/
structure Ring (X Y : Int) : Prop where
  ux : U X
  uy : U Y
  c1 : doW 43 Y X = doW 43 X Y
  c2 : doE 43 Y X = doE 43 X Y
  c3 : doW 42 Y X = doW 42 X Y
  c4 : doE 42 Y X = doE 42 X Y
theorem ring_of (A B : Int) (hA : inR A = true) (hB : inR B = true) : Ring (intW A) (intW B) := by
  have a1 := do_add A B hA hB
  have a2 := do_add B A hB hA
  have m1 := do_mul A B hA hB
  have m2 := do_mul B A hB hA
  refine ⟨intW_u _, intW_u _, ?_, ?_, ?_, ?_⟩
  · rw [a1.1, a2.1, Int.add_comm]
  · rw [a1.2, a2.2, Int.add_comm]
  · rw [m1.1, m2.1, Int.mul_comm]
  · rw [m1.2, m2.2, Int.mul_comm]
theorem ring_back (A B : Int) (hA : inR A = true) (hB : inR B = true) : (doE 43 (intW A) (intW B) = 10) ∨
    (doE 43 (intW A) (intW B) = 0 ∧ doW 45 (doW 43 (intW A) (intW B)) (intW B) = intW A ∧ doE 45 (doW 43 (intW A) (intW B)) (intW B) = 0) := by
  have a1 := do_add A B hA hB
  cases h : inR (A + B)
  · exact .inl (a1.2.trans (intE_no _ h))
  · have s := do_sub (A + B) B h hB
    refine .inr ⟨a1.2.trans (intE_ok _ h), ?_, ?_⟩
    · rw [a1.1, s.1, show A + B - B = A by omega]
    · rw [a1.1, s.2, show A + B - B = A by omega]; exact intE_ok _ hA
theorem ring_quo (A B : Int) (hA : inR A = true) (hB : inR B = true) (h : B ≠ 0) :
    doE 47 (intW A) (intW B) = 0 ∧ doE 37 (intW A) (intW B) = 0 ∧ doE 42 (doW 47 (intW A) (intW B)) (intW B) = 0 ∧
    doE 43 (doW 42 (doW 47 (intW A) (intW B)) (intW B)) (doW 37 (intW A) (intW B)) = 0 ∧ doW 43 (doW 42 (doW 47 (intW A) (intW B)) (intW B)) (doW 37 (intW A) (intW B)) = intW A := by
  have q := do_quo A B hA hB h
  have r := do_rem A B hA hB h
  have iq := tdiv_in A B hA
  have ir := tmod_in A B hA
  have ip := prod_in A B hA
  have m := do_mul (A.tdiv B) B iq hB
  have s := do_add (A.tdiv B * B) (A.tmod B) ip ir
  have e : A.tdiv B * B + A.tmod B = A := by rw [← tmod_eq]; omega
  rw [e] at s
  rw [q.1, r.1, m.1, s.1, s.2]
  exact ⟨q.2, r.2, m.2.trans (intE_ok _ ip), intE_ok _ hA, rfl⟩
theorem mod_in (a : Int) : inR (a.tmod 1099511627776) = true := by
  rw [inR_iff, tmod_eq_if]; split <;> omega
theorem mod38_in (a : Int) : -274877906944 < a.tmod 274877906944 ∧ a.tmod 274877906944 < 274877906944 := by
  rw [tmod_eq_if]; split <;> omega
end WP
end Go.Proofs.Ytonjmebhiegbpaa

/-
  Plain facts for layer 1's WordOrders: of two numbers one is below the other or both are the same, and a sum keeps it. No Go in sight; no condition.
-/
import Derived.Test.YtonjmebhiegbpaaWordPlain3
namespace Go.Proofs.Ytonjmebhiegbpaa
namespace WP
open Go.RowKit
structure Orders (X Y Z u v p q r : Int) : Prop where
  ux : U X
  uy : U Y
  uz : U Z
  h1 : doW 60 X Y = p
  h2 : doW 60 Y X = q
  h3 : doW 61 X Y = r
  h4 : doW 60 u v = p
  e1 : doE 60 X Y = 0
  e2 : doE 60 Y X = 0
  e3 : doE 61 X Y = 0
  e4 : doE 60 u v = 0
  a1 : doW 43 X Z = u
  a2 : doW 43 Y Z = v
  b1 : doE 43 X Z = 0
  b2 : doE 43 Y Z = 0
  uu : U u
  uv : U v
theorem orders_of (A B C : Int) (hA : -274877906944 < A ∧ A < 274877906944) (hB : -274877906944 < B ∧ B < 274877906944) (hC : -274877906944 < C ∧ C < 274877906944) :
    Orders (intW A) (intW B) (intW C) (intW (A + C)) (intW (B + C)) (boolW (decide (A < B))) (boolW (decide (B < A))) (boolW (A == B)) := by
  have iA : inR A = true := by rw [inR_iff]; omega
  have iB : inR B = true := by rw [inR_iff]; omega
  have iC : inR C = true := by rw [inR_iff]; omega
  have iAC : inR (A + C) = true := by rw [inR_iff]; omega
  have iBC : inR (B + C) = true := by rw [inR_iff]; omega
  have l1 := do_lt A B iA iB
  have l2 := do_lt B A iB iA
  have l3 := do_eq A B iA iB
  have l4 := do_lt (A + C) (B + C) iAC iBC
  have s1 := do_add A C iA iC
  have s2 := do_add B C iB iC
  have e : decide (A + C < B + C) = decide (A < B) := by rw [decide_eq_decide]; omega
  rw [e] at l4
  exact ⟨intW_u _, intW_u _, intW_u _, l1.1, l2.1, l3.1, l4.1, l1.2, l2.2, l3.2, l4.2, s1.1, s2.1, s1.2.trans (intE_ok _ iAC), s2.2.trans (intE_ok _ iBC), intW_u _, intW_u _⟩
end WP
end Go.Proofs.Ytonjmebhiegbpaa

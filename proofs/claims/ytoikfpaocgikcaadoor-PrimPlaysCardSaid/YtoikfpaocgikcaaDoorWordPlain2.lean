/-
  Plain arithmetic of layer 1's Do, no Go in sight: which operations there are, what each answers on two numbers; that a product may be asked for ahead by a quotient; that doubling and adding is a product. No condition.
-/
import Derived.Test.YtoikfpaocgikcaaDoorWordAll
namespace Go.Proofs.YtoikfpaocgikcaaDoor
namespace WP
open Go.RowKit

def opB (o : Int) : Bool := o == 43 || (o == 45 || (o == 42 || (o == 47 || (o == 37 || (o == 60 || o == 61)))))
def arN (o x y : Int) : Int := if o = 43 then x + y else if o = 45 then x - y else if o = 42 then x * y else if o = 47 then x.tdiv y else x.tmod y
def arW (o x y : Int) : Int := if o = 60 then boolW (decide (x < y)) else if o = 61 then boolW (x == y) else if (o = 47 ∨ o = 37) ∧ y = 0 then 0 else intW (arN o x y)
def arE (o x y : Int) : Int := if o = 60 then 0 else if o = 61 then 0 else if (o = 47 ∨ o = 37) ∧ y = 0 then 12 else intE (arN o x y)
def bothB (a b : Int) : Bool := toIntB a && toIntB b
def doW (o a b : Int) : Int := if opB o then (if bothB a b then arW o (toIntN a) (toIntN b) else 0) else 0
def doE (o a b : Int) : Int := if opB o then (if bothB a b then arE o (toIntN a) (toIntN b) else 11) else 1

theorem opB_iff (o : Int) : opB o = true ↔ o = 43 ∨ o = 45 ∨ o = 42 ∨ o = 47 ∨ o = 37 ∨ o = 60 ∨ o = 61 := by simp [opB]

def ab (n : Int) : Int := if n < 0 then -n else n
theorem ab_nonneg (n : Int) : 0 ≤ ab n := by unfold ab; split <;> omega
theorem ab_natAbs (n : Int) : ab n = n.natAbs := by unfold ab; split <;> omega
theorem ab_mul (x y : Int) : ab (x * y) = ab x * ab y := by
  rw [ab_natAbs, ab_natAbs, ab_natAbs, Int.natAbs_mul]; exact Int.natCast_mul _ _
theorem inR_ab (n : Int) : inR n = true ↔ ab n ≤ 1099511627775 := by
  rw [inR_iff]; unfold ab; split <;> omega
theorem ab_lt (n : Int) (h : inR n = true) : ab n ≤ 1099511627775 := (inR_ab n).1 h

/-! ### a product that is too great is told ahead -/
theorem mul_over (x y : Int) (hx : x ≠ 0) (h : 1099511627775 / ab x < ab y) : inR (x * y) = false := by
  cases hr : inR (x * y)
  · rfl
  · rw [inR_ab, ab_mul] at hr
    have h0 : 0 < ab x := by unfold ab; split <;> omega
    rw [Int.ediv_lt_iff_lt_mul h0, Int.mul_comm] at h
    omega
theorem mul_in (x y : Int) (h : x = 0 ∨ ab y ≤ 1099511627775 / ab x) : inR (x * y) = true := by
  rcases h with rfl | h
  · rw [Int.zero_mul]; decide
  · by_cases hx : x = 0
    · subst hx; rw [Int.zero_mul]; decide
    · have h0 : 0 < ab x := by unfold ab; split <;> omega
      rw [Int.le_ediv_iff_mul_le h0, Int.mul_comm] at h
      rw [inR_ab, ab_mul]; exact h
theorem inR_wrap (n : Int) (h : inR n = true) : wrap64 n = n := by
  rw [inR_iff] at h; exact IntWalk.wrap64_in n (by omega)

/-! ### quotient and rest -/
theorem tdiv_ab (x y : Int) : ab (x.tdiv y) ≤ ab x := by
  rw [ab_natAbs, ab_natAbs, Int.natAbs_tdiv]
  exact_mod_cast Nat.div_le_self _ _
theorem tmod_ab (x y : Int) : ab (x.tmod y) ≤ ab x := by
  rw [ab_natAbs, ab_natAbs, Int.natAbs_tmod]
  exact_mod_cast Nat.mod_le _ _
theorem tdiv_in (x y : Int) (h : inR x = true) : inR (x.tdiv y) = true := by
  rw [inR_ab] at h ⊢; have := tdiv_ab x y; omega
theorem tmod_in (x y : Int) (h : inR x = true) : inR (x.tmod y) = true := by
  rw [inR_ab] at h ⊢; have := tmod_ab x y; omega
theorem tmod_eq (x y : Int) : x - x.tdiv y * y = x.tmod y := by
  rw [Int.tmod_def, Int.mul_comm]
theorem prod_in (x y : Int) (h : inR x = true) : inR (x.tdiv y * y) = true := by
  have e : x.tdiv y * y = x - x.tmod y := by rw [← tmod_eq]; omega
  have a := tdiv_ab x y
  rw [inR_ab] at h ⊢
  rw [ab_mul]
  have e2 : ab (x.tdiv y) * ab y ≤ ab x := by
    rw [ab_natAbs, ab_natAbs, ab_natAbs, Int.natAbs_tdiv]
    exact_mod_cast Nat.div_mul_le_self _ _
  omega

theorem rest_in (x y : Int) (h : inR x = true) : inR (x - x.tdiv y * y) = true := by
  rw [tmod_eq]; exact tmod_in x y h
/-! ### doubling and adding, each cut at 2^40 -/
def sat (n : Int) : Int := if 1099511627776 < n then 1099511627776 else n
theorem sat_le (n : Int) : sat n ≤ 1099511627776 := by unfold sat; split <;> omega
theorem sat_nonneg (n : Int) (h : 0 ≤ n) : 0 ≤ sat n := by unfold sat; split <;> omega
theorem sat_add (a b : Int) (ha : 0 ≤ a) (hb : 0 ≤ b) : sat (sat a + sat b) = sat (a + b) := by
  unfold sat; repeat' split
  all_goals omega
theorem sat_of (x : Int) (h : inR x = true) : sat (ab x) = ab x := by
  have := ab_lt x h; unfold sat; split <;> omega
theorem half (y : Int) : y = 2 * (y / 2) + y % 2 := by omega
/-- the answer of the document's product: at most 2^40, with its sign -/
def prodN (x y : Int) : Int := if decide (x < 0) != decide (y < 0) then -(sat (ab x * ab y)) else sat (ab x * ab y)
theorem prod_sign (x y : Int) : x * y = if decide (x < 0) != decide (y < 0) then -(ab x * ab y) else ab x * ab y := by
  unfold ab
  by_cases hx : x < 0 <;> by_cases hy : y < 0 <;> simp [hx, hy, Int.neg_mul, Int.mul_neg]
theorem prod_same (x y : Int) : intW (prodN x y) = intW (x * y) ∧ intE (prodN x y) = intE (x * y) := by
  have h0 : 0 ≤ ab x * ab y := Int.mul_nonneg (ab_nonneg x) (ab_nonneg y)
  cases hr : inR (x * y)
  · have hn : inR (prodN x y) = false := by
      rw [prod_sign] at hr
      unfold prodN
      generalize ab x * ab y = t at *
      rw [inR_no] at hr ⊢
      unfold sat; split at hr <;> simp_all <;> split <;> omega
    simp [intW, intE, hr, hn]
  · have hn : prodN x y = x * y := by
      have h1 : ab x * ab y ≤ 1099511627775 := by rw [← ab_mul]; exact ab_lt _ hr
      rw [prod_sign]; unfold prodN
      have e : sat (ab x * ab y) = ab x * ab y := by unfold sat; split <;> omega
      rw [e]
    rw [hn]; exact ⟨rfl, rfl⟩
theorem step_odd (N X Y : Int) (h : Y % 2 = 1) : N + X + (X + X) * (Y / 2) = N + X * Y := by
  have hY : Y = 2 * (Y / 2) + 1 := by omega
  generalize Y / 2 = q at *
  subst hY
  rw [Int.mul_add, Int.add_mul, Int.mul_left_comm]
  omega
theorem step_even (N X Y : Int) (h : ¬ Y % 2 = 1) : N + (X + X) * (Y / 2) = N + X * Y := by
  have hY : Y = 2 * (Y / 2) := by omega
  generalize Y / 2 = q at *
  subst hY
  rw [Int.add_mul, Int.mul_left_comm]
  omega
theorem sat_hi (a b : Int) (ha : 0 ≤ a) (hb : 0 ≤ b) (h : 1099511627776 < sat a + sat b) : 1099511627776 = sat (a + b) := by
  rw [← sat_add a b ha hb]; unfold sat at *; repeat' split
  all_goals omega
theorem sat_lo (a b : Int) (ha : 0 ≤ a) (hb : 0 ≤ b) (h : ¬ 1099511627776 < sat a + sat b) : sat a + sat b = sat (a + b) := by
  rw [← sat_add a b ha hb]; generalize sat a + sat b = t at *; unfold sat; rw [if_neg h]
theorem sat_ite (a b : Int) (ha : 0 ≤ a) (hb : 0 ≤ b) : (if 1099511627776 < sat a + sat b then 1099511627776 else sat a + sat b) = sat (a + b) := by
  split
  · exact sat_hi a b ha hb (by assumption)
  · exact sat_lo a b ha hb (by assumption)
theorem done_zero (N X T : Int) (Y : Int) (h : N + X * Y = T) (h0 : Y = 0) : N = T := by subst h0; rw [Int.mul_zero] at h; omega
theorem prodN_pos (x y : Int) (h : decide (x < 0) = decide (y < 0)) : prodN x y = sat (ab x * ab y) := by simp [prodN, h]
theorem prodN_neg (x y : Int) (h : ¬ decide (x < 0) = decide (y < 0)) : prodN x y = -sat (ab x * ab y) := by simp [prodN, h]
theorem prod_cases (a b : Int) :
    (decide (a < 0) = true ∧ decide (b < 0) = true ∧ ab a = -a ∧ ab b = -b ∧ prodN a b = sat (ab a * ab b)) ∨ (decide (a < 0) = true ∧ decide (b < 0) = false ∧ ab a = -a ∧ ab b = b ∧ prodN a b = -sat (ab a * ab b)) ∨
    (decide (a < 0) = false ∧ decide (b < 0) = true ∧ ab a = a ∧ ab b = -b ∧ prodN a b = -sat (ab a * ab b)) ∨ (decide (a < 0) = false ∧ decide (b < 0) = false ∧ ab a = a ∧ ab b = b ∧ prodN a b = sat (ab a * ab b)) := by
  by_cases ha : a < 0 <;> by_cases hb : b < 0
  · exact .inl ⟨by simp [ha], by simp [hb], by simp [ab, ha], by simp [ab, hb], prodN_pos a b (by simp [ha, hb])⟩
  · exact .inr (.inl ⟨by simp [ha], by simp [hb], by simp [ab, ha], by simp [ab, hb], prodN_neg a b (by simp [ha]; omega)⟩)
  · exact .inr (.inr (.inl ⟨by simp [ha], by simp [hb], by simp [ab, ha], by simp [ab, hb], prodN_neg a b (by simp [hb]; omega)⟩))
  · exact .inr (.inr (.inr ⟨by simp [ha], by simp [hb], by simp [ab, ha], by simp [ab, hb], prodN_pos a b (by rw [decide_eq_false ha, decide_eq_false hb])⟩))
theorem prodN_wrap (x y : Int) : -9223372036854775807 ≤ prodN x y ∧ prodN x y ≤ 9223372036854775807 := by
  have h0 : 0 ≤ ab x * ab y := Int.mul_nonneg (ab_nonneg x) (ab_nonneg y)
  have h1 := sat_le (ab x * ab y)
  have h2 := sat_nonneg _ h0
  unfold prodN; split <;> omega
theorem prod_zero (x : Int) : intW (prodN x 0) = intW 0 ∧ intE (prodN x 0) = intE 0 := by
  have h := prod_same x 0
  rw [Int.mul_zero] at h
  exact h
theorem boolW_u (b : Bool) : U (boolW b) := by unfold U boolW; split <;> omega
theorem arW_u (o x y : Int) : U (arW o x y) := by
  unfold arW; repeat' split
  · exact boolW_u _
  · exact boolW_u _
  · unfold U; omega
  · exact intW_u _
theorem doW_u (o a b : Int) : U (doW o a b) := by
  unfold doW; repeat' split
  · exact arW_u _ _ _
  · unfold U; omega
  · unfold U; omega
end WP
end Go.Proofs.YtoikfpaocgikcaaDoor

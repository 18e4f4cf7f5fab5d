/-
  Plain arithmetic on words (layer 1), no Go in sight: what Int, ToInt, Of, To, May and Do answer, as functions on integers, and the laws between them. No condition.
-/
import Derived.WalkKit
namespace Go.Proofs.YthhibcfljekibaaDoor
namespace WP
open Go.RowKit

def inR (n : Int) : Bool := decide (-1099511627776 < n) && decide (n < 1099511627776)
def encW (n : Int) : Int := (n * 8) % 18446744073709551616
def intW (n : Int) : Int := if inR n then encW n else 0
def intE (n : Int) : Int := if inR n then 0 else 10
def kindB (k : Int) : Bool := k == 1 || k == 3 || k == 4
def ofB (k n : Int) : Bool := kindB k && (decide (0 ≤ n) && decide (n < 1099511627776))
def ofW (k n : Int) : Int := if ofB k n then n * 8 + k else 0
def ofE (k n : Int) : Int := if ofB k n then 0 else 1
def sgn (w : Int) : Int := if w / 8 < 1152921504606846976 then w / 8 else w / 8 - 2305843009213693952
def toIntB (w : Int) : Bool := decide (w % 8 = 0) && inR (sgn w)
def toIntN (w : Int) : Int := if toIntB w then sgn w else 0
def toB (k w : Int) : Bool := kindB k && (decide (w % 8 = k) && decide (w / 8 < 1099511627776))
def toN (k w : Int) : Int := if toB k w then w / 8 else 0
def boolW (b : Bool) : Int := if b then 18 else 10
def mayB (w : Int) : Bool := (w == 2 || w == 10 || w == 18 || w == 26) || (toIntB w || toB 1 w || toB 3 w || toB 4 w)
def U (w : Int) : Prop := 0 ≤ w ∧ w < 18446744073709551616
def I (n : Int) : Prop := -9223372036854775808 ≤ n ∧ n ≤ 9223372036854775807

theorem inR_iff (n : Int) : inR n = true ↔ -1099511627776 < n ∧ n < 1099511627776 := by simp [inR]
theorem inR_no (n : Int) : inR n = false ↔ n ≤ -1099511627776 ∨ 1099511627776 ≤ n := by
  rw [← Bool.not_eq_true, inR_iff]; omega
theorem kindB_iff (k : Int) : kindB k = true ↔ k = 1 ∨ k = 3 ∨ k = 4 := by simp [kindB, or_assoc]
theorem toIntB_iff (w : Int) : toIntB w = true ↔ w % 8 = 0 ∧ -1099511627776 < sgn w ∧ sgn w < 1099511627776 := by simp [toIntB, inR_iff]
theorem ofB_iff (k n : Int) : ofB k n = true ↔ (k = 1 ∨ k = 3 ∨ k = 4) ∧ 0 ≤ n ∧ n < 1099511627776 := by simp [ofB, kindB_iff]
theorem toB_iff (k w : Int) : toB k w = true ↔ (k = 1 ∨ k = 3 ∨ k = 4) ∧ w % 8 = k ∧ w / 8 < 1099511627776 := by simp [toB, kindB_iff]

/-! ### what was encoded comes back -/
theorem encW_u (n : Int) : U (encW n) := by unfold U encW; omega
theorem sgn_encW (n : Int) (h : inR n = true) : sgn (encW n) = n ∧ encW n % 8 = 0 := by
  rw [inR_iff] at h; unfold sgn encW; split <;> omega
theorem encW_sgn (w : Int) (hu : U w) (h : w % 8 = 0) : encW (sgn w) = w := by
  unfold U at hu; unfold encW sgn; split <;> omega
theorem intW_u (n : Int) : U (intW n) := by
  unfold intW; split
  · exact encW_u n
  · unfold U; omega
theorem toInt_intW (n : Int) (h : inR n = true) : toIntB (intW n) = true ∧ toIntN (intW n) = n := by
  have e := sgn_encW n h
  have hb : toIntB (intW n) = true := by
    rw [toIntB_iff]; simp only [intW, h, if_true]; rw [e.1]; rw [inR_iff] at h; exact ⟨e.2, h⟩
  refine ⟨hb, ?_⟩
  unfold toIntN; rw [if_pos hb]; simp only [intW, h, if_true]; exact e.1
theorem toInt_zero : toIntB 0 = true ∧ toIntN 0 = 0 := by decide
theorem intW_toInt (w : Int) (hu : U w) (h : toIntB w = true) : inR (toIntN w) = true ∧ intW (toIntN w) = w ∧ intE (toIntN w) = 0 := by
  have h0 := (toIntB_iff w).1 h
  have e : toIntN w = sgn w := by unfold toIntN; rw [if_pos h]
  have hr : inR (sgn w) = true := (inR_iff _).2 h0.2
  rw [e]
  refine ⟨hr, ?_, by unfold intE; rw [if_pos hr]⟩
  unfold intW; rw [if_pos hr]; exact encW_sgn w hu h0.1
theorem to_of (k n : Int) (h : ofB k n = true) : toB k (ofW k n) = true ∧ toN k (ofW k n) = n := by
  have h0 := (ofB_iff k n).1 h
  have hb : toB k (ofW k n) = true := by
    rw [toB_iff]; unfold ofW; rw [if_pos h]; refine ⟨h0.1, ?_, ?_⟩ <;> omega
  refine ⟨hb, ?_⟩
  unfold toN; rw [if_pos hb]; unfold ofW; rw [if_pos h]; omega
theorem of_to (k w : Int) (hu : U w) (h : toB k w = true) : ofB k (toN k w) = true ∧ ofW k (toN k w) = w := by
  have h0 := (toB_iff k w).1 h
  have e : toN k w = w / 8 := by unfold toN; rw [if_pos h]
  unfold U at hu
  have hb : ofB k (toN k w) = true := by rw [ofB_iff, e]; refine ⟨h0.1, ?_, ?_⟩ <;> omega
  refine ⟨hb, ?_⟩
  unfold ofW; rw [if_pos hb, e]; omega
theorem ofW_u (k n : Int) : U (ofW k n) := by
  unfold ofW; split
  · rename_i h; have := (ofB_iff k n).1 h; unfold U; omega
  · unfold U; omega

/-! ### bits -/
theorem and7 (w : Int) (h : U w) : bits .and .u64 w 7 = w % 8 := by
  unfold U at h
  rw [u64_and w 7 h.1 h.2 (by omega) (by omega)]
  have e : w.toNat &&& (7 : Int).toNat = w.toNat % 8 := nat_mask3 _
  rw [e]; omega
theorem orN (x y : Int) (hx : 0 ≤ x) (hx2 : x < 18446744073709551616) (h8 : x % 8 = 0) (hy : 0 ≤ y) (hy2 : y < 8) : bits .or .u64 x y = x + y := by
  rw [u64_or x y hx hx2 hy (by omega), nat_join 3 _ _ (by omega) (by omega)]
  omega
theorem mk_int (n : Int) : bits .or .u64 (IntKind.u64.wrap (IntKind.u64.wrap n * 8)) 0 = encW n := by
  rw [IntKind.wrap_u64, IntKind.wrap_u64, orN _ _ (by omega) (by omega) (by omega) (by omega) (by omega)]
  unfold encW; omega
theorem mk_of (k n : Int) (h : ofB k n = true) : bits .or .u64 (n * 8) (IntKind.u64.wrap k) = ofW k n := by
  have h0 := (ofB_iff k n).1 h
  rw [IntKind.wrap_u64, orN _ _ (by omega) (by omega) (by omega) (by omega) (by omega)]
  unfold ofW; rw [if_pos h]; omega
theorem mk_rint (n : Int) : IntKind.u64.wrap (IntKind.u64.wrap n * 8) = encW n := by
  rw [IntKind.wrap_u64, IntKind.wrap_u64]; unfold encW; omega
theorem sgn_wrap (w : Int) (h : U w) : IntKind.i64.wrap w / 8 = sgn w := by
  unfold U at h; rw [IntKind.wrap_i64]; unfold sgn; split <;> omega
theorem sgn_wrap64 (w : Int) (h : U w) : wrap64 w / 8 = sgn w := by rw [← IntWalk.i64_left]; exact sgn_wrap w h
theorem toIntB_no (w : Int) (h : (w % 8 != 0) = true) : toIntB w = false := by
  rw [bne_iff_ne] at h; simp [toIntB, h]
theorem toIntB_out (w : Int) (h : inR (sgn w) = false) : toIntB w = false := by simp [toIntB, h]
theorem toIntB_yes (w : Int) (h : (w % 8 != 0) = false) (h2 : inR (sgn w) = true) : toIntB w = true := by
  have h' : w % 8 = 0 := by simpa using h
  simp [toIntB, h', h2]
theorem ofB_mk (k n : Int) (h0 : kindB k = true) (h1 : 0 ≤ n) (h2 : n < 1099511627776) : ofB k n = true := by simp [ofB, h0, h1, h2]
theorem ofB_hi (k n : Int) (h2 : ¬ n < 1099511627776) : ofB k n = false := by simp [ofB, h2]
theorem ofB_lo (k n : Int) (h1 : ¬ 0 ≤ n) : ofB k n = false := by simp [ofB, h1]
/-! ### the document's ToInt and To: by dividing -/
def rq (w : Int) : Int := (wrap64 w).tdiv 8
theorem rq_yes (w : Int) (hu : U w) (h : toIntB w = true) : rq w = sgn w := by
  have h0 := (toIntB_iff w).1 h
  unfold U at hu; unfold rq; rw [tdiv_eq_if]; unfold wrap64
  unfold sgn at h0 ⊢
  split at h0 <;> split <;> omega
theorem rq_no (w : Int) (h : toIntB w = false) : inR (rq w) = false ∨ (inR (rq w) = true ∧ encW (rq w) ≠ w) := by
  cases hr : inR (rq w)
  · exact .inl rfl
  · refine .inr ⟨rfl, fun he => ?_⟩
    have e := sgn_encW (rq w) hr
    rw [he] at e
    have : toIntB w = true := by
      rw [toIntB_iff, e.1]; exact ⟨e.2, (inR_iff _).1 hr⟩
    rw [h] at this; cases this
theorem rq_eq (w : Int) : wrap64 ((wrap64 w).tdiv 8) = rq w := by
  unfold rq
  have h : -9223372036854775808 ≤ wrap64 w ∧ wrap64 w ≤ 9223372036854775807 := by unfold wrap64; omega
  have h2 : -9223372036854775808 ≤ (wrap64 w).tdiv 8 ∧ (wrap64 w).tdiv 8 ≤ 9223372036854775807 := by
    rw [tdiv_eq_if]; split <;> omega
  exact IntWalk.wrap64_in _ h2
theorem rtoint_yes (w : Int) (hu : U w) (h : toIntB w = true) : intE (rq w) = 0 ∧ (intW (rq w) != w) = false ∧ rq w = toIntN w := by
  have e := rq_yes w hu h
  have h0 := (toIntB_iff w).1 h
  have hr : inR (sgn w) = true := (inR_iff _).2 h0.2
  have hN : toIntN w = sgn w := by unfold toIntN; rw [if_pos h]
  refine ⟨by rw [e]; simp [intE, hr], ?_, by rw [e, hN]⟩
  rw [e]; simp only [intW, hr, if_true]; rw [encW_sgn w hu h0.1]; simp
theorem rtoint_no (w : Int) (_hu : U w) (h : toIntB w = false) : intE (rq w) = 10 ∨ (intE (rq w) = 0 ∧ (intW (rq w) != w) = true) := by
  rcases rq_no w h with e | ⟨e, e2⟩
  · exact .inl (by simp [intE, e])
  · exact .inr ⟨by simp [intE, e], by simp [intW, e, e2]⟩
theorem rto_yes2 (k w : Int) (hu : U w) (h : toB k w = true) : ofE k (w / 8) = 0 ∧ (ofW k (w / 8) != w) = false ∧ w / 8 = toN k w := by
  have e := of_to k w hu h
  have e2 : toN k w = w / 8 := by unfold toN; rw [if_pos h]
  rw [e2] at e
  exact ⟨by simp [ofE, e.1], by rw [e.2]; simp, e2.symm⟩
theorem rto_no2 (k w : Int) (h : toB k w = false) : ofE k (w / 8) = 1 ∨ (ofE k (w / 8) = 0 ∧ (ofW k (w / 8) != w) = true) := by
  cases hr : ofB k (w / 8)
  · exact .inl (by simp [ofE, hr])
  · refine .inr ⟨by simp [ofE, hr], ?_⟩
    rw [bne_iff_ne]; intro he
    have h0 := (ofB_iff k (w / 8)).1 hr
    have : toB k w = true := by
      rw [toB_iff]; unfold ofW at he; rw [if_pos hr] at he; refine ⟨h0.1, ?_, h0.2.2⟩; omega
    rw [h] at this; cases this
theorem may_last (w : Int) (h1 : (w == 2) = false) (h2 : (w == 10) = false) (h3 : (w == 18) = false) (h4 : (w == 26) = false) (h : toIntB w = false) : mayB w = toB (w % 8) w := by
  have hk : w % 8 = 1 ∨ w % 8 = 3 ∨ w % 8 = 4 ∨ kindB (w % 8) = false ∧ w % 8 ≠ 1 ∧ w % 8 ≠ 3 ∧ w % 8 ≠ 4 := by
    cases hb : kindB (w % 8)
    · right; right; right
      have : ¬ (w % 8 = 1 ∨ w % 8 = 3 ∨ w % 8 = 4) := by rw [← kindB_iff, hb]; simp
      exact ⟨rfl, by omega, by omega, by omega⟩
    · have := (kindB_iff _).1 hb; omega
  unfold mayB; rw [h1, h2, h3, h4, h]
  rcases hk with e | e | e | ⟨e, a, b, c⟩
  · simp [toB, e, kindB]
  · simp [toB, e, kindB]
  · simp [toB, e, kindB]
  · simp [toB, e, a, b, c]
theorem may_rest (w : Int) (h1 : (w == 2) = false) (h2 : (w == 10) = false) (h3 : (w == 18) = false) (h4 : (w == 26) = false) : mayB w = (toIntB w || toB 1 w || toB 3 w || toB 4 w) := by
  unfold mayB; rw [h1, h2, h3, h4]; simp
theorem may_yes (w : Int) (h : toIntB w = true) : mayB w = true := by simp [mayB, h]
end WP
end Go.Proofs.YthhibcfljekibaaDoor

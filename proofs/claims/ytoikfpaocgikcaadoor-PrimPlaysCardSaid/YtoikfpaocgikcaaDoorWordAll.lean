/-
  Several texts in one: WordPlain, WordWalks1, ArenaPlain, ArenaWalks1, ArenaWalks2, ArenaWalks3. Each one's own head tells its conditions.
-/
import Derived.WalkKit
import Derived.Test.YtoikfpaocgikcaaDoorProg
import Derived.Lib.Hide
import Derived.Test.YtoikfpaocgikcaaDoorMemAll
/-
  Plain arithmetic on words (layer 1), no Go in sight: what Int, ToInt, Of, To, May and Do answer, as functions on integers, and the laws between them. No condition.
-/
namespace Go.Proofs.YtoikfpaocgikcaaDoor
namespace WP
open Go.RowKit

def inR (n : Int) : Bool := decide (-1099511627776 < n) && decide (n < 1099511627776)
def encW (n : Int) : Int := (n * 8) % 18446744073709551616
def intW (n : Int) : Int := if inR n then encW n else 0
def intE (n : Int) : Int := if inR n then 0 else 10
def kindB (k : Int) : Bool := k == 1 || k == 3 || k == 4
def ofB (k n : Int) : Bool := kindB k && (decide (0 ≤ n) && decide (n < 1099511627776))
def ofW (k n : Int) : Int := if ofB k n then n * 8 + k else 0
def ofE (k n : Int) : Int := if ofB k n then 0 else 1
def sgn (w : Int) : Int := if w / 8 < 1152921504606846976 then w / 8 else w / 8 - 2305843009213693952
def toIntB (w : Int) : Bool := decide (w % 8 = 0) && inR (sgn w)
def toIntN (w : Int) : Int := if toIntB w then sgn w else 0
def toB (k w : Int) : Bool := kindB k && (decide (w % 8 = k) && decide (w / 8 < 1099511627776))
def toN (k w : Int) : Int := if toB k w then w / 8 else 0
def boolW (b : Bool) : Int := if b then 18 else 10
def mayB (w : Int) : Bool := (w == 2 || w == 10 || w == 18 || w == 26) || (toIntB w || toB 1 w || toB 3 w || toB 4 w)
def U (w : Int) : Prop := 0 ≤ w ∧ w < 18446744073709551616
def I (n : Int) : Prop := -9223372036854775808 ≤ n ∧ n ≤ 9223372036854775807

theorem inR_iff (n : Int) : inR n = true ↔ -1099511627776 < n ∧ n < 1099511627776 := by simp [inR]
theorem inR_no (n : Int) : inR n = false ↔ n ≤ -1099511627776 ∨ 1099511627776 ≤ n := by
  rw [← Bool.not_eq_true, inR_iff]; omega
theorem kindB_iff (k : Int) : kindB k = true ↔ k = 1 ∨ k = 3 ∨ k = 4 := by simp [kindB, or_assoc]
theorem toIntB_iff (w : Int) : toIntB w = true ↔ w % 8 = 0 ∧ -1099511627776 < sgn w ∧ sgn w < 1099511627776 := by simp [toIntB, inR_iff]
theorem ofB_iff (k n : Int) : ofB k n = true ↔ (k = 1 ∨ k = 3 ∨ k = 4) ∧ 0 ≤ n ∧ n < 1099511627776 := by simp [ofB, kindB_iff]
theorem toB_iff (k w : Int) : toB k w = true ↔ (k = 1 ∨ k = 3 ∨ k = 4) ∧ w % 8 = k ∧ w / 8 < 1099511627776 := by simp [toB, kindB_iff]

/-! ### what was encoded comes back -/
theorem encW_u (n : Int) : U (encW n) := by unfold U encW; omega
theorem sgn_encW (n : Int) (h : inR n = true) : sgn (encW n) = n ∧ encW n % 8 = 0 := by
  rw [inR_iff] at h; unfold sgn encW; split <;> omega
theorem encW_sgn (w : Int) (hu : U w) (h : w % 8 = 0) : encW (sgn w) = w := by
  unfold U at hu; unfold encW sgn; split <;> omega
theorem intW_u (n : Int) : U (intW n) := by
  unfold intW; split
  · exact encW_u n
  · unfold U; omega
theorem toInt_intW (n : Int) (h : inR n = true) : toIntB (intW n) = true ∧ toIntN (intW n) = n := by
  have e := sgn_encW n h
  have hb : toIntB (intW n) = true := by
    rw [toIntB_iff]; simp only [intW, h, if_true]; rw [e.1]; rw [inR_iff] at h; exact ⟨e.2, h⟩
  refine ⟨hb, ?_⟩
  unfold toIntN; rw [if_pos hb]; simp only [intW, h, if_true]; exact e.1
theorem toInt_zero : toIntB 0 = true ∧ toIntN 0 = 0 := by decide
theorem intW_toInt (w : Int) (hu : U w) (h : toIntB w = true) : inR (toIntN w) = true ∧ intW (toIntN w) = w ∧ intE (toIntN w) = 0 := by
  have h0 := (toIntB_iff w).1 h
  have e : toIntN w = sgn w := by unfold toIntN; rw [if_pos h]
  have hr : inR (sgn w) = true := (inR_iff _).2 h0.2
  rw [e]
  refine ⟨hr, ?_, by unfold intE; rw [if_pos hr]⟩
  unfold intW; rw [if_pos hr]; exact encW_sgn w hu h0.1
theorem to_of (k n : Int) (h : ofB k n = true) : toB k (ofW k n) = true ∧ toN k (ofW k n) = n := by
  have h0 := (ofB_iff k n).1 h
  have hb : toB k (ofW k n) = true := by
    rw [toB_iff]; unfold ofW; rw [if_pos h]; refine ⟨h0.1, ?_, ?_⟩ <;> omega
  refine ⟨hb, ?_⟩
  unfold toN; rw [if_pos hb]; unfold ofW; rw [if_pos h]; omega
theorem of_to (k w : Int) (hu : U w) (h : toB k w = true) : ofB k (toN k w) = true ∧ ofW k (toN k w) = w := by
  have h0 := (toB_iff k w).1 h
  have e : toN k w = w / 8 := by unfold toN; rw [if_pos h]
  unfold U at hu
  have hb : ofB k (toN k w) = true := by rw [ofB_iff, e]; refine ⟨h0.1, ?_, ?_⟩ <;> omega
  refine ⟨hb, ?_⟩
  unfold ofW; rw [if_pos hb, e]; omega
theorem ofW_u (k n : Int) : U (ofW k n) := by
  unfold ofW; split
  · rename_i h; have := (ofB_iff k n).1 h; unfold U; omega
  · unfold U; omega

/-! ### bits -/
theorem and7 (w : Int) (h : U w) : bits .and .u64 w 7 = w % 8 := by
  unfold U at h
  rw [u64_and w 7 h.1 h.2 (by omega) (by omega)]
  have e : w.toNat &&& (7 : Int).toNat = w.toNat % 8 := nat_mask3 _
  rw [e]; omega
theorem orN (x y : Int) (hx : 0 ≤ x) (hx2 : x < 18446744073709551616) (h8 : x % 8 = 0) (hy : 0 ≤ y) (hy2 : y < 8) : bits .or .u64 x y = x + y := by
  rw [u64_or x y hx hx2 hy (by omega), nat_join 3 _ _ (by omega) (by omega)]
  omega
theorem mk_int (n : Int) : bits .or .u64 (IntKind.u64.wrap (IntKind.u64.wrap n * 8)) 0 = encW n := by
  rw [IntKind.wrap_u64, IntKind.wrap_u64, orN _ _ (by omega) (by omega) (by omega) (by omega) (by omega)]
  unfold encW; omega
theorem mk_of (k n : Int) (h : ofB k n = true) : bits .or .u64 (n * 8) (IntKind.u64.wrap k) = ofW k n := by
  have h0 := (ofB_iff k n).1 h
  rw [IntKind.wrap_u64, orN _ _ (by omega) (by omega) (by omega) (by omega) (by omega)]
  unfold ofW; rw [if_pos h]; omega
theorem mk_rint (n : Int) : IntKind.u64.wrap (IntKind.u64.wrap n * 8) = encW n := by
  rw [IntKind.wrap_u64, IntKind.wrap_u64]; unfold encW; omega
theorem sgn_wrap (w : Int) (h : U w) : IntKind.i64.wrap w / 8 = sgn w := by
  unfold U at h; rw [IntKind.wrap_i64]; unfold sgn; split <;> omega
theorem sgn_wrap64 (w : Int) (h : U w) : wrap64 w / 8 = sgn w := by rw [← IntWalk.i64_left]; exact sgn_wrap w h
theorem toIntB_no (w : Int) (h : (w % 8 != 0) = true) : toIntB w = false := by
  rw [bne_iff_ne] at h; simp [toIntB, h]
theorem toIntB_out (w : Int) (h : inR (sgn w) = false) : toIntB w = false := by simp [toIntB, h]
theorem toIntB_yes (w : Int) (h : (w % 8 != 0) = false) (h2 : inR (sgn w) = true) : toIntB w = true := by
  have h' : w % 8 = 0 := by simpa using h
  simp [toIntB, h', h2]
theorem ofB_mk (k n : Int) (h0 : kindB k = true) (h1 : 0 ≤ n) (h2 : n < 1099511627776) : ofB k n = true := by simp [ofB, h0, h1, h2]
theorem ofB_hi (k n : Int) (h2 : ¬ n < 1099511627776) : ofB k n = false := by simp [ofB, h2]
theorem ofB_lo (k n : Int) (h1 : ¬ 0 ≤ n) : ofB k n = false := by simp [ofB, h1]
/-! ### the document's ToInt and To: by dividing -/
def rq (w : Int) : Int := (wrap64 w).tdiv 8
theorem rq_yes (w : Int) (hu : U w) (h : toIntB w = true) : rq w = sgn w := by
  have h0 := (toIntB_iff w).1 h
  unfold U at hu; unfold rq; rw [tdiv_eq_if]; unfold wrap64
  unfold sgn at h0 ⊢
  split at h0 <;> split <;> omega
theorem rq_no (w : Int) (h : toIntB w = false) : inR (rq w) = false ∨ (inR (rq w) = true ∧ encW (rq w) ≠ w) := by
  cases hr : inR (rq w)
  · exact .inl rfl
  · refine .inr ⟨rfl, fun he => ?_⟩
    have e := sgn_encW (rq w) hr
    rw [he] at e
    have : toIntB w = true := by
      rw [toIntB_iff, e.1]; exact ⟨e.2, (inR_iff _).1 hr⟩
    rw [h] at this; cases this
theorem rq_eq (w : Int) : wrap64 ((wrap64 w).tdiv 8) = rq w := by
  unfold rq
  have h : -9223372036854775808 ≤ wrap64 w ∧ wrap64 w ≤ 9223372036854775807 := by unfold wrap64; omega
  have h2 : -9223372036854775808 ≤ (wrap64 w).tdiv 8 ∧ (wrap64 w).tdiv 8 ≤ 9223372036854775807 := by
    rw [tdiv_eq_if]; split <;> omega
  exact IntWalk.wrap64_in _ h2
theorem rtoint_yes (w : Int) (hu : U w) (h : toIntB w = true) : intE (rq w) = 0 ∧ (intW (rq w) != w) = false ∧ rq w = toIntN w := by
  have e := rq_yes w hu h
  have h0 := (toIntB_iff w).1 h
  have hr : inR (sgn w) = true := (inR_iff _).2 h0.2
  have hN : toIntN w = sgn w := by unfold toIntN; rw [if_pos h]
  refine ⟨by rw [e]; simp [intE, hr], ?_, by rw [e, hN]⟩
  rw [e]; simp only [intW, hr, if_true]; rw [encW_sgn w hu h0.1]; simp
theorem rtoint_no (w : Int) (_hu : U w) (h : toIntB w = false) : intE (rq w) = 10 ∨ (intE (rq w) = 0 ∧ (intW (rq w) != w) = true) := by
  rcases rq_no w h with e | ⟨e, e2⟩
  · exact .inl (by simp [intE, e])
  · exact .inr ⟨by simp [intE, e], by simp [intW, e, e2]⟩
theorem rto_yes2 (k w : Int) (hu : U w) (h : toB k w = true) : ofE k (w / 8) = 0 ∧ (ofW k (w / 8) != w) = false ∧ w / 8 = toN k w := by
  have e := of_to k w hu h
  have e2 : toN k w = w / 8 := by unfold toN; rw [if_pos h]
  rw [e2] at e
  exact ⟨by simp [ofE, e.1], by rw [e.2]; simp, e2.symm⟩
theorem rto_no2 (k w : Int) (h : toB k w = false) : ofE k (w / 8) = 1 ∨ (ofE k (w / 8) = 0 ∧ (ofW k (w / 8) != w) = true) := by
  cases hr : ofB k (w / 8)
  · exact .inl (by simp [ofE, hr])
  · refine .inr ⟨by simp [ofE, hr], ?_⟩
    rw [bne_iff_ne]; intro he
    have h0 := (ofB_iff k (w / 8)).1 hr
    have : toB k w = true := by
      rw [toB_iff]; unfold ofW at he; rw [if_pos hr] at he; refine ⟨h0.1, ?_, h0.2.2⟩; omega
    rw [h] at this; cases this
theorem may_last (w : Int) (h1 : (w == 2) = false) (h2 : (w == 10) = false) (h3 : (w == 18) = false) (h4 : (w == 26) = false) (h : toIntB w = false) : mayB w = toB (w % 8) w := by
  have hk : w % 8 = 1 ∨ w % 8 = 3 ∨ w % 8 = 4 ∨ kindB (w % 8) = false ∧ w % 8 ≠ 1 ∧ w % 8 ≠ 3 ∧ w % 8 ≠ 4 := by
    cases hb : kindB (w % 8)
    · right; right; right
      have : ¬ (w % 8 = 1 ∨ w % 8 = 3 ∨ w % 8 = 4) := by rw [← kindB_iff, hb]; simp
      exact ⟨rfl, by omega, by omega, by omega⟩
    · have := (kindB_iff _).1 hb; omega
  unfold mayB; rw [h1, h2, h3, h4, h]
  rcases hk with e | e | e | ⟨e, a, b, c⟩
  · simp [toB, e, kindB]
  · simp [toB, e, kindB]
  · simp [toB, e, kindB]
  · simp [toB, e, a, b, c]
theorem may_rest (w : Int) (h1 : (w == 2) = false) (h2 : (w == 10) = false) (h3 : (w == 18) = false) (h4 : (w == 26) = false) : mayB w = (toIntB w || toB 1 w || toB 3 w || toB 4 w) := by
  unfold mayB; rw [h1, h2, h3, h4]; simp
theorem may_yes (w : Int) (h : toIntB w = true) : mayB w = true := by simp [mayB, h]
end WP
end Go.Proofs.YtoikfpaocgikcaaDoor
/-
  Contracts of layer 1's small functions: inRange, isNumbered, isOperation, abs, Int, Bool and the document's Int, Bool. No condition but that a word lies in 64 bits.
-/
namespace Go.Proofs.YtoikfpaocgikcaaDoor
open Go.RowKit
namespace WW
theorem ret_b {a b : Bool} (h : a = b) : Ending.returned (.bool a) = .returned (.bool b) := by rw [h]
theorem ret_2 {k k' : IntKind} {a b c d : Int} (h : a = b) (h' : c = d) : Ending.returned (.tuple #[.int k a, .int k' c]) = .returned (.tuple #[.int k b, .int k' d]) := by rw [h, h']
theorem ret_ib {k : IntKind} {a b : Int} {c d : Bool} (h : a = b) (h' : c = d) : Ending.returned (.tuple #[.int k a, .bool c]) = .returned (.tuple #[.int k b, .bool d]) := by rw [h, h']

set_option maxHeartbeats 400000 in
theorem inRange_any (n : Int) (w : World) : Calls Tryd.prog 53 #[.int .i64 n] w fun e w' => e = .returned (.bool (WP.inR n)) ∧ w = w' := by
  by_cases h1 : -1099511627776 < n
  · by_cases h2 : n < 1099511627776
    · go_enter Tryd.func53, Tryd.ntmps53
      go_wp2
      go_ret
      exact ⟨ret_b (by simp [WP.inR, h1, h2]), rfl⟩
    · go_enter Tryd.func53, Tryd.ntmps53
      go_wp2
      go_ret
      exact ⟨ret_b (by simp [WP.inR]; try omega), rfl⟩
  · go_enter Tryd.func53, Tryd.ntmps53
    go_wp2
    go_ret
    exact ⟨ret_b (by simp [WP.inR]; try omega), rfl⟩
set_option maxHeartbeats 400000 in
theorem int_any (n : Int) (w : World) : Calls Tryd.prog 54 #[.int .i64 n] w fun e w' => e = .returned (.tuple #[.int .u64 (WP.intW n), .int .i64 (WP.intE n)]) ∧ w = w' := by
  cases h : WP.inR n
  · go_enter Tryd.func54, Tryd.ntmps54
    go_wp2_with (go_at_call 53; refine (inRange_any _ _).mono ?_; rintro e w' ⟨rfl, rfl⟩)
    go_ret2
    exact ⟨ret_2 (by simp [WP.intW, h]) (by simp [WP.intE, h]), rfl⟩
  · go_enter Tryd.func54, Tryd.ntmps54
    go_wp2_with (go_at_call 53; refine (inRange_any _ _).mono ?_; rintro e w' ⟨rfl, rfl⟩)
    go_ret2
    exact ⟨ret_2 (by rw [WP.mk_int]; simp [WP.intW, h]) (by simp [WP.intE, h]), rfl⟩
set_option maxHeartbeats 400000 in
theorem rint_any (n : Int) (w : World) : Calls Tryd.prog 49 #[.int .i64 n] w fun e w' => e = .returned (.tuple #[.int .u64 (WP.intW n), .int .i64 (WP.intE n)]) ∧ w = w' := by
  by_cases h1 : -1099511627776 < n
  · by_cases h2 : n < 1099511627776
    · have h : WP.inR n = true := by simp [WP.inR, h1, h2]
      go_enter Tryd.func49, Tryd.ntmps49
      go_wp2
      go_ret2
      exact ⟨ret_2 (by rw [WP.mk_rint]; simp [WP.intW, h]) (by simp [WP.intE, h]), rfl⟩
    · have h : WP.inR n = false := by simp [WP.inR]; omega
      go_enter Tryd.func49, Tryd.ntmps49
      go_wp2
      go_ret2
      exact ⟨ret_2 (by simp [WP.intW, h]) (by simp [WP.intE, h]), rfl⟩
  · have h : WP.inR n = false := by simp [WP.inR]; omega
    go_enter Tryd.func49, Tryd.ntmps49
    go_wp2
    go_ret2
    exact ⟨ret_2 (by simp [WP.intW, h]) (by simp [WP.intE, h]), rfl⟩
set_option maxHeartbeats 400000 in
theorem numb_any (k : Int) (w : World) : Calls Tryd.prog 40 #[.int .i64 k] w fun e w' => e = .returned (.bool (WP.kindB k)) ∧ w = w' := by
  by_cases h1 : k = 1
  · subst h1
    go_enter Tryd.func40, Tryd.ntmps40
    go_wp2
    go_ret
    exact ⟨ret_b (by decide), rfl⟩
  · by_cases h2 : k = 3
    · subst h2
      go_enter Tryd.func40, Tryd.ntmps40
      go_wp2
      go_ret
      exact ⟨ret_b (by decide), rfl⟩
    · by_cases h3 : k = 4
      · subst h3
        go_enter Tryd.func40, Tryd.ntmps40
        go_wp2
        go_ret
        exact ⟨ret_b (by decide), rfl⟩
      · go_enter Tryd.func40, Tryd.ntmps40
        go_wp2
        go_ret
        exact ⟨ret_b (by simp [WP.kindB]), rfl⟩
set_option maxHeartbeats 400000 in
theorem of_any (k n : Int) (w : World) : Calls Tryd.prog 20 #[.int .i64 k, .int .i64 n] w fun e w' => e = .returned (.tuple #[.int .u64 (WP.ofW k n), .int .i64 (WP.ofE k n)]) ∧ w = w' := by
  cases h0 : WP.kindB k
  · have h : WP.ofB k n = false := by simp [WP.ofB, h0]
    go_enter Tryd.func20, Tryd.ntmps20
    go_wp2_with (go_at_call 40; refine (numb_any _ _).mono ?_; rintro e w' ⟨rfl, rfl⟩)
    go_ret2
    exact ⟨ret_2 (by simp [WP.ofW, h]) (by simp [WP.ofE, h]), rfl⟩
  · by_cases h1 : 0 ≤ n
    · by_cases h2 : n < 1099511627776
      · have h : WP.ofB k n = true := by simp [WP.ofB, h0, h1, h2]
        go_enter Tryd.func20, Tryd.ntmps20
        go_wp2_with (go_at_call 40; refine (numb_any _ _).mono ?_; rintro e w' ⟨rfl, rfl⟩)
        go_ret2
        exact ⟨ret_2 (by rw [WP.mk_of k n h]) (by simp [WP.ofE, h]), rfl⟩
      · have h : WP.ofB k n = false := by simp [WP.ofB]; omega
        go_enter Tryd.func20, Tryd.ntmps20
        go_wp2_with (go_at_call 40; refine (numb_any _ _).mono ?_; rintro e w' ⟨rfl, rfl⟩)
        go_ret2
        exact ⟨ret_2 (by simp [WP.ofW, h]) (by simp [WP.ofE, h]), rfl⟩
    · have h : WP.ofB k n = false := by simp [WP.ofB]; omega
      go_enter Tryd.func20, Tryd.ntmps20
      go_wp2_with (go_at_call 40; refine (numb_any _ _).mono ?_; rintro e w' ⟨rfl, rfl⟩)
      go_ret2
      exact ⟨ret_2 (by simp [WP.ofW, h]) (by simp [WP.ofE, h]), rfl⟩
set_option maxHeartbeats 400000 in
theorem toint_any (n : Int) (hu : WP.U n) (w : World) : Calls Tryd.prog 38 #[.int .u64 n] w fun e w' => e = .returned (.tuple #[.int .i64 (WP.toIntN n), .bool (WP.toIntB n)]) ∧ w = w' := by
  have ha := WP.and7 n hu
  have hs := WP.sgn_wrap64 n hu
  clear hu
  cases h8 : (n % 8 != 0)
  · cases hr : WP.inR (WP.sgn n)
    · have h := WP.toIntB_out n hr
      have H := Lib.hid h
      clear h
      go_enter Tryd.func38, Tryd.ntmps38
      go_wp2_with (go_at_call 53; refine (inRange_any _ _).mono ?_; rintro e w' ⟨rfl, rfl⟩)
      go_ret2
      exact ⟨ret_ib (by simp [WP.toIntN, H.out]) (by simp [H.out]), rfl⟩
    · have h := WP.toIntB_yes n h8 hr
      have H := Lib.hid h
      clear h
      go_enter Tryd.func38, Tryd.ntmps38
      go_wp2_with (go_at_call 53; refine (inRange_any _ _).mono ?_; rintro e w' ⟨rfl, rfl⟩)
      go_ret2
      exact ⟨ret_ib (by simp [WP.toIntN, H.out]) (by simp [H.out]), rfl⟩
  · have h := WP.toIntB_no n h8
    have H := Lib.hid h
    clear h
    go_enter Tryd.func38, Tryd.ntmps38
    go_wp2_with (go_at_call 53; refine (inRange_any _ _).mono ?_; rintro e w' ⟨rfl, rfl⟩)
    go_ret2
    exact ⟨ret_ib (by simp [WP.toIntN, H.out]) (by simp [H.out]), rfl⟩
set_option maxHeartbeats 400000 in
theorem to_any (k n : Int) (hu : WP.U n) (w : World) : Calls Tryd.prog 47 #[.int .i64 k, .int .u64 n] w fun e w' => e = .returned (.tuple #[.int .i64 (WP.toN k n), .bool (WP.toB k n)]) ∧ w = w' := by
  have ha := WP.and7 n hu
  have hn0 : 0 ≤ n := hu.1
  have hn1 : n / 8 < 2305843009213693952 := by have := hu.2; omega
  clear hu
  cases h0 : WP.kindB k
  · have H := Lib.hid (show WP.toB k n = false by simp [WP.toB, h0])
    go_enter Tryd.func47, Tryd.ntmps47
    go_wp2_with (go_at_call 40; refine (numb_any _ _).mono ?_; rintro e w' ⟨rfl, rfl⟩)
    go_ret2
    exact ⟨ret_ib (by simp [WP.toN, H.out]) (by simp [H.out]), rfl⟩
  · obtain hk := (WP.kindB_iff k).1 h0
    by_cases hm : n % 8 = k
    · by_cases hl : n / 8 < 1099511627776
      · have H := Lib.hid (show WP.toB k n = true by simp [WP.toB, h0, hm, hl])
        have ht : (n % 8 != k) = false := by simp [hm]
        clear hm
        rcases hk with rfl | rfl | rfl
        all_goals
          go_enter Tryd.func47, Tryd.ntmps47
          go_wp2_with (go_at_call 40; refine (numb_any _ _).mono ?_; rintro e w' ⟨rfl, rfl⟩)
          go_ret2
          exact ⟨ret_ib (by simp [WP.toN, H.out]) (by simp [H.out]), rfl⟩
      · have H := Lib.hid (show WP.toB k n = false by simp [WP.toB, hl])
        have ht : (n % 8 != k) = false := by simp [hm]
        clear hm
        rcases hk with rfl | rfl | rfl
        all_goals
          go_enter Tryd.func47, Tryd.ntmps47
          go_wp2_with (go_at_call 40; refine (numb_any _ _).mono ?_; rintro e w' ⟨rfl, rfl⟩)
          go_ret2
          exact ⟨ret_ib (by simp [WP.toN, H.out]) (by simp [H.out]), rfl⟩
    · have H := Lib.hid (show WP.toB k n = false by simp [WP.toB, hm])
      have ht : (n % 8 != k) = true := by simp [hm]
      clear hm
      rcases hk with rfl | rfl | rfl
      all_goals
        go_enter Tryd.func47, Tryd.ntmps47
        go_wp2_with (go_at_call 40; refine (numb_any _ _).mono ?_; rintro e w' ⟨rfl, rfl⟩)
        go_ret2
        exact ⟨ret_ib (by simp [WP.toN, H.out]) (by simp [H.out]), rfl⟩
end WW
end Go.Proofs.YtoikfpaocgikcaaDoor
/-
  Plain lists behind layer 2: an arena as a row of things (kind, words), its two rows of cells, and what is found at a place. No condition.
-/
namespace Go.Proofs.YtoikfpaocgikcaaDoor
namespace AP
open Go.RowKit
structure Th where
  k : Int
  l : List Int
def sz : List Th → Nat
  | [] => 0
  | t :: ts => t.l.length + 1 + sz ts
def fw : List Th → List Int
  | [] => []
  | t :: ts => (t.l.length : Int) :: (t.l ++ fw ts)
def fk : List Th → List Int
  | [] => []
  | t :: ts => t.k :: (List.replicate t.l.length 0 ++ fk ts)
def idx : List Th → Nat → Option Nat
  | [], _ => none
  | t :: ts, a => if a = 0 then some 0 else if a < t.l.length + 1 then none else (idx ts (a - (t.l.length + 1))).map (· + 1)
def words (n : Nat) (ts : List Th) : List Int := fw ts ++ List.replicate (n - sz ts) 0
def kinds (n : Nat) (ts : List Th) : List Int := fk ts ++ List.replicate (n - sz ts) 0
def th (ts : List Th) (i : Nat) : Th := ts.getD i ⟨0, []⟩
def put (ts : List Th) (i j : Nat) (x : Int) : List Th := ts.modify i fun t => ⟨t.k, t.l.set j x⟩

theorem len_fw (ts : List Th) : (fw ts).length = sz ts := by
  induction ts with
  | nil => rfl
  | cons t ts ih => simp [fw, sz, ih]; omega
theorem len_fk (ts : List Th) : (fk ts).length = sz ts := by
  induction ts with
  | nil => rfl
  | cons t ts ih => simp [fk, sz, ih]; omega
theorem len_words (n : Nat) (ts : List Th) (h : sz ts ≤ n) : (words n ts).length = n := by simp [words, len_fw]; omega
theorem len_kinds (n : Nat) (ts : List Th) (h : sz ts ≤ n) : (kinds n ts).length = n := by simp [kinds, len_fk]; omega
theorem sz_append (ts us : List Th) : sz (ts ++ us) = sz ts + sz us := by
  induction ts with
  | nil => simp [sz]
  | cons t ts ih => simp [sz, ih]; omega
theorem fw_append (ts us : List Th) : fw (ts ++ us) = fw ts ++ fw us := by
  induction ts with
  | nil => rfl
  | cons t ts ih => simp [fw, ih]
theorem fk_append (ts us : List Th) : fk (ts ++ us) = fk ts ++ fk us := by
  induction ts with
  | nil => rfl
  | cons t ts ih => simp [fk, ih]
theorem th_cons (t : Th) (ts : List Th) (i : Nat) : th (t :: ts) (i + 1) = th ts i := by simp [th]
theorem th_zero (t : Th) (ts : List Th) : th (t :: ts) 0 = t := by simp [th]
theorem idx_some {ts : List Th} {a i : Nat} (h : idx ts a = some i) : i < ts.length ∧ a = sz (ts.take i) ∧ a + (th ts i).l.length + 1 ≤ sz ts := by
  induction ts generalizing a i with
  | nil => simp [idx] at h
  | cons t ts ih =>
    unfold idx at h
    split at h
    · rename_i ha
      obtain rfl : 0 = i := by simpa using h
      subst ha
      simp [sz, th_zero]
    · split at h
      · cases h
      · rename_i h0 h1
        obtain ⟨j, hj, rfl⟩ := Option.map_eq_some_iff.1 h
        obtain ⟨e1, e2, e3⟩ := ih hj
        refine ⟨by simp; omega, ?_, ?_⟩
        · simp [sz]; omega
        · rw [th_cons]; simp only [sz]; omega
theorem idx_lt {ts : List Th} {a i : Nat} (h : idx ts a = some i) : a < sz ts := by have := (idx_some h).2.2; omega
theorem idx_off (ts : List Th) (i : Nat) (h : i < ts.length) : idx ts (sz (ts.take i)) = some i := by
  induction ts generalizing i with
  | nil => simp at h
  | cons t ts ih =>
    cases i with
    | zero => simp [sz, idx]
    | succ i =>
      simp only [List.take_succ_cons, sz]
      unfold idx
      rw [if_neg (by omega), if_neg (by omega)]
      rw [show t.l.length + 1 + sz (ts.take i) - (t.l.length + 1) = sz (ts.take i) from by omega, ih i (by simpa using h)]
      rfl
def kindAt (ts : List Th) (a : Nat) : Int := match idx ts a with | some i => (th ts i).k | none => 0
theorem fk_at (ts : List Th) (a : Nat) (h : a < sz ts) : (fk ts)[a]? = some (kindAt ts a) := by
  induction ts generalizing a with
  | nil => simp [sz] at h
  | cons t ts ih =>
    by_cases h0 : a = 0
    · subst h0; simp [kindAt, idx, fk, th_zero]
    · unfold kindAt idx
      rw [if_neg h0]
      obtain ⟨b, rfl⟩ : ∃ b, a = b + 1 := ⟨a - 1, by omega⟩
      by_cases h1 : b + 1 < t.l.length + 1
      · rw [if_pos h1]
        simp only [fk, List.getElem?_cons_succ]
        rw [List.getElem?_append_left (by simp only [List.length_replicate]; omega), List.getElem?_replicate, if_pos (by omega)]
      · rw [if_neg h1]
        simp only [fk, List.getElem?_cons_succ]
        rw [List.getElem?_append_right (by simp only [List.length_replicate]; omega)]
        simp only [List.length_replicate]
        simp only [sz] at h
        rw [show b + 1 - (t.l.length + 1) = b - t.l.length from by omega, ih _ (by omega)]
        unfold kindAt
        cases idx ts (b - t.l.length) with
        | none => rfl
        | some i => simp [th_cons]
theorem fw_len {ts : List Th} {a i : Nat} (h : idx ts a = some i) : (fw ts)[a]? = some ((th ts i).l.length : Int) ∧ ∀ j, j < (th ts i).l.length → (fw ts)[a + 1 + j]? = (th ts i).l[j]? := by
  induction ts generalizing a i with
  | nil => simp [idx] at h
  | cons t ts ih =>
    unfold idx at h
    split at h
    · rename_i ha
      obtain rfl : 0 = i := by simpa using h
      subst ha
      rw [th_zero]
      refine ⟨by simp [fw], fun j hj => ?_⟩
      rw [show 0 + 1 + j = j + 1 from by omega]
      simp only [fw, List.getElem?_cons_succ]
      rw [List.getElem?_append_left hj]
    · split at h
      · cases h
      · rename_i h0 h1
        obtain ⟨i', hj, rfl⟩ := Option.map_eq_some_iff.1 h
        obtain ⟨e1, e2⟩ := ih hj
        rw [th_cons]
        obtain ⟨b, rfl⟩ : ∃ b, a = t.l.length + 1 + b := ⟨a - (t.l.length + 1), by omega⟩
        rw [show t.l.length + 1 + b - (t.l.length + 1) = b from by omega] at e1 e2
        have cut : ∀ q, (fw (t :: ts))[t.l.length + 1 + q]? = (fw ts)[q]? := by
          intro q
          rw [show t.l.length + 1 + q = (t.l.length + q) + 1 from by omega]
          simp only [fw, List.getElem?_cons_succ]
          rw [List.getElem?_append_right (by omega), show t.l.length + q - t.l.length = q from by omega]
        refine ⟨by rw [cut]; exact e1, fun j hj => ?_⟩
        rw [show t.l.length + 1 + b + 1 + j = t.l.length + 1 + (b + 1 + j) from by omega, cut]
        exact e2 j hj
theorem words_at {n : Nat} {ts : List Th} {a i : Nat} (h : idx ts a = some i) : (words n ts)[a]? = some ((th ts i).l.length : Int) ∧ ∀ j, j < (th ts i).l.length → (words n ts)[a + 1 + j]? = (th ts i).l[j]? := by
  have h0 := idx_some h
  obtain ⟨e1, e2⟩ := fw_len h
  unfold words
  refine ⟨by rw [List.getElem?_append_left (by rw [len_fw]; omega)]; exact e1, fun j hj => ?_⟩
  rw [List.getElem?_append_left (by rw [len_fw]; omega)]
  exact e2 j hj
theorem kinds_at (n : Nat) (ts : List Th) (a : Nat) (h : a < sz ts) : (kinds n ts)[a]? = some (kindAt ts a) := by
  unfold kinds
  rw [List.getElem?_append_left (by rw [len_fk]; omega)]
  exact fk_at ts a h
/-! ### setting a word -/
theorem put_cons_zero (t : Th) (ts : List Th) (j : Nat) (x : Int) : put (t :: ts) 0 j x = ⟨t.k, t.l.set j x⟩ :: ts := by simp [put]
theorem put_cons_succ (t : Th) (ts : List Th) (i j : Nat) (x : Int) : put (t :: ts) (i + 1) j x = t :: put ts i j x := by simp [put]
theorem sz_put (ts : List Th) (i j : Nat) (x : Int) : sz (put ts i j x) = sz ts := by
  induction ts generalizing i with
  | nil => simp [put]
  | cons t ts ih =>
    cases i with
    | zero => rw [put_cons_zero]; simp [sz]
    | succ i => rw [put_cons_succ]; simp [sz, ih]
theorem fk_put (ts : List Th) (i j : Nat) (x : Int) : fk (put ts i j x) = fk ts := by
  induction ts generalizing i with
  | nil => simp [put]
  | cons t ts ih =>
    cases i with
    | zero => rw [put_cons_zero]; simp [fk]
    | succ i => rw [put_cons_succ]; simp [fk, ih]
theorem idx_put (ts : List Th) (i j : Nat) (x : Int) (a : Nat) : idx (put ts i j x) a = idx ts a := by
  induction ts generalizing i a with
  | nil => simp [put]
  | cons t ts ih =>
    cases i with
    | zero => rw [put_cons_zero]; simp [idx]
    | succ i => rw [put_cons_succ]; simp [idx, ih]
theorem len_put (ts : List Th) (i j : Nat) (x : Int) : (put ts i j x).length = ts.length := by simp [put]
theorem fw_put {ts : List Th} {a i : Nat} (h : idx ts a = some i) (j : Nat) (x : Int) (hj : j < (th ts i).l.length) : fw (put ts i j x) = (fw ts).set (a + 1 + j) x := by
  induction ts generalizing a i with
  | nil => simp [idx] at h
  | cons t ts ih =>
    unfold idx at h
    split at h
    · rename_i ha
      obtain rfl : 0 = i := by simpa using h
      subst ha
      rw [th_zero] at hj
      rw [put_cons_zero]
      simp only [fw, List.length_set]
      rw [show 0 + 1 + j = j + 1 from by omega, List.set_cons_succ, List.set_append_left _ _ hj]
    · split at h
      · cases h
      · rename_i h0 h1
        obtain ⟨i', hi, rfl⟩ := Option.map_eq_some_iff.1 h
        rw [th_cons] at hj
        rw [put_cons_succ]
        simp only [fw]
        rw [ih hi hj]
        obtain ⟨b, rfl⟩ : ∃ b, a = t.l.length + 1 + b := ⟨a - (t.l.length + 1), by omega⟩
        rw [show t.l.length + 1 + b - (t.l.length + 1) = b from by omega, show t.l.length + 1 + b + 1 + j = (t.l.length + (b + 1 + j)) + 1 from by omega, List.set_cons_succ, List.set_append_right _ _ (by omega)]
        rw [show t.l.length + (b + 1 + j) - t.l.length = b + 1 + j from by omega]
theorem words_put {n : Nat} {ts : List Th} {a i : Nat} (h : idx ts a = some i) (j : Nat) (x : Int) (hj : j < (th ts i).l.length) : words n (put ts i j x) = (words n ts).set (a + 1 + j) x := by
  have h0 := idx_some h
  unfold words
  rw [fw_put h j x hj, sz_put, List.set_append_left _ _ (by rw [len_fw]; omega)]
theorem kinds_put (n : Nat) (ts : List Th) (i j : Nat) (x : Int) : kinds n (put ts i j x) = kinds n ts := by simp [kinds, fk_put, sz_put]
theorem th_put_same (ts : List Th) (i j : Nat) (x : Int) (h : i < ts.length) : th (put ts i j x) i = ⟨(th ts i).k, (th ts i).l.set j x⟩ := by
  simp [th, put, List.getD, h]
theorem th_put_other (ts : List Th) (i i' j : Nat) (x : Int) (h : i' ≠ i) : th (put ts i j x) i' = th ts i' := by
  have h' : ¬ i = i' := fun e => h e.symm
  simp [th, put, List.getD, h']
/-! ### a new thing -/
theorem idx_append (ts : List Th) (t : Th) (a : Nat) : idx (ts ++ [t]) a = if a = sz ts then some ts.length else idx ts a := by
  induction ts generalizing a with
  | nil =>
    by_cases h0 : a = 0
    · simp [idx, sz, h0]
    · simp [idx, sz, h0]
  | cons u ts ih =>
    have e : sz (u :: ts) = u.l.length + 1 + sz ts := rfl
    by_cases h0 : a = 0
    · subst h0
      rw [if_neg (by omega)]
      simp [idx]
    · by_cases h1 : a < u.l.length + 1
      · rw [if_neg (by omega)]
        simp [idx, h0, h1]
      · have e2 : ∀ vs : List Th, idx (u :: vs) a = (idx vs (a - (u.l.length + 1))).map (· + 1) := by
          intro vs; rw [idx, if_neg h0, if_neg h1]
        rw [List.cons_append, e2, e2, ih]
        by_cases h2 : a = sz (u :: ts)
        · rw [if_pos h2, if_pos (by omega)]; rfl
        · rw [if_neg h2, if_neg (by omega)]
theorem th_append_old (ts : List Th) (t : Th) (i : Nat) (h : i < ts.length) : th (ts ++ [t]) i = th ts i := by
  simp only [th, List.getD]; rw [List.getElem?_append_left h]
theorem th_append_new (ts : List Th) (t : Th) : th (ts ++ [t]) ts.length = t := by simp [th]
theorem kinds_new (n : Nat) (ts : List Th) (t : Th) (h : sz ts + t.l.length + 1 ≤ n) : kinds n (ts ++ [t]) = (kinds n ts).set (sz ts) t.k := by
  unfold kinds
  rw [fk_append, sz_append, List.set_append_right _ _ (by rw [len_fk]; omega), len_fk, Nat.sub_self]
  have e : n - sz ts = (t.l.length + (n - (sz ts + sz [t]))) + 1 := by simp [sz]; omega
  rw [e, List.replicate_succ, List.set_cons_zero]
  simp only [fk, List.append_nil, List.append_assoc, List.cons_append, List.replicate_append_replicate]
theorem words_new (n : Nat) (ts : List Th) (t : Th) (h : sz ts + t.l.length + 1 ≤ n) : words n (ts ++ [t]) = ((words n ts).set (sz ts) (t.l.length : Int)).take (sz ts + 1) ++ (t.l ++ ((words n ts).set (sz ts) (t.l.length : Int)).drop (sz ts + 1 + t.l.length)) := by
  obtain ⟨r, rfl⟩ : ∃ r, n = sz ts + (t.l.length + r + 1) := ⟨n - (sz ts + t.l.length + 1), by omega⟩
  unfold words
  rw [fw_append, sz_append, List.set_append_right _ _ (by rw [len_fw]; omega), len_fw, Nat.sub_self]
  have e : sz ts + (t.l.length + r + 1) - sz ts = (t.l.length + r) + 1 := by omega
  have e1 : sz ts + (t.l.length + r + 1) - (sz ts + sz [t]) = r := by simp [sz]; omega
  rw [e, e1, List.replicate_succ, List.set_cons_zero, List.take_append, List.drop_append, len_fw]
  rw [List.take_of_length_le (by rw [len_fw]; omega), List.drop_of_length_le (l := fw ts) (by rw [len_fw]; omega)]
  rw [show sz ts + 1 - sz ts = 1 from by omega, show sz ts + 1 + t.l.length - sz ts = t.l.length + 1 from by omega]
  simp [fw, List.drop_replicate]
theorem words_zero (n : Nat) (ts : List Th) (k : Int) (m : Nat) (h : sz ts + m + 1 ≤ n) : words n (ts ++ [⟨k, List.replicate m 0⟩]) = (words n ts).set (sz ts) (m : Int) := by
  obtain ⟨r, rfl⟩ : ∃ r, n = sz ts + (m + r + 1) := ⟨n - (sz ts + m + 1), by omega⟩
  unfold words
  rw [fw_append, sz_append, List.set_append_right _ _ (by rw [len_fw]; omega), len_fw, Nat.sub_self]
  have e : sz ts + (m + r + 1) - sz ts = (m + r) + 1 := by omega
  have e1 : sz ts + (m + r + 1) - (sz ts + sz [⟨k, List.replicate m 0⟩]) = r := by simp [sz]; omega
  rw [e, e1, List.replicate_succ, List.set_cons_zero]
  simp [fw, List.replicate_append_replicate]
theorem words_copy (n : Nat) (ts : List Th) (k : Int) (fs : List Int) (h : sz ts + fs.length + 1 ≤ n) :
    words n (ts ++ [⟨k, fs⟩]) = (words n (ts ++ [⟨k, List.replicate fs.length 0⟩])).take (sz ts + 1) ++ (fs ++ (words n (ts ++ [⟨k, List.replicate fs.length 0⟩])).drop (sz ts + 1 + fs.length)) := by
  rw [words_zero n ts k fs.length h, words_new n ts ⟨k, fs⟩ h]
theorem sz_snoc (ts : List Th) (t : Th) : sz (ts ++ [t]) = sz ts + t.l.length + 1 := by rw [sz_append]; simp [sz]; omega
end AP
end Go.Proofs.YtoikfpaocgikcaaDoor
/-
  Contracts of layer 2's methods that only read: Used, Size, find, fields, field, Get, Kind, Len. Conditions: the arena's rows are as the document's list of things says, a word lies in 64 bits.
-/
namespace Go.Proofs.YtoikfpaocgikcaaDoor
open Go.RowKit
namespace AW
abbrev ptr (p : Nat) : Value := .pointer (some ⟨p, 0, none⟩)
def U64s (l : List Int) : List Value := l.map (Value.int .u64)
def U8s (l : List Int) : List Value := l.map (Value.int .u8)
/-- The things fit, and each is one that may be. -/
structure Ok (n : Nat) (ts : List AP.Th) : Prop where
  size : n ≤ 65536
  room : AP.sz ts ≤ n
  each : ∀ i, i < ts.length → 1 ≤ (AP.th ts i).k ∧ (AP.th ts i).k ≤ 9 ∧ (AP.th ts i).l.length ≤ 255 ∧ ∀ x ∈ (AP.th ts i).l, WP.U x
/-- An arena at block p: its words are block g, its kinds block h. -/
structure Ar (w : World) (p g h n : Nat) (ts : List AP.Th) : Prop where
  ok : Ok n ts
  head : MM.Row w p 55 [.slice (some ⟨g, 0, none⟩) n n, .slice (some ⟨h, 0, none⟩) n n, .int .i64 (AP.sz ts)]
  words : MM.Row w g 36 (U64s (AP.words n ts))
  kinds : MM.Row w h 5 (U8s (AP.kinds n ts))
/-- The thing that a word stands for. -/
def look (ts : List AP.Th) (x : Int) : Option Nat := if WP.toB 1 x then AP.idx ts (WP.toN 1 x).toNat else none
def findN (ts : List AP.Th) (x : Int) : Int := if (look ts x).isSome then WP.toN 1 x else 0
def findB (ts : List AP.Th) (x : Int) : Bool := (look ts x).isSome
theorem toN_nat (x : Int) (hx : WP.U x) : ∃ a : Nat, WP.toN 1 x = a ∧ a < 1099511627776 := by
  refine ⟨(WP.toN 1 x).toNat, ?_, ?_⟩
  · have : 0 ≤ WP.toN 1 x := by
      unfold WP.toN; split
      · have := hx.1; omega
      · omega
    omega
  · unfold WP.toN; split
    · rename_i h; have := (WP.toB_iff 1 x).1 h; omega
    · omega
theorem used_nil (w : World) : Calls Tryd.prog 16 #[.pointer none] w fun e w' => e = .returned (.int .i64 0) ∧ w = w' := by
  go_enter Tryd.func16, Tryd.ntmps16
  go_wp2
  go_ret
  exact ⟨rfl, rfl⟩
theorem size_nil (w : World) : Calls Tryd.prog 18 #[.pointer none] w fun e w' => e = .returned (.int .i64 0) ∧ w = w' := by
  go_enter Tryd.func18, Tryd.ntmps18
  go_wp2
  go_ret
  exact ⟨rfl, rfl⟩
section
variable {w : World} {p g h n : Nat} {ts : List AP.Th}
theorem used_any (hA : Ar w p g h n ts) : Calls Tryd.prog 16 #[ptr p] w fun e w' => e = .returned (.int .i64 (AP.sz ts)) ∧ w = w' := by
  have h2 := hA.head.at (i := 2) rfl
  clear hA
  go_enter Tryd.func16, Tryd.ntmps16
  go_wp2
  go_ret
  exact ⟨rfl, rfl⟩
theorem size_any (hA : Ar w p g h n ts) : Calls Tryd.prog 18 #[ptr p] w fun e w' => e = .returned (.int .i64 n) ∧ w = w' := by
  have h0 := hA.head.at (i := 0) rfl
  clear hA
  go_enter Tryd.func18, Tryd.ntmps18
  go_wp2
  go_ret
  exact ⟨rfl, rfl⟩
/-! ### find -/
theorem find_no (hA : Ar w p g h n ts) (x : Int) (hx : WP.U x) (hn : look ts x = none) : Calls Tryd.prog 57 #[ptr p, .int .u64 x] w fun e w' => e = .returned (.tuple #[.int .i64 0, .bool false]) ∧ w = w' := by
  obtain ⟨a, ha, hal⟩ := toN_nat x hx
  have HX := Lib.hid hx
  clear hx
  cases hb : WP.toB 1 x
  · clear hn ha
    go_enter Tryd.func57, Tryd.ntmps57
    go_wp2_with (first | (go_at_call 47; refine (WW.to_any _ _ HX.out _).mono ?_; rintro e w' ⟨rfl, rfl⟩))
    go_ret2
    exact ⟨rfl, rfl⟩
  · have hi : AP.idx ts a = none := by
      unfold look at hn
      rw [if_pos hb, ha] at hn
      simpa using hn
    have HA := Lib.hid hA
    by_cases hlt : a < AP.sz ts
    · have hk := hA.kinds.at (i := a) (v := .int .u8 0) (by
        unfold U8s
        rw [List.getElem?_map, AP.kinds_at n ts a hlt]
        simp [AP.kindAt, hi])
      have h1 := hA.head.at (i := 1) rfl
      have hnn : AP.sz ts ≤ n := hA.ok.room
      have hn6 : n ≤ 65536 := hA.ok.size
      clear hA hn hi
      go_enter Tryd.func57, Tryd.ntmps57
      go_wp2_with (first | (go_at_call 47; refine (WW.to_any _ _ HX.out _).mono ?_; rintro e w' ⟨rfl, rfl⟩) | (go_at_call 16; refine (used_any HA.out).mono ?_; rintro e w' ⟨rfl, rfl⟩))
      go_ret2
      exact ⟨rfl, rfl⟩
    · clear hA hn hi
      go_enter Tryd.func57, Tryd.ntmps57
      go_wp2_with (first | (go_at_call 47; refine (WW.to_any _ _ HX.out _).mono ?_; rintro e w' ⟨rfl, rfl⟩) | (go_at_call 16; refine (used_any HA.out).mono ?_; rintro e w' ⟨rfl, rfl⟩))
      go_ret2
      exact ⟨rfl, rfl⟩
theorem find_yes (hA : Ar w p g h n ts) (x : Int) (hx : WP.U x) (i a : Nat) (hi : look ts x = some i) (ha : WP.toN 1 x = a) : Calls Tryd.prog 57 #[ptr p, .int .u64 x] w fun e w' => e = .returned (.tuple #[.int .i64 a, .bool true]) ∧ w = w' := by
  have HX := Lib.hid hx
  clear hx
  unfold look at hi
  split at hi
  · rename_i hb
    rw [ha] at hi
    have hi' : AP.idx ts a = some i := by simpa using hi
    have h0 := AP.idx_some hi'
    have hlt : a < AP.sz ts := AP.idx_lt hi'
    have hke := hA.ok.each i h0.1
    obtain ⟨k, hk⟩ : ∃ k, k = (AP.th ts i).k := ⟨_, rfl⟩
    rw [← hk] at hke
    have hc := hA.kinds.at (i := a) (v := .int .u8 k) (by
      unfold U8s
      rw [List.getElem?_map, AP.kinds_at n ts a hlt]
      simp [AP.kindAt, hi', hk])
    have hkz : (k == 0) = false := by rw [beq_eq_false_iff_ne]; omega
    have h1 := hA.head.at (i := 1) rfl
    have hnn : AP.sz ts ≤ n := hA.ok.room
    have hn6 : n ≤ 65536 := hA.ok.size
    have HA := Lib.hid hA
    clear hA hi hi' h0 hk hke
    go_enter Tryd.func57, Tryd.ntmps57
    go_wp2_with (first | (go_at_call 47; refine (WW.to_any _ _ HX.out _).mono ?_; rintro e w' ⟨rfl, rfl⟩) | (go_at_call 16; refine (used_any HA.out).mono ?_; rintro e w' ⟨rfl, rfl⟩))
    go_ret2
    exact ⟨rfl, rfl⟩
  · cases hi
end
end AW
end Go.Proofs.YtoikfpaocgikcaaDoor
/-
  Contracts of layer 2's methods that only read, further: fields, field, Get, Kind, Len. Conditions: the arena's rows are as the document's list of things says, a word lies in 64 bits.
-/
namespace Go.Proofs.YtoikfpaocgikcaaDoor
open Go.RowKit
namespace AW
theorem ret_s {ad : Option Addr} {a b : Nat} (h : a = b) : Ending.returned (.slice ad a a) = .returned (.slice ad b b) := by rw [h]
section
variable {w : World} {p g h n : Nat} {ts : List AP.Th}
/-- What is known of a thing that lies at place a. -/
theorem at_len (hA : Ar w p g h n ts) {i a : Nat} (hi : AP.idx ts a = some i) :
    w.cell? ⟨g, a, none⟩ = some (.int .u64 ((AP.th ts i).l.length : Int)) ∧ a + (AP.th ts i).l.length + 1 ≤ AP.sz ts ∧ AP.sz ts ≤ n ∧ n ≤ 65536 ∧ (AP.th ts i).l.length ≤ 255 ∧ i < ts.length := by
  have h0 := AP.idx_some hi
  refine ⟨hA.words.at (by unfold U64s; rw [List.getElem?_map, (AP.words_at hi).1]; rfl), h0.2.2, hA.ok.room, hA.ok.size, (hA.ok.each i h0.1).2.2.1, h0.1⟩
theorem at_word (hA : Ar w p g h n ts) {i a : Nat} (hi : AP.idx ts a = some i) {j : Nat} (hj : j < (AP.th ts i).l.length) :
    w.cell? ⟨g, a + 1 + j, none⟩ = some (.int .u64 ((AP.th ts i).l[j])) := by
  refine hA.words.at ?_
  unfold U64s
  rw [List.getElem?_map, (AP.words_at hi).2 j hj, List.getElem?_eq_getElem hj]; rfl
theorem fields_pos (hA : Ar w p g h n ts) (i a : Nat) (hi : AP.idx ts a = some i) (L : Nat) (hL : (AP.th ts i).l.length = L) (hp : 0 < L) :
    Calls Tryd.prog 19 #[ptr p, .int .i64 a] w fun e w' => e = .returned (.slice (some ⟨g, a + 1, none⟩) L L) ∧ w = w' := by
  obtain ⟨hc, h1, h2, h3, h4, h5⟩ := at_len hA hi
  have h0 := hA.head.at (i := 0) rfl
  rw [hL] at hc h1 h4
  clear hA hi hL
  go_enter Tryd.func19, Tryd.ntmps19
  go_wp2
  go_ret
  exact ⟨ret_s (by omega), rfl⟩
theorem fields_zero (hA : Ar w p g h n ts) (i a : Nat) (hi : AP.idx ts a = some i) (hL : (AP.th ts i).l.length = 0) :
    Calls Tryd.prog 19 #[ptr p, .int .i64 a] w fun e w' => (∃ ad, e = .returned (.slice ad 0 0)) ∧ w = w' := by
  obtain ⟨hc, h1, h2, h3, h4, h5⟩ := at_len hA hi
  have h0 := hA.head.at (i := 0) rfl
  rw [hL] at hc h1 h4
  clear hA hi hL
  go_enter Tryd.func19, Tryd.ntmps19
  go_wp2
  go_ret
  exact ⟨⟨_, rfl⟩, rfl⟩
/-! ### field -/
theorem field_none (hA : Ar w p g h n ts) (x : Int) (hx : WP.U x) (j : Int) (hn : look ts x = none) :
    Calls Tryd.prog 58 #[ptr p, .int .u64 x, .int .i64 j] w fun e w' => e = .returned (.tuple #[.pointer none, .int .i64 2]) ∧ w = w' := by
  have HX := Lib.hid hx
  have HA := Lib.hid hA
  have HN := Lib.hid hn
  clear hx hA hn
  go_enter Tryd.func58, Tryd.ntmps58
  go_wp2_with (first | (go_at_call 57; refine (find_no HA.out _ HX.out HN.out).mono ?_; rintro e w' ⟨rfl, rfl⟩))
  go_ret2
  exact ⟨rfl, rfl⟩
theorem field_out (hA : Ar w p g h n ts) (x : Int) (hx : WP.U x) (j : Int) (i : Nat) (hi : look ts x = some i) (hj : ¬ (0 ≤ j ∧ j < (AP.th ts i).l.length)) :
    Calls Tryd.prog 58 #[ptr p, .int .u64 x, .int .i64 j] w fun e w' => e = .returned (.tuple #[.pointer none, .int .i64 1]) ∧ w = w' := by
  obtain ⟨a, ha, hal⟩ := toN_nat x hx
  have hi2 : AP.idx ts a = some i := by
    unfold look at hi
    split at hi
    · rw [ha] at hi; simpa using hi
    · cases hi
  have HI2 := Lib.hid hi2
  have HX := Lib.hid hx
  have HA := Lib.hid hA
  have HN := Lib.hid hi
  have HP := Lib.hid ha
  obtain ⟨L, hL⟩ : ∃ L, (AP.th ts i).l.length = L := ⟨_, rfl⟩
  have hb := (at_len hA hi2).2
  rw [hL] at hj hb
  have hL6 : L ≤ 255 := by omega
  have HL := Lib.hid hL
  clear hx hA hi hi2 ha hL hb
  by_cases hjn : j < 0
  · clear hj
    go_enter Tryd.func58, Tryd.ntmps58
    rcases Nat.eq_zero_or_pos L with h0 | h0
    · subst h0
      go_wp2_with (first | (go_at_call 57; refine (find_yes HA.out _ HX.out i a HN.out HP.out).mono ?_; rintro e w' ⟨rfl, rfl⟩) | (go_at_call 19; refine (fields_zero HA.out i a HI2.out HL.out).mono ?_; rintro e w' ⟨⟨ad, rfl⟩, rfl⟩))
      go_ret2
      exact ⟨rfl, rfl⟩
    · go_wp2_with (first | (go_at_call 57; refine (find_yes HA.out _ HX.out i a HN.out HP.out).mono ?_; rintro e w' ⟨rfl, rfl⟩) | (go_at_call 19; refine (fields_pos HA.out i a HI2.out L HL.out h0).mono ?_; rintro e w' ⟨rfl, rfl⟩))
      go_ret2
      exact ⟨rfl, rfl⟩
  · have hj2 : (L : Int) ≤ j := by omega
    clear hj
    go_enter Tryd.func58, Tryd.ntmps58
    rcases Nat.eq_zero_or_pos L with h0 | h0
    · subst h0
      have hj3 : 0 ≤ j := by omega
      go_wp2_with (first | (go_at_call 57; refine (find_yes HA.out _ HX.out i a HN.out HP.out).mono ?_; rintro e w' ⟨rfl, rfl⟩) | (go_at_call 19; refine (fields_zero HA.out i a HI2.out HL.out).mono ?_; rintro e w' ⟨⟨ad, rfl⟩, rfl⟩))
      go_ret2
      exact ⟨rfl, rfl⟩
    · go_wp2_with (first | (go_at_call 57; refine (find_yes HA.out _ HX.out i a HN.out HP.out).mono ?_; rintro e w' ⟨rfl, rfl⟩) | (go_at_call 19; refine (fields_pos HA.out i a HI2.out L HL.out h0).mono ?_; rintro e w' ⟨rfl, rfl⟩))
      go_ret2
      exact ⟨rfl, rfl⟩
theorem field_in (hA : Ar w p g h n ts) (x : Int) (hx : WP.U x) (j : Nat) (i a : Nat) (hi : look ts x = some i) (ha : WP.toN 1 x = a) (hj : j < (AP.th ts i).l.length) :
    Calls Tryd.prog 58 #[ptr p, .int .u64 x, .int .i64 j] w fun e w' => e = .returned (.tuple #[.pointer (some ⟨g, a + 1 + j, none⟩), .int .i64 0]) ∧ w = w' := by
  have hi2 : AP.idx ts a = some i := by
    unfold look at hi
    split at hi
    · rw [ha] at hi; simpa using hi
    · cases hi
  have HI2 := Lib.hid hi2
  have HX := Lib.hid hx
  have HA := Lib.hid hA
  have HN := Lib.hid hi
  have HP := Lib.hid ha
  obtain ⟨L, hL⟩ : ∃ L, (AP.th ts i).l.length = L := ⟨_, rfl⟩
  have hb := (at_len hA hi2).2
  rw [hL] at hj hb
  have hL6 : L ≤ 255 := by omega
  have h0 : 0 < L := by omega
  have HL := Lib.hid hL
  clear hx hA hi hi2 ha hL hb
  go_enter Tryd.func58, Tryd.ntmps58
  go_wp2_with (first | (go_at_call 57; refine (find_yes HA.out _ HX.out i a HN.out HP.out).mono ?_; rintro e w' ⟨rfl, rfl⟩) | (go_at_call 19; refine (fields_pos HA.out i a HI2.out L HL.out h0).mono ?_; rintro e w' ⟨rfl, rfl⟩))
  go_ret2
  exact ⟨rfl, rfl⟩
end
end AW
end Go.Proofs.YtoikfpaocgikcaaDoor
/-
  Contracts of layer 2's Get, Kind, Len and Set, of a nil arena as well. Conditions: the arena's rows are as the document's list of things says, a word lies in 64 bits.
-/
namespace Go.Proofs.YtoikfpaocgikcaaDoor
open Go.RowKit
namespace AW
def getE (ts : List AP.Th) (x j : Int) : Int := match look ts x with | none => 2 | some i => if 0 ≤ j ∧ j < (AP.th ts i).l.length then 0 else 1
def getW (ts : List AP.Th) (x j : Int) : Int := match look ts x with | none => 0 | some i => if 0 ≤ j ∧ j < (AP.th ts i).l.length then (AP.th ts i).l.getD j.toNat 0 else 0
def kindN (ts : List AP.Th) (x : Int) : Int := match look ts x with | none => 0 | some i => (AP.th ts i).k
def lenN (ts : List AP.Th) (x : Int) : Int := match look ts x with | none => 0 | some i => (AP.th ts i).l.length
def setT (ts : List AP.Th) (x j v : Int) : List AP.Th := match look ts x with | none => ts | some i => if 0 ≤ j ∧ j < (AP.th ts i).l.length then AP.put ts i j.toNat v else ts
theorem ret_u {k : IntKind} {a b : Int} (h : a = b) : Ending.returned (.int k a) = .returned (.int k b) := by rw [h]
theorem ret_uu {k k' : IntKind} {a b c d : Int} (h : a = b) (h' : c = d) : Ending.returned (.tuple #[.int k a, .int k' c]) = .returned (.tuple #[.int k b, .int k' d]) := by rw [h, h']
section
variable {w : World} {p g h n : Nat} {ts : List AP.Th}
theorem look_idx {x : Int} {a i : Nat} (hi : look ts x = some i) (ha : WP.toN 1 x = a) : AP.idx ts a = some i := by
  unfold look at hi
  split at hi
  · rw [ha] at hi; simpa using hi
  · cases hi
theorem get_any (hA : Ar w p g h n ts) (x : Int) (hx : WP.U x) (j : Int) :
    Calls Tryd.prog 46 #[ptr p, .int .u64 x, .int .i64 j] w fun e w' => e = .returned (.tuple #[.int .u64 (getW ts x j), .int .i64 (getE ts x j)]) ∧ w = w' := by
  have HX := Lib.hid hx
  have HA := Lib.hid hA
  cases hl : look ts x with
  | none =>
    have H1 := Lib.hid (show getW ts x j = 0 by simp [getW, hl])
    have H2 := Lib.hid (show getE ts x j = 2 by simp [getE, hl])
    have HN := Lib.hid hl
    clear hx hA hl
    go_enter Tryd.func46, Tryd.ntmps46
    go_wp2_with (first | (go_at_call 58; refine (field_none HA.out _ HX.out _ HN.out).mono ?_; rintro e w' ⟨rfl, rfl⟩))
    go_ret2
    exact ⟨ret_uu H1.out.symm H2.out.symm, rfl⟩
  | some i =>
    by_cases hj : 0 ≤ j ∧ j < (AP.th ts i).l.length
    · obtain ⟨a, ha, hal⟩ := toN_nat x hx
      obtain ⟨k, rfl⟩ : ∃ k : Nat, j = k := ⟨j.toNat, by omega⟩
      have hk : k < (AP.th ts i).l.length := by omega
      have hc := at_word hA (look_idx hl ha) hk
      have hb := (at_len hA (look_idx hl ha)).2
      obtain ⟨v, hv⟩ : ∃ v, (AP.th ts i).l[k] = v := ⟨_, rfl⟩
      rw [hv] at hc
      have H1 := Lib.hid (show getW ts x k = v by simp [getW, hl, hk, hv])
      have H2 := Lib.hid (show getE ts x k = 0 by simp [getE, hl, hk])
      have HN := Lib.hid hl
      have HP := Lib.hid ha
      have HK := Lib.hid hk
      clear hx hA hl ha hv hk hj hb
      go_enter Tryd.func46, Tryd.ntmps46
      go_wp2_with (first | (go_at_call 58; refine (field_in HA.out _ HX.out _ i a HN.out HP.out HK.out).mono ?_; rintro e w' ⟨rfl, rfl⟩))
      go_ret2
      exact ⟨ret_uu H1.out.symm H2.out.symm, rfl⟩
    · have H1 := Lib.hid (show getW ts x j = 0 by simp only [getW, hl]; rw [if_neg hj])
      have H2 := Lib.hid (show getE ts x j = 1 by simp only [getE, hl]; rw [if_neg hj])
      have HN := Lib.hid hl
      have HJ := Lib.hid hj
      clear hx hA hl hj
      go_enter Tryd.func46, Tryd.ntmps46
      go_wp2_with (first | (go_at_call 58; refine (field_out HA.out _ HX.out _ i HN.out HJ.out).mono ?_; rintro e w' ⟨rfl, rfl⟩))
      go_ret2
      exact ⟨ret_uu H1.out.symm H2.out.symm, rfl⟩
theorem kind_any (hA : Ar w p g h n ts) (x : Int) (hx : WP.U x) :
    Calls Tryd.prog 44 #[ptr p, .int .u64 x] w fun e w' => e = .returned (.int .i64 (kindN ts x)) ∧ w = w' := by
  have HX := Lib.hid hx
  have HA := Lib.hid hA
  cases hl : look ts x with
  | none =>
    have H1 := Lib.hid (show kindN ts x = 0 by simp [kindN, hl])
    have HN := Lib.hid hl
    clear hx hA hl
    go_enter Tryd.func44, Tryd.ntmps44
    go_wp2_with (first | (go_at_call 57; refine (find_no HA.out _ HX.out HN.out).mono ?_; rintro e w' ⟨rfl, rfl⟩))
    go_ret
    exact ⟨ret_u H1.out.symm, rfl⟩
  | some i =>
    obtain ⟨a, ha, hal⟩ := toN_nat x hx
    have hi2 := look_idx hl ha
    have hb := (at_len hA hi2).2
    have hlt := AP.idx_lt hi2
    have hke := hA.ok.each i hb.2.2.2.2
    obtain ⟨k, hk⟩ : ∃ k, k = (AP.th ts i).k := ⟨_, rfl⟩
    have hc := hA.kinds.at (i := a) (v := .int .u8 k) (by
      unfold U8s
      rw [List.getElem?_map, AP.kinds_at n ts a hlt]
      simp [AP.kindAt, hi2, hk])
    have h1 := hA.head.at (i := 1) rfl
    have H1 := Lib.hid (show kindN ts x = k by simp [kindN, hl, hk])
    rw [← hk] at hke
    have hk0 : 1 ≤ k := hke.1
    have hk9 : k ≤ 9 := hke.2.1
    have han : a < n := by omega
    have hn6 : n ≤ 65536 := hA.ok.size
    have HN := Lib.hid hl
    have HP := Lib.hid ha
    clear hx hA hl ha hke hk hb hi2 hlt
    go_enter Tryd.func44, Tryd.ntmps44
    go_wp2_with (first | (go_at_call 57; refine (find_yes HA.out _ HX.out i a HN.out HP.out).mono ?_; rintro e w' ⟨rfl, rfl⟩))
    go_ret
    exact ⟨ret_u H1.out.symm, rfl⟩
theorem len_any (hA : Ar w p g h n ts) (x : Int) (hx : WP.U x) :
    Calls Tryd.prog 45 #[ptr p, .int .u64 x] w fun e w' => e = .returned (.int .i64 (lenN ts x)) ∧ w = w' := by
  have HX := Lib.hid hx
  have HA := Lib.hid hA
  cases hl : look ts x with
  | none =>
    have H1 := Lib.hid (show lenN ts x = 0 by simp [lenN, hl])
    have HN := Lib.hid hl
    clear hx hA hl
    go_enter Tryd.func45, Tryd.ntmps45
    go_wp2_with (first | (go_at_call 57; refine (find_no HA.out _ HX.out HN.out).mono ?_; rintro e w' ⟨rfl, rfl⟩))
    go_ret
    exact ⟨ret_u H1.out.symm, rfl⟩
  | some i =>
    obtain ⟨a, ha, hal⟩ := toN_nat x hx
    have hi2 := look_idx hl ha
    have HI2 := Lib.hid hi2
    obtain ⟨L, hL⟩ : ∃ L, (AP.th ts i).l.length = L := ⟨_, rfl⟩
    have H1 := Lib.hid (show lenN ts x = L by simp [lenN, hl, hL])
    have HL := Lib.hid hL
    have HN := Lib.hid hl
    have HP := Lib.hid ha
    clear hx hA hl ha hL hi2
    go_enter Tryd.func45, Tryd.ntmps45
    rcases Nat.eq_zero_or_pos L with h0 | h0
    · subst h0
      go_wp2_with (first | (go_at_call 57; refine (find_yes HA.out _ HX.out i a HN.out HP.out).mono ?_; rintro e w' ⟨rfl, rfl⟩) | (go_at_call 19; refine (fields_zero HA.out i a HI2.out HL.out).mono ?_; rintro e w' ⟨⟨ad, rfl⟩, rfl⟩))
      go_ret
      exact ⟨ret_u H1.out.symm, rfl⟩
    · go_wp2_with (first | (go_at_call 57; refine (find_yes HA.out _ HX.out i a HN.out HP.out).mono ?_; rintro e w' ⟨rfl, rfl⟩) | (go_at_call 19; refine (fields_pos HA.out i a HI2.out L HL.out h0).mono ?_; rintro e w' ⟨rfl, rfl⟩))
      go_ret
      exact ⟨ret_u H1.out.symm, rfl⟩
/-! ### Set -/
theorem ok_put (hO : Ok n ts) (i j : Nat) (v : Int) (hv : WP.U v) : Ok n (AP.put ts i j v) := by
  refine ⟨hO.size, by rw [AP.sz_put]; exact hO.room, fun k hk => ?_⟩
  rw [AP.len_put] at hk
  by_cases e : k = i
  · subst e
    rw [AP.th_put_same _ _ _ _ hk]
    have h1 := hO.each k hk
    refine ⟨h1.1, h1.2.1, by simpa using h1.2.2.1, fun y hy => ?_⟩
    rcases List.mem_or_eq_of_mem_set hy with hy | hy
    · exact h1.2.2.2 y hy
    · rw [hy]; exact hv
  · rw [AP.th_put_other _ _ _ _ _ e]; exact hO.each k hk
theorem ok_setT (hO : Ok n ts) (x j v : Int) (hv : WP.U v) : Ok n (setT ts x j v) := by
  unfold setT
  split
  · exact hO
  · split
    · exact ok_put hO _ _ _ hv
    · exact hO
theorem Ar.ne (hA : Ar w p g h n ts) : p ≠ g ∧ p ≠ h ∧ g ≠ h := ⟨hA.head.ne hA.words (by decide), hA.head.ne hA.kinds (by decide), hA.words.ne hA.kinds (by decide)⟩
theorem Ar.far {S : List Nat} {w' : World} (hA : Ar w p g h n ts) (k : MM.Far S w w') (hp : p ∉ S) (hg : g ∉ S) (hh : h ∉ S) : Ar w' p g h n ts :=
  ⟨hA.ok, hA.head.far k hp, hA.words.far k hg, hA.kinds.far k hh⟩
theorem ar_put (hA : Ar w p g h n ts) {i a : Nat} (hi : AP.idx ts a = some i) {k : Nat} (hk : k < (AP.th ts i).l.length) (v : Int) (hv : WP.U v) :
    Ar (w.setCell ⟨g, a + 1 + k, none⟩ (.int .u64 v)) p g h n (AP.put ts i k v) := by
  have hne := hA.ne
  refine ⟨ok_put hA.ok _ _ _ hv, ?_, ?_, ?_⟩
  · rw [AP.sz_put]; exact hA.head.other hne.1 _
  · have := hA.words.put (a + 1 + k) (.int .u64 v)
    rw [AP.words_put hi k v hk]
    unfold U64s at this ⊢
    rw [List.map_set]; exact this
  · rw [AP.kinds_put]; exact hA.kinds.other hne.2.2.symm _
end
end AW
end Go.Proofs.YtoikfpaocgikcaaDoor

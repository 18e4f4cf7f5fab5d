/-
  Layer 5 in plain words, besides: a text that is one word. No condition.
-/
import Derived.Test.YtbglcdjimipeeaaDoorLexLaws1
import Derived.Test.YtbglcdjimipeeaaDoorLexFacts
namespace Go.Proofs.YtbglcdjimipeeaaDoor
open Go.RowKit
namespace LX
def lts : List UInt8 := [97, 98, 99, 120, 121, 122, 65, 66, 90, 48, 49, 50, 51, 52, 53, 54, 55, 56, 57, 33, 36, 37, 38, 42, 43, 45, 47, 58, 60, 61, 62, 63, 94, 95, 126]
def ltsB : ByteArray := ⟨#[97, 98, 99, 120, 121, 122, 65, 66, 90, 48, 49, 50, 51, 52, 53, 54, 55, 56, 57, 33, 36, 37, 38, 42, 43, 45, 47, 58, 60, 61, 62, 63, 94, 95, 126]⟩
theorem lts_let : ∀ c ∈ lts, let_ c = true := by decide
theorem let_apart {c : UInt8} (h : let_ c = true) : blank c = false ∧ c ≠ 59 ∧ mark c = 0 ∧ c ≠ 35 := by
  have : ∀ n : Fin 256, let_ (UInt8.ofNat n.1) = true → (blank (UInt8.ofNat n.1) = false ∧ UInt8.ofNat n.1 ≠ 59 ∧ mark (UInt8.ofNat n.1) = 0 ∧ UInt8.ofNat n.1 ≠ 35) := by decide +kernel
  have h2 := this ⟨c.toNat, c.toNat_lt⟩
  simp only [UInt8.ofNat_toNat] at h2
  exact h2 h
theorem word_all {l : List UInt8} (h : l.all let_ = true) : word l = l := by
  unfold word
  induction l with
  | nil => rfl
  | cons c r ih =>
    rw [List.all_cons, Bool.and_eq_true] at h
    rw [List.takeWhile_cons, if_pos h.1, ih h.2]
/-- A text that is one word. -/
theorem lexL_word {c : UInt8} {r : List UInt8} (h : (c :: r).all let_ = true) (a : Nat) (out : List Tk) : lexL (c :: r) a out = match one (c :: r) with
    | .skip _ => .ok out
    | .tok kd n s _ => .ok (out ++ [⟨kd, a, n, s⟩])
    | .err e => .error (a, e) := by
  have hc : let_ c = true := by rw [List.all_cons, Bool.and_eq_true] at h; exact h.1
  obtain ⟨h1, h2, h3, h4⟩ := let_apart hc
  rw [lexL_step, step_one h1 h2 h3 h4 hc, word_all h]
  cases h9 : one (c :: r) with
  | skip k => exact (one_skip h9).elim
  | err e => rfl
  | tok kd n s k =>
    have := one_k h9
    subst this
    simp only
    rw [List.drop_length, lexL_nil]
/-- So far digits, but for a sign at the head where there are two. -/
def okN (two : Bool) (l : List UInt8) : Bool := match l with
  | [] => true
  | c :: r => (dig c || (c == 45 && two)) && r.all dig
theorem okN_snoc (two : Bool) (l : List UInt8) (x : UInt8) : okN two (l ++ [x]) = (okN two l && (dig x || (l.isEmpty && (x == 45 && two)))) := by
  cases l with
  | nil => simp [okN]
  | cons c r => simp [okN, Bool.and_assoc]
theorem okN_number {two : Bool} {l : List UInt8} (h : l ≠ []) (ht : two = decide (1 < l.length)) : okN two l = number l := by
  cases l with
  | nil => exact absurd rfl h
  | cons c r =>
    unfold okN number unsign
    by_cases hc : c = 45
    · subst hc
      have hd : dig 45 = false := by decide
      have e : two = decide (0 < r.length) := by rw [ht]; simp
      simp only [hd, if_true, Bool.false_or, beq_self_eq_true, Bool.true_and]
      rw [e, Bool.and_comm]
    · have e : (c == 45) = false := by simpa using hc
      simp [e, hc]
/-- A number of few letters is within the bounds. -/
theorem value_few {l : List UInt8} (h : number l = true) (hl : l.length ≤ 12) : -1099511627776 < value l ∧ value l < 1099511627776 := by
  have key : ∀ q : List UInt8, q.all dig = true → q.length ≤ 12 → 0 ≤ val q ∧ val q < 1099511627776 := by
    intro q hq hql
    obtain ⟨h1, h2⟩ := val_bound q hq
    refine ⟨h1, Int.lt_of_lt_of_le h2 ?_⟩
    have h := Nat.pow_le_pow_right (n := 10) (by decide) hql
    have e : ((10 ^ q.length : Nat) : Int) = (10 : Int) ^ q.length := by rw [Int.natCast_pow]; rfl
    rw [← e]; omega
  cases l with
  | nil => cases h
  | cons c r =>
    by_cases hc : c = 45
    · subst hc
      have e2 : number (45 :: r) = (r.all dig && decide (0 < r.length)) := rfl
      rw [e2, Bool.and_eq_true] at h
      have e3 : value (45 :: r) = - val r := rfl
      rw [List.length_cons] at hl
      have := key r h.1 (by omega)
      rw [e3]; omega
    · have e2 : number (c :: r) = ((c :: r).all dig && decide (0 < (c :: r).length)) := by unfold number unsign; simp only [if_neg hc]
      rw [e2, Bool.and_eq_true] at h
      have e3 : value (c :: r) = val (c :: r) := by unfold value; simp only [if_neg hc]
      have := key _ h.1 hl
      rw [e3]; omega
/-- What a text of one word comes to. -/
theorem lex_word (l : List UInt8) (h : l.all let_ = true) (h0 : l ≠ []) (hl : l.length ≤ 60) :
    (number l = true ∧ ((∃ v, lex (str l) = .ok [⟨4, 0, v, emp⟩]) ∨ (lex (str l) = .error (0, 51) ∧ 12 < l.length))) ∨
    (number l = false ∧ ((32 < l.length ∧ lex (str l) = .error (0, 3)) ∨ (l.length ≤ 32 ∧ lex (str l) = .ok [⟨6, 0, 0, str l⟩]))) := by
  have e : lex (str l) = lexL l 0 [] := by unfold lex; rw [if_neg (by rw [str_size]; omega), bts_str]
  rw [e]
  cases l with
  | nil => exact absurd rfl h0
  | cons c r =>
    rw [lexL_word h]
    by_cases hn : number (c :: r) = true
    · left
      refine ⟨hn, ?_⟩
      unfold one
      rw [if_neg (by rw [hn]; decide)]
      by_cases h13 : 13 < (c :: r).length
      · rw [if_pos h13]; exact .inr ⟨rfl, by omega⟩
      · rw [if_neg h13]
        by_cases hv : value (c :: r) ≤ -1099511627776 ∨ 1099511627776 ≤ value (c :: r)
        · rw [if_pos hv]
          refine .inr ⟨rfl, ?_⟩
          by_cases h12 : (c :: r).length ≤ 12
          · have := value_few hn h12
            omega
          · omega
        · rw [if_neg hv]; exact .inl ⟨_, rfl⟩
    · right
      have hn : number (c :: r) = false := by simpa using hn
      refine ⟨hn, ?_⟩
      unfold one
      rw [if_pos hn]
      by_cases h32 : 32 < (c :: r).length
      · rw [if_pos h32]; exact .inl ⟨h32, rfl⟩
      · rw [if_neg h32]; exact .inr ⟨by omega, rfl⟩
theorem lex_none : lex (str []) = .ok [] := rfl
end LX
end Go.Proofs.YtbglcdjimipeeaaDoor

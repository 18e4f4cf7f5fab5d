/-
  Layer 5 in plain words: a text's bytes as tokens, step by step. No condition.
-/
import Derived.Lib.Strings
namespace Go.Proofs.YtbglcdjimipeeaaDoor
namespace LX
def let_ (c : UInt8) : Bool := (decide (97 ≤ c.toNat) && decide (c.toNat ≤ 122)) || (decide (65 ≤ c.toNat) && decide (c.toNat ≤ 90)) || (decide (48 ≤ c.toNat) && decide (c.toNat ≤ 57)) || [33, 36, 37, 38, 42, 43, 45, 47, 58, 60, 61, 62, 63, 94, 95, 126].contains c
def dig (c : UInt8) : Bool := decide (48 ≤ c.toNat) && decide (c.toNat ≤ 57)
def blank (c : UInt8) : Bool := c == 32 || c == 9 || c == 10
def mark (c : UInt8) : Int := if c = 40 then 1 else if c = 41 then 2 else if c = 39 then 3 else 0
/-- The letters of a name at a text's head. -/
def word (l : List UInt8) : List UInt8 := l.takeWhile let_
def unsign (w : List UInt8) : List UInt8 := match w with | [] => [] | c :: r => if c = 45 then r else c :: r
def number (w : List UInt8) : Bool := (unsign w).all dig && decide (0 < (unsign w).length)
def val (w : List UInt8) : Int := w.foldl (fun n c => n * 10 + ((c.toNat : Int) - 48)) 0
def value (w : List UInt8) : Int := match w with | [] => 0 | c :: r => if c = 45 then - val r else val (c :: r)
/-- A token: what, where, its number, its letters. -/
structure Tk where
  kind : Int
  at_ : Int
  n : Int
  s : ByteArray
def str (w : List UInt8) : ByteArray := ⟨w.toArray⟩
def emp : ByteArray := ⟨#[]⟩
/-- What a text's head is: passed over, so many bytes; a token, of so many bytes; wrong. -/
inductive St where
  | skip (k : Nat)
  | tok (kind n : Int) (s : ByteArray) (k : Nat)
  | err (e : Int)
def one (w : List UInt8) : St :=
  if number w = false then
    if 32 < w.length then .err 3 else .tok 6 0 (str w) w.length
  else if 13 < w.length then .err 51
  else if value w ≤ -1099511627776 ∨ 1099511627776 ≤ value w then .err 51
  else .tok 4 (value w) emp w.length
def note (l : List UInt8) : List UInt8 := l.takeWhile (fun c => c != 10)
def step (l : List UInt8) : St :=
  match l with
  | [] => .err 0
  | c :: r =>
    if blank c then .skip 1
    else if c = 59 then .skip (note (c :: r)).length
    else if mark c ≠ 0 then .tok (mark c) 0 emp 1
    else if c = 35 then
      if word r = [116] then .tok 5 1 emp 2
      else if word r = [102] then .tok 5 0 emp 2
      else .err 50
    else if let_ c = false then .err 50
    else one (word (c :: r))
/-- The tokens of a text's rest, the first byte of which stands at a; or where it is wrong. -/
def lexF : Nat → List UInt8 → Nat → List Tk → Except (Nat × Int) (List Tk)
  | 0, _, _, out => .ok out
  | f + 1, l, a, out =>
    match l with
    | [] => .ok out
    | c :: r =>
      match step (c :: r) with
      | .skip k => lexF f ((c :: r).drop k) (a + k) out
      | .tok kd n s k => lexF f ((c :: r).drop k) (a + k) (out ++ [⟨kd, a, n, s⟩])
      | .err e => .error (a, e)
def lexL (l : List UInt8) (a : Nat) (out : List Tk) : Except (Nat × Int) (List Tk) := lexF l.length l a out
def bts (s : ByteArray) : List UInt8 := s.data.toList
def lex (s : ByteArray) : Except (Nat × Int) (List Tk) := if 4000 < s.size then .error (0, 3) else lexL (bts s) 0 []
/-! ### every step goes on -/
theorem word_pos {c : UInt8} {r : List UInt8} (h : let_ c = true) : 0 < (word (c :: r)).length := by simp [word, h]
theorem word_le (l : List UInt8) : (word l).length ≤ l.length := (List.takeWhile_prefix _).length_le
theorem note_le (l : List UInt8) : (note l).length ≤ l.length := (List.takeWhile_prefix _).length_le
theorem one_k {w : List UInt8} {kd n : Int} {s : ByteArray} {k : Nat} (h : one w = .tok kd n s k) : k = w.length := by
  unfold one at h
  split at h
  · split at h
    · cases h
    · injection h with _ _ _ h; exact h.symm
  · split at h
    · cases h
    · split at h
      · cases h
      · injection h with _ _ _ h; exact h.symm
theorem one_skip {w : List UInt8} {k : Nat} (h : one w = .skip k) : False := by
  unfold one at h
  split at h
  · split at h <;> cases h
  · split at h
    · cases h
    · split at h <;> cases h
/-- How far a step goes. -/
def adv : St → Nat
  | .skip k => k
  | .tok _ _ _ k => k
  | .err _ => 0
theorem step_adv (c : UInt8) (r : List UInt8) : (∃ e, step (c :: r) = .err e) ∨ (0 < adv (step (c :: r)) ∧ adv (step (c :: r)) ≤ (c :: r).length) := by
  unfold step
  by_cases h1 : blank c = true
  · right; simp [h1, adv]
  simp only [h1, Bool.false_eq_true, if_false]
  by_cases h2 : c = 59
  · right
    subst h2
    rw [if_pos rfl]
    refine ⟨?_, note_le _⟩
    simp [adv, note]
  rw [if_neg h2]
  by_cases h3 : mark c ≠ 0
  · right; rw [if_pos h3]; simp [adv]
  rw [if_neg h3]
  by_cases h4 : c = 35
  · rw [if_pos h4]
    by_cases h5 : word r = [116]
    · right
      rw [if_pos h5]
      have := word_le r
      rw [h5] at this
      simp [adv] at this ⊢; omega
    rw [if_neg h5]
    by_cases h6 : word r = [102]
    · right
      rw [if_pos h6]
      have := word_le r
      rw [h6] at this
      simp [adv] at this ⊢; omega
    rw [if_neg h6]
    exact .inl ⟨_, rfl⟩
  rw [if_neg h4]
  by_cases h7 : let_ c = false
  · left; rw [if_pos h7]; exact ⟨_, rfl⟩
  rw [if_neg h7]
  have h8 : let_ c = true := by simpa using h7
  cases h9 : one (word (c :: r)) with
  | skip k => exact (one_skip h9).elim
  | tok kd n s k =>
    right
    have := one_k h9
    subst this
    exact ⟨word_pos h8, word_le _⟩
  | err e => exact .inl ⟨_, rfl⟩
/-- More fuel changes nothing. -/
theorem lexF_eq : ∀ (f g : Nat) (l : List UInt8) (a : Nat) (out : List Tk), l.length ≤ f → l.length ≤ g → lexF f l a out = lexF g l a out := by
  intro f
  induction f with
  | zero =>
    intro g l a out h _
    have : l = [] := List.eq_nil_of_length_eq_zero (by omega)
    subst this
    cases g <;> rfl
  | succ f ih =>
    intro g l a out hf hg
    cases l with
    | nil => cases g <;> rfl
    | cons c r =>
      cases g with
      | zero => simp at hg
      | succ g =>
        simp only [lexF]
        simp only [List.length_cons] at hf hg
        rcases step_adv c r with ⟨e, he⟩ | ⟨h1, _⟩
        · rw [he]
        · have hd : ∀ k, 0 < k → ((c :: r).drop k).length ≤ r.length := by
            intro k hk; rw [List.length_drop, List.length_cons]; omega
          cases hs : step (c :: r) with
          | err e => rfl
          | skip k =>
            rw [hs] at h1
            have := hd k h1
            exact ih g _ _ _ (by omega) (by omega)
          | tok kd n s k =>
            rw [hs] at h1
            have := hd k h1
            exact ih g _ _ _ (by omega) (by omega)
theorem lexL_nil (a : Nat) (out : List Tk) : lexL [] a out = .ok out := rfl
/-- One step. -/
theorem lexL_step (c : UInt8) (r : List UInt8) (a : Nat) (out : List Tk) : lexL (c :: r) a out = match step (c :: r) with
    | .skip k => lexL ((c :: r).drop k) (a + k) out
    | .tok kd n s k => lexL ((c :: r).drop k) (a + k) (out ++ [⟨kd, a, n, s⟩])
    | .err e => .error (a, e) := by
  have e1 : lexL (c :: r) a out = lexF (r.length + 1) (c :: r) a out := rfl
  rw [e1]
  simp only [lexF]
  rcases step_adv c r with ⟨e, he⟩ | ⟨h1, _⟩
  · rw [he]
  · have hd : ∀ k, 0 < k → ((c :: r).drop k).length ≤ r.length := by
      intro k hk; rw [List.length_drop, List.length_cons]; omega
    cases hs : step (c :: r) with
    | err e => rfl
    | skip k =>
      rw [hs] at h1
      exact lexF_eq _ _ _ _ _ (hd k h1) (Nat.le_refl _)
    | tok kd n s k =>
      rw [hs] at h1
      exact lexF_eq _ _ _ _ _ (hd k h1) (Nat.le_refl _)
end LX
end Go.Proofs.YtbglcdjimipeeaaDoor

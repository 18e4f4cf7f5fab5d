/-
  Several texts in one: LexLaws1, LexLaws2, LexLaws3, LexPad, LexWords, LexLaws4, LexText, LexGood. Each one's own head tells its conditions.
-/
import Derived.Test.YtaghlpolljaedaaGreatLexCodes
import Derived.Test.YtaghlpolljaedaaGreatLexPure
import Derived.Laws.IdiomStrings
import Derived.Maps.OwnOps
import Derived.Maps.Views
import Derived.Maps.StringElems
import Derived.Carry
/-
  The example shown, and P5.1's first law. No condition.
-/
namespace Go.Proofs.YtaghlpolljaedaaGreat
open Go.RowKit
namespace LX
def shownT : List Tk := [⟨1, 0, 0, emp⟩, ⟨6, 1, 0, ⟨#[43]⟩⟩, ⟨4, 3, -2, emp⟩, ⟨6, 6, 0, ⟨#[120]⟩⟩, ⟨2, 7, 0, emp⟩]
theorem lexF_len (f : Nat) : ∀ (l : List UInt8) (a : Nat) (out ts : List Tk), lexF f l a out = .ok ts → ts.length ≤ out.length + f := by
  induction f with
  | zero => intro l a out ts h; simp [lexF] at h; subst h; omega
  | succ f ih =>
    intro l a out ts h
    cases l with
    | nil => simp [lexF] at h; subst h; omega
    | cons c r =>
      simp only [lexF] at h
      cases hs : step (c :: r) with
      | err e => rw [hs] at h; cases h
      | skip k => rw [hs] at h; have := ih _ _ _ _ h; omega
      | tok kd n s k => rw [hs] at h; have := ih _ _ _ _ h; simp at this; omega
theorem lex_len {s : ByteArray} {ts : List Tk} (h : lex s = .ok ts) : ts.length ≤ s.size ∧ s.size ≤ 4000 := by
  unfold lex at h
  split at h
  · cases h
  · have := lexF_len _ _ _ _ _ h
    have e : (bts s).length = s.size := by unfold bts; rw [Array.length_toList]; rfl
    simp at this
    omega
theorem shown_lex : lex ⟨#[40, 43, 32, 45, 50, 32, 120, 41]⟩ = .ok shownT := by kernel_rfl
end LX
namespace LW
open LX
theorem tkrow_nil (w : World) (A : Option Addr) : TkRow w A [] := fun k h => by simp at h
end LW
end Go.Proofs.YtaghlpolljaedaaGreat
/-
  P5.2's law of cuts. No condition.
-/
namespace Go.Proofs.YtaghlpolljaedaaGreat
open Go.RowKit
namespace LX
theorem step_errne {c : UInt8} {r : List UInt8} {e : Int} (h : step (c :: r) = .err e) : (e == 0) = false := by
  have h50 : ((50 : Int) == 0) = false := rfl
  unfold step at h
  simp only at h
  split at h
  · cases h
  split at h
  · cases h
  split at h
  · cases h
  split at h
  · split at h
    · cases h
    split at h
    · cases h
    · cases h; rfl
  split at h
  · cases h; rfl
  unfold one at h
  split at h
  · split at h
    · cases h; rfl
    · cases h
  · split at h
    · cases h; rfl
    · split at h
      · cases h; rfl
      · cases h
theorem lexL_errne : ∀ (n : Nat) (l : List UInt8) (p : Nat) (out : List Tk) (q : Nat) (e : Int), l.length ≤ n → lexL l p out = .error (q, e) → (e == 0) = false := by
  intro n
  induction n with
  | zero =>
    intro l p out q e h hl
    have : l = [] := List.eq_nil_of_length_eq_zero (by omega)
    subst this
    cases hl
  | succ n ih =>
    intro l p out q e h hl
    cases l with
    | nil => cases hl
    | cons c r =>
      rw [lexL_step] at hl
      simp only [List.length_cons] at h
      cases hs : step (c :: r) with
      | err e => rw [hs] at hl; cases hl; exact step_errne hs
      | skip k =>
        obtain ⟨h1, h2⟩ := adv_le hs (by intro e he; cases he)
        simp only [adv] at h1 h2
        rw [hs] at hl
        exact ih _ _ _ _ _ (by rw [List.length_drop, List.length_cons]; omega) hl
      | tok kd n s k =>
        obtain ⟨h1, h2⟩ := adv_le hs (by intro e he; cases he)
        simp only [adv] at h1 h2
        rw [hs] at hl
        exact ih _ _ _ _ _ (by rw [List.length_drop, List.length_cons]; omega) hl
theorem lex_errne {s : ByteArray} {p : Nat} {e : Int} (h : lex s = .error (p, e)) : (e == 0) = false := by
  unfold lex at h
  split at h
  · cases h; rfl
  · exact lexL_errne _ _ _ _ _ _ (Nat.le_refl _) h
theorem bts_extract (s : ByteArray) (i : Nat) : bts (s.extract 0 i) = (bts s).take i := by
  unfold bts
  rw [Lib.extract_data]
  simp
theorem size_bts (s : ByteArray) : (bts s).length = s.size := by unfold bts; rw [Array.length_toList]; rfl
theorem lex_small {s : ByteArray} (h : s.size ≤ 4000) : lex s = lexL (bts s) 0 [] := by unfold lex; rw [if_neg (by omega)]
theorem cut_facts (s : ByteArray) (i : Nat) (hi : i ≤ s.size) (hs : s.size ≤ 500) (hc : i = s.size ∨ ∃ x b, (bts s).drop i = x :: b ∧ (x = 32 ∨ x = 10)) :
    (∃ p e, lex (s.extract 0 i) = .error (p, e) ∧ lex s = .error (p, e)) ∨ ∃ t1, lex (s.extract 0 i) = .ok t1 ∧ ((∃ p e, lex s = .error (p, e)) ∨ ∃ more, lex s = .ok (t1 ++ more) ∧ ∀ t ∈ more, (i : Int) ≤ t.at_) := by
  have hl : (bts (s.extract 0 i)).length = i := by rw [bts_extract, List.length_take, size_bts]; omega
  have h1 : lex (s.extract 0 i) = lexL ((bts s).take i) 0 [] := by
    rw [lex_small (by rw [← size_bts, hl]; omega), bts_extract]
  have h2 : lex s = lexL (bts s) 0 [] := lex_small (by omega)
  rw [h1, h2]
  have hlt : ((bts s).take i).length = i := by rw [List.length_take, size_bts]; omega
  rcases hc with hc | ⟨x, b, hd, hx⟩
  · rw [List.take_of_length_le (by rw [size_bts]; omega)]
    cases lexL (bts s) 0 [] with
    | error pe => exact .inl ⟨pe.1, pe.2, rfl, rfl⟩
    | ok ts => exact .inr ⟨ts, rfl, .inr ⟨[], by simp, by simp⟩⟩
  · have e : bts s = (bts s).take i ++ x :: b := by rw [← hd, List.take_append_drop]
    have := lexL_cut b x hx _ ((bts s).take i) 0 [] (Nat.le_refl _)
    rw [← e] at this
    cases h3 : lexL ((bts s).take i) 0 [] with
    | error pe => rw [h3] at this; exact .inl ⟨pe.1, pe.2, rfl, this⟩
    | ok ts =>
      rw [h3] at this
      obtain ⟨l, q, h4, h5⟩ := this
      refine .inr ⟨ts, rfl, ?_⟩
      rw [h4]
      cases h6 : lexL l q ts with
      | error pe => exact .inl ⟨pe.1, pe.2, rfl⟩
      | ok t2 =>
        obtain ⟨more, h7, h8⟩ := lexL_more _ _ _ _ _ (Nat.le_refl _) h6
        exact .inr ⟨more, by rw [h7], fun t ht => by have := h8 t ht; omega⟩
end LX
namespace LW
open LX
theorem ne_no {c d : UInt8} {n : Int} (h : c ≠ d) (e : (d.toNat : Int) = n) : ((c.toNat : Int) != n) = true := by simp [bne, eq_no h e]
theorem ne_yes {c d : UInt8} {n : Int} (h : c = d) (e : (d.toNat : Int) = n) : ((c.toNat : Int) != n) = false := by simp [bne, eq_yes h e]
theorem nq_no {c d : UInt8} {n : Int} (h : c ≠ d) (e : (d.toNat : Int) = n) : ¬ ((c.toNat : Int) = n) := by
  have := eq_no h e
  rwa [beq_eq_false_iff_ne] at this
theorem TkRow.front {w : World} {A : Option Addr} {ts us : List Tk} (h : TkRow w A (ts ++ us)) : TkRow w A ts := by
  intro k hk
  have := h k (by rw [List.length_append]; omega)
  rwa [List.getElem_append_left hk] at this
theorem TkRow.mid {w : World} {A : Option Addr} {ts us : List Tk} {m : Tk} (h : TkRow w A (ts ++ m :: us)) (n : Nat) (hn : ts.length = n) : ∃ b o, A = some ⟨b, o, none⟩ ∧ b < w.heap.size ∧ w.cell? ⟨b, o + n * 4 + 1, none⟩ = some (.int .i64 m.at_) := by
  subst hn
  obtain ⟨b, o, e, hb, _, c1, _, _⟩ := h ts.length (by rw [List.length_append, List.length_cons]; omega)
  refine ⟨b, o, e, hb, ?_⟩
  rw [c1]
  simp
end LW
end Go.Proofs.YtaghlpolljaedaaGreat
/-
  P5.2's law of joined texts. No condition.
-/
namespace Go.Proofs.YtaghlpolljaedaaGreat
open Go.RowKit
namespace LX
theorem lexL_errpos : ∀ (n : Nat) (l : List UInt8) (p : Nat) (out : List Tk) (q : Nat) (e : Int), l.length ≤ n → lexL l p out = .error (q, e) → q ≤ p + l.length := by
  intro n
  induction n with
  | zero =>
    intro l p out q e h hl
    have : l = [] := List.eq_nil_of_length_eq_zero (by omega)
    subst this
    cases hl
  | succ n ih =>
    intro l p out q e h hl
    cases l with
    | nil => cases hl
    | cons c r =>
      rw [lexL_step] at hl
      simp only [List.length_cons] at h ⊢
      cases hs : step (c :: r) with
      | err e => rw [hs] at hl; cases hl; omega
      | skip k =>
        obtain ⟨h1, h2⟩ := adv_le hs (by intro e he; cases he)
        simp only [adv] at h1 h2
        rw [hs] at hl
        have := ih _ _ _ _ _ (by rw [List.length_drop, List.length_cons]; omega) hl
        rw [List.length_drop, List.length_cons] at this; omega
      | tok kd n s k =>
        obtain ⟨h1, h2⟩ := adv_le hs (by intro e he; cases he)
        simp only [adv] at h1 h2
        rw [hs] at hl
        have := ih _ _ _ _ _ (by rw [List.length_drop, List.length_cons]; omega) hl
        rw [List.length_drop, List.length_cons] at this; omega
theorem lexL_at : ∀ (n : Nat) (l : List UInt8) (p : Nat) (out ts : List Tk), l.length ≤ n → (∀ t ∈ out, 0 ≤ t.at_ ∧ t.at_ < p) → lexL l p out = .ok ts → ∀ t ∈ ts, 0 ≤ t.at_ ∧ t.at_ < (p + l.length : Nat) := by
  intro n
  induction n with
  | zero =>
    intro l p out ts h ho hl
    have : l = [] := List.eq_nil_of_length_eq_zero (by omega)
    subst this
    cases hl
    simpa using ho
  | succ n ih =>
    intro l p out ts h ho hl
    cases l with
    | nil => cases hl; simpa using ho
    | cons c r =>
      rw [lexL_step] at hl
      simp only [List.length_cons] at h ⊢
      cases hs : step (c :: r) with
      | err e => rw [hs] at hl; cases hl
      | skip k =>
        obtain ⟨h1, h2⟩ := adv_le hs (by intro e he; cases he)
        simp only [adv] at h1 h2
        rw [hs] at hl
        intro t ht
        have := ih _ _ _ _ (by rw [List.length_drop, List.length_cons]; omega) (fun t ht => by have := ho t ht; omega) hl t ht
        rw [List.length_drop, List.length_cons] at this; omega
      | tok kd n s k =>
        obtain ⟨h1, h2⟩ := adv_le hs (by intro e he; cases he)
        simp only [adv] at h1 h2
        rw [hs] at hl
        intro t ht
        have := ih _ _ _ _ (by rw [List.length_drop, List.length_cons]; omega) (fun t ht => by
          rcases List.mem_append.1 ht with ht | ht
          · have := ho t ht; omega
          · have : t = ⟨kd, p, n, s⟩ := by simpa using ht
            subst this
            exact ⟨by simp, by simp; omega⟩) hl t ht
        rw [List.length_drop, List.length_cons] at this; omega
theorem lex_at {s : ByteArray} {ts : List Tk} (h : lex s = .ok ts) : ∀ t ∈ ts, 0 ≤ t.at_ ∧ t.at_ < 4000 := by
  intro t ht
  have h2 := (lex_len h).2
  rw [lex_small h2] at h
  have := lexL_at _ _ _ _ _ (Nat.le_refl _) (by simp) h t ht
  rw [size_bts] at this; omega
theorem lex_errpos {s : ByteArray} {p : Nat} {e : Int} (h : lex s = .error (p, e)) : p ≤ s.size := by
  unfold lex at h
  split at h
  · cases h; omega
  · have := lexL_errpos _ _ _ _ _ _ (Nat.le_refl _) h
    rw [size_bts] at this; omega
theorem bts_append (a b : ByteArray) : bts (a ++ b) = bts a ++ bts b := by
  unfold bts
  rw [ByteArray.data_append, Array.toList_append]
theorem size_append (a b : ByteArray) : (a ++ b).size = a.size + b.size := by
  rw [← size_bts, bts_append, List.length_append, size_bts, size_bts]
theorem join_facts (a b y : ByteArray) (ha : a.size ≤ 500) (hb : b.size ≤ 500) (hy : a ++ ⟨#[10]⟩ ++ b = y) :
    (∀ p e, lex a = .error (p, e) → lex y = .error (p, e)) ∧
    (∀ ta, lex a = .ok ta → (∀ q e, lex b = .error (q, e) → lex y = .error (q + (a.size + 1), e)) ∧ ∀ tb, lex b = .ok tb → lex y = .ok (ta ++ tb.map (shiftT (a.size + 1)))) := by
  have hby : bts y = bts a ++ 10 :: bts b := by
    rw [← hy, bts_append, bts_append, List.append_assoc]; rfl
  have hys : y.size ≤ 4000 := by
    rw [← size_bts, hby, List.length_append, List.length_cons, size_bts, size_bts]; omega
  rw [lex_small (show a.size ≤ 4000 by omega), lex_small (show b.size ≤ 4000 by omega), lex_small hys, hby]
  rw [lexL_nl _ _ _ _ _ (Nat.le_refl _)]
  refine ⟨fun p e h => by rw [h], fun ta h => ?_⟩
  rw [h]
  have hsh := lexL_shift (a.size + 1) ta _ (bts b) 0 [] (Nat.le_refl _)
  rw [List.map_nil, List.append_nil] at hsh
  have e0 : 0 + (bts a).length + 1 = 0 + (a.size + 1) := by rw [size_bts]; omega
  simp only [e0, hsh]
  exact ⟨fun q e h2 => by rw [h2], fun tb h2 => by rw [h2]⟩
end LX
namespace LW
open LX
theorem tks_one (ts : List Tk) : ∀ u ∈ tks ts, u.oneCell' = true := by
  intro u hu
  unfold tks at hu
  obtain ⟨t, _, h⟩ := List.mem_flatMap.1 hu
  exact cellsT_one t u h
end LW
end Go.Proofs.YtaghlpolljaedaaGreat
/-
  Layer 5 in plain words, besides: blanks and remarks ahead of a text, and behind it. No condition.
-/
namespace Go.Proofs.YtaghlpolljaedaaGreat
open Go.RowKit
namespace LX
/-- A text that is passed over whole. -/
def Pass (p : List UInt8) : Prop := ∀ l, gapF false (p ++ l) = p.length + gapF false l
theorem Pass.nil : Pass [] := fun l => by simp
theorem Pass.app {p q : List UInt8} (hp : Pass p) (hq : Pass q) : Pass (p ++ q) := fun l => by
  rw [List.append_assoc, hp, hq, List.length_append]; omega
def pad (q : Nat) : ByteArray := if q = 0 then ⟨#[32]⟩ else if q = 1 then ⟨#[9]⟩ else if q = 2 then ⟨#[10]⟩ else ⟨#[59, 32, 40, 32, 120, 10]⟩
theorem pad_pass (q : Nat) : Pass (bts (pad q)) := by
  unfold pad
  split
  · intro l; exact gapF_blank false l (.inl rfl)
  · split
    · intro l; exact gapF_blank false l (.inr rfl)
    · split
      · intro l; exact gapF_nl false l
      · intro l
        show gapF false (59 :: 32 :: 40 :: 32 :: 120 :: 10 :: l) = 6 + gapF false l
        rw [gapF_note, gapF_blank _ _ (.inl rfl), gapF_in _ (by decide) (by decide), gapF_blank _ _ (.inl rfl), gapF_in _ (by decide) (by decide), gapF_nl]
        omega
theorem pad_size (q : Nat) : (pad q).size ≤ 6 := by
  unfold pad
  split
  · decide
  · split
    · decide
    · split <;> decide
def pads (q : Nat) : Nat → ByteArray
  | 0 => ⟨#[]⟩
  | k + 1 => pads q k ++ pad q
theorem pads_pass (q k : Nat) : Pass (bts (pads q k)) := by
  induction k with
  | zero => exact Pass.nil
  | succ k ih => rw [pads, bts_append]; exact ih.app (pad_pass q)
theorem pads_size (q k : Nat) : (pads q k).size ≤ 6 * k := by
  induction k with
  | zero => exact Nat.le_refl 0
  | succ k ih => rw [pads, size_append]; have := pad_size q; omega
theorem lexL_ahead {p : List UInt8} (hp : Pass p) (l : List UInt8) (a : Nat) (out : List Tk) : lexL (p ++ l) a out = lexL l (a + p.length) out := by
  rw [lexL_gap _ (p ++ l) a out (Nat.le_refl _), lexL_gap _ l (a + p.length) out (Nat.le_refl _), hp l, List.drop_append, List.drop_of_length_le (by omega), List.nil_append]
  congr 1
  · congr 1; omega
  · omega
theorem lexL_behind {p : List UInt8} (hp : Pass p) (a : Nat) (out : List Tk) : lexL p a out = .ok out := by
  have := lexL_ahead hp [] a out
  rw [List.append_nil, lexL_nil] at this
  exact this
theorem pass_facts (s P : ByteArray) (hs : s.size ≤ 1000) (hP : P.size ≤ 48) (hp : Pass (bts P)) :
    (∀ q e, lex s = .error (q, e) → lex (P ++ s) = .error (q + P.size, e) ∧ lex (s ++ ⟨#[10]⟩ ++ P) = .error (q, e)) ∧
    (∀ ts, lex s = .ok ts → lex (P ++ s) = .ok (ts.map (shiftT P.size)) ∧ lex (s ++ ⟨#[10]⟩ ++ P) = .ok ts) := by
  have h1 : (P ++ s).size ≤ 4000 := by rw [size_append]; omega
  have h2 : (s ++ ⟨#[10]⟩ ++ P).size ≤ 4000 := by rw [size_append, size_append]; show s.size + 1 + P.size ≤ 4000; omega
  have e2 : bts (s ++ ⟨#[10]⟩ ++ P) = bts s ++ 10 :: bts P := by rw [bts_append, bts_append, List.append_assoc]; rfl
  rw [lex_small (show s.size ≤ 4000 by omega), lex_small h1, lex_small h2, bts_append, e2, lexL_ahead hp, lexL_nl _ _ _ _ _ (Nat.le_refl _), size_bts]
  have hsh := lexL_shift P.size [] _ (bts s) 0 [] (Nat.le_refl _)
  rw [List.map_nil, List.append_nil] at hsh
  rw [hsh]
  refine ⟨fun q e h => by rw [h]; exact ⟨rfl, rfl⟩, fun ts h => by rw [h]; exact ⟨rfl, lexL_behind hp _ _⟩⟩
end LX
end Go.Proofs.YtaghlpolljaedaaGreat
/-
  Layer 5 in plain words, besides: a text that is one word. No condition.
-/
namespace Go.Proofs.YtaghlpolljaedaaGreat
open Go.RowKit
namespace LX
def lts : List UInt8 := [97, 98, 99, 120, 121, 122, 65, 66, 90, 48, 49, 50, 51, 52, 53, 54, 55, 56, 57, 33, 36, 37, 38, 42, 43, 45, 47, 58, 60, 61, 62, 63, 94, 95, 126]
def ltsB : ByteArray := ⟨#[97, 98, 99, 120, 121, 122, 65, 66, 90, 48, 49, 50, 51, 52, 53, 54, 55, 56, 57, 33, 36, 37, 38, 42, 43, 45, 47, 58, 60, 61, 62, 63, 94, 95, 126]⟩
theorem lts_let : ∀ c ∈ lts, let_ c = true := by decide
theorem let_apart {c : UInt8} (h : let_ c = true) : blank c = false ∧ c ≠ 59 ∧ mark c = 0 ∧ c ≠ 35 := by
  have : ∀ n : Fin 256, let_ (UInt8.ofNat n.1) = true → (blank (UInt8.ofNat n.1) = false ∧ UInt8.ofNat n.1 ≠ 59 ∧ mark (UInt8.ofNat n.1) = 0 ∧ UInt8.ofNat n.1 ≠ 35) := by decide +kernel
  have h2 := this ⟨c.toNat, c.toNat_lt⟩
  simp only [UInt8.ofNat_toNat] at h2
  exact h2 h
theorem word_all {l : List UInt8} (h : l.all let_ = true) : word l = l := by
  unfold word
  induction l with
  | nil => rfl
  | cons c r ih =>
    rw [List.all_cons, Bool.and_eq_true] at h
    rw [List.takeWhile_cons, if_pos h.1, ih h.2]
/-- A text that is one word. -/
theorem lexL_word {c : UInt8} {r : List UInt8} (h : (c :: r).all let_ = true) (a : Nat) (out : List Tk) : lexL (c :: r) a out = match one (c :: r) with
    | .skip _ => .ok out
    | .tok kd n s _ => .ok (out ++ [⟨kd, a, n, s⟩])
    | .err e => .error (a, e) := by
  have hc : let_ c = true := by rw [List.all_cons, Bool.and_eq_true] at h; exact h.1
  obtain ⟨h1, h2, h3, h4⟩ := let_apart hc
  rw [lexL_step, step_one h1 h2 h3 h4 hc, word_all h]
  cases h9 : one (c :: r) with
  | skip k => exact (one_skip h9).elim
  | err e => rfl
  | tok kd n s k =>
    have := one_k h9
    subst this
    simp only
    rw [List.drop_length, lexL_nil]
/-- So far digits, but for a sign at the head where there are two. -/
def okN (two : Bool) (l : List UInt8) : Bool := match l with
  | [] => true
  | c :: r => (dig c || (c == 45 && two)) && r.all dig
theorem okN_snoc (two : Bool) (l : List UInt8) (x : UInt8) : okN two (l ++ [x]) = (okN two l && (dig x || (l.isEmpty && (x == 45 && two)))) := by
  cases l with
  | nil => simp [okN]
  | cons c r => simp [okN, Bool.and_assoc]
theorem okN_number {two : Bool} {l : List UInt8} (h : l ≠ []) (ht : two = decide (1 < l.length)) : okN two l = number l := by
  cases l with
  | nil => exact absurd rfl h
  | cons c r =>
    unfold okN number unsign
    by_cases hc : c = 45
    · subst hc
      have hd : dig 45 = false := by decide
      have e : two = decide (0 < r.length) := by rw [ht]; simp
      simp only [hd, if_true, Bool.false_or, beq_self_eq_true, Bool.true_and]
      rw [e, Bool.and_comm]
    · have e : (c == 45) = false := by simpa using hc
      simp [e, hc]
/-- A number of few letters is within the bounds. -/
theorem value_few {l : List UInt8} (h : number l = true) (hl : l.length ≤ 12) : -1099511627776 < value l ∧ value l < 1099511627776 := by
  have key : ∀ q : List UInt8, q.all dig = true → q.length ≤ 12 → 0 ≤ val q ∧ val q < 1099511627776 := by
    intro q hq hql
    obtain ⟨h1, h2⟩ := val_bound q hq
    refine ⟨h1, Int.lt_of_lt_of_le h2 ?_⟩
    have h := Nat.pow_le_pow_right (n := 10) (by decide) hql
    have e : ((10 ^ q.length : Nat) : Int) = (10 : Int) ^ q.length := by rw [Int.natCast_pow]; rfl
    rw [← e]; omega
  cases l with
  | nil => cases h
  | cons c r =>
    by_cases hc : c = 45
    · subst hc
      have e2 : number (45 :: r) = (r.all dig && decide (0 < r.length)) := rfl
      rw [e2, Bool.and_eq_true] at h
      have e3 : value (45 :: r) = - val r := rfl
      rw [List.length_cons] at hl
      have := key r h.1 (by omega)
      rw [e3]; omega
    · have e2 : number (c :: r) = ((c :: r).all dig && decide (0 < (c :: r).length)) := by unfold number unsign; simp only [if_neg hc]
      rw [e2, Bool.and_eq_true] at h
      have e3 : value (c :: r) = val (c :: r) := by unfold value; simp only [if_neg hc]
      have := key _ h.1 hl
      rw [e3]; omega
/-- What a text of one word comes to. -/
theorem lex_word (l : List UInt8) (h : l.all let_ = true) (h0 : l ≠ []) (hl : l.length ≤ 60) :
    (number l = true ∧ ((∃ v, lex (str l) = .ok [⟨4, 0, v, emp⟩]) ∨ (lex (str l) = .error (0, 51) ∧ 12 < l.length))) ∨
    (number l = false ∧ ((32 < l.length ∧ lex (str l) = .error (0, 3)) ∨ (l.length ≤ 32 ∧ lex (str l) = .ok [⟨6, 0, 0, str l⟩]))) := by
  have e : lex (str l) = lexL l 0 [] := by unfold lex; rw [if_neg (by rw [str_size]; omega), bts_str]
  rw [e]
  cases l with
  | nil => exact absurd rfl h0
  | cons c r =>
    rw [lexL_word h]
    by_cases hn : number (c :: r) = true
    · left
      refine ⟨hn, ?_⟩
      unfold one
      rw [if_neg (by rw [hn]; decide)]
      by_cases h13 : 13 < (c :: r).length
      · rw [if_pos h13]; exact .inr ⟨rfl, by omega⟩
      · rw [if_neg h13]
        by_cases hv : value (c :: r) ≤ -1099511627776 ∨ 1099511627776 ≤ value (c :: r)
        · rw [if_pos hv]
          refine .inr ⟨rfl, ?_⟩
          by_cases h12 : (c :: r).length ≤ 12
          · have := value_few hn h12
            omega
          · omega
        · rw [if_neg hv]; exact .inl ⟨_, rfl⟩
    · right
      have hn : number (c :: r) = false := by simpa using hn
      refine ⟨hn, ?_⟩
      unfold one
      rw [if_pos hn]
      by_cases h32 : 32 < (c :: r).length
      · rw [if_pos h32]; exact .inl ⟨h32, rfl⟩
      · rw [if_neg h32]; exact .inr ⟨by omega, rfl⟩
theorem lex_none : lex (str []) = .ok [] := rfl
end LX
end Go.Proofs.YtaghlpolljaedaaGreat
/-
  P5.2's law of names. No condition.
-/
namespace Go.Proofs.YtaghlpolljaedaaGreat
open Go.RowKit
namespace LX
def xsOf (zs : List Int) : List UInt8 := zs.map (fun z => lts.getD (z.toNat % 35) 0)
theorem str_snoc (l : List UInt8) (x : UInt8) : str (l ++ [x]) = str l ++ str [x] := by
  apply ByteArray.ext
  rw [ByteArray.data_append]
  unfold str
  simp
theorem xs_let (zs : List Int) (k : Nat) : ((xsOf zs).take k).all let_ = true := by
  rw [List.all_eq_true]
  intro x hx
  have hx := List.mem_of_mem_take hx
  obtain ⟨z, _, rfl⟩ := List.mem_map.1 hx
  have h : z.toNat % 35 < 35 := Nat.mod_lt _ (by decide)
  refine lts_let _ ?_
  rw [List.getD_eq_getElem?_getD, List.getElem?_eq_getElem (show z.toNat % 35 < lts.length from h)]
  exact List.getElem_mem _
theorem lts_at (t : Nat) (h : t < 35) (h2 : t < ltsB.size) : ltsB[t] = lts.getD t 0 := by
  have : ∀ t : Fin 35, (ltsB[t.1]'(by have := t.2; exact this)) = lts.getD t.1 0 := by decide
  exact this ⟨t, h⟩
end LX
namespace LW
open LX
theorem byte_back (W : World) (x : UInt8) : (convert (129 : Nat) (9 : Nat) (.slice (some ⟨W.heap.size, 0, none⟩) 1 1)).run Tryz.prog (W.alloc (.cells #[.int .u8 (x.toNat : Int)] (5 : Nat))) = .ok (.string (str [x])) (W.alloc (.cells #[.int .u8 (x.toNat : Int)] 5)) := by
  refine run_convert_bytes_back (P := Tryz.prog) _ 129 9 5 ⟨W.heap.size, 0, none⟩ 1 [x] Tryz.underlying129 Tryz.underlying5 Tryz.underlying9 ?_
  intro j hj
  have : j = 0 := by simpa using hj
  subst this
  exact (MM.Row.new W 5 [.int .u8 (x.toNat : Int)]).at rfl
end LW
end Go.Proofs.YtaghlpolljaedaaGreat
/-
  Contracts of the law's own parts of layer 5: digits, text: a token as it is written. Condition: a number is within the bounds.
-/
namespace Go.Proofs.YtaghlpolljaedaaGreat
open Go.RowKit
namespace LX
/-- A digit's byte. -/
def dgc (n : Nat) : UInt8 := UInt8.ofNat (48 + n)
/-- The digits of a number. -/
def dgN : Nat → Nat → List UInt8
  | 0, n => [dgc n]
  | f + 1, n => if 9 < n then dgN f (n / 10) ++ [dgc (n % 10)] else [dgc n]
def dgs (n : Int) : List UInt8 := if n < 0 then 45 :: dgN 20 (-n).toNat else dgN 20 n.toNat
theorem dg_dig {n : Nat} (h : n ≤ 9) : dig (dgc n) = true ∧ ((dgc n).toNat : Int) = 48 + (n : Int) := by
  have e : (dgc n).toNat = 48 + n := by unfold dgc; simp; omega
  refine ⟨by unfold dig; rw [e]; simp; omega, by rw [e]; omega⟩
theorem dgN_ok : ∀ (f n k : Nat), n < 10 ^ (f + 1) → n < 10 ^ (k + 1) → (dgN f n).all dig = true ∧ val (dgN f n) = (n : Int) ∧ dgN f n ≠ [] ∧ (dgN f n).length ≤ k + 1 := by
  intro f
  induction f with
  | zero =>
    intro n k h _
    have h9 : n ≤ 9 := by simp at h; omega
    obtain ⟨a, b⟩ := dg_dig h9
    refine ⟨by simp [dgN, a], ?_, by simp [dgN], by simp [dgN]⟩
    unfold dgN val
    simp only [List.foldl_cons, List.foldl_nil]
    omega
  | succ f ih =>
    intro n k h hk
    unfold dgN
    by_cases h9 : 9 < n
    · rw [if_pos h9]
      have hk0 : 1 ≤ k := by
        rcases Nat.eq_zero_or_pos k with h0 | h0
        · rw [h0] at hk; simp at hk; omega
        · exact h0
      obtain ⟨k', rfl⟩ : ∃ k', k = k' + 1 := ⟨k - 1, by omega⟩
      obtain ⟨i1, i2, i3, i4⟩ := ih (n / 10) k' (by rw [Nat.pow_succ] at h; omega) (by rw [Nat.pow_succ] at hk; omega)
      obtain ⟨a, b⟩ := dg_dig (show n % 10 ≤ 9 by omega)
      refine ⟨?_, ?_, by simp, ?_⟩
      · rw [List.all_append, i1]; simp [a]
      · rw [val_snoc, i2, b]; omega
      · rw [List.length_append]; simp; omega
    · rw [if_neg h9]
      obtain ⟨a, b⟩ := dg_dig (show n ≤ 9 by omega)
      refine ⟨by simp [a], ?_, by simp, by simp⟩
      unfold val
      simp only [List.foldl_cons, List.foldl_nil]
      omega
theorem dgN_snoc (f n : Nat) (h : 9 < n) : dgN (f + 1) n = dgN f (n / 10) ++ [dgc (n % 10)] := by
  rw [dgN, if_pos h]
theorem dgN_few (f n : Nat) (h : ¬ 9 < n) : dgN f n = [dgc n] := by
  cases f with
  | zero => rfl
  | succ f => rw [dgN, if_neg h]
theorem dgN_fuel : ∀ (f n : Nat), n < 10 ^ (f + 1) → dgN (f + 1) n = dgN f n := by
  intro f
  induction f with
  | zero => intro n h; rw [dgN_few _ _ (by simp at h; omega), dgN_few _ _ (by simp at h; omega)]
  | succ f ih =>
    intro n h
    by_cases h9 : 9 < n
    · rw [dgN_snoc _ _ h9, dgN_snoc _ _ h9, ih _ (by rw [Nat.pow_succ] at h; omega)]
    · rw [dgN_few _ _ h9, dgN_few _ _ h9]
/-- A token as it is written. -/
def tkB (t : Tk) : ByteArray :=
  if t.kind = 1 then ⟨#[40]⟩ else if t.kind = 2 then ⟨#[41]⟩ else if t.kind = 3 then ⟨#[39]⟩ else if t.kind = 4 then str (dgs t.n)
  else if t.kind = 5 then (if t.n = 1 then ⟨#[35, 116]⟩ else ⟨#[35, 102]⟩) else t.s
end LX
namespace LW
open LX
theorem str_cat (a b : List UInt8) : str (a ++ b) = str a ++ str b := by
  apply ByteArray.ext
  rw [ByteArray.data_append]
  unfold str
  simp
theorem pow21 {n : Nat} (h : n < 4398046511104) : n < 10 ^ (20 + 1) := Nat.lt_of_lt_of_le h (by decide)
theorem dgN_size {n : Nat} (h : n < 4398046511104) : (str (dgN 20 n)).size ≤ 13 := by
  rw [str_size]
  exact (dgN_ok 20 n 12 (pow21 h) (Nat.lt_of_lt_of_le h (by decide))).2.2.2
theorem str_zero (w : World) : (zeroValue 9).run Tryz.prog w = .ok (.string ⟨#[]⟩) w := by kernel_rfl
end LW
end Go.Proofs.YtaghlpolljaedaaGreat
/-
  Layer 5 in plain words, besides: a token that a text has, written with a blank behind it, is that token again. No condition.
-/
namespace Go.Proofs.YtaghlpolljaedaaGreat
open Go.RowKit
namespace LX
/-- A token that is read again as it is written. -/
structure GoodT (t : Tk) : Prop where
  kind : t.kind = 1 ∨ t.kind = 2 ∨ t.kind = 3 ∨ t.kind = 4 ∨ t.kind = 5 ∨ t.kind = 6
  lo : -1099511627776 < t.n
  hi : t.n < 1099511627776
  size : (tkB t).size ≤ 32
  back : ∀ (rest : List UInt8) (p : Nat) (out : List Tk), lexL (bts (tkB t) ++ 32 :: rest) p out = lexL rest (p + (tkB t).size + 1) (out ++ [⟨t.kind, p, t.n, t.s⟩])
theorem lexL_blank (rest : List UInt8) (p : Nat) (out : List Tk) : lexL (32 :: rest) p out = lexL rest (p + 1) out := by
  rw [lexL_step, step_blank (by decide)]; rfl
theorem word_blank {w : List UInt8} {kd n : Int} {sv : ByteArray} {k : Nat} (ha : w.all let_ = true) (h0 : w ≠ []) (h1 : one w = .tok kd n sv k) (rest : List UInt8) (p : Nat) (out : List Tk) :
    lexL (w ++ 32 :: rest) p out = lexL rest (p + w.length + 1) (out ++ [⟨kd, p, n, sv⟩]) := by
  cases w with
  | nil => exact absurd rfl h0
  | cons c r =>
    have hc : let_ c = true := by rw [List.all_cons, Bool.and_eq_true] at ha; exact ha.1
    obtain ⟨a1, a2, a3, a4⟩ := let_apart hc
    have hw : word (c :: (r ++ 32 :: rest)) = c :: r := by
      rw [← List.cons_append, word_app _ _ _ (by decide), word_all ha]
    have hk := one_k h1
    subst hk
    rw [List.cons_append, lexL_step, step_one a1 a2 a3 a4 hc, hw, h1]
    simp only
    rw [← List.cons_append, List.drop_left, lexL_blank]
theorem mark_blank {c : UInt8} (h : mark c ≠ 0) (rest : List UInt8) (p : Nat) (out : List Tk) : lexL (c :: 32 :: rest) p out = lexL rest (p + 1 + 1) (out ++ [⟨mark c, p, 0, emp⟩]) := by
  have h1 : blank c = false ∧ c ≠ 59 := by
    rcases LW.mark_yes h with rfl | rfl | rfl <;> decide
  rw [lexL_step, step_mark h1.1 h1.2 h]
  simp only [List.drop_succ_cons, List.drop_zero]
  exact lexL_blank _ _ _
theorem bool_blank (c : UInt8) (n : Int) (h : (c = 116 ∧ n = 1) ∨ (c = 102 ∧ n = 0)) (rest : List UInt8) (p : Nat) (out : List Tk) : lexL (35 :: c :: 32 :: rest) p out = lexL rest (p + 2 + 1) (out ++ [⟨5, p, n, emp⟩]) := by
  rw [lexL_step, step_hash (by decide) (by decide) (by decide) rfl]
  rcases h with ⟨rfl, rfl⟩ | ⟨rfl, rfl⟩
  · have hw : word (116 :: 32 :: rest) = [116] := word_app [116] rest 32 (by decide)
    rw [hw, if_pos rfl]
    simp only [List.drop_succ_cons, List.drop_zero]
    exact lexL_blank _ _ _
  · have hw : word (102 :: 32 :: rest) = [102] := word_app [102] rest 32 (by decide)
    rw [hw, if_neg (by decide), if_pos rfl]
    simp only [List.drop_succ_cons, List.drop_zero]
    exact lexL_blank _ _ _
theorem dig_let {c : UInt8} (h : dig c = true) : let_ c = true := by
  unfold dig at h
  unfold let_
  rw [Bool.and_eq_true] at h
  simp [h.1, h.2]
theorem all_dig_let {l : List UInt8} (h : l.all dig = true) : l.all let_ = true := by
  rw [List.all_eq_true] at h ⊢
  exact fun c hc => dig_let (h c hc)
/-- The digits of a number that was read are that number. -/
theorem dgs_ok {w : List UInt8} (hn : number w = true) (hl : w.length ≤ 13) (h1 : -1099511627776 < value w) (h2 : value w < 1099511627776) :
    (dgs (value w)).all let_ = true ∧ dgs (value w) ≠ [] ∧ (dgs (value w)).length ≤ 13 ∧ one (dgs (value w)) = .tok 4 (value w) emp (dgs (value w)).length := by
  have fin : ∀ d : List UInt8, number d = true → d.length ≤ 13 → value d = value w → one d = .tok 4 (value w) emp d.length := by
    intro d hd hdl hv
    unfold one
    rw [if_neg (by rw [hd]; decide), if_neg (by omega), hv, if_neg (by omega)]
  by_cases hneg : value w < 0
  · have hb : (-(value w)).toNat < 10 ^ (11 + 1) := by
      cases w with
      | nil => cases hn
      | cons c r =>
        by_cases hc : c = 45
        · subst hc
          have e2 : number (45 :: r) = (r.all dig && decide (0 < r.length)) := rfl
          rw [e2, Bool.and_eq_true] at hn
          have e3 : value (45 :: r) = - val r := rfl
          rw [List.length_cons] at hl
          obtain ⟨b1, b2⟩ := val_bound r hn.1
          have h := Nat.pow_le_pow_right (n := 10) (by decide) (show r.length ≤ 12 by omega)
          have e : ((10 ^ r.length : Nat) : Int) = (10 : Int) ^ r.length := by rw [Int.natCast_pow]; rfl
          rw [← e] at b2
          rw [e3]
          have : (11 : Nat) + 1 = 12 := rfl
          rw [this]; omega
        · have e3 : value (c :: r) = val (c :: r) := by unfold value; simp only [if_neg hc]
          have e2 : number (c :: r) = ((c :: r).all dig && decide (0 < (c :: r).length)) := by unfold number unsign; simp only [if_neg hc]
          rw [e2, Bool.and_eq_true] at hn
          have := (val_bound _ hn.1).1
          omega
    obtain ⟨i1, i2, i3, i4⟩ := dgN_ok 20 (-(value w)).toNat 11 (LW.pow21 (by omega)) hb
    have e : dgs (value w) = 45 :: dgN 20 (-(value w)).toNat := by unfold dgs; rw [if_pos hneg]
    have hnum : number (45 :: dgN 20 (-(value w)).toNat) = true := by
      show (((dgN 20 (-(value w)).toNat).all dig) && decide (0 < (dgN 20 (-(value w)).toNat).length)) = true
      rw [i1]
      have := List.length_pos_iff.2 i3
      simp [this]
    have hv : value (45 :: dgN 20 (-(value w)).toNat) = value w := by
      show - val (dgN 20 (-(value w)).toNat) = value w
      rw [i2]; omega
    rw [e]
    refine ⟨?_, by simp, by rw [List.length_cons]; omega, fin _ hnum (by rw [List.length_cons]; omega) hv⟩
    rw [List.all_cons, all_dig_let i1]
    decide
  · obtain ⟨i1, i2, i3, i4⟩ := dgN_ok 20 (value w).toNat 12 (LW.pow21 (by omega)) (Nat.lt_of_lt_of_le (show (value w).toNat < 1099511627776 by omega) (by decide))
    have e : dgs (value w) = dgN 20 (value w).toNat := by unfold dgs; rw [if_neg hneg]
    rw [e]
    generalize hd : dgN 20 (value w).toNat = d at *
    cases d with
    | nil => exact absurd rfl i3
    | cons c r =>
      have hc : c ≠ 45 := by
        rintro rfl
        rw [List.all_cons, Bool.and_eq_true] at i1
        exact absurd i1.1 (by decide)
      have hnum : number (c :: r) = true := by
        have e2 : number (c :: r) = ((c :: r).all dig && decide (0 < (c :: r).length)) := by unfold number unsign; simp only [if_neg hc]
        rw [e2, i1]; simp
      have hv : value (c :: r) = value w := by
        have e3 : value (c :: r) = val (c :: r) := by unfold value; simp only [if_neg hc]
        rw [e3, i2]; omega
      exact ⟨all_dig_let i1, by simp, i4, fin _ hnum i4 hv⟩
theorem word_let (l : List UInt8) : (word l).all let_ = true := by
  rw [List.all_eq_true]
  intro c hc
  obtain ⟨j, hj, e⟩ := List.mem_iff_getElem.1 hc
  obtain ⟨x, h1, h2⟩ := tw_yes (p := let_) (l := l) (j := j) hj
  have : (word l)[j]? = some x := by
    unfold word
    unfold word at hj
    rw [tw_take, List.getElem?_take, if_pos hj]; exact h1
  rw [List.getElem?_eq_getElem hj, e] at this
  cases this; exact h2
/-- What a step gives is a token that is read again as it is written; and, but for a number, it stands there as it is written. -/
theorem step_good {c : UInt8} {r : List UInt8} {kd n : Int} {sv : ByteArray} {k : Nat} (h : step (c :: r) = .tok kd n sv k) (a : Int) :
    GoodT ⟨kd, a, n, sv⟩ ∧ (kd ≠ 4 → (c :: r).take k = bts (tkB ⟨kd, a, n, sv⟩) ∧ k = (tkB ⟨kd, a, n, sv⟩).size) := by
  by_cases h1 : LX.blank c = true
  · rw [step_blank h1] at h; cases h
  have h1 : LX.blank c = false := by simpa using h1
  by_cases h2 : c = 59
  · rw [step_note h1 h2] at h; cases h
  by_cases h3 : mark c = 0
  · by_cases h4 : c = 35
    · rw [step_hash h1 h2 h3 h4] at h
      subst h4
      split at h
      · rename_i hw
        injection h with e1 e2 e3 e4
        subst e1 e2 e3 e4
        have ht : tkB ⟨5, a, 1, emp⟩ = ⟨#[35, 116]⟩ := rfl
        refine ⟨⟨.inr (.inr (.inr (.inr (.inl rfl)))), by dsimp only; omega, by dsimp only; omega, by rw [ht]; decide, fun rest p out => ?_⟩, fun _ => ⟨?_, by rw [ht]; rfl⟩⟩
        · rw [ht]; exact bool_blank 116 1 (.inl ⟨rfl, rfl⟩) rest p out
        · rw [ht]
          cases r with
          | nil => cases hw
          | cons d q =>
            have : d = 116 := by
              unfold word at hw
              rw [List.takeWhile_cons] at hw
              split at hw
              · injection hw
              · cases hw
            subst this; rfl
      · split at h
        · rename_i hw
          injection h with e1 e2 e3 e4
          subst e1 e2 e3 e4
          have ht : tkB ⟨5, a, 0, emp⟩ = ⟨#[35, 102]⟩ := rfl
          refine ⟨⟨.inr (.inr (.inr (.inr (.inl rfl)))), by dsimp only; omega, by dsimp only; omega, by rw [ht]; decide, fun rest p out => ?_⟩, fun _ => ⟨?_, by rw [ht]; rfl⟩⟩
          · rw [ht]; exact bool_blank 102 0 (.inr ⟨rfl, rfl⟩) rest p out
          · rw [ht]
            cases r with
            | nil => cases hw
            | cons d q =>
              have : d = 102 := by
                unfold word at hw
                rw [List.takeWhile_cons] at hw
                split at hw
                · injection hw
                · cases hw
              subst this; rfl
        · cases h
    · by_cases h5 : let_ c = true
      · rw [step_one h1 h2 h3 h4 h5] at h
        have hk := one_k h
        have hwl := word_let (c :: r)
        have hw0 : word (c :: r) ≠ [] := by
          have := word_pos (r := r) h5
          intro e; rw [e] at this; simp at this
        have htake : (c :: r).take (word (c :: r)).length = word (c :: r) := (tw_take let_ (c :: r)).symm
        generalize word (c :: r) = w at *
        by_cases hn : number w = true
        · have ho := h
          unfold one at h
          rw [if_neg (by rw [hn]; decide)] at h
          by_cases h13 : 13 < w.length
          · rw [if_pos h13] at h; cases h
          · rw [if_neg h13] at h
            by_cases hv : value w ≤ -1099511627776 ∨ 1099511627776 ≤ value w
            · rw [if_pos hv] at h; cases h
            · rw [if_neg hv] at h
              injection h with e1 e2 e3 e4
              subst e1 e2 e3
              obtain ⟨g1, g2, g3, g4⟩ := dgs_ok hn (by omega) (by omega) (by omega)
              have ht : tkB ⟨4, a, value w, emp⟩ = str (dgs (value w)) := rfl
              refine ⟨⟨.inr (.inr (.inr (.inl rfl))), by show -1099511627776 < value w; omega, by show value w < 1099511627776; omega, by rw [ht, str_size]; omega, fun rest p out => ?_⟩, fun hh => absurd rfl hh⟩
              rw [ht, bts_str, str_size]
              exact word_blank g1 g2 g4 rest p out
        · have hn : number w = false := by simpa using hn
          have ho := h
          unfold one at h
          rw [if_pos hn] at h
          by_cases h32 : 32 < w.length
          · rw [if_pos h32] at h; cases h
          · rw [if_neg h32] at h
            injection h with e1 e2 e3 e4
            subst e1 e2 e3
            have ht : tkB ⟨6, a, 0, str w⟩ = str w := rfl
            refine ⟨⟨.inr (.inr (.inr (.inr (.inr rfl)))), by dsimp only; omega, by dsimp only; omega, by rw [ht, str_size]; omega, fun rest p out => ?_⟩, fun _ => ⟨?_, by rw [ht, str_size]; exact hk⟩⟩
            · rw [ht, bts_str, str_size]
              exact word_blank hwl hw0 ho rest p out
            · rw [ht, bts_str, hk]; exact htake
      · rw [step_bad h1 h2 h3 h4 (by simpa using h5)] at h; cases h
  · rw [step_mark h1 h2 h3] at h
    injection h with e1 e2 e3 e4
    subst e1 e2 e3 e4
    have ht : tkB ⟨mark c, a, 0, emp⟩ = str [c] := by
      rcases LW.mark_yes h3 with rfl | rfl | rfl <;> rfl
    refine ⟨⟨?_, by dsimp only; omega, by dsimp only; omega, by rw [ht, str_size]; simp, fun rest p out => ?_⟩, fun _ => ⟨?_, by rw [ht, str_size]; rfl⟩⟩
    · rcases LW.mark_yes h3 with rfl | rfl | rfl
      · exact .inl rfl
      · exact .inr (.inl rfl)
      · exact .inr (.inr (.inl rfl))
    · rw [ht, bts_str, str_size]; exact mark_blank h3 rest p out
    · rw [ht, bts_str]; rfl
/-- A row of tokens, written with a blank behind each; and where they then stand. -/
def againL (ts : List Tk) : List UInt8 := ts.flatMap (fun t => bts (tkB t) ++ [32])
def wantF : List Tk → Nat → List Tk
  | [], _ => []
  | t :: r, p => ⟨t.kind, p, t.n, t.s⟩ :: wantF r (p + (tkB t).size + 1)
theorem againL_snoc (ts : List Tk) (t : Tk) : againL (ts ++ [t]) = againL ts ++ (bts (tkB t) ++ [32]) := by
  unfold againL; rw [List.flatMap_append]; simp
theorem againL_cons (ts : List Tk) (t : Tk) : againL (t :: ts) = bts (tkB t) ++ 32 :: againL ts := by
  unfold againL; simp
theorem againL_len (ts : List Tk) (h : ∀ t ∈ ts, GoodT t) : (againL ts).length ≤ 33 * ts.length := by
  induction ts with
  | nil => simp [againL]
  | cons t r ih =>
    rw [againL_cons, List.length_append, List.length_cons, List.length_cons, size_bts]
    have h1 := (h t (List.mem_cons_self ..)).size
    have h2 := ih (fun x hx => h x (List.mem_cons_of_mem _ hx))
    omega
theorem wantF_len (ts : List Tk) : ∀ p, (wantF ts p).length = ts.length := by
  induction ts with
  | nil => intro p; rfl
  | cons t r ih => intro p; simp only [wantF, List.length_cons, ih]
theorem wantF_snoc (ts : List Tk) (t : Tk) : ∀ p, wantF (ts ++ [t]) p = wantF ts p ++ [⟨t.kind, ((p + (againL ts).length : Nat) : Int), t.n, t.s⟩] := by
  induction ts with
  | nil => intro p; rfl
  | cons x r ih =>
    intro p
    rw [List.cons_append, wantF, ih, wantF, List.cons_append, againL_cons, List.length_append, List.length_cons, size_bts]
    congr 4
    omega
theorem lex_again (ts : List Tk) (h : ∀ t ∈ ts, GoodT t) : ∀ p out, lexL (againL ts) p out = .ok (out ++ wantF ts p) := by
  induction ts with
  | nil => intro p out; simp [againL, wantF, lexL_nil]
  | cons t r ih =>
    intro p out
    rw [againL_cons, (h t (List.mem_cons_self ..)).back, ih (fun x hx => h x (List.mem_cons_of_mem _ hx)), wantF]
    simp
/-- A token of s, where it stands. -/
structure InT (s : ByteArray) (t : Tk) : Prop where
  good : GoodT t
  pos : 0 ≤ t.at_
  lt : t.at_ < s.size
  fits : t.kind ≠ 4 → t.at_ + ((tkB t).size : Int) ≤ s.size ∧ s.extract t.at_.toNat (t.at_.toNat + (tkB t).size) = tkB t
theorem lexL_in (s : ByteArray) : ∀ (f i : Nat) (out ts : List Tk), s.size - i ≤ f → i ≤ s.size → (∀ t ∈ out, InT s t ∧ t.at_ < i) → out.Pairwise (fun x y => x.at_ < y.at_) →
    lexL ((bts s).drop i) i out = .ok ts → (∀ t ∈ ts, InT s t) ∧ ts.Pairwise (fun x y => x.at_ < y.at_) := by
  intro f
  induction f with
  | zero =>
    intro i out ts hf hi ho hp h
    rw [List.drop_eq_nil_of_le (by rw [size_bts]; omega), lexL_nil] at h
    injection h with h
    subst h
    exact ⟨fun t ht => (ho t ht).1, hp⟩
  | succ f ih =>
    intro i out ts hf hi ho hp h
    by_cases hlt : i < s.size
    · have hR := h
      cases hst : step (s[i] :: (bts s).drop (i + 1)) with
      | err e =>
        have := LW.lex_err hlt hR hst
        cases this
      | skip k =>
        have h2 := LW.lex_skip hlt hR hst
        have hk : 0 < k ∧ i + k ≤ s.size := by
          refine ⟨?_, ?_⟩
          · rcases step_adv s[i] ((bts s).drop (i + 1)) with ⟨e, he⟩ | ⟨h1, _⟩
            · rw [hst] at he; cases he
            · rw [hst] at h1; exact h1
          · rcases LW.lex_fits hlt with ⟨e, he⟩ | h1
            · rw [hst] at he; cases he
            · rw [hst] at h1; exact h1
        exact ih (i + k) out ts (by omega) hk.2 (fun t ht => ⟨(ho t ht).1, by have := (ho t ht).2; omega⟩) hp h2
      | tok kd n sv k =>
        have h2 := LW.lex_tok hlt hR hst
        have hk : 0 < k ∧ i + k ≤ s.size := by
          refine ⟨LW.step_pos hst, ?_⟩
          rcases LW.lex_fits hlt with ⟨e, he⟩ | h1
          · rw [hst] at he; cases he
          · rw [hst] at h1; exact h1
        obtain ⟨g1, g2⟩ := step_good hst (i : Int)
        have hT : InT s ⟨kd, i, n, sv⟩ := by
          refine ⟨g1, by simp, by dsimp only; omega, fun hne => ?_⟩
          obtain ⟨t1, t2⟩ := g2 hne
          dsimp only
          refine ⟨by omega, ?_⟩
          rw [Int.toNat_natCast, ← t2, LW.cut_str, LW.drop_cons s i hlt, t1, str_bts]
        refine ih (i + k) _ ts (by omega) hk.2 ?_ ?_ h2
        · intro t ht
          rcases List.mem_append.1 ht with ht | ht
          · exact ⟨(ho t ht).1, by have := (ho t ht).2; omega⟩
          · have : t = ⟨kd, i, n, sv⟩ := by simpa using ht
            subst this
            exact ⟨hT, by dsimp only; omega⟩
        · rw [List.pairwise_append]
          refine ⟨hp, by simp, fun x hx y hy => ?_⟩
          have : y = ⟨kd, i, n, sv⟩ := by simpa using hy
          subst this
          exact (ho x hx).2
    · rw [List.drop_eq_nil_of_le (by rw [size_bts]; omega), lexL_nil] at h
      injection h with h
      subst h
      exact ⟨fun t ht => (ho t ht).1, hp⟩
theorem lex_in_s {s : ByteArray} {ts : List Tk} (h : lex s = .ok ts) : (∀ t ∈ ts, InT s t) ∧ ts.Pairwise (fun x y => x.at_ < y.at_) := by
  have h2 := (lex_len h).2
  rw [lex_small h2] at h
  exact lexL_in s s.size 0 [] ts (by omega) (by omega) (by simp) (by simp) h
theorem lex_want {ts : List Tk} (h : ∀ t ∈ ts, GoodT t) (hs : (againL ts).length ≤ 4000) : lex (str (againL ts)) = .ok (wantF ts 0) := by
  rw [lex_small (by rw [str_size]; exact hs), bts_str, lex_again ts h]
  simp
end LX
end Go.Proofs.YtaghlpolljaedaaGreat

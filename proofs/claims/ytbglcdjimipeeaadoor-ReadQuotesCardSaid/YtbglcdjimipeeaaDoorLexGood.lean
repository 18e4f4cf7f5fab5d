/-
  Layer 5 in plain words, besides: a token that a text has, written with a blank behind it, is that token again. No condition.
-/
import Derived.Test.YtbglcdjimipeeaaDoorLexText
namespace Go.Proofs.YtbglcdjimipeeaaDoor
open Go.RowKit
namespace LX
/-- A token that is read again as it is written. -/
structure GoodT (t : Tk) : Prop where
  kind : t.kind = 1 ∨ t.kind = 2 ∨ t.kind = 3 ∨ t.kind = 4 ∨ t.kind = 5 ∨ t.kind = 6
  lo : -1099511627776 < t.n
  hi : t.n < 1099511627776
  size : (tkB t).size ≤ 32
  back : ∀ (rest : List UInt8) (p : Nat) (out : List Tk), lexL (bts (tkB t) ++ 32 :: rest) p out = lexL rest (p + (tkB t).size + 1) (out ++ [⟨t.kind, p, t.n, t.s⟩])
theorem lexL_blank (rest : List UInt8) (p : Nat) (out : List Tk) : lexL (32 :: rest) p out = lexL rest (p + 1) out := by
  rw [lexL_step, step_blank (by decide)]; rfl
theorem word_blank {w : List UInt8} {kd n : Int} {sv : ByteArray} {k : Nat} (ha : w.all let_ = true) (h0 : w ≠ []) (h1 : one w = .tok kd n sv k) (rest : List UInt8) (p : Nat) (out : List Tk) :
    lexL (w ++ 32 :: rest) p out = lexL rest (p + w.length + 1) (out ++ [⟨kd, p, n, sv⟩]) := by
  cases w with
  | nil => exact absurd rfl h0
  | cons c r =>
    have hc : let_ c = true := by rw [List.all_cons, Bool.and_eq_true] at ha; exact ha.1
    obtain ⟨a1, a2, a3, a4⟩ := let_apart hc
    have hw : word (c :: (r ++ 32 :: rest)) = c :: r := by
      rw [← List.cons_append, word_app _ _ _ (by decide), word_all ha]
    have hk := one_k h1
    subst hk
    rw [List.cons_append, lexL_step, step_one a1 a2 a3 a4 hc, hw, h1]
    simp only
    rw [← List.cons_append, List.drop_left, lexL_blank]
theorem mark_blank {c : UInt8} (h : mark c ≠ 0) (rest : List UInt8) (p : Nat) (out : List Tk) : lexL (c :: 32 :: rest) p out = lexL rest (p + 1 + 1) (out ++ [⟨mark c, p, 0, emp⟩]) := by
  have h1 : blank c = false ∧ c ≠ 59 := by
    rcases LW.mark_yes h with rfl | rfl | rfl <;> decide
  rw [lexL_step, step_mark h1.1 h1.2 h]
  simp only [List.drop_succ_cons, List.drop_zero]
  exact lexL_blank _ _ _
theorem bool_blank (c : UInt8) (n : Int) (h : (c = 116 ∧ n = 1) ∨ (c = 102 ∧ n = 0)) (rest : List UInt8) (p : Nat) (out : List Tk) : lexL (35 :: c :: 32 :: rest) p out = lexL rest (p + 2 + 1) (out ++ [⟨5, p, n, emp⟩]) := by
  rw [lexL_step, step_hash (by decide) (by decide) (by decide) rfl]
  rcases h with ⟨rfl, rfl⟩ | ⟨rfl, rfl⟩
  · have hw : word (116 :: 32 :: rest) = [116] := word_app [116] rest 32 (by decide)
    rw [hw, if_pos rfl]
    simp only [List.drop_succ_cons, List.drop_zero]
    exact lexL_blank _ _ _
  · have hw : word (102 :: 32 :: rest) = [102] := word_app [102] rest 32 (by decide)
    rw [hw, if_neg (by decide), if_pos rfl]
    simp only [List.drop_succ_cons, List.drop_zero]
    exact lexL_blank _ _ _
theorem dig_let {c : UInt8} (h : dig c = true) : let_ c = true := by
  unfold dig at h
  unfold let_
  rw [Bool.and_eq_true] at h
  simp [h.1, h.2]
theorem all_dig_let {l : List UInt8} (h : l.all dig = true) : l.all let_ = true := by
  rw [List.all_eq_true] at h ⊢
  exact fun c hc => dig_let (h c hc)
/-- The digits of a number that was read are that number. -/
theorem dgs_ok {w : List UInt8} (hn : number w = true) (hl : w.length ≤ 13) (h1 : -1099511627776 < value w) (h2 : value w < 1099511627776) :
    (dgs (value w)).all let_ = true ∧ dgs (value w) ≠ [] ∧ (dgs (value w)).length ≤ 13 ∧ one (dgs (value w)) = .tok 4 (value w) emp (dgs (value w)).length := by
  have fin : ∀ d : List UInt8, number d = true → d.length ≤ 13 → value d = value w → one d = .tok 4 (value w) emp d.length := by
    intro d hd hdl hv
    unfold one
    rw [if_neg (by rw [hd]; decide), if_neg (by omega), hv, if_neg (by omega)]
  by_cases hneg : value w < 0
  · have hb : (-(value w)).toNat < 10 ^ (11 + 1) := by
      cases w with
      | nil => cases hn
      | cons c r =>
        by_cases hc : c = 45
        · subst hc
          have e2 : number (45 :: r) = (r.all dig && decide (0 < r.length)) := rfl
          rw [e2, Bool.and_eq_true] at hn
          have e3 : value (45 :: r) = - val r := rfl
          rw [List.length_cons] at hl
          obtain ⟨b1, b2⟩ := val_bound r hn.1
          have h := Nat.pow_le_pow_right (n := 10) (by decide) (show r.length ≤ 12 by omega)
          have e : ((10 ^ r.length : Nat) : Int) = (10 : Int) ^ r.length := by rw [Int.natCast_pow]; rfl
          rw [← e] at b2
          rw [e3]
          have : (11 : Nat) + 1 = 12 := rfl
          rw [this]; omega
        · have e3 : value (c :: r) = val (c :: r) := by unfold value; simp only [if_neg hc]
          have e2 : number (c :: r) = ((c :: r).all dig && decide (0 < (c :: r).length)) := by unfold number unsign; simp only [if_neg hc]
          rw [e2, Bool.and_eq_true] at hn
          have := (val_bound _ hn.1).1
          omega
    obtain ⟨i1, i2, i3, i4⟩ := dgN_ok 20 (-(value w)).toNat 11 (LW.pow21 (by omega)) hb
    have e : dgs (value w) = 45 :: dgN 20 (-(value w)).toNat := by unfold dgs; rw [if_pos hneg]
    have hnum : number (45 :: dgN 20 (-(value w)).toNat) = true := by
      show (((dgN 20 (-(value w)).toNat).all dig) && decide (0 < (dgN 20 (-(value w)).toNat).length)) = true
      rw [i1]
      have := List.length_pos_iff.2 i3
      simp [this]
    have hv : value (45 :: dgN 20 (-(value w)).toNat) = value w := by
      show - val (dgN 20 (-(value w)).toNat) = value w
      rw [i2]; omega
    rw [e]
    refine ⟨?_, by simp, by rw [List.length_cons]; omega, fin _ hnum (by rw [List.length_cons]; omega) hv⟩
    rw [List.all_cons, all_dig_let i1]
    decide
  · obtain ⟨i1, i2, i3, i4⟩ := dgN_ok 20 (value w).toNat 12 (LW.pow21 (by omega)) (Nat.lt_of_lt_of_le (show (value w).toNat < 1099511627776 by omega) (by decide))
    have e : dgs (value w) = dgN 20 (value w).toNat := by unfold dgs; rw [if_neg hneg]
    rw [e]
    generalize hd : dgN 20 (value w).toNat = d at *
    cases d with
    | nil => exact absurd rfl i3
    | cons c r =>
      have hc : c ≠ 45 := by
        rintro rfl
        rw [List.all_cons, Bool.and_eq_true] at i1
        exact absurd i1.1 (by decide)
      have hnum : number (c :: r) = true := by
        have e2 : number (c :: r) = ((c :: r).all dig && decide (0 < (c :: r).length)) := by unfold number unsign; simp only [if_neg hc]
        rw [e2, i1]; simp
      have hv : value (c :: r) = value w := by
        have e3 : value (c :: r) = val (c :: r) := by unfold value; simp only [if_neg hc]
        rw [e3, i2]; omega
      exact ⟨all_dig_let i1, by simp, i4, fin _ hnum i4 hv⟩
theorem word_let (l : List UInt8) : (word l).all let_ = true := by
  rw [List.all_eq_true]
  intro c hc
  obtain ⟨j, hj, e⟩ := List.mem_iff_getElem.1 hc
  obtain ⟨x, h1, h2⟩ := tw_yes (p := let_) (l := l) (j := j) hj
  have : (word l)[j]? = some x := by
    unfold word
    unfold word at hj
    rw [tw_take, List.getElem?_take, if_pos hj]; exact h1
  rw [List.getElem?_eq_getElem hj, e] at this
  cases this; exact h2
/-- What a step gives is a token that is read again as it is written; and, but for a number, it stands there as it is written. -/
theorem step_good {c : UInt8} {r : List UInt8} {kd n : Int} {sv : ByteArray} {k : Nat} (h : step (c :: r) = .tok kd n sv k) (a : Int) :
    GoodT ⟨kd, a, n, sv⟩ ∧ (kd ≠ 4 → (c :: r).take k = bts (tkB ⟨kd, a, n, sv⟩) ∧ k = (tkB ⟨kd, a, n, sv⟩).size) := by
  by_cases h1 : LX.blank c = true
  · rw [step_blank h1] at h; cases h
  have h1 : LX.blank c = false := by simpa using h1
  by_cases h2 : c = 59
  · rw [step_note h1 h2] at h; cases h
  by_cases h3 : mark c = 0
  · by_cases h4 : c = 35
    · rw [step_hash h1 h2 h3 h4] at h
      subst h4
      split at h
      · rename_i hw
        injection h with e1 e2 e3 e4
        subst e1 e2 e3 e4
        have ht : tkB ⟨5, a, 1, emp⟩ = ⟨#[35, 116]⟩ := rfl
        refine ⟨⟨.inr (.inr (.inr (.inr (.inl rfl)))), by dsimp only; omega, by dsimp only; omega, by rw [ht]; decide, fun rest p out => ?_⟩, fun _ => ⟨?_, by rw [ht]; rfl⟩⟩
        · rw [ht]; exact bool_blank 116 1 (.inl ⟨rfl, rfl⟩) rest p out
        · rw [ht]
          cases r with
          | nil => cases hw
          | cons d q =>
            have : d = 116 := by
              unfold word at hw
              rw [List.takeWhile_cons] at hw
              split at hw
              · injection hw
              · cases hw
            subst this; rfl
      · split at h
        · rename_i hw
          injection h with e1 e2 e3 e4
          subst e1 e2 e3 e4
          have ht : tkB ⟨5, a, 0, emp⟩ = ⟨#[35, 102]⟩ := rfl
          refine ⟨⟨.inr (.inr (.inr (.inr (.inl rfl)))), by dsimp only; omega, by dsimp only; omega, by rw [ht]; decide, fun rest p out => ?_⟩, fun _ => ⟨?_, by rw [ht]; rfl⟩⟩
          · rw [ht]; exact bool_blank 102 0 (.inr ⟨rfl, rfl⟩) rest p out
          · rw [ht]
            cases r with
            | nil => cases hw
            | cons d q =>
              have : d = 102 := by
                unfold word at hw
                rw [List.takeWhile_cons] at hw
                split at hw
                · injection hw
                · cases hw
              subst this; rfl
        · cases h
    · by_cases h5 : let_ c = true
      · rw [step_one h1 h2 h3 h4 h5] at h
        have hk := one_k h
        have hwl := word_let (c :: r)
        have hw0 : word (c :: r) ≠ [] := by
          have := word_pos (r := r) h5
          intro e; rw [e] at this; simp at this
        have htake : (c :: r).take (word (c :: r)).length = word (c :: r) := (tw_take let_ (c :: r)).symm
        generalize word (c :: r) = w at *
        by_cases hn : number w = true
        · have ho := h
          unfold one at h
          rw [if_neg (by rw [hn]; decide)] at h
          by_cases h13 : 13 < w.length
          · rw [if_pos h13] at h; cases h
          · rw [if_neg h13] at h
            by_cases hv : value w ≤ -1099511627776 ∨ 1099511627776 ≤ value w
            · rw [if_pos hv] at h; cases h
            · rw [if_neg hv] at h
              injection h with e1 e2 e3 e4
              subst e1 e2 e3
              obtain ⟨g1, g2, g3, g4⟩ := dgs_ok hn (by omega) (by omega) (by omega)
              have ht : tkB ⟨4, a, value w, emp⟩ = str (dgs (value w)) := rfl
              refine ⟨⟨.inr (.inr (.inr (.inl rfl))), by show -1099511627776 < value w; omega, by show value w < 1099511627776; omega, by rw [ht, str_size]; omega, fun rest p out => ?_⟩, fun hh => absurd rfl hh⟩
              rw [ht, bts_str, str_size]
              exact word_blank g1 g2 g4 rest p out
        · have hn : number w = false := by simpa using hn
          have ho := h
          unfold one at h
          rw [if_pos hn] at h
          by_cases h32 : 32 < w.length
          · rw [if_pos h32] at h; cases h
          · rw [if_neg h32] at h
            injection h with e1 e2 e3 e4
            subst e1 e2 e3
            have ht : tkB ⟨6, a, 0, str w⟩ = str w := rfl
            refine ⟨⟨.inr (.inr (.inr (.inr (.inr rfl)))), by dsimp only; omega, by dsimp only; omega, by rw [ht, str_size]; omega, fun rest p out => ?_⟩, fun _ => ⟨?_, by rw [ht, str_size]; exact hk⟩⟩
            · rw [ht, bts_str, str_size]
              exact word_blank hwl hw0 ho rest p out
            · rw [ht, bts_str, hk]; exact htake
      · rw [step_bad h1 h2 h3 h4 (by simpa using h5)] at h; cases h
  · rw [step_mark h1 h2 h3] at h
    injection h with e1 e2 e3 e4
    subst e1 e2 e3 e4
    have ht : tkB ⟨mark c, a, 0, emp⟩ = str [c] := by
      rcases LW.mark_yes h3 with rfl | rfl | rfl <;> rfl
    refine ⟨⟨?_, by dsimp only; omega, by dsimp only; omega, by rw [ht, str_size]; simp, fun rest p out => ?_⟩, fun _ => ⟨?_, by rw [ht, str_size]; rfl⟩⟩
    · rcases LW.mark_yes h3 with rfl | rfl | rfl
      · exact .inl rfl
      · exact .inr (.inl rfl)
      · exact .inr (.inr (.inl rfl))
    · rw [ht, bts_str, str_size]; exact mark_blank h3 rest p out
    · rw [ht, bts_str]; rfl
/-- A row of tokens, written with a blank behind each; and where they then stand. -/
def againL (ts : List Tk) : List UInt8 := ts.flatMap (fun t => bts (tkB t) ++ [32])
def wantF : List Tk → Nat → List Tk
  | [], _ => []
  | t :: r, p => ⟨t.kind, p, t.n, t.s⟩ :: wantF r (p + (tkB t).size + 1)
theorem againL_snoc (ts : List Tk) (t : Tk) : againL (ts ++ [t]) = againL ts ++ (bts (tkB t) ++ [32]) := by
  unfold againL; rw [List.flatMap_append]; simp
theorem againL_cons (ts : List Tk) (t : Tk) : againL (t :: ts) = bts (tkB t) ++ 32 :: againL ts := by
  unfold againL; simp
theorem againL_len (ts : List Tk) (h : ∀ t ∈ ts, GoodT t) : (againL ts).length ≤ 33 * ts.length := by
  induction ts with
  | nil => simp [againL]
  | cons t r ih =>
    rw [againL_cons, List.length_append, List.length_cons, List.length_cons, size_bts]
    have h1 := (h t (List.mem_cons_self ..)).size
    have h2 := ih (fun x hx => h x (List.mem_cons_of_mem _ hx))
    omega
theorem wantF_len (ts : List Tk) : ∀ p, (wantF ts p).length = ts.length := by
  induction ts with
  | nil => intro p; rfl
  | cons t r ih => intro p; simp only [wantF, List.length_cons, ih]
theorem wantF_snoc (ts : List Tk) (t : Tk) : ∀ p, wantF (ts ++ [t]) p = wantF ts p ++ [⟨t.kind, ((p + (againL ts).length : Nat) : Int), t.n, t.s⟩] := by
  induction ts with
  | nil => intro p; rfl
  | cons x r ih =>
    intro p
    rw [List.cons_append, wantF, ih, wantF, List.cons_append, againL_cons, List.length_append, List.length_cons, size_bts]
    congr 4
    omega
theorem lex_again (ts : List Tk) (h : ∀ t ∈ ts, GoodT t) : ∀ p out, lexL (againL ts) p out = .ok (out ++ wantF ts p) := by
  induction ts with
  | nil => intro p out; simp [againL, wantF, lexL_nil]
  | cons t r ih =>
    intro p out
    rw [againL_cons, (h t (List.mem_cons_self ..)).back, ih (fun x hx => h x (List.mem_cons_of_mem _ hx)), wantF]
    simp
/-- A token of s, where it stands. -/
structure InT (s : ByteArray) (t : Tk) : Prop where
  good : GoodT t
  pos : 0 ≤ t.at_
  lt : t.at_ < s.size
  fits : t.kind ≠ 4 → t.at_ + ((tkB t).size : Int) ≤ s.size ∧ s.extract t.at_.toNat (t.at_.toNat + (tkB t).size) = tkB t
theorem lexL_in (s : ByteArray) : ∀ (f i : Nat) (out ts : List Tk), s.size - i ≤ f → i ≤ s.size → (∀ t ∈ out, InT s t ∧ t.at_ < i) → out.Pairwise (fun x y => x.at_ < y.at_) →
    lexL ((bts s).drop i) i out = .ok ts → (∀ t ∈ ts, InT s t) ∧ ts.Pairwise (fun x y => x.at_ < y.at_) := by
  intro f
  induction f with
  | zero =>
    intro i out ts hf hi ho hp h
    rw [List.drop_eq_nil_of_le (by rw [size_bts]; omega), lexL_nil] at h
    injection h with h
    subst h
    exact ⟨fun t ht => (ho t ht).1, hp⟩
  | succ f ih =>
    intro i out ts hf hi ho hp h
    by_cases hlt : i < s.size
    · have hR := h
      cases hst : step (s[i] :: (bts s).drop (i + 1)) with
      | err e =>
        have := LW.lex_err hlt hR hst
        cases this
      | skip k =>
        have h2 := LW.lex_skip hlt hR hst
        have hk : 0 < k ∧ i + k ≤ s.size := by
          refine ⟨?_, ?_⟩
          · rcases step_adv s[i] ((bts s).drop (i + 1)) with ⟨e, he⟩ | ⟨h1, _⟩
            · rw [hst] at he; cases he
            · rw [hst] at h1; exact h1
          · rcases LW.lex_fits hlt with ⟨e, he⟩ | h1
            · rw [hst] at he; cases he
            · rw [hst] at h1; exact h1
        exact ih (i + k) out ts (by omega) hk.2 (fun t ht => ⟨(ho t ht).1, by have := (ho t ht).2; omega⟩) hp h2
      | tok kd n sv k =>
        have h2 := LW.lex_tok hlt hR hst
        have hk : 0 < k ∧ i + k ≤ s.size := by
          refine ⟨LW.step_pos hst, ?_⟩
          rcases LW.lex_fits hlt with ⟨e, he⟩ | h1
          · rw [hst] at he; cases he
          · rw [hst] at h1; exact h1
        obtain ⟨g1, g2⟩ := step_good hst (i : Int)
        have hT : InT s ⟨kd, i, n, sv⟩ := by
          refine ⟨g1, by simp, by dsimp only; omega, fun hne => ?_⟩
          obtain ⟨t1, t2⟩ := g2 hne
          dsimp only
          refine ⟨by omega, ?_⟩
          rw [Int.toNat_natCast, ← t2, LW.cut_str, LW.drop_cons s i hlt, t1, str_bts]
        refine ih (i + k) _ ts (by omega) hk.2 ?_ ?_ h2
        · intro t ht
          rcases List.mem_append.1 ht with ht | ht
          · exact ⟨(ho t ht).1, by have := (ho t ht).2; omega⟩
          · have : t = ⟨kd, i, n, sv⟩ := by simpa using ht
            subst this
            exact ⟨hT, by dsimp only; omega⟩
        · rw [List.pairwise_append]
          refine ⟨hp, by simp, fun x hx y hy => ?_⟩
          have : y = ⟨kd, i, n, sv⟩ := by simpa using hy
          subst this
          exact (ho x hx).2
    · rw [List.drop_eq_nil_of_le (by rw [size_bts]; omega), lexL_nil] at h
      injection h with h
      subst h
      exact ⟨fun t ht => (ho t ht).1, hp⟩
theorem lex_in_s {s : ByteArray} {ts : List Tk} (h : lex s = .ok ts) : (∀ t ∈ ts, InT s t) ∧ ts.Pairwise (fun x y => x.at_ < y.at_) := by
  have h2 := (lex_len h).2
  rw [lex_small h2] at h
  exact lexL_in s s.size 0 [] ts (by omega) (by omega) (by simp) (by simp) h
theorem lex_want {ts : List Tk} (h : ∀ t ∈ ts, GoodT t) (hs : (againL ts).length ≤ 4000) : lex (str (againL ts)) = .ok (wantF ts 0) := by
  rw [lex_small (by rw [str_size]; exact hs), bts_str, lex_again ts h]
  simp
end LX
end Go.Proofs.YtbglcdjimipeeaaDoor

/-
  P5.2's law of cuts. No condition.
-/
import Derived.Test.YtbglcdjimipeeaaDoorLexLaws1
import Derived.Test.YtbglcdjimipeeaaDoorLexFacts
namespace Go.Proofs.YtbglcdjimipeeaaDoor
open Go.RowKit
namespace LX
theorem step_errne {c : UInt8} {r : List UInt8} {e : Int} (h : step (c :: r) = .err e) : (e == 0) = false := by
  have h50 : ((50 : Int) == 0) = false := rfl
  unfold step at h
  simp only at h
  split at h
  · cases h
  split at h
  · cases h
  split at h
  · cases h
  split at h
  · split at h
    · cases h
    split at h
    · cases h
    · cases h; rfl
  split at h
  · cases h; rfl
  unfold one at h
  split at h
  · split at h
    · cases h; rfl
    · cases h
  · split at h
    · cases h; rfl
    · split at h
      · cases h; rfl
      · cases h
theorem lexL_errne : ∀ (n : Nat) (l : List UInt8) (p : Nat) (out : List Tk) (q : Nat) (e : Int), l.length ≤ n → lexL l p out = .error (q, e) → (e == 0) = false := by
  intro n
  induction n with
  | zero =>
    intro l p out q e h hl
    have : l = [] := List.eq_nil_of_length_eq_zero (by omega)
    subst this
    cases hl
  | succ n ih =>
    intro l p out q e h hl
    cases l with
    | nil => cases hl
    | cons c r =>
      rw [lexL_step] at hl
      simp only [List.length_cons] at h
      cases hs : step (c :: r) with
      | err e => rw [hs] at hl; cases hl; exact step_errne hs
      | skip k =>
        obtain ⟨h1, h2⟩ := adv_le hs (by intro e he; cases he)
        simp only [adv] at h1 h2
        rw [hs] at hl
        exact ih _ _ _ _ _ (by rw [List.length_drop, List.length_cons]; omega) hl
      | tok kd n s k =>
        obtain ⟨h1, h2⟩ := adv_le hs (by intro e he; cases he)
        simp only [adv] at h1 h2
        rw [hs] at hl
        exact ih _ _ _ _ _ (by rw [List.length_drop, List.length_cons]; omega) hl
theorem lex_errne {s : ByteArray} {p : Nat} {e : Int} (h : lex s = .error (p, e)) : (e == 0) = false := by
  unfold lex at h
  split at h
  · cases h; rfl
  · exact lexL_errne _ _ _ _ _ _ (Nat.le_refl _) h
theorem bts_extract (s : ByteArray) (i : Nat) : bts (s.extract 0 i) = (bts s).take i := by
  unfold bts
  rw [Lib.extract_data]
  simp
theorem size_bts (s : ByteArray) : (bts s).length = s.size := by unfold bts; rw [Array.length_toList]; rfl
theorem lex_small {s : ByteArray} (h : s.size ≤ 4000) : lex s = lexL (bts s) 0 [] := by unfold lex; rw [if_neg (by omega)]
theorem cut_facts (s : ByteArray) (i : Nat) (hi : i ≤ s.size) (hs : s.size ≤ 500) (hc : i = s.size ∨ ∃ x b, (bts s).drop i = x :: b ∧ (x = 32 ∨ x = 10)) :
    (∃ p e, lex (s.extract 0 i) = .error (p, e) ∧ lex s = .error (p, e)) ∨ ∃ t1, lex (s.extract 0 i) = .ok t1 ∧ ((∃ p e, lex s = .error (p, e)) ∨ ∃ more, lex s = .ok (t1 ++ more) ∧ ∀ t ∈ more, (i : Int) ≤ t.at_) := by
  have hl : (bts (s.extract 0 i)).length = i := by rw [bts_extract, List.length_take, size_bts]; omega
  have h1 : lex (s.extract 0 i) = lexL ((bts s).take i) 0 [] := by
    rw [lex_small (by rw [← size_bts, hl]; omega), bts_extract]
  have h2 : lex s = lexL (bts s) 0 [] := lex_small (by omega)
  rw [h1, h2]
  have hlt : ((bts s).take i).length = i := by rw [List.length_take, size_bts]; omega
  rcases hc with hc | ⟨x, b, hd, hx⟩
  · rw [List.take_of_length_le (by rw [size_bts]; omega)]
    cases lexL (bts s) 0 [] with
    | error pe => exact .inl ⟨pe.1, pe.2, rfl, rfl⟩
    | ok ts => exact .inr ⟨ts, rfl, .inr ⟨[], by simp, by simp⟩⟩
  · have e : bts s = (bts s).take i ++ x :: b := by rw [← hd, List.take_append_drop]
    have := lexL_cut b x hx _ ((bts s).take i) 0 [] (Nat.le_refl _)
    rw [← e] at this
    cases h3 : lexL ((bts s).take i) 0 [] with
    | error pe => rw [h3] at this; exact .inl ⟨pe.1, pe.2, rfl, this⟩
    | ok ts =>
      rw [h3] at this
      obtain ⟨l, q, h4, h5⟩ := this
      refine .inr ⟨ts, rfl, ?_⟩
      rw [h4]
      cases h6 : lexL l q ts with
      | error pe => exact .inl ⟨pe.1, pe.2, rfl⟩
      | ok t2 =>
        obtain ⟨more, h7, h8⟩ := lexL_more _ _ _ _ _ (Nat.le_refl _) h6
        exact .inr ⟨more, by rw [h7], fun t ht => by have := h8 t ht; omega⟩
end LX
namespace LW
open LX
theorem ne_no {c d : UInt8} {n : Int} (h : c ≠ d) (e : (d.toNat : Int) = n) : ((c.toNat : Int) != n) = true := by simp [bne, eq_no h e]
theorem ne_yes {c d : UInt8} {n : Int} (h : c = d) (e : (d.toNat : Int) = n) : ((c.toNat : Int) != n) = false := by simp [bne, eq_yes h e]
theorem nq_no {c d : UInt8} {n : Int} (h : c ≠ d) (e : (d.toNat : Int) = n) : ¬ ((c.toNat : Int) = n) := by
  have := eq_no h e
  rwa [beq_eq_false_iff_ne] at this
theorem TkRow.front {w : World} {A : Option Addr} {ts us : List Tk} (h : TkRow w A (ts ++ us)) : TkRow w A ts := by
  intro k hk
  have := h k (by rw [List.length_append]; omega)
  rwa [List.getElem_append_left hk] at this
theorem TkRow.mid {w : World} {A : Option Addr} {ts us : List Tk} {m : Tk} (h : TkRow w A (ts ++ m :: us)) (n : Nat) (hn : ts.length = n) : ∃ b o, A = some ⟨b, o, none⟩ ∧ b < w.heap.size ∧ w.cell? ⟨b, o + n * 4 + 1, none⟩ = some (.int .i64 m.at_) := by
  subst hn
  obtain ⟨b, o, e, hb, _, c1, _, _⟩ := h ts.length (by rw [List.length_append, List.length_cons]; omega)
  refine ⟨b, o, e, hb, ?_⟩
  rw [c1]
  simp
end LW
end Go.Proofs.YtbglcdjimipeeaaDoor

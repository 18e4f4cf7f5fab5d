/-
  Layer 5 in plain words, besides: blanks and remarks ahead of a text, and behind it. No condition.
-/
import Derived.Test.YtbglcdjimipeeaaDoorLexLaws3
namespace Go.Proofs.YtbglcdjimipeeaaDoor
open Go.RowKit
namespace LX
/-- A text that is passed over whole. -/
def Pass (p : List UInt8) : Prop := ∀ l, gapF false (p ++ l) = p.length + gapF false l
theorem Pass.nil : Pass [] := fun l => by simp
theorem Pass.app {p q : List UInt8} (hp : Pass p) (hq : Pass q) : Pass (p ++ q) := fun l => by
  rw [List.append_assoc, hp, hq, List.length_append]; omega
def pad (q : Nat) : ByteArray := if q = 0 then ⟨#[32]⟩ else if q = 1 then ⟨#[9]⟩ else if q = 2 then ⟨#[10]⟩ else ⟨#[59, 32, 40, 32, 120, 10]⟩
theorem pad_pass (q : Nat) : Pass (bts (pad q)) := by
  unfold pad
  split
  · intro l; exact gapF_blank false l (.inl rfl)
  · split
    · intro l; exact gapF_blank false l (.inr rfl)
    · split
      · intro l; exact gapF_nl false l
      · intro l
        show gapF false (59 :: 32 :: 40 :: 32 :: 120 :: 10 :: l) = 6 + gapF false l
        rw [gapF_note, gapF_blank _ _ (.inl rfl), gapF_in _ (by decide) (by decide), gapF_blank _ _ (.inl rfl), gapF_in _ (by decide) (by decide), gapF_nl]
        omega
theorem pad_size (q : Nat) : (pad q).size ≤ 6 := by
  unfold pad
  split
  · decide
  · split
    · decide
    · split <;> decide
def pads (q : Nat) : Nat → ByteArray
  | 0 => ⟨#[]⟩
  | k + 1 => pads q k ++ pad q
theorem pads_pass (q k : Nat) : Pass (bts (pads q k)) := by
  induction k with
  | zero => exact Pass.nil
  | succ k ih => rw [pads, bts_append]; exact ih.app (pad_pass q)
theorem pads_size (q k : Nat) : (pads q k).size ≤ 6 * k := by
  induction k with
  | zero => exact Nat.le_refl 0
  | succ k ih => rw [pads, size_append]; have := pad_size q; omega
theorem lexL_ahead {p : List UInt8} (hp : Pass p) (l : List UInt8) (a : Nat) (out : List Tk) : lexL (p ++ l) a out = lexL l (a + p.length) out := by
  rw [lexL_gap _ (p ++ l) a out (Nat.le_refl _), lexL_gap _ l (a + p.length) out (Nat.le_refl _), hp l, List.drop_append, List.drop_of_length_le (by omega), List.nil_append]
  congr 1
  · congr 1; omega
  · omega
theorem lexL_behind {p : List UInt8} (hp : Pass p) (a : Nat) (out : List Tk) : lexL p a out = .ok out := by
  have := lexL_ahead hp [] a out
  rw [List.append_nil, lexL_nil] at this
  exact this
theorem pass_facts (s P : ByteArray) (hs : s.size ≤ 1000) (hP : P.size ≤ 48) (hp : Pass (bts P)) :
    (∀ q e, lex s = .error (q, e) → lex (P ++ s) = .error (q + P.size, e) ∧ lex (s ++ ⟨#[10]⟩ ++ P) = .error (q, e)) ∧
    (∀ ts, lex s = .ok ts → lex (P ++ s) = .ok (ts.map (shiftT P.size)) ∧ lex (s ++ ⟨#[10]⟩ ++ P) = .ok ts) := by
  have h1 : (P ++ s).size ≤ 4000 := by rw [size_append]; omega
  have h2 : (s ++ ⟨#[10]⟩ ++ P).size ≤ 4000 := by rw [size_append, size_append]; show s.size + 1 + P.size ≤ 4000; omega
  have e2 : bts (s ++ ⟨#[10]⟩ ++ P) = bts s ++ 10 :: bts P := by rw [bts_append, bts_append, List.append_assoc]; rfl
  rw [lex_small (show s.size ≤ 4000 by omega), lex_small h1, lex_small h2, bts_append, e2, lexL_ahead hp, lexL_nl _ _ _ _ _ (Nat.le_refl _), size_bts]
  have hsh := lexL_shift P.size [] _ (bts s) 0 [] (Nat.le_refl _)
  rw [List.map_nil, List.append_nil] at hsh
  rw [hsh]
  refine ⟨fun q e h => by rw [h]; exact ⟨rfl, rfl⟩, fun ts h => by rw [h]; exact ⟨rfl, lexL_behind hp _ _⟩⟩
end LX
end Go.Proofs.YtbglcdjimipeeaaDoor

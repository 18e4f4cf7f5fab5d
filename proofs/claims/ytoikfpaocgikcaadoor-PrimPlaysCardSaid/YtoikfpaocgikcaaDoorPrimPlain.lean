/-
  What is done to words, as plain numbers over a list of things. No condition.
-/
import Derived.Test.YtoikfpaocgikcaaDoorArenaPl
import Derived.Test.YtoikfpaocgikcaaDoorWordWalks4
namespace Go.Proofs.YtoikfpaocgikcaaDoor
open Go.RowKit
namespace PP
open AW
def cntL : List Int := [0, 2, 2, 2, 2, 2, 2, 2, 2, 1, 1, 1, 2, 1, 1, 1, 1, 1]
def sgnL : List Int := [0, 43, 45, 42, 47, 37, 60, 61]
/-- How many words. -/
def cnt (op : Int) : Int := cntL.getD op.toNat 0
/-- The sign by which layer 1 knows it. -/
def sgn (op : Int) : Int := sgnL.getD op.toNat 0
def pairB (ts : List AP.Th) (x : Int) : Bool := kindN ts x == 1 && lenN ts x == 2
def fnB (ts : List AP.Th) (x : Int) : Bool := kindN ts x == 2 || kindN ts x == 5
/-- What comes of it, where the words are as many as they must be. -/
def valW (n : Nat) (ts : List AP.Th) (op x y : Int) : Int :=
  if op ≤ 7 then WP.doW (sgn op) x y else if op = 8 then WP.boolW (x == y) else if op = 9 then WP.boolW (x == 10) else if op = 10 then WP.boolW (x == 2)
  else if op = 11 then WP.boolW (pairB ts x) else if op = 12 then allW n ts 1 2 else if op = 13 then (if pairB ts x then getW ts x 0 else 0)
  else if op = 14 then (if pairB ts x then getW ts x 1 else 0) else if op = 15 then WP.boolW (WP.toIntB x) else if op = 16 then WP.boolW (WP.toB 3 x) else WP.boolW (fnB ts x)
def valE (n : Nat) (ts : List AP.Th) (op x y : Int) : Int :=
  if op ≤ 7 then WP.doE (sgn op) x y else if op = 12 then allE n ts 1 2 else if op = 13 then (if pairB ts x then getE ts x 0 else 100)
  else if op = 14 then (if pairB ts x then getE ts x 1 else 100) else 0
/-- May it be done to so many? -/
def okB (op : Int) (m : Nat) : Bool := decide (1 ≤ op) && (decide (op ≤ 17) && decide ((m : Int) = cnt op))
def doW (n : Nat) (ts : List AP.Th) (op : Int) (l : List Int) : Int := if okB op l.length then valW n ts op (l.getD 0 0) (l.getD 1 0) else 0
def doE (n : Nat) (ts : List AP.Th) (op : Int) (l : List Int) : Int := if okB op l.length then valE n ts op (l.getD 0 0) (l.getD 1 0) else 1
def doT (n : Nat) (ts : List AP.Th) (op : Int) (l : List Int) : List AP.Th := if okB op l.length && op == 12 then allT n ts 1 l else ts
theorem okB_iff (op : Int) (m : Nat) : okB op m = true ↔ 1 ≤ op ∧ op ≤ 17 ∧ (m : Int) = cnt op := by simp [okB]
theorem cnt_cases (op : Int) (h1 : 1 ≤ op) (h2 : op ≤ 17) : (cnt op = 2 ∧ (op ≤ 8 ∨ op = 12)) ∨ (cnt op = 1 ∧ 9 ≤ op ∧ op ≠ 12) := by
  obtain ⟨k, rfl⟩ : ∃ k : Nat, op = k := ⟨op.toNat, by omega⟩
  have hk : k < 18 := by omega
  have : ∀ j : Nat, j < 18 → 1 ≤ j → ((cnt j = 2 ∧ ((j : Int) ≤ 8 ∨ (j : Int) = 12)) ∨ (cnt j = 1 ∧ (9 : Int) ≤ j ∧ (j : Int) ≠ 12)) := by decide
  exact this k hk (by omega)
theorem pair_at {ts : List AP.Th} {x : Int} (h : pairB ts x = true) : ∃ i, AW.look ts x = some i ∧ (AP.th ts i).k = 1 ∧ (AP.th ts i).l.length = 2 := by
  simp only [pairB, Bool.and_eq_true, beq_iff_eq] at h
  obtain ⟨h1, h2⟩ := h
  unfold kindN lenN at *
  cases hl : AW.look ts x with
  | none => rw [hl] at h1; cases h1
  | some i =>
    rw [hl] at h1 h2
    exact ⟨i, rfl, h1, by simp only at h2; omega⟩
theorem pair_get {ts : List AP.Th} {x : Int} {i : Nat} {a b : Int} (hl : AW.look ts x = some i) (hi : AP.th ts i = ⟨1, [a, b]⟩) : pairB ts x = true ∧ getW ts x 0 = a ∧ getW ts x 1 = b ∧ getE ts x 0 = 0 ∧ getE ts x 1 = 0 := by
  refine ⟨by simp [pairB, kindN, lenN, hl, hi], ?_, ?_, ?_, ?_⟩
  · simp [getW, hl, hi]
  · simp [getW, hl, hi]
  · simp [getE, hl, hi]
  · simp [getE, hl, hi]
end PP
end Go.Proofs.YtoikfpaocgikcaaDoor

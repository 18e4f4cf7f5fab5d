/-
  Rows of rows that the call has made itself: the heads in one row, each leads to a row of its own, no two to the same. No condition.
-/
import Derived.Test.YtoikfpaocgikcaaDoorMemAll
namespace Go.Proofs.YtoikfpaocgikcaaDoor
open Go.RowKit
namespace MN
open MM
/-- The heads hs lead to the rows ls, of element type e, each of them the call's own since base, no two the same. -/
structure Kids (w : World) (base : Nat) (e : TypeId) (hs : List Value) (ls : List (List Value)) : Prop where
  len : hs.length = ls.length
  each : ∀ (i : Nat) (h : Value) (l : List Value), hs[i]? = some h → ls[i]? = some l → w.ownsRow base e 1 h l.length l
  apart : ∀ (i j : Nat) (h h' : Value) (b : Nat), hs[i]? = some h → hs[j]? = some h' → h.ownBlock = some b → h'.ownBlock = some b → i = j
section
variable {w w' : World} {base : Nat} {e : TypeId} {hs : List Value} {ls : List (List Value)}
theorem Kids.nil (w : World) (base : Nat) (e : TypeId) : Kids w base e [] [] := ⟨rfl, fun i h l hh => by simp at hh, fun i j h h' b hh => by simp at hh⟩
theorem Kids.low (k : Kids w base e hs ls) : ∀ h ∈ hs, ∀ b, h.ownBlock = some b → b < w.heap.size ∧ base ≤ b := by
  intro h hm b hb
  obtain ⟨i, hi, rfl⟩ := List.mem_iff_getElem.1 hm
  have hl : i < ls.length := by rw [← k.len]; exact hi
  exact own_lt (k.each i _ _ (List.getElem?_eq_getElem hi) (List.getElem?_eq_getElem hl)) b hb
theorem Kids.far {S : List Nat} (k : Kids w base e hs ls) (f : Far S w w') (hS : ∀ h ∈ hs, ∀ b, h.ownBlock = some b → b ∉ S) : Kids w' base e hs ls :=
  ⟨k.len, fun i h l hh hl => own_far (k.each i h l hh hl) f (hS h (List.mem_of_getElem? hh)), k.apart⟩
theorem Kids.far_low {S : List Nat} (k : Kids w base e hs ls) (f : Far S w w') (hS : ∀ b ∈ S, b < base ∨ w.heap.size ≤ b) : Kids w' base e hs ls :=
  k.far f (fun h hm b hb hc => by have := k.low h hm b hb; have := hS b hc; omega)
theorem Kids.snoc {h : Value} {l : List Value} {n : Nat} (k : Kids w' base e hs ls) (hn : n = l.length) (ho : w'.ownsRow base e 1 h n l) (hnew : ∀ b, h.ownBlock = some b → ∀ h' ∈ hs, h'.ownBlock ≠ some b) : Kids w' base e (hs ++ [h]) (ls ++ [l]) := by
  subst hn
  have hlen := k.len
  refine ⟨by simp [k.len], fun i h1 l1 hh hl => ?_, fun i j h1 h2 b hi hj hb1 hb2 => ?_⟩
  · rcases Nat.lt_trichotomy i hs.length with hlt | heq | hgt
    · rw [List.getElem?_append_left hlt] at hh
      rw [List.getElem?_append_left (by omega)] at hl
      exact k.each i _ _ hh hl
    · subst heq
      rw [List.getElem?_append_right (Nat.le_refl _)] at hh
      rw [hlen, List.getElem?_append_right (Nat.le_refl _)] at hl
      simp at hh hl
      subst hh; subst hl
      exact ho
    · rw [List.getElem?_eq_none (by simp; omega)] at hh; cases hh
  · have cas : ∀ (q : Nat) (hq : Value), (hs ++ [h])[q]? = some hq → (q < hs.length ∧ hs[q]? = some hq) ∨ (q = hs.length ∧ hq = h) := by
      intro q hq hqq
      rcases Nat.lt_trichotomy q hs.length with hlt | heq | hgt
      · rw [List.getElem?_append_left hlt] at hqq; exact .inl ⟨hlt, hqq⟩
      · subst heq
        rw [List.getElem?_append_right (Nat.le_refl _)] at hqq
        simp at hqq
        exact .inr ⟨rfl, hqq.symm⟩
      · rw [List.getElem?_eq_none (by simp; omega)] at hqq; cases hqq
    rcases cas i h1 hi with ⟨_, a1⟩ | ⟨a1, rfl⟩
    · rcases cas j h2 hj with ⟨_, a2⟩ | ⟨a2, rfl⟩
      · exact k.apart i j h1 h2 b a1 a2 hb1 hb2
      · exact absurd hb1 (hnew b hb2 h1 (List.mem_of_getElem? a1))
    · rcases cas j h2 hj with ⟨_, a2⟩ | ⟨a2, rfl⟩
      · exact absurd hb2 (hnew b hb1 h2 (List.mem_of_getElem? a2))
      · omega
/-- A store into one of the rows. -/
theorem Kids.put (k : Kids w base e hs ls) {i g n c : Nat} {l : List Value} (hh : hs[i]? = some (.slice (some ⟨g, 0, none⟩) n c)) (hl : ls[i]? = some l) (hn : n = l.length) (j : Nat) (u : Value) :
    Kids (w.setCell ⟨g, j, none⟩ u) base e hs (ls.set i (l.set j u)) := by
  subst hn
  refine ⟨by simp [k.len], fun i' h1 l1 hh1 hl1 => ?_, k.apart⟩
  by_cases e1 : i' = i
  · subst e1
    rw [hh] at hh1
    cases hh1
    have hlt : i' < ls.length := (List.getElem?_eq_some_iff.1 hl).1
    rw [List.getElem?_set_self hlt] at hl1
    cases hl1
    have := ((k.each i' _ _ hh hl).stored j u).1
    rw [List.length_set]; exact this
  · rw [List.getElem?_set_ne (fun h => e1 h.symm)] at hl1
    have h0 := k.each i' h1 l1 hh1 hl1
    refine own_far h0 ((Far.refl [g] w).setCell (by simp) u) (fun b hb hm => ?_)
    simp at hm
    subst hm
    exact e1 (k.apart i' i h1 _ b hh1 hh hb rfl)
end
end MN
end Go.Proofs.YtoikfpaocgikcaaDoor

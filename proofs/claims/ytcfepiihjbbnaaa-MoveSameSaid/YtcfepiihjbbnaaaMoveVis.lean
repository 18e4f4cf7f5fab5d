/-
  Going through what is reached, thing by thing, in whatever order: what is gone through in the end is what is reached. Condition: the things are ones that may be, the words lie in 64 bits.
-/
import Derived.Test.YtcfepiihjbbnaaaMoveEnd
namespace Go.Proofs.Ytcfepiihjbbnaaa
namespace MP
open Go.RowKit AP AW
/-- The things V have been gone through, the words of todo have not. -/
structure Vis (ts : List Th) (roots : List Int) (V : List Nat) (todo : List Int) : Prop where
  nodup : V.Nodup
  low : ∀ i ∈ V, i < ts.length
  snd : ∀ i ∈ V, R ts roots i
  tds : ∀ x ∈ todo, WP.U x ∧ ∀ i, AW.look ts x = some i → R ts roots i
  cl : ∀ i ∈ V, ∀ x ∈ (th ts i).l, ∀ j, AW.look ts x = some j → j ∈ V ∨ x ∈ todo
  rt : ∀ x ∈ roots, ∀ j, AW.look ts x = some j → j ∈ V ∨ x ∈ todo
section
variable {n : Nat} {ts : List Th} {roots : List Int} {V : List Nat} {todo : List Int}
theorem Vis.start (hu : ∀ x ∈ roots, WP.U x) : Vis ts roots [] roots :=
  ⟨List.nodup_nil, by simp, by simp, fun x hx => ⟨hu x hx, fun i hi => .root hx hi⟩, by simp, fun x hx _ _ => .inr hx⟩
/-- A word is passed over: it is no thing's place, or of one that was gone through. -/
theorem Vis.skip (h : Vis ts roots V todo) {x : Int} {todo' : List Int} (h1 : ∀ y ∈ todo, y = x ∨ y ∈ todo') (h2 : ∀ y ∈ todo', y ∈ todo) (hx : ∀ i, AW.look ts x = some i → i ∈ V) : Vis ts roots V todo' := by
  refine ⟨h.nodup, h.low, h.snd, fun y hy => h.tds y (h2 y hy), fun i hi y hy j hj => ?_, fun y hy j hj => ?_⟩
  · rcases h.cl i hi y hy j hj with e | e
    · exact .inl e
    · rcases h1 y e with e | e
      · subst e; exact .inl (hx j hj)
      · exact .inr e
  · rcases h.rt y hy j hj with e | e
    · exact .inl e
    · rcases h1 y e with e | e
      · subst e; exact .inl (hx j hj)
      · exact .inr e
/-- A word of a thing that was not: its words are to do. -/
theorem Vis.visit (hO : Ok n ts) (h : Vis ts roots V todo) {x : Int} {i : Nat} {todo' : List Int} (hm : x ∈ todo) (hi : AW.look ts x = some i) (hV : i ∉ V) (h1 : ∀ y ∈ todo, y = x ∨ y ∈ todo') (h2 : ∀ y ∈ todo', y ∈ todo ∨ y ∈ (th ts i).l) (h3 : ∀ y ∈ (th ts i).l, y ∈ todo') : Vis ts roots (V ++ [i]) todo' := by
  have hR := (h.tds x hm).2 i hi
  have hil := look_lt hi
  refine ⟨?_, ?_, ?_, ?_, ?_, ?_⟩
  · rw [List.nodup_append]
    exact ⟨h.nodup, by simp, fun a ha b hb e => by simp at hb; subst hb; subst e; exact hV ha⟩
  · intro j hj
    rcases List.mem_append.1 hj with hj | hj
    · exact h.low j hj
    · simp at hj; subst hj; exact hil
  · intro j hj
    rcases List.mem_append.1 hj with hj | hj
    · exact h.snd j hj
    · simp at hj; subst hj; exact hR
  · intro y hy
    rcases h2 y hy with e | e
    · exact h.tds y e
    · exact ⟨(hO.each i hil).2.2.2 y e, fun j hj => .step hR e hj⟩
  · intro j hj y hy k hk
    rcases List.mem_append.1 hj with hj | hj
    · rcases h.cl j hj y hy k hk with e | e
      · exact .inl (List.mem_append.2 (.inl e))
      · rcases h1 y e with e | e
        · subst e; rw [hi] at hk; cases hk; exact .inl (by simp)
        · exact .inr e
    · simp at hj; subst hj; exact .inr (h3 y hy)
  · intro y hy k hk
    rcases h.rt y hy k hk with e | e
    · exact .inl (List.mem_append.2 (.inl e))
    · rcases h1 y e with e | e
      · subst e; rw [hi] at hk; cases hk; exact .inl (by simp)
      · exact .inr e
theorem Vis.all (h : Vis ts roots V []) (i : Nat) : i ∈ V ↔ R ts roots i := by
  refine ⟨h.snd i, fun hr => ?_⟩
  induction hr with
  | root hx hl =>
    rcases h.rt _ hx _ hl with e | e
    · exact e
    · cases e
  | step _ hx hl ih =>
    rcases h.cl _ ih _ hx _ hl with e | e
    · exact e
    · cases e
/-- How much that is. -/
theorem Vis.sum (hO : Ok n ts) (h : Vis ts roots V []) : wts ts V = reach ts roots := by
  have hl := live hO roots
  have e : reach ts roots = wts ts (liveS ts roots).od := sz_us hl.inv
  rw [e]
  exact wts_same ts h.nodup hl.inv.nodup (fun i => by rw [h.all, hl.reach])
theorem Vis.le (h : Vis ts roots V todo) : wts ts V ≤ sz ts := wts_le ts h.nodup h.low
theorem wts_one (ts : List Th) (V : List Nat) (i : Nat) : wts ts (V ++ [i]) = wts ts V + ((th ts i).l.length + 1) := wts_snoc ts V i
end
/-- Which things were gone through, as bools. -/
def seenL (V : List Nat) (N : Nat) : List Value := (List.range N).map fun i => Value.bool (decide (i ∈ V))
theorem seenL_len (V : List Nat) (N : Nat) : (seenL V N).length = N := by simp [seenL]
theorem seenL_at (V : List Nat) (N i : Nat) (hi : i < N) : (seenL V N)[i]? = some (.bool (decide (i ∈ V))) := by simp [seenL, hi]
theorem seenL_nil (N : Nat) : seenL [] N = List.replicate N (.bool false) := by
  apply List.ext_getElem?
  intro i
  by_cases hi : i < N
  · rw [seenL_at _ _ _ hi]; simp [hi]
  · rw [List.getElem?_eq_none (by rw [seenL_len]; omega), List.getElem?_eq_none (by simp; omega)]
theorem seenL_set (V : List Nat) (N i : Nat) (hi : i < N) : (seenL V N).set i (.bool true) = seenL (V ++ [i]) N := by
  apply List.ext_getElem?
  intro j
  by_cases hj : j < N
  · rw [seenL_at _ _ _ hj]
    by_cases e : j = i
    · subst e
      rw [List.getElem?_set_self (by rw [seenL_len]; exact hj)]; simp
    · rw [List.getElem?_set_ne (fun h => e h.symm), seenL_at _ _ _ hj]
      simp [e]
  · rw [List.getElem?_eq_none (by simp [seenL_len]; omega), List.getElem?_eq_none (by rw [seenL_len]; omega)]
end MP
end Go.Proofs.Ytcfepiihjbbnaaa

/-
  Timers that are put one by one, each with its own number as its item: what is due, and in which order. Pure. No condition.
-/
import Derived.Test.YtcodmpibhlojaaaTimPlain
namespace Go.Proofs.Ytcodmpibhlojaaa
namespace TM
/-- those of a row of times, numbered from k on. -/
def LL (k : Nat) : List Int → List Ti
  | [] => []
  | d :: r => ⟨d, k, k⟩ :: LL (k + 1) r
theorem LL_snoc (d : Int) : ∀ (x : List Int) (k : Nat), LL k (x ++ [d]) = LL k x ++ [⟨d, ((k + x.length : Nat) : Int), ((k + x.length : Nat) : Int)⟩]
  | [], k => by simp [LL]
  | e :: r, k => by
    simp only [List.cons_append, LL, LL_snoc d r (k + 1), List.length_cons]
    rw [show k + 1 + r.length = k + (r.length + 1) by omega]
theorem LL_len : ∀ (x : List Int) (k : Nat), (LL k x).length = x.length
  | [], _ => rfl
  | d :: r, k => by simp [LL, LL_len r]
theorem LL_mem (y : Ti) : ∀ (x : List Int) (k : Nat), y ∈ LL k x → ∃ i, ∃ h : i < x.length, y = ⟨x[i], ((k + i : Nat) : Int), ((k + i : Nat) : Int)⟩
  | d :: r, k, h => by
    simp only [LL, List.mem_cons] at h
    rcases h with rfl | h
    · exact ⟨0, by simp, by simp⟩
    · obtain ⟨i, hi, e⟩ := LL_mem y r (k + 1) h
      exact ⟨i + 1, by simpa using hi, by rw [e]; simp; omega⟩
theorem LL_get (x : List Int) (k : Nat) (h : k < x.length) : (LL 0 x)[k]? = some ⟨x[k], k, k⟩ := by
  have : ∀ (x : List Int) (m k : Nat) (h : k < x.length), (LL m x)[k]? = some ⟨x[k], ((m + k : Nat) : Int), ((m + k : Nat) : Int)⟩ := by
    intro x
    induction x with
    | nil => intro m k h; simp at h
    | cons d r ih =>
      intro m k h
      cases k with
      | zero => simp [LL]
      | succ k =>
        simp only [LL, List.getElem?_cons_succ, List.getElem_cons_succ]
        rw [ih (m + 1) k (by simpa using h)]
        simp; omega
  simpa using this x 0 k h
theorem LL_count (now : Int) : ∀ (x : List Int) (k : Nat), (LL k x).countP (dueB now) = x.countP (fun d => decide (d ≤ now))
  | [], _ => rfl
  | d :: r, k => by
    simp only [LL, List.countP_cons, LL_count now r (k + 1)]
    rfl
theorem take_snoc (x : List Int) (k : Nat) (h : k < x.length) : x.take (k + 1) = x.take k ++ [x[k]] := by
  rw [List.take_add_one, List.getElem?_eq_getElem h]; rfl
theorem Rel.step {l : List Ti} {x : List Int} {k : Nat} (h : Rel l (LL 0 (x.take k))) (hk : k < x.length) : Rel (ins ⟨x[k], k, k⟩ l) (LL 0 (x.take (k + 1))) := by
  have e : LL 0 (x.take (k + 1)) = LL 0 (x.take k) ++ [⟨x[k], k, k⟩] := by
    rw [take_snoc x k hk, LL_snoc]
    simp [Nat.min_eq_left (Nat.le_of_lt hk)]
  rw [e]
  refine h.put _ (fun y hy => ?_)
  obtain ⟨i, hi, rfl⟩ := LL_mem y _ _ hy
  simp at hi ⊢
  omega
/-- what is due of a sorted row is ahead of what is not. -/
theorem due_head {now : Int} {r : List Ti} (hs : Sorted r) (h : 0 < r.countP (dueB now)) : ∃ x t, r = x :: t ∧ x.d ≤ now ∧ t.countP (dueB now) + 1 = r.countP (dueB now) := by
  cases r with
  | nil => simp at h
  | cons x t =>
    refine ⟨x, t, rfl, ?_⟩
    by_cases hx : x.d ≤ now
    · exact ⟨hx, by rw [List.countP_cons_of_pos (by simpa [dueB] using hx)]⟩
    · exfalso
      unfold Sorted at hs
      rw [List.pairwise_cons] at hs
      rw [List.countP_eq_zero.2] at h
      · omega
      · intro y hy
        rcases List.mem_cons.1 hy with rfl | hy
        · simpa [dueB] using hx
        · have := hs.1 y hy
          unfold le at this
          simp [dueB]; omega
theorem due_none {now : Int} {r : List Ti} (h : r.countP (dueB now) = 0) : tk (dueB now) r = none := by
  refine tk_none _ _ ?_
  rw [ix_none]
  · omega
  · intro y hy
    have := List.countP_eq_zero.1 h y hy
    simpa using this
end TM
end Go.Proofs.Ytcodmpibhlojaaa

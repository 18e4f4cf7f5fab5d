/-
  How much a reader has after so many tokens. No condition.
-/
import Derived.Test.YtbglcdjimipeeaaDoorReadPlain
namespace Go.Proofs.YtbglcdjimipeeaaDoor
namespace RX
open LX
/-- No more than n of anything. -/
structure Bd (r : Rd) (n : Nat) : Prop where
  sum : r.row.length + r.op.length ≤ n
  tops : r.tops.length ≤ n
  lists : ∀ p ∈ r.op, p.l.length ≤ n
theorem Bd.mono {r : Rd} {n m : Nat} (h : Bd r n) (hm : n ≤ m) : Bd r m := ⟨Nat.le_trans h.sum hm, Nat.le_trans h.tops hm, fun p hp => Nat.le_trans (h.lists p hp) hm⟩
theorem putO_bd : ∀ (ps : List Pt) (row : List Nd) (tops : List Nat) (x : Nd) (n : Nat), Bd ⟨row, tops, ps⟩ n → Bd (putO ps row tops x) (n + 1) := by
  intro ps
  induction ps with
  | nil =>
    intro row tops x n h
    have h1 := h.sum
    have h2 := h.tops
    simp only [List.length_nil] at h1 h2
    refine ⟨?_, ?_, fun p hp => by simp [putO] at hp⟩ <;> simp [putO] <;> omega
  | cons p ps ih =>
    intro row tops x n h
    have h1 := h.sum
    have h2 := h.tops
    have h3 := h.lists
    simp only [List.length_cons] at h1 h2
    unfold putO
    split
    · refine ih _ _ _ _ ⟨?_, h2, fun q hq => h3 q (List.mem_cons_of_mem _ hq)⟩
      simp only [List.length_append, List.length_cons, List.length_nil]; omega
    · refine ⟨?_, by simp only; omega, fun q hq => ?_⟩
      · simp only [List.length_append, List.length_cons, List.length_nil]; omega
      · rcases List.mem_cons.1 hq with rfl | hq
        · have := h3 p (List.mem_cons_self ..)
          simp only [List.length_append, List.length_cons, List.length_nil]; omega
        · have := h3 q (List.mem_cons_of_mem _ hq); omega
theorem token_bd {r r' : Rd} {t : Tk} {n : Nat} (h : Bd r n) (e : token r t = .ok r') : Bd r' (n + 2) := by
  unfold token at e
  have hp : ∀ x, Bd (put r x) (n + 2) := fun x => (putO_bd r.op r.row r.tops x n h).mono (by omega)
  have hb : ∀ b, Bd ⟨r.row, r.tops, ⟨t.at_, b, []⟩ :: r.op⟩ (n + 1) := fun b => by
    refine ⟨by have := h.sum; simp only [List.length_cons]; omega, by have := h.tops; simp only; omega, fun q hq => ?_⟩
    rcases List.mem_cons.1 hq with rfl | hq
    · simp
    · have := h.lists q hq; omega
  split at e
  · injection e with e; subst e; exact hp _
  split at e
  · injection e with e; subst e; exact hp _
  split at e
  · injection e with e; subst e; exact hp _
  split at e
  · split at e
    · cases e
    · injection e with e; subst e; exact (hb _).mono (by omega)
  split at e
  · split at e
    · cases e
    · injection e with e; subst e; exact (putO_bd _ _ _ _ _ (hb _)).mono (by omega)
  split at e
  · split at e
    · cases e
    · split at e
      · cases e
      · injection e with e
        subst e
        unfold close
        split
        · exact h.mono (by omega)
        · rename_i p ps hop
          refine (putO_bd ps r.row r.tops _ n ⟨?_, h.tops, fun q hq => h.lists q (by rw [hop]; exact List.mem_cons_of_mem _ hq)⟩).mono (by omega)
          have := h.sum
          rw [hop, List.length_cons] at this
          simp only; omega
  · injection e with e; subst e; exact h.mono (by omega)
end RX
end Go.Proofs.YtbglcdjimipeeaaDoor

/-
  Layer 8: how much forms are; what data that may be are for the document. No condition.
-/
import Derived.Test.YtaghlpolljaedaaGreatExpR21
import Derived.Test.YtaghlpolljaedaaGreatExpKd1
namespace Go.Proofs.YtaghlpolljaedaaGreat
open Go.RowKit
set_option linter.unusedVariables false
namespace EX
open LX RX SX
theorem nodup_le3 : ∀ (n : Nat) (l : List Nat), l.Nodup → (∀ a ∈ l, a < n) → l.length ≤ n := by
  intro n
  induction n with
  | zero =>
    intro l _ h
    cases l with
    | nil => exact Nat.le_refl _
    | cons a l => have := h a (List.mem_cons_self ..); omega
  | succ n ih =>
    intro l hn h
    have h1 := ih (l.erase n) (hn.erase n) (fun a ha => by
      have h2 := (hn.mem_erase_iff).1 ha
      have := h a h2.2
      have := h2.1
      omega)
    by_cases hm : n ∈ l
    · rw [List.length_erase_of_mem hm] at h1; omega
    · rw [List.erase_of_not_mem hm] at h1; omega
/-- Forms that are made have no more parts than there are forms, and few names. -/
theorem made_small {ns : List Nd} {f : Nat} {l : List Nat} {fs : List Fm} {ts : List Nat} (h : runTops ns f l [] [] = .ok (fs, ts)) : ∀ x ∈ fs, x.l.length ≤ fs.length ∧ x.p.length ≤ 100 := by
  obtain ⟨m, ks, e1, e2, h3, h4⟩ := runTops_made _ _ _ _ _ _ h
  rw [List.nil_append] at e1 e2
  subst e1 e2
  intro x hx
  obtain ⟨k, hk, rfl⟩ := List.getElem_of_mem hx
  obtain ⟨g1, g2⟩ := h3 k hk
  refine ⟨?_, g1.names.few⟩
  have hn : (fs[k]).l.Nodup := List.nodup_iff_count.2 fun a => by
    by_cases ha : a ∈ (fs[k]).l
    · have h5 : (fs[k]).l.count a ≤ cnt fs a := by
        unfold cnt
        have e : fs = fs.take k ++ (fs[k] :: fs.drop (k + 1)) := by rw [← List.drop_eq_getElem_cons hk, List.take_append_drop]
        conv => rhs; rw [e]
        rw [List.flatMap_append, List.flatMap_cons, List.count_append, List.count_append]
        omega
      have h6 := h4 a
      split at h6 <;> omega
    · rw [List.count_eq_zero_of_not_mem ha]; omega
  exact nodup_le3 _ _ hn (fun a ha => by have := (g2 a ha).1; simp at this; omega)
theorem wt_T (ns : List Nd) (i : Nat) : wt ns (.top i) = 16 * T ns i - 8 := rfl
theorem sum_tops (ns : List Nd) (l : List Nat) : (l.map fun i => wt ns (.top i)).sum ≤ sumT ns l := by
  unfold sumT
  induction l with
  | nil => simp
  | cons a l ih =>
    rw [List.map_cons, List.sum_cons, List.map_cons, List.sum_cons, wt_T]
    omega
/-- What may be, datum by datum. -/
theorem may_ok {ns : List Ni} (h : may ns = true) : ∀ x ∈ ns, okF x.kind x.at_ x.n x.s x.l.length = true := by
  intro x hx
  obtain ⟨k, hk, rfl⟩ := List.getElem_of_mem hx
  have : ∀ (xs : List Ni) (i : Nat) (tk : List Bool), mayG xs i tk = true → ∀ (k : Nat) (h : k < xs.length), okF xs[k].kind xs[k].at_ xs[k].n xs[k].s xs[k].l.length = true := by
    intro xs
    induction xs with
    | nil => intro i tk _ k h; simp at h
    | cons x xs ih =>
      intro i tk h k hk
      unfold mayG at h
      split at h
      · cases h
      · rename_i hok
        split at h
        · cases h
        · cases k with
          | zero => simpa using hok
          | succ k => exact ih _ _ h k (by simpa using hk)
  exact this ns 0 _ h k hk
theorem okF_at {kd at_ n : Int} {s : ByteArray} {len : Nat} (h : okF kd at_ n s len = true) : 0 ≤ at_ ∧ (kd ≠ 3 → s = emp) ∧ (kd ≠ 4 → len = 0) := by
  unfold okF at h
  by_cases h0 : at_ < 0
  · rw [if_pos h0] at h; cases h
  rw [if_neg h0] at h
  refine ⟨by omega, fun h3 => ?_, fun h4 => ?_⟩
  · by_cases h1 : kd = 1
    · rw [if_pos h1] at h
      simp only [Bool.and_eq_true, decide_eq_true_eq] at h
      exact EW.size_zero h.1
    rw [if_neg h1] at h
    by_cases h2 : kd = 2
    · rw [if_pos h2] at h
      simp only [Bool.and_eq_true, decide_eq_true_eq] at h
      exact EW.size_zero h.1.2
    rw [if_neg h2, if_neg h3] at h
    by_cases h4 : kd = 4
    · rw [if_pos h4] at h
      simp only [Bool.and_eq_true, decide_eq_true_eq] at h
      exact EW.size_zero h.2
    rw [if_neg h4] at h; cases h
  · by_cases h1 : kd = 1
    · rw [if_pos h1] at h
      simp only [Bool.and_eq_true, decide_eq_true_eq] at h
      exact h.2
    rw [if_neg h1] at h
    by_cases h2 : kd = 2
    · rw [if_pos h2] at h
      simp only [Bool.and_eq_true, decide_eq_true_eq] at h
      exact h.2
    rw [if_neg h2] at h
    by_cases h3 : kd = 3
    · rw [if_pos h3] at h
      simp only [Bool.and_eq_true, decide_eq_true_eq] at h
      exact h.2
    rw [if_neg h3, if_neg h4] at h; cases h
end EX
namespace EW
open LX SX RW6 EX
open RX (Nd Rd)
open RM6 (Kin)
theorem dta_of {w : World} {DA : Option Addr} {n : Nat} {ns : List Nd} (hN : NdR w DA ns) (hn : ns.length = n) (hok : Ok ns) (hm : RX.may (ns.map RX.toI) = true) (hl : ∀ x ∈ ns, x.l.length ≤ 100000) : Dta w DA n ns := by
  have h1 : ∀ x ∈ ns, 0 ≤ x.at_ ∧ (x.kind ≠ 3 → x.s = emp) ∧ (x.kind ≠ 4 → x.l = []) := fun x hx => by
    have := okF_at (may_ok hm (RX.toI x) (List.mem_map_of_mem hx))
    refine ⟨this.1, this.2.1, fun h4 => List.eq_nil_of_length_eq_zero ?_⟩
    have h5 := this.2.2 h4
    simpa [RX.toI] using h5
  exact ⟨hN, hn, hok, fun i => ndAt_all (Q := fun x => x.kind ≠ 3 → x.s = emp) (fun x hx => (h1 x hx).2.1) (fun _ => rfl) i, fun i => ndAt_all (Q := fun x => x.l.length ≤ 100000) hl (by simp) i,
    fun i => ndAt_all (Q := fun x => 0 ≤ x.at_) (fun x hx => (h1 x hx).1) (by simp) i, fun i => ndAt_all (Q := fun x => x.kind ≠ 4 → x.l = []) (fun x hx => (h1 x hx).2.2) (fun _ => rfl) i⟩
end EW
end Go.Proofs.YtaghlpolljaedaaGreat

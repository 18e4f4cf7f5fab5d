/-
  What data that were read are: each place in one list, or by itself; in order; valid; where they stand. No condition.
-/
import Derived.Test.YtbglcdjimipeeaaDoorReadBound
namespace Go.Proofs.YtbglcdjimipeeaaDoor
namespace RX
open LX
/-- A datum by itself is one. -/
def GoodN (x : Nd) : Prop := 0 ≤ x.at_ ∧ ((x.kind = 1 ∧ x.s = emp ∧ x.l = []) ∨ (x.kind = 2 ∧ (x.n = 0 ∨ x.n = 1) ∧ x.s = emp ∧ x.l = []) ∨ (x.kind = 3 ∧ x.n = 0 ∧ x.l = []) ∨ (x.kind = 4 ∧ x.n = 0 ∧ x.s = emp))
/-- How often a place stands anywhere. -/
def cnt (row : List Nd) (tops : List Nat) (ps : List Pt) (a : Nat) : Nat := tops.count a + (ps.flatMap (·.l)).count a + (row.flatMap (·.l)).count a
structure Inv (P : Nd → Prop) (Q : Pt → Prop) (row : List Nd) (tops : List Nat) (ps : List Pt) (l : List Nat) : Prop where
  one : ∀ a, cnt row tops ps a + l.count a = if a < row.length then 1 else 0
  below : ∀ (k : Nat) (h : k < row.length), ∀ p ∈ row[k].l, p < k
  up : tops.Pairwise (· < ·)
  good : ∀ x ∈ row, GoodN x ∧ P x
  open_ : ∀ p ∈ ps, 0 ≤ p.at_ ∧ Q p
theorem Inv.lt {P : Nd → Prop} {Q : Pt → Prop} {row : List Nd} {tops : List Nat} {ps : List Pt} {l : List Nat} (h : Inv P Q row tops ps l) {a : Nat} (ha : a ∈ tops ∨ a ∈ ps.flatMap (·.l) ∨ a ∈ l) : a < row.length := by
  have h1 := h.one a
  unfold cnt at h1
  have hp : 0 < tops.count a + (ps.flatMap (·.l)).count a + l.count a := by
    rcases ha with ha | ha | ha
    · have := List.count_pos_iff.2 ha; omega
    · have := List.count_pos_iff.2 ha; omega
    · have := List.count_pos_iff.2 ha; omega
  split at h1
  · assumption
  · omega
theorem below_snoc {row : List Nd} {x : Nd} (h : ∀ (k : Nat) (h : k < row.length), ∀ p ∈ row[k].l, p < k) (hx : ∀ p ∈ x.l, p < row.length) : ∀ (k : Nat) (h : k < (row ++ [x]).length), ∀ p ∈ (row ++ [x])[k].l, p < k := by
  intro k hk p hp
  by_cases hlt : k < row.length
  · rw [List.getElem_append_left hlt] at hp
    exact h k hlt p hp
  · have e : k = row.length := by simp at hk; omega
    subst e
    simp at hp
    exact hx p hp
theorem count_snoc_flat (row : List Nd) (x : Nd) (a : Nat) : ((row ++ [x]).flatMap (·.l)).count a = (row.flatMap (·.l)).count a + x.l.count a := by
  rw [List.flatMap_append, List.count_append]; simp
theorem putO_inv {P : Nd → Prop} {Q : Pt → Prop} (hQ : ∀ a b l l', Q ⟨a, b, l⟩ → Q ⟨a, b, l'⟩) (hPQ : ∀ p : Pt, Q p → ∀ l, P ⟨4, p.at_, 0, emp, l⟩) :
    ∀ (ps : List Pt) (row : List Nd) (tops : List Nat) (x : Nd), Inv P Q row tops ps x.l → GoodN x → P x → let R := putO ps row tops x; Inv P Q R.row R.tops R.op [] := by
  intro ps
  induction ps with
  | nil =>
    intro row tops x h hx hP
    have hl : ∀ p ∈ x.l, p < row.length := fun p hp => h.lt (.inr (.inr hp))
    refine ⟨fun a => ?_, below_snoc h.below hl, ?_, fun y hy => ?_, fun p hp => by simp [putO] at hp⟩
    · have := h.one a
      unfold cnt at this ⊢
      simp only [putO, count_snoc_flat, List.count_append, List.flatMap_nil, List.count_nil, List.length_append, List.length_cons, List.length_nil] at this ⊢
      by_cases e : a = row.length
      · subst e
        simp at this ⊢; omega
      · have e2 : List.count a [row.length] = 0 := List.count_eq_zero_of_not_mem (by simpa using e)
        rw [e2]
        split at this <;> split <;> omega
    · simp only [putO, List.pairwise_append]
      refine ⟨h.up, by simp, fun a ha b hb => ?_⟩
      simp at hb
      subst hb
      exact h.lt (.inl ha)
    · simp only [putO, List.mem_append, List.mem_singleton] at hy
      rcases hy with hy | rfl
      · exact h.good y hy
      · exact ⟨hx, hP⟩
  | cons p ps ih =>
    intro row tops x h hx hP
    have hl : ∀ p ∈ x.l, p < row.length := fun p hp => h.lt (.inr (.inr hp))
    have hpl : ∀ a ∈ p.l, a < row.length := fun a ha => h.lt (.inr (.inl (by simp [ha])))
    have hgood : ∀ y ∈ row ++ [x], GoodN y ∧ P y := fun y hy => by
      rcases List.mem_append.1 hy with hy | hy
      · exact h.good y hy
      · rw [List.mem_singleton] at hy; subst hy; exact ⟨hx, hP⟩
    have hone : ∀ a, tops.count a + (ps.flatMap (·.l)).count a + ((row ++ [x]).flatMap (·.l)).count a + (p.l ++ [row.length]).count a = if a < row.length + 1 then 1 else 0 := by
      intro a
      have := h.one a
      unfold cnt at this
      rw [count_snoc_flat, List.count_append]
      simp only [List.flatMap_cons, List.count_append] at this
      by_cases e : a = row.length
      · subst e
        simp at this ⊢; omega
      · have e2 : List.count a [row.length] = 0 := List.count_eq_zero_of_not_mem (by simpa using e)
        rw [e2]
        split at this <;> split <;> omega
    show Inv P Q (putO (p :: ps) row tops x).row (putO (p :: ps) row tops x).tops (putO (p :: ps) row tops x).op []
    unfold putO
    split
    · refine ih _ _ ⟨4, p.at_, 0, emp, p.l ++ [row.length]⟩ ⟨fun a => ?_, below_snoc h.below hl, h.up, hgood, fun z hz => h.open_ z (List.mem_cons_of_mem _ hz)⟩ ⟨(h.open_ p (List.mem_cons_self ..)).1, .inr (.inr (.inr ⟨rfl, rfl, rfl⟩))⟩ (hPQ p (h.open_ p (List.mem_cons_self ..)).2 _)
      have := hone a
      unfold cnt
      rw [List.length_append, List.length_singleton]
      exact this
    · refine ⟨fun a => ?_, below_snoc h.below hl, h.up, hgood, fun z hz => ?_⟩
      · have := hone a
        unfold cnt
        rw [List.length_append, List.length_singleton, List.flatMap_cons, List.count_append, List.count_nil]
        simp only at this ⊢
        omega
      · rcases List.mem_cons.1 hz with rfl | hz
        · exact ⟨(h.open_ p (List.mem_cons_self ..)).1, hQ _ _ _ _ (h.open_ p (List.mem_cons_self ..)).2⟩
        · exact h.open_ z (List.mem_cons_of_mem _ hz)
/-- What each token brings. -/
structure Brings (P : Nd → Prop) (Q : Pt → Prop) (t : Tk) : Prop where
  pos : 0 ≤ t.at_
  int : t.kind = 4 → P ⟨1, t.at_, t.n, emp, []⟩
  bool : t.kind = 5 → (t.n = 0 ∨ t.n = 1) ∧ P ⟨2, t.at_, t.n, emp, []⟩
  name : t.kind = 6 → P ⟨3, t.at_, 0, t.s, []⟩
  open_ : t.kind = 1 → ∀ b l, Q ⟨t.at_, b, l⟩
  quote : t.kind = 3 → (∀ b l, Q ⟨t.at_, b, l⟩) ∧ P ⟨3, t.at_, 0, quoteB, []⟩
theorem inv_push {P : Nd → Prop} {Q : Pt → Prop} {r : Rd} (h : Inv P Q r.row r.tops r.op []) {a : Int} (ha : 0 ≤ a) {b : Bool} (hq : Q ⟨a, b, []⟩) : Inv P Q r.row r.tops (⟨a, b, []⟩ :: r.op) [] := by
  refine ⟨fun c => ?_, h.below, h.up, h.good, fun z hz => ?_⟩
  · have := h.one c
    unfold cnt at this ⊢
    simpa using this
  · rcases List.mem_cons.1 hz with rfl | hz
    · exact ⟨ha, hq⟩
    · exact h.open_ z hz
theorem token_inv {P : Nd → Prop} {Q : Pt → Prop} (hQ : ∀ a b l l', Q ⟨a, b, l⟩ → Q ⟨a, b, l'⟩) (hPQ : ∀ p : Pt, Q p → ∀ l, P ⟨4, p.at_, 0, emp, l⟩) {r r' : Rd} {t : Tk} (h : Inv P Q r.row r.tops r.op []) (hb : Brings P Q t)
    (e : token r t = .ok r') : Inv P Q r'.row r'.tops r'.op [] := by
  unfold token at e
  split at e
  · rename_i hk
    injection e with e; subst e
    exact putO_inv hQ hPQ r.op r.row r.tops ⟨1, t.at_, t.n, emp, []⟩ h ⟨hb.pos, .inl ⟨rfl, rfl, rfl⟩⟩ (hb.int hk)
  split at e
  · rename_i hk
    injection e with e; subst e
    exact putO_inv hQ hPQ r.op r.row r.tops ⟨2, t.at_, t.n, emp, []⟩ h ⟨hb.pos, .inr (.inl ⟨rfl, (hb.bool hk).1, rfl, rfl⟩)⟩ (hb.bool hk).2
  split at e
  · rename_i hk
    injection e with e; subst e
    exact putO_inv hQ hPQ r.op r.row r.tops ⟨3, t.at_, 0, t.s, []⟩ h ⟨hb.pos, .inr (.inr (.inl ⟨rfl, rfl, rfl⟩))⟩ (hb.name hk)
  split at e
  · rename_i hk
    split at e
    · cases e
    · injection e with e; subst e
      exact inv_push h hb.pos (hb.open_ hk false [])
  split at e
  · rename_i hk
    split at e
    · cases e
    · injection e with e; subst e
      exact putO_inv hQ hPQ _ r.row r.tops ⟨3, t.at_, 0, quoteB, []⟩ (inv_push h hb.pos ((hb.quote hk).1 true [])) ⟨hb.pos, .inr (.inr (.inl ⟨rfl, rfl, rfl⟩))⟩ (hb.quote hk).2
  split at e
  · split at e
    · cases e
    · split at e
      · cases e
      · injection e with e
        subst e
        unfold close
        split
        · exact h
        · rename_i p ps hop
          rw [hop] at h
          have hp := h.open_ p (List.mem_cons_self ..)
          refine putO_inv hQ hPQ ps r.row r.tops ⟨4, p.at_, 0, emp, p.l⟩ ⟨fun a => ?_, h.below, h.up, h.good, fun z hz => h.open_ z (List.mem_cons_of_mem _ hz)⟩ ⟨hp.1, .inr (.inr (.inr ⟨rfl, rfl, rfl⟩))⟩ (hPQ p hp.2 _)
          have := h.one a
          unfold cnt at this ⊢
          simp only [List.flatMap_cons, List.count_append, List.count_nil] at this ⊢
          omega
  · injection e with e; subst e; exact h
theorem putO_last : ∀ (ps : List Pt) (row : List Nd) (tops : List Nat) (x : Nd), (putO ps row tops x).op = [] → (putO ps row tops x).tops.getLast? = some ((putO ps row tops x).row.length - 1) := by
  intro ps
  induction ps with
  | nil => intro row tops x _; simp [putO]
  | cons p ps ih =>
    intro row tops x h
    unfold putO at h ⊢
    split
    · rename_i hc
      rw [if_pos hc] at h
      exact ih _ _ _ h
    · rename_i hc
      rw [if_neg hc] at h
      cases h
/-- The last of those by themselves is the last datum. -/
def LastOK (r : Rd) : Prop := r.op = [] → r.row = [] ∨ r.tops.getLast? = some (r.row.length - 1)
theorem token_last {r r' : Rd} {t : Tk} (h : LastOK r) (e : token r t = .ok r') : LastOK r' := by
  have hp : ∀ ps row tops x, LastOK (putO ps row tops x) := fun ps row tops x hop => .inr (putO_last ps row tops x hop)
  unfold token at e
  split at e
  · injection e with e; subst e; exact hp _ _ _ _
  split at e
  · injection e with e; subst e; exact hp _ _ _ _
  split at e
  · injection e with e; subst e; exact hp _ _ _ _
  split at e
  · split at e
    · cases e
    · injection e with e; subst e; intro h; cases h
  split at e
  · split at e
    · cases e
    · injection e with e; subst e; exact hp _ _ _ _
  split at e
  · split at e
    · cases e
    · split at e
      · cases e
      · injection e with e
        subst e
        unfold close
        split
        · exact h
        · exact hp _ _ _ _
  · injection e with e; subst e; exact h
theorem tokens_inv {P : Nd → Prop} {Q : Pt → Prop} (hQ : ∀ a b l l', Q ⟨a, b, l⟩ → Q ⟨a, b, l'⟩) (hPQ : ∀ p : Pt, Q p → ∀ l, P ⟨4, p.at_, 0, emp, l⟩) : ∀ (ts : List Tk) {r r' : Rd}, Inv P Q r.row r.tops r.op [] → LastOK r → (∀ t ∈ ts, Brings P Q t) →
    tokens ts r = .ok r' → Inv P Q r'.row r'.tops r'.op [] ∧ LastOK r' := by
  intro ts
  induction ts with
  | nil => intro r r' h h2 _ e; simp [tokens] at e; subst e; exact ⟨h, h2⟩
  | cons t ts ih =>
    intro r r' h h2 hb e
    simp only [tokens] at e
    cases hT : token r t with
    | error z => rw [hT] at e; cases e
    | ok r1 =>
      rw [hT] at e
      exact ih (token_inv hQ hPQ h (hb t (List.mem_cons_self ..)) hT) (token_last h2 hT) (fun u hu => hb u (List.mem_cons_of_mem _ hu)) e
end RX
end Go.Proofs.YtbglcdjimipeeaaDoor

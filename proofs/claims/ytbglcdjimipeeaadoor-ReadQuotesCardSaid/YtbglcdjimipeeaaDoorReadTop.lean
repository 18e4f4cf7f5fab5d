/-
  What is open last, when the tokens end: a quote just if the last token is one. Condition: the tokens are of the six kinds.
-/
import Derived.Test.YtbglcdjimipeeaaDoorReadBound
namespace Go.Proofs.YtbglcdjimipeeaaDoor
namespace RX
open LX
/-- A quote that is open has its name, and no more. -/
def QOne (ps : List Pt) : Prop := ∀ p ∈ ps, p.q = true → p.l.length = 1
theorem putO_q : ∀ (ps : List Pt) (row : List Nd) (tops : List Nat) (x : Nd), QOne ps → QOne (putO ps row tops x).op ∧ ∀ p, (putO ps row tops x).op.head? = some p → p.q = false := by
  intro ps
  induction ps with
  | nil => intro row tops x _; simp [putO, QOne]
  | cons p ps ih =>
    intro row tops x h
    have h2 : QOne ps := fun q hq => h q (List.mem_cons_of_mem _ hq)
    unfold putO
    split
    · exact ih _ _ _ h2
    · rename_i hn
      have hq : p.q = false := by
        cases hq : p.q with
        | false => rfl
        | true =>
          have := h p (List.mem_cons_self ..) hq
          exact absurd ⟨hq, by omega⟩ hn
      refine ⟨fun z hz hzq => ?_, fun z hz => ?_⟩
      · rcases List.mem_cons.1 hz with rfl | hz
        · simp [hq] at hzq
        · exact h2 z hz hzq
      · simp only [List.head?_cons, Option.some.injEq] at hz
        subst hz
        exact hq
/-- The top of what is open behind a token. -/
def TopOf (t : Option Tk) (ps : List Pt) : Prop := ∀ p, ps.head? = some p → ∀ u : Tk, t = some u → (p.q = true ∧ u.kind = 3 ∧ u.at_ = p.at_) ∨ (p.q = false ∧ u.kind ≠ 3)
theorem token_q {r r' : Rd} {t : Tk} (h : QOne r.op) (hk : t.kind = 1 ∨ t.kind = 2 ∨ t.kind = 3 ∨ t.kind = 4 ∨ t.kind = 5 ∨ t.kind = 6) (e : token r t = .ok r') : QOne r'.op ∧ TopOf (some t) r'.op := by
  have hp : ∀ ps row tops x, QOne ps → t.kind ≠ 3 → QOne (putO ps row tops x).op ∧ TopOf (some t) (putO ps row tops x).op := fun ps row tops x h hk => by
    obtain ⟨h1, h2⟩ := putO_q ps row tops x h
    exact ⟨h1, fun p hp t' ht => .inr ⟨h2 p hp, by simp at ht; subst ht; exact hk⟩⟩
  unfold token at e
  rcases hk with k | k | k | k | k | k <;> simp only [k] at e
  · simp at e
    split at e
    · cases e
    injection e with e
    subst e
    refine ⟨fun p hp hq => ?_, fun p hp t' ht => ?_⟩
    · rcases List.mem_cons.1 hp with rfl | hp
      · simp at hq
      · exact h p hp hq
    · simp at hp ht
      subst hp; subst ht
      exact .inr ⟨rfl, by omega⟩
  · simp at e
    split at e
    · cases e
    · split at e
      · cases e
      · injection e with e
        subst e
        unfold close
        split
        · rename_i h1 h2 _ h3
          exact absurd h3 h2
        · rename_i p ps hop
          exact hp _ _ _ _ (fun q hq => h q (by rw [hop]; exact List.mem_cons_of_mem _ hq)) (by omega)
  · simp at e
    split at e
    · cases e
    injection e with e
    subst e
    simp only [put, putO]
    rw [if_neg (by simp)]
    refine ⟨fun p hp hq => ?_, fun p hp t' ht => ?_⟩
    · rcases List.mem_cons.1 hp with rfl | hp
      · simp
      · exact h p hp hq
    · simp at hp ht
      subst hp; subst ht
      exact .inl ⟨rfl, k, rfl⟩
  · simp at e; subst e; exact hp _ _ _ _ h (by omega)
  · simp at e; subst e; exact hp _ _ _ _ h (by omega)
  · simp at e; subst e; exact hp _ _ _ _ h (by omega)
theorem tokens_q : ∀ (ts : List Tk) (r r' : Rd) (t0 : Option Tk), QOne r.op → TopOf t0 r.op → (∀ t ∈ ts, t.kind = 1 ∨ t.kind = 2 ∨ t.kind = 3 ∨ t.kind = 4 ∨ t.kind = 5 ∨ t.kind = 6) → tokens ts r = .ok r' →
    QOne r'.op ∧ TopOf (ts.getLast?.or t0) r'.op := by
  intro ts
  induction ts with
  | nil => intro r r' t0 h h0 _ e; simp [tokens] at e; subst e; simpa using ⟨h, h0⟩
  | cons t ts ih =>
    intro r r' t0 h h0 hk e
    simp only [tokens] at e
    cases hT : token r t with
    | error z => rw [hT] at e; cases e
    | ok r1 =>
      rw [hT] at e
      obtain ⟨h1, h2⟩ := token_q h (hk t (List.mem_cons_self ..)) hT
      obtain ⟨h3, h4⟩ := ih r1 r' (some t) h1 h2 (fun t ht => hk t (List.mem_cons_of_mem _ ht)) e
      refine ⟨h3, ?_⟩
      cases ts with
      | nil => simpa using h4
      | cons u us =>
        rw [List.getLast?_cons_cons]
        have : (u :: us).getLast? ≠ none := by simp
        cases hg : (u :: us).getLast? with
        | none => exact absurd hg this
        | some v => rw [hg] at h4; simpa using h4
/-- What is wrong when no more tokens come, told off what is open. -/
def endE (r : Rd) : Except (Int × Int) Rd := match r.op with
  | [] => .ok r
  | p :: _ => if p.q = true then .error (p.at_, 63) else .error (p.at_, 60)
theorem readT_end {ts : List Tk} (hk : ∀ t ∈ ts, t.kind = 1 ∨ t.kind = 2 ∨ t.kind = 3 ∨ t.kind = 4 ∨ t.kind = 5 ∨ t.kind = 6) : readT ts = match tokens ts ⟨[], [], []⟩ with
    | .error e => .error e
    | .ok r => endE r := by
  unfold readT
  cases hT : tokens ts ⟨[], [], []⟩ with
  | error e => rfl
  | ok r =>
    simp only
    obtain ⟨_, h⟩ := tokens_q ts _ _ none (by intro p hp; simp at hp) (by intro p hp; simp at hp) hk hT
    unfold endE
    cases hop : r.op with
    | nil => rfl
    | cons p ps =>
      rw [hop] at h
      have hne : ts ≠ [] := by
        intro e
        subst e
        simp [tokens] at hT
        subst hT
        cases hop
      cases hg : ts.getLast? with
      | none => simp at hg; exact absurd hg hne
      | some t =>
        rw [hg] at h
        simp only
        rcases h p (by simp) t (by simp) with ⟨h1, h2, h3⟩ | ⟨h1, h2⟩
        · rw [if_pos h2, if_pos h1, h3]
        · rw [if_neg h2, if_neg (by simp [h1])]
theorem token_err {r : Rd} {t : Tk} {z : Int} (h : token r t = .error z) : z = 61 ∨ z = 62 ∨ z = 63 := by
  unfold token at h
  repeat' (first | (cases h; done) | (injection h with h; omega) | split at h)
theorem end_err {r : Rd} {a z : Int} (h : endE r = .error (a, z)) : z = 60 ∨ z = 63 := by
  unfold endE at h
  repeat' (first | (cases h; done) | (injection h with h; injection h with h1 h2; omega) | split at h)
theorem end_ok {r R : Rd} (h : endE r = .ok R) : R = r := by
  unfold endE at h
  repeat' (first | (injection h with h; exact h.symm) | (cases h; done) | split at h)
def fin (X : Except (Int × Int) Rd) : Except (Int × Int) Rd := match X with
  | .error e => .error e
  | .ok r => endE r
theorem readT_fin {ts : List Tk} (hk : ∀ t ∈ ts, t.kind = 1 ∨ t.kind = 2 ∨ t.kind = 3 ∨ t.kind = 4 ∨ t.kind = 5 ∨ t.kind = 6) : readT ts = fin (tokens ts ⟨[], [], []⟩) := readT_end hk
end RX
end Go.Proofs.YtbglcdjimipeeaaDoor

/-
  Plain lists behind layer 3: copying what is reached from words into a new arena, as functions on lists of things, and what comes of it. No condition.
-/
import Derived.Test.YtcfepiihjbbnaaaArenaPl
namespace Go.Proofs.Ytcfepiihjbbnaaa
namespace MP
open Go.RowKit AP AW
/-- What has been copied: the new things, and which old one each is. -/
structure St where
  us : List Th
  od : List Nat
def bareW (x : Int) : Int := if WP.toB 1 x then 26 else x
def pos (od : List Nat) (i : Nat) : Option Nat := od.findIdx? (fun o => decide (o = i))
/-- One word copied. -/
def cw (ts : List Th) (s : St) (x : Int) : St × Int :=
  match AW.look ts x with
  | none => (s, bareW x)
  | some i => match pos s.od i with
    | some p => (s, pl s.us p)
    | none => (⟨s.us ++ [th ts i], s.od ++ [i]⟩, WP.ofW 1 (sz s.us))
def cwS (ts : List Th) (s : St) (x : Int) : St := (cw ts s x).1
def cwW (ts : List Th) (s : St) (x : Int) : Int := (cw ts s x).2
/-- Words copied one by one. -/
def rts (ts : List Th) : St → List Int → St
  | s, [] => s
  | s, x :: xs => rts ts (cwS ts s x) xs
def rtw (ts : List Th) : St → List Int → List Int
  | _, [] => []
  | s, x :: xs => cwW ts s x :: rtw ts (cwS ts s x) xs
/-- One field of thing j replaced. -/
def fld (ts : List Th) (j k : Nat) (s : St) (x : Int) : St := ⟨put (cwS ts s x).us j k (cwW ts s x), (cwS ts s x).od⟩
def flds (ts : List Th) (j : Nat) : Nat → List Int → St → St
  | _, [], s => s
  | k, x :: xs, s => flds ts j (k + 1) xs (fld ts j k s x)
def doTh (ts : List Th) (j : Nat) (s : St) : St := flds ts j 0 (th s.us j).l s
def goF (ts : List Th) : Nat → Nat → St → St
  | 0, _, s => s
  | f + 1, j, s => if j < s.us.length then goF ts f (j + 1) (doTh ts j s) else s
def liveS (ts : List Th) (roots : List Int) : St := goF ts (ts.length + 1) 0 (rts ts ⟨[], []⟩ roots)
def liveT (ts : List Th) (roots : List Int) : List Th := (liveS ts roots).us
def liveW (ts : List Th) (roots : List Int) : List Int := rtw ts ⟨[], []⟩ roots

/-! ### where a thing is in a row -/
theorem pos_some {od : List Nat} {i p : Nat} (h : pos od i = some p) : p < od.length ∧ od[p]? = some i := by
  unfold pos at h
  rw [List.findIdx?_eq_some_iff_getElem] at h
  obtain ⟨hp, h1, _⟩ := h
  refine ⟨hp, ?_⟩
  rw [List.getElem?_eq_getElem hp]
  simpa using h1
theorem pos_none {od : List Nat} {i : Nat} (h : pos od i = none) : i ∉ od := by
  unfold pos at h
  rw [List.findIdx?_eq_none_iff] at h
  intro hm
  have := h i hm
  simp at this
theorem pos_at {od : List Nat} (hn : od.Nodup) {i p : Nat} (h : od[p]? = some i) : pos od i = some p := by
  cases hp : pos od i with
  | none => exact absurd (List.mem_of_getElem? h) (pos_none hp)
  | some q =>
    obtain ⟨h1, h2⟩ := pos_some hp
    rw [(List.getElem?_inj h1 hn).1 (h2.trans h.symm)]
theorem pos_isSome {od : List Nat} {i : Nat} (h : i ∈ od) : ∃ p, pos od i = some p := by
  cases hp : pos od i with
  | none => exact absurd h (pos_none hp)
  | some p => exact ⟨p, rfl⟩
theorem pos_append {od more : List Nat} {i p : Nat} (h : pos od i = some p) : pos (od ++ more) i = some p := by
  unfold pos at h ⊢
  rw [List.findIdx?_append, h]; rfl
theorem pos_new {od : List Nat} {i : Nat} (h : pos od i = none) : pos (od ++ [i]) i = some od.length := by
  unfold pos at h ⊢
  rw [List.findIdx?_append, h]; simp
/-! ### the weight of things -/
def wt (ts : List Th) (i : Nat) : Nat := (th ts i).l.length + 1
def wts (ts : List Th) (od : List Nat) : Nat := (od.map (wt ts)).sum
theorem wts_snoc (ts : List Th) (od : List Nat) (i : Nat) : wts ts (od ++ [i]) = wts ts od + wt ts i := by simp [wts]
theorem wts_cons (ts : List Th) (od : List Nat) (i : Nat) : wts ts (i :: od) = wt ts i + wts ts od := by simp [wts]
theorem wts_perm {ts : List Th} {a b : List Nat} (h : a.Perm b) : wts ts a = wts ts b := (h.map _).sum_nat
theorem wts_range (ts : List Th) : wts ts (List.range ts.length) = sz ts := by
  induction ts with
  | nil => rfl
  | cons t ts ih =>
    have e : ((List.range ts.length).map Nat.succ).map (wt (t :: ts)) = (List.range ts.length).map (wt ts) := by
      rw [List.map_map]; apply List.map_congr_left; intro i _; simp [wt, th_cons]
    rw [List.length_cons, List.range_succ_eq_map, wts_cons]
    unfold wts at ih ⊢
    rw [e, ih]; simp [wt, th_zero, sz]
theorem wts_sub (ts : List Th) : ∀ (a b : List Nat), a.Nodup → (∀ i ∈ a, i ∈ b) → wts ts a ≤ wts ts b := by
  intro a
  induction a with
  | nil => intro b _ _; simp [wts]
  | cons i a ih =>
    intro b hn hs
    rw [List.nodup_cons] at hn
    have hi : i ∈ b := hs i (List.mem_cons_self ..)
    have hp := List.perm_cons_erase hi
    rw [wts_perm hp, wts_cons, wts_cons]
    have := ih (b.erase i) hn.2 (fun x hx => (List.mem_erase_of_ne (fun e => by subst e; exact hn.1 hx)).2 (hs x (List.mem_cons_of_mem _ hx)))
    omega
theorem wts_le (ts : List Th) {od : List Nat} (hn : od.Nodup) (hl : ∀ i ∈ od, i < ts.length) : wts ts od ≤ sz ts := by
  rw [← wts_range]
  exact wts_sub ts _ _ hn (fun i hi => List.mem_range.2 (hl i hi))
theorem wts_app (ts : List Th) (a b : List Nat) : wts ts (a ++ b) = wts ts a + wts ts b := by simp [wts]
theorem wts_same (ts : List Th) {a b : List Nat} (ha : a.Nodup) (hb : b.Nodup) (h : ∀ i, i ∈ a ↔ i ∈ b) : wts ts a = wts ts b :=
  Nat.le_antisymm (wts_sub ts _ _ ha (fun i hi => (h i).1 hi)) (wts_sub ts _ _ hb (fun i hi => (h i).2 hi))
end MP
end Go.Proofs.Ytcfepiihjbbnaaa

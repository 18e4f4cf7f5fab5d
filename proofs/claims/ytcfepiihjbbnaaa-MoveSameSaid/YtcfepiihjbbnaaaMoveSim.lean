/-
  Two rows of things that look alike from the words to begin at are copied to the same; how much is reached from more words. Condition: the old things are ones that may be.
-/
import Derived.Test.YtcfepiihjbbnaaaMoveLive
namespace Go.Proofs.Ytcfepiihjbbnaaa
namespace MP
open Go.RowKit AP AW
/-! ### how much is reached -/
theorem r_mono {ts : List Th} {a b : List Int} (h : ∀ x ∈ a, x ∈ b) {i : Nat} (hr : R ts a i) : R ts b i := by
  induction hr with
  | root hx hl => exact .root (h _ hx) hl
  | step _ hx hl ih => exact .step ih hx hl
theorem r_or {ts : List Th} {a b : List Int} {i : Nat} (hr : R ts (a ++ b) i) : R ts a i ∨ R ts b i := by
  induction hr with
  | root hx hl =>
    rcases List.mem_append.1 hx with hx | hx
    · exact .inl (.root hx hl)
    · exact .inr (.root hx hl)
  | step _ hx hl ih =>
    rcases ih with ih | ih
    · exact .inl (.step ih hx hl)
    · exact .inr (.step ih hx hl)
def reach (ts : List Th) (roots : List Int) : Nat := sz (liveT ts roots)
theorem reach_wts {n : Nat} {ts : List Th} (hO : Ok n ts) (roots : List Int) : reach ts roots = wts ts (liveS ts roots).od := sz_us (live hO roots).inv
theorem reach_mono {n : Nat} {ts : List Th} (hO : Ok n ts) {a b : List Int} (h : ∀ x ∈ a, x ∈ b) : reach ts a ≤ reach ts b := by
  rw [reach_wts hO, reach_wts hO]
  exact wts_sub _ _ _ (live hO a).inv.nodup (fun i hi => ((live hO b).reach i).2 (r_mono h (((live hO a).reach i).1 hi)))
theorem reach_add {n : Nat} {ts : List Th} (hO : Ok n ts) (a b : List Int) : reach ts (a ++ b) ≤ reach ts a + reach ts b := by
  rw [reach_wts hO, reach_wts hO, reach_wts hO, ← wts_app]
  refine wts_sub _ _ _ (live hO _).inv.nodup (fun i hi => ?_)
  rcases r_or (((live hO _).reach i).1 hi) with h | h
  · exact List.mem_append.2 (.inl (((live hO a).reach i).2 h))
  · exact List.mem_append.2 (.inr (((live hO b).reach i).2 h))
theorem reach_le {n : Nat} {ts : List Th} (hO : Ok n ts) (roots : List Int) : reach ts roots ≤ sz ts := room (live hO roots).inv
/-! ### rows that look alike -/
def Rel (ts ts' : List Th) (ρ : Nat → Nat) (D : Nat → Prop) (x x' : Int) : Prop :=
  (∃ i, D i ∧ AW.look ts x = some i ∧ AW.look ts' x' = some (ρ i)) ∨ (AW.look ts x = none ∧ AW.look ts' x' = none ∧ bareW x' = bareW x)
structure Sim (ts ts' : List Th) (ρ : Nat → Nat) (D : Nat → Prop) : Prop where
  inj : ∀ i j, D i → D j → ρ i = ρ j → i = j
  kind : ∀ i, D i → (th ts' (ρ i)).k = (th ts i).k
  len : ∀ i, D i → (th ts' (ρ i)).l.length = (th ts i).l.length
  word : ∀ i, D i → ∀ (q : Nat) (x x' : Int), (th ts i).l[q]? = some x → (th ts' (ρ i)).l[q]? = some x' → Rel ts ts' ρ D x x'
/-- The two copies so far. -/
structure SR (ts ts' : List Th) (ρ : Nat → Nat) (D : Nat → Prop) (s s' : St) (j k : Nat) : Prop where
  od : s'.od = s.od.map ρ
  dom : ∀ i ∈ s.od, D i
  len : s'.us.length = s.us.length
  kind : ∀ p, (th s'.us p).k = (th s.us p).k
  lens : ∀ p, (th s'.us p).l.length = (th s.us p).l.length
  done : ∀ (p q : Nat) (x x' : Int), (p < j ∨ (p = j ∧ q < k)) → (th s.us p).l[q]? = some x → (th s'.us p).l[q]? = some x' → x' = x
  raw : ∀ (p q : Nat) (x x' : Int), ¬ (p < j ∨ (p = j ∧ q < k)) → (th s.us p).l[q]? = some x → (th s'.us p).l[q]? = some x' → Rel ts ts' ρ D x x'
theorem sz_same (us us' : List Th) (hl : us'.length = us.length) (h : ∀ p, (th us' p).l.length = (th us p).l.length) : sz us' = sz us := by
  induction us generalizing us' with
  | nil => cases us' with
    | nil => rfl
    | cons t us' => simp at hl
  | cons t us ih =>
    cases us' with
    | nil => simp at hl
    | cons t' us' =>
      have h0 := h 0
      rw [th_zero, th_zero] at h0
      simp only [sz]
      rw [ih us' (by simpa using hl) (fun p => by have := h (p + 1); rwa [th_cons, th_cons] at this), h0]
theorem th_take (us : List Th) (p q : Nat) (h : q < p) : th (us.take p) q = th us q := by simp [th, List.getD, h]
theorem pl_same (us us' : List Th) (hl : us'.length = us.length) (h : ∀ p, (th us' p).l.length = (th us p).l.length) (p : Nat) : pl us' p = pl us p := by
  unfold pl
  rw [sz_same (us.take p) (us'.take p) (by simp [hl]) (fun q => ?_)]
  by_cases hq : q < p
  · rw [th_take _ _ _ hq, th_take _ _ _ hq, h q]
  · have e : ∀ vs : List Th, th (vs.take p) q = ⟨0, []⟩ := by
      intro vs
      have : (vs.take p)[q]? = none := List.getElem?_eq_none (by simp; omega)
      simp [th, List.getD, this]
    rw [e, e]
section
variable {n n' : Nat} {ts ts' : List Th} {ρ : Nat → Nat} {D : Nat → Prop}
theorem pos_map (hS : Sim ts ts' ρ D) {s s' : St} {j k : Nat} (h : SR ts ts' ρ D s s' j k) (hI' : Inv n' ts' s') {i : Nat} (hi : D i) : pos s'.od (ρ i) = pos s.od i := by
  cases hp : pos s.od i with
  | some p =>
    have h1 := (pos_some hp).2
    exact pos_at hI'.nodup (by rw [h.od, List.getElem?_map, h1]; rfl)
  | none =>
    cases hp' : pos s'.od (ρ i) with
    | none => rfl
    | some p =>
      exfalso
      have h1 := List.mem_of_getElem? (pos_some hp').2
      rw [h.od] at h1
      obtain ⟨o, ho, e⟩ := List.mem_map.1 h1
      have := hS.inj o i (h.dom o ho) hi e
      subst this
      exact pos_none hp ho
theorem sim_cw (hS : Sim ts ts' ρ D) {s s' : St} {j k : Nat} (h : SR ts ts' ρ D s s' j k) (hI' : Inv n' ts' s') {x x' : Int} (hr : Rel ts ts' ρ D x x') (hj : j < s.us.length ∨ (j ≤ s.us.length ∧ k = 0)) :
    SR ts ts' ρ D (cwS ts s x) (cwS ts' s' x') j k ∧ cwW ts' s' x' = cwW ts s x := by
  rcases hr with ⟨i, hi, hl, hl'⟩ | ⟨hl, hl', hb⟩
  · have hpp := pos_map hS h hI' hi
    cases hp : pos s.od i with
    | some p =>
      rw [hp] at hpp
      obtain ⟨e1, e2⟩ := cw_old hl hp
      obtain ⟨e3, e4⟩ := cw_old hl' hpp
      rw [e1, e2, e3, e4]
      exact ⟨h, pl_same _ _ h.len h.lens p⟩
    | none =>
      rw [hp] at hpp
      obtain ⟨e1, e2⟩ := cw_new hl hp
      obtain ⟨e3, e4⟩ := cw_new hl' hpp
      rw [e1, e2, e3, e4, sz_same _ _ h.len h.lens]
      have hth : ∀ (us : List Th) (t : Th) (p : Nat), th (us ++ [t]) p = if p = us.length then t else th us p := by
        intro us t p
        by_cases e : p = us.length
        · rw [if_pos e, e, th_append_new]
        · rw [if_neg e]
          rcases Nat.lt_or_ge p us.length with hl | hl
          · exact th_append_old _ _ _ hl
          · have : ∀ vs : List Th, vs.length ≤ p → th vs p = ⟨0, []⟩ := by
              intro vs hv
              simp [th, List.getD, List.getElem?_eq_none hv]
            rw [this _ (by simp; omega), this _ hl]
      refine ⟨⟨by simp [h.od], fun o ho => ?_, by simp [h.len], fun p => ?_, fun p => ?_, fun p q y y' hc hy hy' => ?_, fun p q y y' hc hy hy' => ?_⟩, rfl⟩
      · rcases List.mem_append.1 ho with ho | ho
        · exact h.dom o ho
        · simp at ho; subst ho; exact hi
      · simp only [hth, h.len]
        split
        · exact hS.kind i hi
        · exact h.kind p
      · simp only [hth, h.len]
        split
        · exact hS.len i hi
        · exact h.lens p
      · simp only [hth, h.len] at hy hy'
        have hne : ¬ p = s.us.length := by omega
        rw [if_neg hne] at hy hy'
        exact h.done p q y y' hc hy hy'
      · simp only [hth, h.len] at hy hy'
        by_cases e : p = s.us.length
        · rw [if_pos e] at hy hy'
          exact hS.word i hi q y y' hy hy'
        · rw [if_neg e] at hy hy'
          exact h.raw p q y y' hc hy hy'
  · obtain ⟨e1, e2⟩ := cw_none s hl
    obtain ⟨e3, e4⟩ := cw_none s' hl'
    rw [e1, e2, e3, e4]
    exact ⟨h, hb⟩
theorem th_put_any (us : List Th) (i p k : Nat) (x : Int) : th (put us i k x) p = if p = i ∧ i < us.length then ⟨(th us i).k, (th us i).l.set k x⟩ else th us p := by
  by_cases e : p = i
  · subst e
    by_cases hl : p < us.length
    · rw [if_pos ⟨rfl, hl⟩, th_put_same _ _ _ _ hl]
    · rw [if_neg (fun h => hl h.2)]
      have : ∀ vs : List Th, vs.length ≤ p → th vs p = ⟨0, []⟩ := by
        intro vs hv
        simp [th, List.getD, List.getElem?_eq_none hv]
      rw [this _ (by rw [len_put]; omega), this _ (by omega)]
  · rw [if_neg (fun h => e h.1), th_put_other _ _ _ _ _ e]
theorem sim_fld (hS : Sim ts ts' ρ D) {s s' : St} {j k : Nat} (h : SR ts ts' ρ D s s' j k) (hI' : Inv n' ts' s') {x x' : Int} (hr : Rel ts ts' ρ D x x') (hj : j < s.us.length) :
    SR ts ts' ρ D (fld ts j k s x) (fld ts' j k s' x') j (k + 1) := by
  obtain ⟨h1, h2⟩ := sim_cw hS h hI' hr (.inl hj)
  have hgt : j < (cwS ts s x).us.length := by
    rcases cw_cases ts s x with ⟨_, e, _⟩ | ⟨i, p, _, _, e, _⟩ | ⟨i, _, _, e, _⟩ <;> rw [e]
    · exact hj
    · exact hj
    · simp; omega
  unfold fld
  rw [h2]
  refine ⟨h1.od, h1.dom, by simp only [len_put]; exact h1.len, fun p => ?_, fun p => ?_, fun p q y y' hc hy hy' => ?_, fun p q y y' hc hy hy' => ?_⟩
  · simp only [th_put_any, h1.len]
    split
    · exact h1.kind j
    · exact h1.kind p
  · simp only [th_put_any, h1.len]
    split
    · simpa using h1.lens j
    · exact h1.lens p
  · simp only [th_put_any, h1.len, hgt, and_true] at hy hy'
    by_cases e : p = j
    · rw [if_pos e] at hy hy'
      simp only at hy hy'
      by_cases eq : k = q
      · subst eq
        have hk : k < ((th (cwS ts s x).us j).l.set k (cwW ts s x)).length := (List.getElem?_eq_some_iff.1 hy).1
        have hk' : k < ((th (cwS ts' s' x').us j).l.set k (cwW ts s x)).length := (List.getElem?_eq_some_iff.1 hy').1
        rw [List.getElem?_set_self (by simpa using hk)] at hy
        rw [List.getElem?_set_self (by simpa using hk')] at hy'
        cases hy; cases hy'; rfl
      · rw [List.getElem?_set_ne eq] at hy hy'
        exact h1.done j q y y' (by omega) hy hy'
    · rw [if_neg e] at hy hy'
      exact h1.done p q y y' (by omega) hy hy'
  · simp only [th_put_any, h1.len, hgt, and_true] at hy hy'
    by_cases e : p = j
    · rw [if_pos e] at hy hy'
      simp only at hy hy'
      have eq : ¬ k = q := by omega
      rw [List.getElem?_set_ne eq] at hy hy'
      exact h1.raw j q y y' (by omega) hy hy'
    · rw [if_neg e] at hy hy'
      exact h1.raw p q y y' (by omega) hy hy'
end
end MP
end Go.Proofs.Ytcfepiihjbbnaaa

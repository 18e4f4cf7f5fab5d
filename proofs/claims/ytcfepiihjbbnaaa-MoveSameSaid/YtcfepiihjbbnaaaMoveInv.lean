/-
  What holds all along while what is reached is copied, and behind it. Condition: the old things are ones that may be.
-/
import Derived.Test.YtcfepiihjbbnaaaMovePlain
namespace Go.Proofs.Ytcfepiihjbbnaaa
namespace MP
open Go.RowKit AP AW
/-- Behind the copies so far: new things are old ones of the same kind and length, each copied once. -/
structure Inv (n : Nat) (ts : List Th) (s : St) : Prop where
  len : s.us.length = s.od.length
  nodup : s.od.Nodup
  low : ∀ i ∈ s.od, i < ts.length
  same : ∀ p i, s.od[p]? = some i → (th s.us p).k = (th ts i).k ∧ (th s.us p).l.length = (th ts i).l.length
  u : ∀ p, p < s.us.length → ∀ x ∈ (th s.us p).l, WP.U x
theorem th_get (ts : List Th) {i : Nat} (h : i < ts.length) : ts[i]? = some (th ts i) := by simp [th, List.getD, h]
theorem wts_us {n : Nat} {ts : List Th} {s : St} (h : Inv n ts s) (p : Nat) : sz (s.us.take p) = wts ts (s.od.take p) := by
  induction p with
  | zero => simp [sz, wts]
  | succ p ih =>
    rw [List.take_add_one, List.take_add_one]
    by_cases hp : p < s.us.length
    · have hp2 : p < s.od.length := by rw [← h.len]; exact hp
      rw [th_get _ hp, List.getElem?_eq_getElem hp2]
      simp only [Option.toList_some]
      rw [sz_snoc, wts_snoc, ih]
      have := (h.same p _ (List.getElem?_eq_getElem hp2)).2
      unfold wt; omega
    · rw [List.getElem?_eq_none (by omega), List.getElem?_eq_none (by rw [← h.len]; omega)]
      simpa using ih
theorem sz_us {n : Nat} {ts : List Th} {s : St} (h : Inv n ts s) : sz s.us = wts ts s.od := by
  have := wts_us h s.us.length
  rw [List.take_length, h.len, List.take_length] at this
  exact this
theorem room {n : Nat} {ts : List Th} {s : St} (h : Inv n ts s) : sz s.us ≤ sz ts := by
  rw [sz_us h]; exact wts_le ts h.nodup h.low
theorem ok {n : Nat} {ts : List Th} (hO : Ok n ts) {s : St} (h : Inv n ts s) : Ok n s.us := by
  refine ⟨hO.size, Nat.le_trans (room h) hO.room, fun p hp => ?_⟩
  have hp2 : p < s.od.length := by rw [← h.len]; exact hp
  have h1 := h.same p _ (List.getElem?_eq_getElem hp2)
  have h2 := hO.each _ (h.low _ (List.getElem_mem hp2))
  rw [h1.1, h1.2]
  exact ⟨h2.1, h2.2.1, h2.2.2.1, h.u p hp⟩
theorem fits {n : Nat} {ts : List Th} {s : St} (h : Inv n ts s) {i : Nat} (hi : i < ts.length) (hn : i ∉ s.od) : sz s.us + (th ts i).l.length < sz ts + 0 ∧ sz s.us + (th ts i).l.length + 1 ≤ sz ts := by
  have h1 : (s.od ++ [i]).Nodup := by
    rw [List.nodup_append]
    refine ⟨h.nodup, by simp, fun a ha b hb => ?_⟩
    simp at hb; subst hb; intro e; subst e; exact hn ha
  have h2 := wts_le ts h1 (fun x hx => by
    rcases List.mem_append.1 hx with hx | hx
    · exact h.low x hx
    · simp at hx; subst hx; exact hi)
  rw [wts_snoc, ← sz_us h] at h2
  unfold wt at h2
  omega
theorem count {n : Nat} {ts : List Th} {s : St} (h : Inv n ts s) : s.us.length ≤ ts.length := by
  rw [h.len]
  have : s.od.length ≤ (List.range ts.length).length := by
    have := List.Nodup.length_le_of_subset (l₁ := s.od) (l₂ := List.range ts.length) h.nodup (fun i hi => List.mem_range.2 (h.low i hi))
    exact this
  simpa using this
/-! ### one word -/
theorem bare_u {x : Int} (h : WP.U x) : WP.U (bareW x) := by
  unfold bareW; split
  · unfold WP.U; omega
  · exact h
theorem cw_none {ts : List Th} {x : Int} (s : St) (h : AW.look ts x = none) : cwS ts s x = s ∧ cwW ts s x = bareW x := by unfold cwS cwW cw; rw [h]; exact ⟨rfl, rfl⟩
theorem cw_old {ts : List Th} {x : Int} {s : St} {i p : Nat} (h : AW.look ts x = some i) (hp : pos s.od i = some p) : cwS ts s x = s ∧ cwW ts s x = pl s.us p := by
  unfold cwS cwW cw; rw [h]; simp only [hp]; exact ⟨trivial, trivial⟩
theorem cw_new {ts : List Th} {x : Int} {s : St} {i : Nat} (h : AW.look ts x = some i) (hp : pos s.od i = none) : cwS ts s x = ⟨s.us ++ [th ts i], s.od ++ [i]⟩ ∧ cwW ts s x = WP.ofW 1 (sz s.us) := by
  unfold cwS cwW cw; rw [h]; simp only [hp]; exact ⟨trivial, trivial⟩
theorem look_lt {ts : List Th} {x : Int} {i : Nat} (h : AW.look ts x = some i) : i < ts.length := by
  unfold AW.look at h
  split at h
  · exact (idx_some h).1
  · cases h
theorem cw_cases (ts : List Th) (s : St) (x : Int) :
    (AW.look ts x = none ∧ cwS ts s x = s ∧ cwW ts s x = bareW x) ∨
    (∃ i p, AW.look ts x = some i ∧ pos s.od i = some p ∧ cwS ts s x = s ∧ cwW ts s x = pl s.us p) ∨
    (∃ i, AW.look ts x = some i ∧ pos s.od i = none ∧ cwS ts s x = ⟨s.us ++ [th ts i], s.od ++ [i]⟩ ∧ cwW ts s x = WP.ofW 1 (sz s.us)) := by
  cases h : AW.look ts x with
  | none => exact .inl ⟨rfl, cw_none s h⟩
  | some i =>
    cases hp : pos s.od i with
    | some p => exact .inr (.inl ⟨i, p, rfl, hp, cw_old h hp⟩)
    | none => exact .inr (.inr ⟨i, rfl, hp, cw_new h hp⟩)
theorem cwW_u {ts : List Th} (s : St) {x : Int} (h : WP.U x) : WP.U (cwW ts s x) := by
  rcases cw_cases ts s x with ⟨_, _, e⟩ | ⟨i, p, _, _, _, e⟩ | ⟨i, _, _, _, e⟩
  · rw [e]; exact bare_u h
  · rw [e]; exact pl_u _ _
  · rw [e]; exact WP.ofW_u _ _
theorem inv_nil (n : Nat) (ts : List Th) : Inv n ts ⟨[], []⟩ := ⟨rfl, by simp, fun i hi => by simp at hi, fun p i h => by simp at h, fun p hp => by simp at hp⟩
theorem inv_new {n : Nat} {ts : List Th} (hO : Ok n ts) {s : St} (h : Inv n ts s) {i : Nat} (hi : i < ts.length) (hp : pos s.od i = none) : Inv n ts ⟨s.us ++ [th ts i], s.od ++ [i]⟩ := by
  refine ⟨by simp [h.len], ?_, ?_, ?_, ?_⟩
  · rw [List.nodup_append]
    refine ⟨h.nodup, by simp, fun a ha b hb => ?_⟩
    simp at hb; subst hb; intro e; subst e; exact pos_none hp ha
  · intro x hx
    rcases List.mem_append.1 hx with hx | hx
    · exact h.low x hx
    · simp at hx; subst hx; exact hi
  · intro p i' hpi
    by_cases hl : p < s.od.length
    · rw [List.getElem?_append_left hl] at hpi
      rw [th_append_old _ _ _ (by rw [h.len]; exact hl)]
      exact h.same p i' hpi
    · rw [List.getElem?_append_right (by omega)] at hpi
      have h0 : p - s.od.length = 0 := by
        have := (List.getElem?_eq_some_iff.1 hpi).1
        simp at this; omega
      rw [h0] at hpi
      simp at hpi
      subst hpi
      obtain rfl : p = s.us.length := by rw [h.len]; omega
      rw [th_append_new]; exact ⟨rfl, rfl⟩
  · intro p hp2 x hx
    by_cases hl : p < s.us.length
    · rw [th_append_old _ _ _ hl] at hx
      exact h.u p hl x hx
    · obtain rfl : p = s.us.length := by simp at hp2; omega
      rw [th_append_new] at hx
      exact (hO.each i hi).2.2.2 x hx
theorem inv_cw {n : Nat} {ts : List Th} (hO : Ok n ts) {s : St} (h : Inv n ts s) (x : Int) : Inv n ts (cwS ts s x) := by
  rcases cw_cases ts s x with ⟨_, e, _⟩ | ⟨i, p, _, _, e, _⟩ | ⟨i, hl, hp, e, _⟩
  · rw [e]; exact h
  · rw [e]; exact h
  · rw [e]; exact inv_new hO h (look_lt hl) hp
theorem inv_put {n : Nat} {ts : List Th} {s : St} (h : Inv n ts s) (j k : Nat) {x : Int} (hx : WP.U x) : Inv n ts ⟨put s.us j k x, s.od⟩ := by
  refine ⟨by simp only [len_put]; exact h.len, h.nodup, h.low, fun p i hpi => ?_, fun p hp y hy => ?_⟩
  · have h1 := h.same p i hpi
    have hpl : p < s.us.length := by rw [h.len]; exact (List.getElem?_eq_some_iff.1 hpi).1
    by_cases e : p = j
    · subst e
      simp only
      rw [th_put_same _ _ _ _ hpl]
      exact ⟨h1.1, by simpa using h1.2⟩
    · simp only
      rw [th_put_other _ _ _ _ _ e]; exact h1
  · simp only [len_put] at hp
    by_cases e : p = j
    · subst e
      rw [th_put_same _ _ _ _ hp] at hy
      rcases List.mem_or_eq_of_mem_set hy with hy | hy
      · exact h.u p hp y hy
      · rw [hy]; exact hx
    · rw [th_put_other _ _ _ _ _ e] at hy
      exact h.u p hp y hy
/-! ### what words become -/
def phi (ts : List Th) (s : St) (x : Int) : Int :=
  match AW.look ts x with
  | none => bareW x
  | some i => match pos s.od i with
    | some p => pl s.us p
    | none => 0
def Cov (ts : List Th) (s : St) (x : Int) : Prop := ∀ i, AW.look ts x = some i → i ∈ s.od
theorem phi_none {ts : List Th} {x : Int} (s : St) (h : AW.look ts x = none) : phi ts s x = bareW x := by unfold phi; rw [h]
theorem phi_some {ts : List Th} {x : Int} {s : St} {i p : Nat} (h : AW.look ts x = some i) (hp : pos s.od i = some p) : phi ts s x = pl s.us p := by unfold phi; rw [h]; simp only [hp]
/-- s' goes on from s. -/
structure Ext (s s' : St) : Prop where
  od : ∃ more, s'.od = s.od ++ more
  pl : ∀ p, p < s.od.length → pl s'.us p = pl s.us p
theorem Ext.refl (s : St) : Ext s s := ⟨⟨[], by simp⟩, fun _ _ => rfl⟩
theorem Ext.len {s s' : St} (h : Ext s s') : s.od.length ≤ s'.od.length := by obtain ⟨m, e⟩ := h.od; rw [e]; simp
theorem Ext.trans {a b c : St} (h : Ext a b) (k : Ext b c) : Ext a c := by
  obtain ⟨m, e⟩ := h.od
  obtain ⟨m', e'⟩ := k.od
  exact ⟨⟨m ++ m', by rw [e', e, List.append_assoc]⟩, fun p hp => (k.pl p (Nat.lt_of_lt_of_le hp h.len)).trans (h.pl p hp)⟩
theorem Ext.at {s s' : St} (h : Ext s s') {p i : Nat} (hp : s.od[p]? = some i) : s'.od[p]? = some i := by
  obtain ⟨m, e⟩ := h.od
  rw [e, List.getElem?_append_left (List.getElem?_eq_some_iff.1 hp).1]; exact hp
theorem Ext.mem {s s' : St} (h : Ext s s') {i : Nat} (hi : i ∈ s.od) : i ∈ s'.od := by
  obtain ⟨m, e⟩ := h.od
  rw [e]; exact List.mem_append.2 (.inl hi)
theorem Ext.cov {s s' : St} (h : Ext s s') {ts : List Th} {x : Int} (hc : Cov ts s x) : Cov ts s' x := fun i hi => h.mem (hc i hi)
theorem Ext.phi {s s' : St} (h : Ext s s') {ts : List Th} {x : Int} (hc : Cov ts s x) : phi ts s' x = phi ts s x := by
  cases hl : AW.look ts x with
  | none => rw [phi_none _ hl, phi_none _ hl]
  | some i =>
    obtain ⟨p, hp⟩ := pos_isSome (hc i hl)
    have hp' : pos s'.od i = some p := by
      obtain ⟨m, e⟩ := h.od
      rw [e]; exact pos_append hp
    rw [phi_some hl hp, phi_some hl hp', h.pl p (pos_some hp).1]
theorem ext_cw {n : Nat} {ts : List Th} {s : St} (h : Inv n ts s) (x : Int) : Ext s (cwS ts s x) := by
  rcases cw_cases ts s x with ⟨_, e, _⟩ | ⟨i, p, _, _, e, _⟩ | ⟨i, _, _, e, _⟩
  · rw [e]; exact Ext.refl s
  · rw [e]; exact Ext.refl s
  · rw [e]; exact ⟨⟨[i], rfl⟩, fun p hp => pl_snoc _ _ (by rw [h.len]; omega)⟩
theorem ext_put (s : St) (j k : Nat) (x : Int) : Ext s ⟨put s.us j k x, s.od⟩ := ⟨⟨[], by simp⟩, fun p _ => pl_put _ _ _ _ _⟩
theorem cw_phi {n : Nat} {ts : List Th} {s : St} (h : Inv n ts s) (x : Int) : cwW ts s x = phi ts (cwS ts s x) x ∧ Cov ts (cwS ts s x) x := by
  rcases cw_cases ts s x with ⟨hl, e, e2⟩ | ⟨i, p, hl, hp, e, e2⟩ | ⟨i, hl, hp, e, e2⟩
  · rw [e2, phi_none _ hl]; exact ⟨rfl, fun i hi => by rw [hl] at hi; cases hi⟩
  · rw [e, e2, phi_some hl hp]
    refine ⟨rfl, fun i' hi' => ?_⟩
    rw [hl] at hi'; cases hi'
    exact List.mem_of_getElem? (pos_some hp).2
  · rw [e, e2]
    have hp' : pos (s.od ++ [i]) i = some s.od.length := pos_new hp
    rw [phi_some (s := ⟨s.us ++ [th ts i], s.od ++ [i]⟩) hl hp']
    refine ⟨by simp only; rw [← h.len, pl_len], fun i' hi' => ?_⟩
    rw [hl] at hi'; cases hi'
    simp
/-! ### the roots -/
theorem rts_append (ts : List Th) (s : St) (xs : List Int) (x : Int) : rts ts s (xs ++ [x]) = cwS ts (rts ts s xs) x := by
  induction xs generalizing s with
  | nil => rfl
  | cons y ys ih => exact ih _
theorem rtw_append (ts : List Th) (s : St) (xs : List Int) (x : Int) : rtw ts s (xs ++ [x]) = rtw ts s xs ++ [cwW ts (rts ts s xs) x] := by
  induction xs generalizing s with
  | nil => rfl
  | cons y ys ih => simp only [List.cons_append, rtw, rts]; rw [ih]
theorem rtw_len (ts : List Th) (s : St) (xs : List Int) : (rtw ts s xs).length = xs.length := by
  induction xs generalizing s with
  | nil => rfl
  | cons y ys ih => simp [rtw, ih]
theorem inv_rts {n : Nat} {ts : List Th} (hO : Ok n ts) (xs : List Int) {s : St} (h : Inv n ts s) : Inv n ts (rts ts s xs) ∧ Ext s (rts ts s xs) := by
  induction xs generalizing s with
  | nil => exact ⟨h, Ext.refl s⟩
  | cons y ys ih =>
    have := ih (inv_cw hO h y)
    exact ⟨this.1, (ext_cw h y).trans this.2⟩
theorem rtw_phi {n : Nat} {ts : List Th} (hO : Ok n ts) (xs : List Int) {s : St} (h : Inv n ts s) : rtw ts s xs = xs.map (phi ts (rts ts s xs)) ∧ ∀ x ∈ xs, Cov ts (rts ts s xs) x := by
  induction xs generalizing s with
  | nil => exact ⟨rfl, fun x hx => by cases hx⟩
  | cons y ys ih =>
    have h1 := inv_cw hO h y
    have h2 := (inv_rts hO ys h1).2
    have h3 := cw_phi h y
    have h4 := ih h1
    refine ⟨?_, fun x hx => ?_⟩
    · simp only [rtw, rts, List.map_cons]
      rw [h4.1, h2.phi h3.2, h3.1]
    · rcases List.mem_cons.1 hx with rfl | hx
      · exact h2.cov h3.2
      · exact h4.2 x hx
theorem rtw_u {ts : List Th} (xs : List Int) (s : St) (h : ∀ x ∈ xs, WP.U x) : ∀ y ∈ rtw ts s xs, WP.U y := by
  induction xs generalizing s with
  | nil => intro y hy; cases hy
  | cons x xs ih =>
    intro y hy
    rcases List.mem_cons.1 hy with rfl | hy
    · exact cwW_u s (h x (List.mem_cons_self ..))
    · exact ih _ (fun z hz => h z (List.mem_cons_of_mem _ hz)) y hy
end MP
end Go.Proofs.Ytcfepiihjbbnaaa

/-
  What has come of it when all that is reached has been copied. Condition: the old things are ones that may be, the words to begin at lie in 64 bits.
-/
import Derived.Test.YtcfepiihjbbnaaaMoveInv
namespace Go.Proofs.Ytcfepiihjbbnaaa
namespace MP
open Go.RowKit AP AW
/-- What is reached from words. -/
inductive R (ts : List Th) (roots : List Int) : Nat → Prop
  | root {x : Int} {i : Nat} : x ∈ roots → AW.look ts x = some i → R ts roots i
  | step {i i' : Nat} {x : Int} : R ts roots i → x ∈ (th ts i).l → AW.look ts x = some i' → R ts roots i'
def Snd (ts : List Th) (roots : List Int) (s : St) : Prop := ∀ i ∈ s.od, R ts roots i
theorem snd_cw {ts : List Th} {roots : List Int} {s : St} (h : Snd ts roots s) {x : Int} (hx : ∀ i, AW.look ts x = some i → R ts roots i) : Snd ts roots (cwS ts s x) := by
  rcases cw_cases ts s x with ⟨_, e, _⟩ | ⟨i, p, _, _, e, _⟩ | ⟨i, hl, _, e, _⟩
  · rw [e]; exact h
  · rw [e]; exact h
  · rw [e]
    intro i' hi'
    rcases List.mem_append.1 hi' with hi' | hi'
    · exact h i' hi'
    · simp at hi'; subst hi'; exact hx _ hl
theorem snd_rts {ts : List Th} {roots : List Int} (xs : List Int) {s : St} (h : Snd ts roots s) (hx : ∀ x ∈ xs, x ∈ roots) : Snd ts roots (rts ts s xs) := by
  induction xs generalizing s with
  | nil => exact h
  | cons y ys ih => exact ih (snd_cw h (fun i hi => .root (hx y (List.mem_cons_self ..)) hi)) (fun x hx' => hx x (List.mem_cons_of_mem _ hx'))
/-- Things ahead of j are done, of thing j the first k words. -/
def Mid (ts : List Th) (s : St) (j k : Nat) : Prop := ∀ p i, s.od[p]? = some i → ∀ q x, (th ts i).l[q]? = some x →
  ((p < j ∨ (p = j ∧ q < k)) → (th s.us p).l[q]? = some (phi ts s x) ∧ Cov ts s x) ∧ (¬ (p < j ∨ (p = j ∧ q < k)) → (th s.us p).l[q]? = some x)
theorem mid_cw {n : Nat} {ts : List Th} {s : St} {j k : Nat} (h : Inv n ts s) (hm : Mid ts s j k) (hj : j < s.us.length ∨ (j ≤ s.us.length ∧ k = 0)) (x : Int) : Mid ts (cwS ts s x) j k := by
  have hE := ext_cw h x
  rcases cw_cases ts s x with ⟨_, e, _⟩ | ⟨i, p, _, _, e, _⟩ | ⟨i, hl, hp, e, _⟩
  · rw [e]; exact hm
  · rw [e]; exact hm
  · rw [e] at hE ⊢
    intro p i' hpi q y hy
    by_cases hlt : p < s.od.length
    · simp only at hpi
      rw [List.getElem?_append_left hlt] at hpi
      simp only
      rw [th_append_old _ _ _ (by rw [h.len]; exact hlt)]
      obtain ⟨h1, h2⟩ := hm p i' hpi q y hy
      refine ⟨fun hc => ?_, h2⟩
      obtain ⟨h3, h4⟩ := h1 hc
      rw [hE.phi h4]
      exact ⟨h3, hE.cov h4⟩
    · simp only at hpi
      rw [List.getElem?_append_right (by omega)] at hpi
      have h0 : p - s.od.length = 0 := by
        have := (List.getElem?_eq_some_iff.1 hpi).1
        simp at this; omega
      rw [h0] at hpi
      simp at hpi
      subst hpi
      obtain rfl : p = s.us.length := by rw [h.len]; omega
      simp only
      rw [th_append_new]
      refine ⟨fun hc => ?_, fun _ => hy⟩
      omega
theorem mid_fld {n : Nat} {ts : List Th} {s : St} {j k i : Nat} {x : Int} (hO : Ok n ts) (h : Inv n ts s) (hm : Mid ts s j k) (hj : j < s.us.length) (hi : s.od[j]? = some i) (hx : (th ts i).l[k]? = some x) :
    Inv n ts (fld ts j k s x) ∧ Mid ts (fld ts j k s x) j (k + 1) ∧ Ext s (fld ts j k s x) ∧ j < (fld ts j k s x).us.length := by
  have h1 := inv_cw hO h x
  have h2 := mid_cw h hm (.inl hj) x
  have h3 := cw_phi h x
  have hE := ext_cw h x
  have hu : WP.U (cwW ts s x) := cwW_u s ((hO.each i (h.low i (List.mem_of_getElem? hi))).2.2.2 x (List.mem_of_getElem? hx))
  have hlen : j < (cwS ts s x).us.length := by
    rw [h1.len]; have := hE.len; rw [← h.len] at this; omega
  refine ⟨inv_put h1 j k hu, ?_, hE.trans (ext_put _ j k _), by unfold fld; simp only [len_put]; exact hlen⟩
  have hP := ext_put (cwS ts s x) j k (cwW ts s x)
  intro p i' hpi q y hy
  unfold fld at hpi ⊢
  simp only at hpi ⊢
  obtain ⟨g1, g2⟩ := h2 p i' hpi q y hy
  have hpl : p < (cwS ts s x).us.length := by rw [h1.len]; exact (List.getElem?_eq_some_iff.1 hpi).1
  by_cases e : p = j
  · subst e
    rw [th_put_same _ _ _ _ hpl]
    have hii : i' = i := by have := hE.at hi; rw [this] at hpi; exact (Option.some.inj hpi).symm
    subst hii
    have hql : q < (th (cwS ts s x).us p).l.length := by rw [(h1.same p i' hpi).2]; exact (List.getElem?_eq_some_iff.1 hy).1
    by_cases eq : q = k
    · subst eq
      rw [hx] at hy; cases hy
      refine ⟨fun _ => ?_, fun hc => absurd (.inr ⟨rfl, Nat.lt_succ_self _⟩) hc⟩
      rw [List.getElem?_set_self hql, hP.phi h3.2, h3.1]
      exact ⟨rfl, hP.cov h3.2⟩
    · have hkq : ¬ k = q := fun e => eq e.symm
      simp only
      rw [List.getElem?_set_ne hkq]
      constructor
      · intro hc
        obtain ⟨g3, g4⟩ := g1 (.inr ⟨rfl, by omega⟩)
        rw [hP.phi g4]
        exact ⟨g3, hP.cov g4⟩
      · intro hc
        refine g2 (fun h => hc ?_)
        rcases h with h | h
        · exact .inl h
        · exact .inr ⟨trivial, by omega⟩
  · rw [th_put_other _ _ _ _ _ e]
    refine ⟨fun hc => ?_, fun hc => g2 (by omega)⟩
    obtain ⟨g3, g4⟩ := g1 (by omega)
    rw [hP.phi g4]
    exact ⟨g3, hP.cov g4⟩
theorem snd_fld {ts : List Th} {roots : List Int} {s : St} (h : Snd ts roots s) {i j k : Nat} {x : Int} (hi : i ∈ s.od) (hx : x ∈ (th ts i).l) : Snd ts roots (fld ts j k s x) :=
  snd_cw (s := s) h (fun _ hi' => .step (h i hi) hx hi')
theorem mid_flds {n : Nat} {ts : List Th} {j i : Nat} (hO : Ok n ts) (roots : List Int) (xs : List Int) (k : Nat) {s : St} (hxs : (th ts i).l.drop k = xs) (h : Inv n ts s) (hm : Mid ts s j k) (hS : Snd ts roots s) (hj : j < s.us.length) (hi : s.od[j]? = some i) :
    Inv n ts (flds ts j k xs s) ∧ Mid ts (flds ts j k xs s) (j + 1) 0 ∧ Ext s (flds ts j k xs s) ∧ Snd ts roots (flds ts j k xs s) := by
  induction xs generalizing k s with
  | nil =>
    refine ⟨h, fun p i' hpi q x hx => ?_, Ext.refl s, hS⟩
    obtain ⟨g1, g2⟩ := hm p i' hpi q x hx
    refine ⟨fun hc => g1 ?_, fun hc => g2 (by omega)⟩
    rcases Nat.lt_or_ge p j with hl | hl
    · exact .inl hl
    · have : p = j := by omega
      subst this
      refine .inr ⟨rfl, ?_⟩
      change s.od[p]? = some i' at hpi
      rw [hi] at hpi; cases hpi
      have := (List.getElem?_eq_some_iff.1 hx).1
      have h2 : ((th ts i).l.drop k).length = 0 := by rw [hxs]; rfl
      simp at h2; omega
  | cons y ys ih =>
    have hx : (th ts i).l[k]? = some y := by
      have := List.getElem?_drop (xs := (th ts i).l) (i := k) (j := 0)
      rw [hxs] at this; simpa using this.symm
    obtain ⟨h1, h2, h3, h4⟩ := mid_fld hO h hm hj hi hx
    have h5 := ih (k + 1) (by rw [← List.drop_drop, hxs]; rfl) h1 h2 (snd_fld hS (List.mem_of_getElem? hi) (List.mem_of_getElem? hx)) h4 (h3.at hi)
    exact ⟨h5.1, h5.2.1, h3.trans h5.2.2.1, h5.2.2.2⟩
theorem raw {n : Nat} {ts : List Th} {s : St} {j i : Nat} (h : Inv n ts s) (hm : Mid ts s j 0) (hi : s.od[j]? = some i) : (th s.us j).l = (th ts i).l := by
  apply List.ext_getElem?
  intro q
  by_cases hq : q < (th ts i).l.length
  · have := (hm j i hi q _ (List.getElem?_eq_getElem hq)).2 (by omega)
    rw [this, List.getElem?_eq_getElem hq]
  · have h0 := (h.same j i hi).2
    rw [List.getElem?_eq_none (l := (th s.us j).l) (by omega), List.getElem?_eq_none (by omega)]
theorem mid_doTh {n : Nat} {ts : List Th} {j : Nat} (hO : Ok n ts) (roots : List Int) {s : St} (h : Inv n ts s) (hm : Mid ts s j 0) (hS : Snd ts roots s) (hj : j < s.us.length) :
    Inv n ts (doTh ts j s) ∧ Mid ts (doTh ts j s) (j + 1) 0 ∧ Ext s (doTh ts j s) ∧ Snd ts roots (doTh ts j s) := by
  have hj2 : j < s.od.length := by rw [← h.len]; exact hj
  have hi := List.getElem?_eq_getElem hj2
  exact mid_flds hO roots _ 0 (by rw [List.drop_zero, raw h hm hi]) h hm hS hj hi
theorem goF_stop (ts : List Th) (f j : Nat) (s : St) (h : ¬ j < s.us.length) : goF ts f j s = s := by
  cases f with
  | zero => rfl
  | succ f => unfold goF; rw [if_neg h]
theorem goF_step (ts : List Th) (f j : Nat) (s : St) (h : j < s.us.length) : goF ts (f + 1) j s = goF ts f (j + 1) (doTh ts j s) := by
  rw [goF]; rw [if_pos h]
theorem mid_goF {n : Nat} {ts : List Th} (hO : Ok n ts) (roots : List Int) (f j : Nat) {s : St} (h : Inv n ts s) (hm : Mid ts s j 0) (hS : Snd ts roots s) (hj : j ≤ s.us.length) (hf : ts.length < f + j) :
    Inv n ts (goF ts f j s) ∧ Mid ts (goF ts f j s) (goF ts f j s).us.length 0 ∧ Ext s (goF ts f j s) ∧ Snd ts roots (goF ts f j s) := by
  induction f generalizing j s with
  | zero => have := count h; omega
  | succ f ih =>
    by_cases hlt : j < s.us.length
    · rw [goF_step _ _ _ _ hlt]
      obtain ⟨h1, h2, h3, h4⟩ := mid_doTh hO roots h hm hS hlt
      have h5 := ih (j + 1) h1 h2 h4 (by rw [h1.len]; have := h3.len; rw [← h.len] at this; omega) (by omega)
      exact ⟨h5.1, h5.2.1, h3.trans h5.2.2.1, h5.2.2.2⟩
    · rw [goF_stop _ _ _ _ hlt]
      obtain rfl : j = s.us.length := by omega
      exact ⟨h, hm, Ext.refl s, hS⟩
/-- All that is reached, and nothing else, has been copied. -/
structure Live (n : Nat) (ts : List Th) (roots : List Int) (s : St) : Prop where
  inv : Inv n ts s
  done : ∀ p i, s.od[p]? = some i → (th s.us p).l = (th ts i).l.map (phi ts s)
  cov : ∀ i ∈ s.od, ∀ x ∈ (th ts i).l, Cov ts s x
  begin : ∀ x ∈ roots, Cov ts s x
  words : liveW ts roots = roots.map (phi ts s)
  reach : ∀ i, i ∈ s.od ↔ R ts roots i
theorem live {n : Nat} {ts : List Th} (hO : Ok n ts) (roots : List Int) : Live n ts roots (liveS ts roots) := by
  obtain ⟨r1, r2⟩ := inv_rts hO roots (inv_nil n ts)
  obtain ⟨r3, r4⟩ := rtw_phi hO roots (inv_nil n ts)
  have hS : Snd ts roots (rts ts ⟨[], []⟩ roots) := snd_rts roots (fun i hi => by cases hi) (fun x hx => hx)
  have hm : Mid ts (rts ts ⟨[], []⟩ roots) 0 0 := by
    have : ∀ (xs : List Int) (s : St), Inv n ts s → Mid ts s 0 0 → Mid ts (rts ts s xs) 0 0 := by
      intro xs
      induction xs with
      | nil => intro s _ h; exact h
      | cons y ys ih => intro s hi h; exact ih _ (inv_cw hO hi y) (mid_cw hi h (.inr ⟨Nat.zero_le _, rfl⟩) y)
    exact this roots _ (inv_nil n ts) (fun p i h => by cases h)
  obtain ⟨h1, h2, h3, h4⟩ := mid_goF hO roots (ts.length + 1) 0 r1 hm hS (Nat.zero_le _) (by omega)
  change Inv n ts (liveS ts roots) at h1
  change Mid ts (liveS ts roots) (liveS ts roots).us.length 0 at h2
  change Ext _ (liveS ts roots) at h3
  change Snd ts roots (liveS ts roots) at h4
  have hcov : ∀ i ∈ (liveS ts roots).od, ∀ x ∈ (th ts i).l, Cov ts (liveS ts roots) x := by
    intro i hi x hx
    obtain ⟨p, hp, rfl⟩ := List.mem_iff_getElem.1 hi
    obtain ⟨q, hq, rfl⟩ := List.mem_iff_getElem.1 hx
    exact ((h2 p _ (List.getElem?_eq_getElem hp) q _ (List.getElem?_eq_getElem hq)).1 (.inl (by rw [h1.len]; exact hp))).2
  have hroots : ∀ x ∈ roots, Cov ts (liveS ts roots) x := fun x hx => h3.cov (r4 x hx)
  refine ⟨h1, fun p i hpi => ?_, hcov, hroots, ?_, fun i => ⟨h4 i, fun hr => ?_⟩⟩
  · apply List.ext_getElem?
    intro q
    rw [List.getElem?_map]
    by_cases hq : q < (th ts i).l.length
    · rw [List.getElem?_eq_getElem hq]
      exact ((h2 p i hpi q _ (List.getElem?_eq_getElem hq)).1 (.inl (by rw [h1.len]; exact (List.getElem?_eq_some_iff.1 hpi).1))).1
    · rw [List.getElem?_eq_none (l := (th ts i).l) (by omega), List.getElem?_eq_none (by rw [(h1.same p i hpi).2]; omega)]; rfl
  · unfold liveW
    rw [r3]
    exact List.map_congr_left (fun x hx => (h3.phi (r4 x hx)).symm)
  · induction hr with
    | root hx hl => exact hroots _ hx _ hl
    | step _ hx hl ih => exact hcov _ ih _ hx _ hl
theorem liveW_u {ts : List Th} {roots : List Int} (h : ∀ x ∈ roots, WP.U x) : ∀ y ∈ liveW ts roots, WP.U y := rtw_u roots _ h
theorem liveW_len (ts : List Th) (roots : List Int) : (liveW ts roots).length = roots.length := rtw_len _ _ _
end MP
end Go.Proofs.Ytcfepiihjbbnaaa

/-
  What is copied from rows that look alike is the same; to copy what was copied is to copy it once. Condition: the old things are ones that may be.
-/
import Derived.Test.YtcfepiihjbbnaaaMoveSim
namespace Go.Proofs.Ytcfepiihjbbnaaa
namespace MP
open Go.RowKit AP AW
theorem cw_len (ts : List Th) (s : St) (x : Int) (j : Nat) (hj : j < s.us.length) : j < (cwS ts s x).us.length ∧ (th (cwS ts s x).us j) = th s.us j := by
  rcases cw_cases ts s x with ⟨_, e, _⟩ | ⟨i, p, _, _, e, _⟩ | ⟨i, _, _, e, _⟩ <;> rw [e]
  · exact ⟨hj, rfl⟩
  · exact ⟨hj, rfl⟩
  · exact ⟨by simp; omega, th_append_old _ _ _ hj⟩
theorem fld_len (ts : List Th) (s : St) (x : Int) (j k : Nat) (hj : j < s.us.length) : j < (fld ts j k s x).us.length ∧ (th (fld ts j k s x).us j).l.length = (th s.us j).l.length := by
  obtain ⟨h1, h2⟩ := cw_len ts s x j hj
  unfold fld
  refine ⟨by simp only [len_put]; exact h1, ?_⟩
  simp only
  rw [th_put_same _ _ _ _ h1]
  simp [h2]
section
variable {n n' : Nat} {ts ts' : List Th} {ρ : Nat → Nat} {D : Nat → Prop}
/-- What a step keeps: the words lie in 64 bits, each thing at most once. -/
theorem inv_fld (hO : Ok n ts) {s : St} (h : Inv n ts s) (j k : Nat) {x : Int} (hx : WP.U x) : Inv n ts (fld ts j k s x) := inv_put (inv_cw hO h x) j k (cwW_u s hx)
theorem inv_flds (hO : Ok n ts) (j : Nat) (xs : List Int) (k : Nat) {s : St} (h : Inv n ts s) (hx : ∀ x ∈ xs, WP.U x) : Inv n ts (flds ts j k xs s) := by
  induction xs generalizing k s with
  | nil => exact h
  | cons y ys ih => exact ih (k + 1) (inv_fld hO h j k (hx y (List.mem_cons_self ..))) (fun x hx' => hx x (List.mem_cons_of_mem _ hx'))
theorem inv_doTh (hO : Ok n ts) (j : Nat) {s : St} (h : Inv n ts s) (hj : j < s.us.length) : Inv n ts (doTh ts j s) := inv_flds hO j _ 0 h (h.u j hj)
theorem sim_flds (hO' : Ok n' ts') (hS : Sim ts ts' ρ D) (j : Nat) (xs xs' : List Int) (k : Nat) {s s' : St} (h : SR ts ts' ρ D s s' j k) (hI' : Inv n' ts' s') (hj : j < s.us.length)
    (hl : xs'.length = xs.length) (hr : ∀ (q : Nat) (x x' : Int), xs[q]? = some x → xs'[q]? = some x' → Rel ts ts' ρ D x x') (hu : ∀ x ∈ xs', WP.U x) (hL : k + xs.length = (th s.us j).l.length) :
    SR ts ts' ρ D (flds ts j k xs s) (flds ts' j k xs' s') (j + 1) 0 := by
  induction xs generalizing k s s' xs' with
  | nil =>
    cases xs' with
    | cons y ys => simp at hl
    | nil =>
      refine ⟨h.od, h.dom, h.len, h.kind, h.lens, fun p q x x' hc hx hx' => ?_, fun p q x x' hc hx hx' => h.raw p q x x' (by omega) hx hx'⟩
      refine h.done p q x x' ?_ hx hx'
      rcases Nat.lt_or_ge p j with hlt | hge
      · exact .inl hlt
      · obtain rfl : p = j := by omega
        refine .inr ⟨rfl, ?_⟩
        change (th s.us p).l[q]? = some x at hx
        have := (List.getElem?_eq_some_iff.1 hx).1
        simp at hL; omega
  | cons y ys ih =>
    cases xs' with
    | nil => simp at hl
    | cons y' ys' =>
      have h1 := sim_fld hS h hI' (hr 0 y y' rfl rfl) hj
      have h2 := fld_len ts s y j k hj
      exact ih ys' (k + 1) h1 (inv_fld hO' hI' j k (hu y' (List.mem_cons_self ..))) h2.1 (by simpa using hl) (fun q x x' hx hx' => hr (q + 1) x x' hx hx') (fun x hx => hu x (List.mem_cons_of_mem _ hx)) (by rw [h2.2]; simp at hL; omega)
theorem sim_doTh (hO' : Ok n' ts') (hS : Sim ts ts' ρ D) (j : Nat) {s s' : St} (h : SR ts ts' ρ D s s' j 0) (hI' : Inv n' ts' s') (hj : j < s.us.length) : SR ts ts' ρ D (doTh ts j s) (doTh ts' j s') (j + 1) 0 :=
  sim_flds hO' hS j _ _ 0 h hI' hj (h.lens j) (fun q x x' hx hx' => h.raw j q x x' (by omega) hx hx') (hI'.u j (by rw [h.len]; exact hj)) (by simp)
theorem len_doTh (ts : List Th) (j : Nat) (s : St) (hj : j < s.us.length) : j < (doTh ts j s).us.length := by
  have : ∀ (xs : List Int) (k : Nat) (s : St), j < s.us.length → j < (flds ts j k xs s).us.length := by
    intro xs
    induction xs with
    | nil => intro k s h; exact h
    | cons y ys ih => intro k s h; exact ih (k + 1) _ (fld_len ts s y j k h).1
  exact this _ 0 s hj
theorem sim_goF (hO : Ok n ts) (hO' : Ok n' ts') (hS : Sim ts ts' ρ D) (f f' j : Nat) {s s' : St} (h : SR ts ts' ρ D s s' j 0) (hI : Inv n ts s) (hI' : Inv n' ts' s') (hj : j ≤ s.us.length) (hf : ts.length < f + j) (hf' : ts'.length < f' + j) :
    SR ts ts' ρ D (goF ts f j s) (goF ts' f' j s') (goF ts f j s).us.length 0 := by
  induction f generalizing f' j s s' with
  | zero => have := count hI; omega
  | succ f ih =>
    have hc' := count hI'
    have hl := h.len
    by_cases hlt : j < s.us.length
    · obtain ⟨g, rfl⟩ : ∃ g, f' = g + 1 := ⟨f' - 1, by omega⟩
      rw [goF_step _ _ _ _ hlt, goF_step _ _ _ _ (by omega)]
      exact ih g (j + 1) (sim_doTh hO' hS j h hI' hlt) (inv_doTh hO j hI hlt) (inv_doTh hO' j hI' (by omega)) (len_doTh ts j s hlt) (by omega) (by omega)
    · rw [goF_stop _ _ _ _ hlt, goF_stop _ _ _ _ (by omega)]
      obtain rfl : j = s.us.length := by omega
      exact h
theorem th_ext {us us' : List Th} (hl : us'.length = us.length) (h : ∀ p, p < us.length → th us' p = th us p) : us' = us := by
  apply List.ext_getElem hl
  intro p h1 h2
  have := h p h2
  simpa [th, List.getD, h1, h2] using this
theorem sim_rts (hO : Ok n ts) (hO' : Ok n' ts') (hS : Sim ts ts' ρ D) (xs xs' : List Int) {s s' : St} (h : SR ts ts' ρ D s s' 0 0) (hI : Inv n ts s) (hI' : Inv n' ts' s') (hl : xs'.length = xs.length) (hr : ∀ (q : Nat) (x x' : Int), xs[q]? = some x → xs'[q]? = some x' → Rel ts ts' ρ D x x') :
    SR ts ts' ρ D (rts ts s xs) (rts ts' s' xs') 0 0 ∧ rtw ts' s' xs' = rtw ts s xs := by
  induction xs generalizing s s' xs' with
  | nil =>
    cases xs' with
    | cons y ys => simp at hl
    | nil => exact ⟨h, rfl⟩
  | cons y ys ih =>
    cases xs' with
    | nil => simp at hl
    | cons y' ys' =>
      obtain ⟨h1, h2⟩ := sim_cw hS h hI' (hr 0 y y' rfl rfl) (.inr ⟨Nat.zero_le _, rfl⟩)
      obtain ⟨h3, h4⟩ := ih ys' h1 (inv_cw hO hI y) (inv_cw hO' hI' y') (by simpa using hl) (fun q x x' hx hx' => hr (q + 1) x x' hx hx')
      exact ⟨h3, by simp only [rtw]; rw [h2, h4]⟩
theorem sim_live (hO : Ok n ts) (hO' : Ok n' ts') (hS : Sim ts ts' ρ D) (xs xs' : List Int) (hl : xs'.length = xs.length) (hr : ∀ (q : Nat) (x x' : Int), xs[q]? = some x → xs'[q]? = some x' → Rel ts ts' ρ D x x') :
    liveT ts' xs' = liveT ts xs ∧ liveW ts' xs' = liveW ts xs := by
  have h0 : SR ts ts' ρ D ⟨[], []⟩ ⟨[], []⟩ 0 0 := ⟨rfl, fun i hi => by simp at hi, rfl, fun _ => rfl, fun _ => rfl, fun p q x x' hc => by omega, fun p q x x' _ hx => by simp [th] at hx⟩
  obtain ⟨h1, h2⟩ := sim_rts hO hO' hS xs xs' h0 (inv_nil n ts) (inv_nil n' ts') hl hr
  refine ⟨?_, h2⟩
  have h3 := sim_goF hO hO' hS (ts.length + 1) (ts'.length + 1) 0 h1 (inv_rts hO xs (inv_nil n ts)).1 (inv_rts hO' xs' (inv_nil n' ts')).1 (Nat.zero_le _) (by omega) (by omega)
  change SR ts ts' ρ D (liveS ts xs) (liveS ts' xs') (liveS ts xs).us.length 0 at h3
  refine th_ext h3.len (fun p hp => ?_)
  have hk := h3.kind p
  have hl2 := h3.lens p
  have hw : (th (liveS ts' xs').us p).l = (th (liveS ts xs).us p).l := by
    apply List.ext_getElem hl2
    intro q g1 g2
    exact h3.done p q _ _ (.inl hp) (List.getElem?_eq_getElem g2) (List.getElem?_eq_getElem g1)
  unfold liveT
  revert hk hw
  generalize th (liveS ts' xs').us p = a
  generalize th (liveS ts xs).us p = b
  intro hk hw
  cases a; cases b; simp at hk hw; rw [hk, hw]
end
/-! ### once more -/
theorem look_bare (us : List Th) (x : Int) : AW.look us (bareW x) = none ∧ bareW (bareW x) = bareW x := by
  have h26 : WP.toB 1 26 = false := by decide
  by_cases hb : WP.toB 1 x = true
  · have e : bareW x = 26 := by unfold bareW; rw [if_pos hb]
    rw [e]
    refine ⟨by unfold AW.look; rw [h26]; rfl, by unfold bareW; rw [h26]; rfl⟩
  · have e : bareW x = x := by unfold bareW; rw [if_neg hb]
    rw [e]
    exact ⟨by unfold AW.look; rw [if_neg hb], e⟩
def rho (s : St) (i : Nat) : Nat := (pos s.od i).getD 0
section
variable {n : Nat} {ts : List Th} {roots : List Int} {s : St}
theorem rel_phi (hO : Ok n ts) (h : Live n ts roots s) {x : Int} (hc : Cov ts s x) : Rel ts s.us (rho s) (· ∈ s.od) x (phi ts s x) := by
  cases hl : AW.look ts x with
  | none =>
    rw [phi_none s hl]
    have := look_bare s.us x
    exact .inr ⟨hl, this.1, this.2⟩
  | some i =>
    obtain ⟨p, hp⟩ := pos_isSome (hc i hl)
    rw [phi_some hl hp]
    refine .inl ⟨i, hc i hl, hl, ?_⟩
    have : rho s i = p := by unfold rho; rw [hp]; rfl
    rw [this]
    exact look_pl (ok hO h.inv) (by rw [h.inv.len]; exact (pos_some hp).1)
theorem sim_self (hO : Ok n ts) (h : Live n ts roots s) : Sim ts s.us (rho s) (· ∈ s.od) := by
  have at_ : ∀ i, i ∈ s.od → s.od[rho s i]? = some i := by
    intro i hi
    obtain ⟨p, hp⟩ := pos_isSome hi
    have : rho s i = p := by unfold rho; rw [hp]; rfl
    rw [this]; exact (pos_some hp).2
  refine ⟨fun i j hi hj e => ?_, fun i hi => (h.inv.same _ _ (at_ i hi)).1, fun i hi => (h.inv.same _ _ (at_ i hi)).2, fun i hi q x x' hx hx' => ?_⟩
  · have h1 := at_ i hi
    have h2 := at_ j hj
    rw [e, h2] at h1
    exact (Option.some.inj h1).symm
  · rw [h.done _ _ (at_ i hi), List.getElem?_map, hx] at hx'
    cases hx'
    exact rel_phi hO h (h.cov i hi x (List.mem_of_getElem? hx))
/-- What was copied, copied once more from some of the words. -/
theorem live_again (hO : Ok n ts) (h : Live n ts roots s) (xs : List Int) (hx : ∀ x ∈ xs, x ∈ roots) : liveT s.us (xs.map (phi ts s)) = liveT ts xs ∧ liveW s.us (xs.map (phi ts s)) = liveW ts xs := by
  refine sim_live hO (ok hO h.inv) (sim_self hO h) xs _ (by simp) (fun q x x' h1 h2 => ?_)
  rw [List.getElem?_map, h1] at h2
  cases h2
  exact rel_phi hO h (h.begin x (hx x (List.mem_of_getElem? h1)))
end
/-- To do it twice is to do it once. -/
theorem twice {n : Nat} {ts : List Th} (hO : Ok n ts) (roots : List Int) : liveT (liveT ts roots) (liveW ts roots) = liveT ts roots ∧ liveW (liveT ts roots) (liveW ts roots) = liveW ts roots := by
  have h := live hO roots
  have := live_again hO h roots (fun x hx => hx)
  rw [← h.words] at this
  exact this
theorem again_take {n : Nat} {ts : List Th} (hO : Ok n ts) (roots : List Int) (k : Nat) : liveT (liveT ts roots) ((liveW ts roots).take k) = liveT ts (roots.take k) ∧ liveT (liveT ts roots) ((liveW ts roots).drop k) = liveT ts (roots.drop k) := by
  have h := live hO roots
  have h1 := live_again hO h (roots.take k) (fun x hx => List.mem_of_mem_take hx)
  have h2 := live_again hO h (roots.drop k) (fun x hx => List.mem_of_mem_drop hx)
  rw [h.words, ← List.map_take, ← List.map_drop]
  exact ⟨h1.1, h2.1⟩
end MP
end Go.Proofs.Ytcfepiihjbbnaaa

/-
  A thing more behind what was copied: it is copied once more as before, and the thing with it. Condition: the old things are ones that may be.
-/
import Derived.Test.YtcfepiihjbbnaaaMoveTwice
namespace Go.Proofs.Ytcfepiihjbbnaaa
namespace MP
open Go.RowKit AP AW
/-- All of what was copied is reached. -/
theorem all_reached {n : Nat} {ts : List Th} (hO : Ok n ts) (roots : List Int) {i : Nat} (hi : i < (liveT ts roots).length) : R (liveT ts roots) (liveW ts roots) i := by
  have hO' := ok hO (live hO roots).inv
  change Ok n (liveT ts roots) at hO'
  have h := live hO' (liveW ts roots)
  refine (h.reach i).1 ?_
  by_cases hm : i ∈ (liveS (liveT ts roots) (liveW ts roots)).od
  · exact hm
  · exfalso
    have h1 := (fits h.inv hi hm).2
    have h2 : (liveS (liveT ts roots) (liveW ts roots)).us = liveT ts roots := (twice hO roots).1
    rw [h2] at h1
    omega
theorem kind_at {us : List Th} {x : Int} {p : Nat} (h : AW.look us x = some p) : kindN us x = (th us p).k := by
  unfold kindN; rw [h]
theorem look_app {T : List Th} (t : Th) {y : Int} {i : Nat} (h : AW.look T y = some i) : AW.look (T ++ [t]) y = some i := by
  unfold AW.look at h ⊢
  split at h
  · rename_i hb
    rw [if_pos hb, idx_append, if_neg ?_]
    · exact h
    · have := idx_lt h; omega
  · cases h
theorem phi_place {n : Nat} {ts : List Th} {roots : List Int} {s : St} (h : Live n ts roots s) {x : Int} (hc : Cov ts s x) : WP.toB 1 (phi ts s x) = false ∨ ∃ p, p < s.us.length ∧ phi ts s x = pl s.us p := by
  cases hl : AW.look ts x with
  | none =>
    left
    rw [phi_none s hl]
    unfold bareW
    split
    · decide
    · rename_i hb; simpa using hb
  | some i =>
    obtain ⟨p, hp⟩ := pos_isSome (hc i hl)
    exact .inr ⟨p, by rw [h.inv.len]; exact (pos_some hp).1, phi_some hl hp⟩
theorem rel_app {n : Nat} {ts : List Th} {roots : List Int} {s : St} (hO : Ok n ts) (h : Live n ts roots s) (t : Th) {x : Int} (hc : Cov ts s x) : Rel s.us (s.us ++ [t]) id (· < s.us.length) (phi ts s x) (phi ts s x) := by
  rcases phi_place h hc with hb | ⟨p, hp, e⟩
  · right
    have e1 : ∀ us, AW.look us (phi ts s x) = none := by intro us; unfold AW.look; rw [hb]; rfl
    exact ⟨e1 _, e1 _, rfl⟩
  · left
    have h1 := look_pl (ok hO h.inv) hp
    rw [← e] at h1
    exact ⟨p, hp, h1, look_app t h1⟩
theorem sim_app {n : Nat} {ts : List Th} {roots : List Int} {s : St} (hO : Ok n ts) (h : Live n ts roots s) (t : Th) : Sim s.us (s.us ++ [t]) id (· < s.us.length) := by
  refine ⟨fun i j _ _ e => e, fun i hi => ?_, fun i hi => ?_, fun i hi q x x' hx hx' => ?_⟩
  · simp only [id]; rw [th_append_old _ _ _ hi]
  · simp only [id]; rw [th_append_old _ _ _ hi]
  · simp only [id] at hx'
    rw [th_append_old _ _ _ hi, hx] at hx'
    cases hx'
    have hp : i < s.od.length := by rw [← h.inv.len]; exact hi
    have hd := h.done i _ (List.getElem?_eq_getElem hp)
    rw [hd, List.getElem?_map] at hx
    obtain ⟨z, hz, rfl⟩ := Option.map_eq_some_iff.1 hx
    exact rel_app hO h t (h.cov _ (List.getElem_mem hp) z (List.mem_of_getElem? hz))
/-- What is told of it. -/
theorem goes {n : Nat} {ts : List Th} (hO : Ok n ts) (roots : List Int) (t : Th) (hO2 : Ok n (liveT ts roots ++ [t])) (W : Int) (hlk : AW.look (liveT ts roots ++ [t]) W = some (liveT ts roots).length) :
    ∃ y, liveW (liveT ts roots ++ [t]) (liveW ts roots ++ [W]) = liveW ts roots ++ [y] ∧
      kindN (liveT (liveT ts roots ++ [t]) (liveW ts roots ++ [W])) y = t.k ∧
      sz (liveT (liveT ts roots ++ [t]) (liveW ts roots ++ [W])) = sz (liveT ts roots ++ [t]) := by
  have h := live hO roots
  obtain ⟨t1, t2⟩ := twice hO roots
  have hL := h.words
  have hT : liveT ts roots = (liveS ts roots).us := rfl
  have h2 := live hO2 (liveW ts roots ++ [W])
  -- the words
  have h0 : SR (liveT ts roots) (liveT ts roots ++ [t]) id (· < (liveT ts roots).length) ⟨[], []⟩ ⟨[], []⟩ 0 0 := ⟨rfl, fun i hi => by simp at hi, rfl, fun _ => rfl, fun _ => rfl, fun p q x x' hc => by omega, fun p q x x' _ hx => by simp [th] at hx⟩
  have h3 := (sim_rts (ok hO h.inv) hO2 (sim_app hO h t) (liveW ts roots) (liveW ts roots) h0 (inv_nil n _) (inv_nil n _) rfl (fun q x x' hx hx' => by
    rw [hx] at hx'; cases hx'
    rw [hL, List.getElem?_map] at hx
    obtain ⟨z, hz, rfl⟩ := Option.map_eq_some_iff.1 hx
    exact rel_app hO h t (h.begin z (List.mem_of_getElem? hz)))).2
  have h4 : rtw (liveT ts roots) ⟨[], []⟩ (liveW ts roots) = liveW ts roots := t2
  refine ⟨cwW (liveT ts roots ++ [t]) (rts (liveT ts roots ++ [t]) ⟨[], []⟩ (liveW ts roots)) W, ?_, ?_, ?_⟩
  · rw [← hT] at h3
    have h5 := h3.trans h4
    unfold liveW at h5 ⊢
    rw [rtw_append, h5]
  · have h5 := h2.words
    have h6 : liveW (liveT ts roots ++ [t]) (liveW ts roots ++ [W]) = rtw (liveT ts roots ++ [t]) ⟨[], []⟩ (liveW ts roots) ++ [cwW (liveT ts roots ++ [t]) (rts (liveT ts roots ++ [t]) ⟨[], []⟩ (liveW ts roots)) W] := rtw_append _ _ _ _
    rw [h6, List.map_append] at h5
    have h7 := (List.append_inj' h5 (by simp)).2
    simp only [List.map_cons, List.map_nil, List.cons.injEq, and_true] at h7
    rw [h7]
    obtain ⟨p, hp⟩ := pos_isSome (h2.begin _ (List.mem_append.2 (.inr (List.mem_singleton.2 rfl))) _ hlk)
    rw [phi_some hlk hp]
    have h8 := look_pl (ok hO2 h2.inv) (i := p) (by rw [h2.inv.len]; exact (pos_some hp).1)
    refine (kind_at h8).trans ?_
    rw [(h2.inv.same p _ (pos_some hp).2).1, th_append_new]
  · have h9 : sz (liveT (liveT ts roots ++ [t]) (liveW ts roots ++ [W])) = wts (liveT ts roots ++ [t]) _ := sz_us h2.inv
    rw [h9, ← wts_range]
    refine wts_same _ h2.inv.nodup List.nodup_range (fun i => ?_)
    rw [h2.reach, List.mem_range]
    constructor
    · intro hr
      exact h2.inv.low i ((h2.reach i).2 hr)
    · intro hi
      by_cases e : i = (liveT ts roots).length
      · subst e
        exact .root (List.mem_append.2 (.inr (List.mem_singleton.2 rfl))) hlk
      · have hi2 : i < (liveT ts roots).length := by simp at hi; omega
        have hr := all_reached hO roots hi2
        clear hi e hi2
        induction hr with
        | root hx hl => exact .root (List.mem_append.2 (.inl hx)) (look_app t hl)
        | step hr' hx hl ih =>
          have hlt := (live (ok hO h.inv) (liveW ts roots)).inv.low _ (((live (ok hO h.inv) (liveW ts roots)).reach _).2 hr')
          refine .step ih ?_ (look_app t hl)
          rw [← hT] at hlt
          rw [th_append_old _ _ _ hlt]; exact hx
theorem goes_W {n : Nat} {T : List Th} (t : Th) (hO2 : Ok n (T ++ [t])) : AW.look (T ++ [t]) (WP.ofW 1 (sz T)) = some T.length := by
  have := look_pl hO2 (i := T.length) (by simp)
  rw [pl_len] at this; exact this
end MP
end Go.Proofs.Ytcfepiihjbbnaaa

/-
  Two maps of words to words, there and back, over the things that were gone through. Condition: the old things are ones that may be, the words lie in 64 bits.
-/
import Derived.Test.YtcfepiihjbbnaaaMoveVis
import Derived.Maps.OwnSet
namespace Go.Proofs.Ytcfepiihjbbnaaa
open Go.Maps Go.WideShapes
namespace MP
open Go.RowKit AP AW
def kw (x : Int) : Lit := .int .u64 x
theorem kw_inj {a b : Int} (h : kw a = kw b) : a = b := by
  unfold kw at h; injection h
theorem kw_is (x : Int) : WideAt.IsKeyLit (kw x) := trivial
/-- A map of words to words as read: at each word what f says. -/
structure TabW (D : DataW Unit) (f : Int → Option Int) : Prop where
  isMap : IsMap D
  has : ∀ x, WP.U x → Maps.has D (kw x) = (f x).isSome
  at_ : ∀ x, WP.U x → D.atKey (kw x) (.lit (.int .u64 0)) = .lit (.int .u64 ((f x).getD 0))
theorem TabW.none_ : TabW (.map []) (fun _ => none) := ⟨isMap_empty, fun _ _ => rfl, fun _ _ => rfl⟩
theorem TabW.put {D : DataW Unit} {f g : Int → Option Int} (h : TabW D f) (x y : Int) (hg : ∀ z, WP.U z → g z = if z = x then some y else f z) : TabW (D.put (kw x) (.lit (.int .u64 y))) g := by
  refine ⟨h.isMap.put _ _, fun z hz => ?_, fun z hz => ?_⟩
  · rw [hg z hz]
    by_cases e : z = x
    · subst e
      rw [has_put_same h.isMap (kw_is _)]; simp
    · rw [has_put_other (fun e' => e (kw_inj e')), h.has z hz]; simp [e]
  · rw [hg z hz]
    by_cases e : z = x
    · subst e
      rw [atKey_put_same h.isMap (kw_is _)]; simp
    · rw [atKey_put_other (fun e' => e (kw_inj e')), h.at_ z hz]; simp [e]
theorem TabW.congr {D : DataW Unit} {f g : Int → Option Int} (h : TabW D f) (e : ∀ x, WP.U x → f x = g x) : TabW D g := ⟨h.isMap, fun s hs => by rw [h.has s hs, e s hs], fun s hs => by rw [h.at_ s hs, e s hs]⟩
/-- A word that a thing stands at is its place. -/
theorem look_place {ts : List Th} {x y : Int} {i : Nat} (hx : WP.U x) (hy : WP.U y) (h : AW.look ts x = some i) (k : AW.look ts y = some i) : x = y := by
  unfold AW.look at h k
  split at h
  · rename_i bx
    split at k
    · rename_i by_
      obtain ⟨_, h2, _⟩ := idx_some h
      obtain ⟨_, k2, _⟩ := idx_some k
      have ex := (WP.of_to 1 x hx bx).2
      have ey := (WP.of_to 1 y hy by_).2
      have nx := (WP.ofB_iff 1 _).1 (WP.of_to 1 x hx bx).1
      have ny := (WP.ofB_iff 1 _).1 (WP.of_to 1 y hy by_).1
      have : WP.toN 1 x = WP.toN 1 y := by omega
      rw [← ex, ← ey, this]
    · cases k
  · cases h
section
variable {n : Nat} {ts : List Th} {roots : List Int} {s : St} {V : List Nat}
def toF (ts : List Th) (s : St) (V : List Nat) (x : Int) : Option Int :=
  match AW.look ts x with
  | none => none
  | some i => if i ∈ V then some (phi ts s x) else none
def backF (ts : List Th) (s : St) (V : List Nat) (y : Int) : Option Int :=
  match AW.look s.us y with
  | none => none
  | some p => match s.od[p]? with
    | none => none
    | some i => if i ∈ V then some (pl ts i) else none
theorem toF_some {x : Int} {i : Nat} (h : AW.look ts x = some i) : toF ts s V x = if i ∈ V then some (phi ts s x) else none := by unfold toF; rw [h]
theorem phi_look (hO : Ok n ts) (h : Live n ts roots s) {x : Int} {i : Nat} (hl : AW.look ts x = some i) (hc : Cov ts s x) : ∃ p, AW.look s.us (phi ts s x) = some p ∧ s.od[p]? = some i ∧ p < s.us.length := by
  obtain ⟨p, hp⟩ := pos_isSome (hc i hl)
  obtain ⟨h1, h2⟩ := pos_some hp
  have hpu : p < s.us.length := by rw [h.inv.len]; exact h1
  rw [phi_some hl hp]
  exact ⟨p, look_pl (ok hO h.inv) hpu, h2, hpu⟩
theorem backF_some (hO : Ok n ts) (h : Live n ts roots s) {x : Int} {i : Nat} (hx : WP.U x) (hl : AW.look ts x = some i) (hc : Cov ts s x) : backF ts s V (phi ts s x) = if i ∈ V then some x else none := by
  obtain ⟨p, h1, h2, _⟩ := phi_look hO h hl hc
  have e : pl ts i = x := look_place (pl_u ts i) hx (look_pl hO (look_lt hl)) hl
  unfold backF
  rw [h1]
  simp only [h2, e]
theorem phi_bare {x : Int} (hl : AW.look ts x = none) : AW.look s.us (phi ts s x) = none := by
  rw [phi_none s hl]
  unfold AW.look bareW
  by_cases hb : WP.toB 1 x = true
  · rw [if_pos hb]; rfl
  · rw [if_neg hb, if_neg hb]
theorem toF_put {x : Int} {i : Nat} (hx : WP.U x) (hl : AW.look ts x = some i) (z : Int) (hz : WP.U z) : toF ts s (V ++ [i]) z = if z = x then some (phi ts s x) else toF ts s V z := by
  by_cases e : z = x
  · subst e; rw [toF_some hl]; simp
  · rw [if_neg e]
    unfold toF
    cases hk : AW.look ts z with
    | none => rfl
    | some j =>
      have hji : j ≠ i := fun e' => e (look_place hz hx (e' ▸ hk) hl)
      simp [hji]
theorem backF_put (hO : Ok n ts) (h : Live n ts roots s) {x : Int} {i : Nat} (hx : WP.U x) (hl : AW.look ts x = some i) (hc : Cov ts s x) (z : Int) (hz : WP.U z) : backF ts s (V ++ [i]) z = if z = phi ts s x then some x else backF ts s V z := by
  by_cases e : z = phi ts s x
  · subst e; rw [backF_some hO h hx hl hc]; simp
  · rw [if_neg e]
    unfold backF
    cases hk : AW.look s.us z with
    | none => rfl
    | some q =>
      simp only
      cases hj : s.od[q]? with
      | none => rfl
      | some j =>
        have hji : j ≠ i := by
          intro e'
          subst e'
          obtain ⟨p, h1, h2, h3⟩ := phi_look hO h hl hc
          have : q = p := (List.getElem?_inj (by exact (List.getElem?_eq_some_iff.1 hj).1) h.inv.nodup).1 (hj.trans h2.symm)
          subst this
          have hu : WP.U (phi ts s x) := by
            obtain ⟨p', hp'⟩ := pos_isSome (hc _ hl)
            rw [phi_some hl hp']; exact pl_u _ _
          exact e (look_place hz hu hk h1)
        simp [hji]
theorem toF_nil (x : Int) : toF ts s [] x = none := by
  unfold toF
  cases AW.look ts x <;> simp
theorem backF_nil (y : Int) : backF ts s [] y = none := by
  unfold backF
  cases AW.look s.us y with
  | none => rfl
  | some p => cases h : s.od[p]? <;> simp [h]
theorem phi_u (x : Int) (hx : WP.U x) (hc : Cov ts s x) : WP.U (phi ts s x) := by
  cases hl : AW.look ts x with
  | none =>
    rw [phi_none s hl]
    unfold bareW
    split
    · unfold WP.U; omega
    · exact hx
  | some i =>
    obtain ⟨p, hp⟩ := pos_isSome (hc i hl)
    rw [phi_some hl hp]; exact pl_u _ _
/-- All that is to do has been brought. -/
theorem Vis.cov (h : Live n ts roots s) {todo : List Int} (k : Vis ts roots V todo) : ∀ x ∈ todo, Cov ts s x := fun x hx i hi => (h.reach i).2 ((k.tds x hx).2 i hi)
/-- The words of a thing that was brought. -/
theorem words_of (hO : Ok n ts) (h : Live n ts roots s) {x : Int} {i : Nat} (hl : AW.look ts x = some i) (hc : Cov ts s x) : ∃ p, AW.look s.us (phi ts s x) = some p ∧ (th s.us p).k = (th ts i).k ∧ (th s.us p).l = (th ts i).l.map (phi ts s) ∧ p < s.us.length := by
  obtain ⟨p, h1, h2, h3⟩ := phi_look hO h hl hc
  exact ⟨p, h1, (h.inv.same p i h2).1, h.done p i h2, h3⟩
end
end MP
end Go.Proofs.Ytcfepiihjbbnaaa

/-
  Layer 8 in plain words: of which numbers quotes are; where forms are. No condition.
-/
import Derived.Test.YtpbfgfadickgbaaExpTp1
namespace Go.Proofs.Ytpbfgfadickgbaa
namespace EX
open LX RX SX
def Quo (N : Nat) (f : Fm) : Prop := f.kind = 3 → 0 ≤ f.n ∧ f.n < (N : Int)
def QuoPl (N : Nat) : Pl → Prop
  | .mk f _ => Quo N f
  | _ => True
theorem quo_ne {N : Nat} {k a n : Int} {s : ByteArray} {p : List ByteArray} {l : List Nat} (h : k ≠ 3) : Quo N ⟨k, a, n, s, p, l⟩ := fun e => absurd e h
theorem quo_choose (N : Nat) (a : Int) (x y z : Pt) : QuoPl N (choosePl a x y z) := quo_ne (by decide)
theorem quo_truth (N : Nat) (a n : Int) : QuoPl N (truth a n) := quo_ne (by decide)
theorem quo_function (N : Nat) (a : Int) (ns : List ByteArray) (b : Pt) : QuoPl N (function a ns b) := quo_ne (by decide)
theorem quo_definition (N : Nat) (a : Int) (s : ByteArray) (v : Pt) : QuoPl N (definition a s v) := quo_ne (by decide)
theorem quo_call (N : Nat) (a : Int) (ns : List ByteArray) (b : Pt) (vs : List Pt) : QuoPl N (call a ns b vs) := quo_ne (by decide)
theorem quo_nested (N : Nat) (a : Int) (names : List ByteArray) (vs : List Nat) (b : Pt) : QuoPl N (nestedP a names vs b) := by
  match names, vs with
  | [], _ => trivial
  | _ :: _, [] => trivial
  | n :: ns, v :: vs => exact quo_call _ _ _ _ _
theorem quo_and (N : Nat) (a : Int) (l : List Nat) : QuoPl N (andP a l) := by
  match l with
  | [] => exact quo_truth _ _ _
  | [x] => trivial
  | x :: y :: l => exact quo_choose _ _ _ _ _
theorem quo_or (N : Nat) (a : Int) (l : List Nat) : QuoPl N (orP a l) := by
  match l with
  | [] => exact quo_truth _ _ _
  | [x] => trivial
  | x :: y :: l => exact quo_call _ _ _ _ _
theorem quo_cond (N : Nat) (ns : List Nd) (a : Int) (l : List Nat) : QuoPl N (condP ns a l) := by
  match l with
  | [] => exact quo_truth _ _ _
  | c :: cs =>
    unfold condP
    simp only []
    exact ite_of (QuoPl N) (fun _ => trivial) fun _ => ite_of (QuoPl N) (fun _ => quo_choose _ _ _ _ _) fun _ => ite_of (QuoPl N) (fun _ => trivial) fun _ => trivial
theorem quo_list {ns : List Nd} (d : Nd) (hin : ∀ i ∈ d.l, i < ns.length) (top : Bool) : QuoPl ns.length (listP ns d top) := by
  unfold listP
  refine ite_of (QuoPl ns.length) (fun _ => trivial) fun _ => ?_
  refine ite_of (QuoPl ns.length) (fun _ => ?_) fun _ => quo_ne (by decide)
  have hr : ∀ i ∈ d.l.drop 1, i < ns.length := fun i hi => hin i (mem_drop1 hi)
  generalize d.l.drop 1 = r at hr
  refine shape_of (QuoPl ns.length) trivial (fun h => ?_) (fun _ _ => quo_choose _ _ _ _ _) ?_ ?_ (fun _ => trivial) ?_ ?_ ?_ (fun _ => quo_cond _ _ _ _) (quo_and _ _ _) (quo_or _ _ _) (fun _ => quo_choose _ _ _ _ _) (fun _ => quo_choose _ _ _ _ _)
  · intro _
    have h1 : r.getD 0 0 < ns.length := hr _ (mem_getD (by omega))
    show 0 ≤ ((r.getD 0 0 : Nat) : Int) ∧ ((r.getD 0 0 : Nat) : Int) < _
    omega
  · intro _
    unfold lambdaP
    simp only []
    split
    · trivial
    · exact ite_of (QuoPl ns.length) (fun _ => quo_function _ _ _ _) fun _ => trivial
  · intro _
    unfold setP
    split
    · trivial
    · exact quo_ne (by decide)
  · intro _
    unfold defineP
    refine ite_of (QuoPl ns.length) (fun _ => trivial) fun _ => ite_of (QuoPl ns.length) (fun _ => ?_) fun _ => ?_
    · unfold defineF
      split
      · exact quo_definition _ _ _ _
      · trivial
    · split
      · trivial
      · exact ite_of (QuoPl ns.length) (fun _ => trivial) fun _ => quo_definition _ _ _ _
  · intro _
    unfold letP
    split
    · trivial
    · split
      · trivial
      · exact quo_call _ _ _ _ _
  · intro _
    unfold starP
    split
    · trivial
    · split
      · trivial
      · exact quo_nested _ _ _ _ _
theorem quo_plan {ns : List Nd} (hok : Ok ns) (i : Nat) (top : Bool) : QuoPl ns.length (plan ns i top) := by
  unfold plan
  simp only []
  refine ite_of (QuoPl ns.length) (fun _ => quo_ne (by decide)) fun _ => ?_
  refine ite_of (QuoPl ns.length) (fun _ => quo_ne (by decide)) fun _ => ?_
  refine ite_of (QuoPl ns.length) (fun _ => ?_) fun _ => quo_list _ (fun p hp => (kid hok hp).2) top
  exact ite_of (QuoPl ns.length) (fun _ => trivial) fun _ => quo_ne (by decide)
theorem quo_ev {ns : List Nd} (hok : Ok ns) (p : Pt) : QuoPl ns.length (ev ns p) := by
  cases p with
  | top i => exact quo_plan hok i true
  | dat i => exact quo_plan hok i false
  | seq a l => exact quo_ne (by decide)
  | tr a n => exact quo_truth _ _ _
  | kept a => exact quo_ne (by decide)
  | fn a nm b => exact quo_function _ _ _ _
  | nested a nm vs b => exact quo_nested _ _ _ _ _
  | cond a l => exact quo_cond _ _ _ _
  | and a l => exact quo_and _ _ _
  | or a l => exact quo_or _ _ _
  | orb a l => exact quo_choose _ _ _ _ _
theorem runs_quo {N : Nat} {F : Pt → List Fm → Except Int (List Fm × Nat)} (hF : ∀ p st st' k, F p st = .ok (st', k) → (∀ x ∈ st, Quo N x) → ∀ x ∈ st', Quo N x) :
    ∀ (ps : List Pt) (st st' : List Fm) (l l' : List Nat), runs F ps st l = .ok (st', l') → (∀ x ∈ st, Quo N x) → ∀ x ∈ st', Quo N x := by
  intro ps
  induction ps with
  | nil =>
    intro st st' l l' e h
    simp only [runs, Except.ok.injEq, Prod.mk.injEq] at e
    rw [← e.1]; exact h
  | cons p ps ih =>
    intro st st' l l' e h
    unfold runs at e
    cases hr : F p st with
    | error a => rw [hr] at e; cases e
    | ok r =>
      obtain ⟨s1, k⟩ := r
      rw [hr] at e
      exact ih s1 st' _ _ e (hF p st s1 k hr h)
theorem run_quo {ns : List Nd} (hok : Ok ns) : ∀ (f : Nat) (p : Pt) (st st' : List Fm) (k : Nat), run ns f p st = .ok (st', k) → (∀ x ∈ st, Quo ns.length x) → ∀ x ∈ st', Quo ns.length x := by
  intro f
  induction f with
  | zero => intro p st st' k e; cases e
  | succ f ih =>
    intro p st st' k e h
    have hq := quo_ev hok p
    unfold run at e
    generalize ev ns p = pl at hq e
    cases pl with
    | bad a => cases e
    | ins q => exact ih q st st' k e h
    | mk fm ps =>
      unfold onPl at e
      simp only at e
      cases hr : runs (run ns f) ps st [] with
      | error a => rw [hr] at e; cases e
      | ok r =>
        obtain ⟨s1, l⟩ := r
        rw [hr] at e
        simp only [Except.ok.injEq, Prod.mk.injEq] at e
        obtain ⟨rfl, rfl⟩ := e
        intro x hx
        rcases List.mem_append.1 hx with hx | hx
        · exact runs_quo ih ps st s1 [] l hr h x hx
        · rw [List.mem_singleton.1 hx]; exact hq
theorem tops_quo {ns : List Nd} (hok : Ok ns) (f : Nat) : ∀ (l : List Nat) (st st' : List Fm) (t t' : List Nat), runTops ns f l st t = .ok (st', t') → (∀ x ∈ st, Quo ns.length x) → ∀ x ∈ st', Quo ns.length x := by
  intro l
  induction l with
  | nil => intro st st' t t' e h; simp only [runTops, Except.ok.injEq, Prod.mk.injEq] at e; rw [← e.1]; exact h
  | cons i l ih =>
    intro st st' t t' e h
    unfold runTops at e
    cases hr : run ns f (.top i) st with
    | error a => rw [hr] at e; cases e
    | ok r =>
      obtain ⟨s1, k⟩ := r
      rw [hr] at e
      exact ih s1 st' _ _ e (run_quo hok f _ st s1 k hr h)
/-- Where forms are: where data are. -/
theorem tops_at {ns : List Nd} (hok : Ok ns) {Q : Int → Prop} (h : ∀ i, i < ns.length → Q (ndAt ns i).at_) {f : Nat} {l : List Nat} (hl : ∀ i ∈ l, i < ns.length ∧ wt ns (.top i) ≤ f) {st : List Fm} {t : List Nat} (e : runTops ns f l [] [] = .ok (st, t)) : ∀ x ∈ st, Q x.at_ := by
  have := tops_E (A := fun x _ => Q x) (rows_self h) hok (E := 0) (pre := []) f l [] [] [] [] hl ⟨rfl, [], rfl, rfl, fun k hk => absurd hk (by simp)⟩
  have e2 : l.map (· + 0) = l := by simp
  rw [e2, List.map_nil, List.nil_append, e] at this
  obtain ⟨⟨_, m, e3, e4, e5⟩, _⟩ := this
  intro x hx
  obtain ⟨k, hk, rfl⟩ := List.getElem_of_mem hx
  exact (e5 k hk (by have : m.length = st.length := e4; omega)).fm.at_
/-- What a text's forms are: where, of which numbers, how many. -/
structure FormsOf (s : ByteArray) (r : Rd) (fs : List Fm) (ts : List Nat) : Prop where
  at_ : ∀ x ∈ fs, 0 ≤ x.at_ ∧ x.at_ < s.size
  quo : ∀ x ∈ fs, Quo r.row.length x
  len : fs.length ≤ 32 * s.size
  tlen : ts.length = r.tops.length
  made : AllF [] fs
  one : ∀ a, cnt fs a + ts.count a = if a < fs.length then 1 else 0
theorem forms_of {s : ByteArray} {r : Rd} {fs : List Fm} {ts : List Nat} (hR : read s = .ok r) (h : expand r.row r.tops = .ok (fs, ts)) : FormsOf s r fs ts := by
  have hok := read_ok_data hR
  have hI := (read_plain hR).1
  obtain ⟨m, ks, e1, e2, h3, h4⟩ := runTops_made _ _ _ _ _ _ h
  rw [List.nil_append] at e1 e2
  subst e1 e2
  have hl := runTops_len hok _ _ _ _ _ _ h
  have hw := sum_wt r.row r.tops
  rw [read_T hR] at hw
  have h2 := read_len hR
  refine ⟨tops_at hok (Q := fun x => 0 ≤ x ∧ x < s.size) (fun i hi => ?_) (fun i hi => read_wt hR i hi) h, tops_quo hok _ _ _ _ _ _ h (fun x hx => by cases hx), ?_, ?_, h3, fun a => ?_⟩
  · have e : ndAt r.row i = r.row[i] := by
      unfold ndAt
      rw [List.getD_eq_getElem?_getD, List.getElem?_eq_getElem hi]; rfl
    rw [e]
    obtain ⟨g1, g2⟩ := hI.good _ (List.getElem_mem hi)
    exact ⟨g1.1, g2⟩
  · have := hl.1
    simp only [List.length_nil] at this
    omega
  · have := hl.2
    simp only [List.length_nil] at this
    omega
  · have := h4 a
    simpa using this
end EX
end Go.Proofs.Ytpbfgfadickgbaa

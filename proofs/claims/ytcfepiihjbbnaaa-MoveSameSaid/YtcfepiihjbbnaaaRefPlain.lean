/-
  The cells of the document's things (where, kind, words) in a row, and what a search by halves finds. No condition.
-/
import Derived.Test.YtcfepiihjbbnaaaArenaKeep
namespace Go.Proofs.Ytcfepiihjbbnaaa
open Go.RowKit
namespace RP
open AW
/-- The cells of the things, the first of which lies at a. -/
def rc : Nat → List AP.Th → List Value → List Value
  | a, t :: ts, h :: hs => .int .i64 a :: .int .i64 t.k :: h :: rc (a + (t.l.length + 1)) ts hs
  | _, _, _ => []
theorem rc_len (a : Nat) (ts : List AP.Th) (hs : List Value) (h : hs.length = ts.length) : (rc a ts hs).length = ts.length * 3 := by
  induction ts generalizing a hs with
  | nil => cases hs <;> simp [rc] at h ⊢
  | cons t ts ih =>
    cases hs with
    | nil => simp at h
    | cons x hs => simp only [rc, List.length_cons]; rw [ih _ _ (by simpa using h)]; omega
theorem rc_at (a : Nat) (ts : List AP.Th) (hs : List Value) (h : hs.length = ts.length) (i : Nat) (hi : i < ts.length) :
    (rc a ts hs)[i * 3]? = some (.int .i64 ((a + AP.sz (ts.take i) : Nat) : Int)) ∧ (rc a ts hs)[i * 3 + 1]? = some (.int .i64 (AP.th ts i).k) ∧ (rc a ts hs)[i * 3 + 2]? = hs[i]? := by
  induction ts generalizing a hs i with
  | nil => simp at hi
  | cons t ts ih =>
    cases hs with
    | nil => simp at h
    | cons x hs =>
      cases i with
      | zero => simp [rc, AP.sz, AP.th_zero]
      | succ i =>
        have h3 : (i + 1) * 3 = i * 3 + 3 := by omega
        obtain ⟨e1, e2, e3⟩ := ih (a + (t.l.length + 1)) hs (by simpa using h) i (by simpa using hi)
        rw [h3]
        refine ⟨?_, ?_, ?_⟩
        · simp only [rc, List.getElem?_cons_succ]
          rw [e1]; simp only [List.take_succ_cons, AP.sz]
          rw [show a + (t.l.length + 1) + AP.sz (ts.take i) = a + (t.l.length + 1 + AP.sz (ts.take i)) from by omega]
        · rw [show i * 3 + 3 + 1 = i * 3 + 1 + 3 from by omega]
          simp only [rc, List.getElem?_cons_succ]
          rw [e2, AP.th_cons]
        · rw [show i * 3 + 3 + 2 = i * 3 + 2 + 3 from by omega]
          simp only [rc, List.getElem?_cons_succ]
          exact e3
theorem rc_snoc (a : Nat) (ts : List AP.Th) (hs : List Value) (h : hs.length = ts.length) (t : AP.Th) (x : Value) :
    rc a (ts ++ [t]) (hs ++ [x]) = rc a ts hs ++ [.int .i64 ((a + AP.sz ts : Nat) : Int), .int .i64 t.k, x] := by
  induction ts generalizing a hs with
  | nil =>
    cases hs with
    | nil => simp [rc, AP.sz]
    | cons y hs => simp at h
  | cons u ts ih =>
    cases hs with
    | nil => simp at h
    | cons y hs =>
      simp only [List.cons_append, rc]
      rw [ih _ _ (by simpa using h)]
      simp only [AP.sz]
      rw [show a + (u.l.length + 1) + AP.sz ts = a + (u.l.length + 1 + AP.sz ts) from by omega]
theorem rc_put (a : Nat) (ts : List AP.Th) (hs : List Value) (i j : Nat) (x : Int) : rc a (AP.put ts i j x) hs = rc a ts hs := by
  induction ts generalizing a hs i with
  | nil => simp [AP.put]
  | cons t ts ih =>
    cases hs with
    | nil => cases i <;> simp [AP.put_cons_zero, AP.put_cons_succ, rc]
    | cons y hs =>
      cases i with
      | zero => rw [AP.put_cons_zero]; simp [rc]
      | succ i => rw [AP.put_cons_succ]; simp [rc, ih]
/-! ### where things begin -/
def off (ts : List AP.Th) (i : Nat) : Nat := AP.sz (ts.take i)
theorem off_lt (ts : List AP.Th) {i j : Nat} (h : i < j) (hj : j ≤ ts.length) : off ts i < off ts j := by
  unfold off
  induction ts generalizing i j with
  | nil => simp at hj; omega
  | cons t ts ih =>
    cases j with
    | zero => omega
    | succ j =>
      cases i with
      | zero => simp only [List.take_zero, List.take_succ_cons, AP.sz]; omega
      | succ i =>
        simp only [List.take_succ_cons, AP.sz]
        have := ih (i := i) (j := j) (by omega) (by simpa using hj)
        omega
theorem idx_of_off {ts : List AP.Th} {a i : Nat} (hi : i < ts.length) (h : off ts i = a) : AP.idx ts a = some i := by
  rw [← h]; exact AP.idx_off ts i hi
theorem idx_none {ts : List AP.Th} {a lo : Nat} (h1 : ∀ i, i < lo → off ts i < a) (h2 : ∀ i, lo ≤ i → i < ts.length → a ≤ off ts i) (h3 : lo < ts.length → off ts lo ≠ a) : AP.idx ts a = none := by
  cases h : AP.idx ts a with
  | none => rfl
  | some i =>
    exfalso
    obtain ⟨e1, e2, _⟩ := AP.idx_some h
    have e3 : a = off ts i := e2
    rcases Nat.lt_or_ge i lo with hl | hl
    · have := h1 i hl; omega
    · rcases Nat.lt_or_ge lo i with hl2 | hl2
      · have h4 := h2 lo (Nat.le_refl _) (by omega)
        have := off_lt ts hl2 (by omega)
        omega
      · have : lo = i := by omega
        subst this
        exact h3 e1 e3.symm
/-- What the document's search answers. -/
def ridx (ts : List AP.Th) (x : Int) : Int := match AW.look ts x with | none => -1 | some i => i
theorem ridx_none {ts : List AP.Th} {x : Int} (h : AW.look ts x = none) : ridx ts x = -1 := by unfold ridx; rw [h]
theorem ridx_some {ts : List AP.Th} {x : Int} {i : Nat} (h : AW.look ts x = some i) : ridx ts x = i := by unfold ridx; rw [h]
end RP
end Go.Proofs.Ytcfepiihjbbnaaa

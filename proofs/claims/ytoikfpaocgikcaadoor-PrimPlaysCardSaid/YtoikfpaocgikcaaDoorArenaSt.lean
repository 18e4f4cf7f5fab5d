/-
  Both arenas, the code's and the document's, beside each other, with the acts: what a step of one leaves of the other. Condition: they lie apart, as made.
-/
import Derived.Test.YtoikfpaocgikcaaDoorRefAll
import Derived.Test.YtoikfpaocgikcaaDoorArenaFew
namespace Go.Proofs.YtoikfpaocgikcaaDoor
open Go.RowKit
namespace AL
open AW RP RW
/-- Where things lie: the code's arena at p, g, h, the document's at q, all made before B0, the acts' row between B0 and base. -/
structure Lay (w : World) (B0 base p g h q : Nat) : Prop where
  wp : w.heap.size ≤ p
  wg : w.heap.size ≤ g
  wh : w.heap.size ≤ h
  wq : w.heap.size ≤ q
  pB : p < B0
  gB : g < B0
  hB : h < B0
  qB : q < B0
  Bb : B0 ≤ base
  nq : p ≠ q ∧ g ≠ q ∧ h ≠ q
section
variable {w wr w' : World} {B0 base p g h q n : Nat} {fv : Value} {fl : List Act} {ts : List AP.Th} {v : Value} {hs : List Value}
theorem rr_a (L : Lay w B0 base p g h q) (s : Rr wr base q n v ts hs) (f : MM.Far [p, g, h] wr w') : Rr w' base q n v ts hs :=
  s.far f (fun b hb => by
    have h1 := L.pB; have h2 := L.gB; have h3 := L.hB; have h4 := L.Bb; have h5 := L.nq
    simp only [List.mem_cons, List.not_mem_nil, or_false] at hb
    rcases hb with rfl | rfl | rfl
    · exact ⟨h5.1, .inl (by omega)⟩
    · exact ⟨h5.2.1, .inl (by omega)⟩
    · exact ⟨h5.2.2, .inl (by omega)⟩)
theorem far_a (L : Lay w B0 base p g h q) (s : MM.Far [] w wr) (f : MM.Far [p, g, h] wr w') : MM.Far [] w w' :=
  s.trans f (fun b hb hl => by
    have h1 := L.wp; have h2 := L.wg; have h3 := L.wh
    simp at hb; omega)
theorem ar_r (L : Lay w B0 base p g h q) (s : Ar wr p g h n ts) (f : Fr q base wr w') : Ar w' p g h n ts := by
  obtain ⟨S, f, hS⟩ := f
  have h1 := L.pB; have h2 := L.gB; have h3 := L.hB; have h4 := L.Bb; have h5 := L.nq
  exact s.far f (fun hm => by have := hS _ hm; omega) (fun hm => by have := hS _ hm; omega) (fun hm => by have := hS _ hm; omega)
theorem far_r (L : Lay w B0 base p g h q) (s : MM.Far [] w wr) (f : Fr q base wr w') : MM.Far [] w w' := by
  obtain ⟨S, f, hS⟩ := f
  have h1 := L.wq; have h2 := L.wp; have h3 := L.pB; have h4 := L.Bb
  exact s.trans f (fun b hb hl => by have := hS _ hb; omega)
end
theorem flat_at (fl : List Act) {k : Nat} (hk : k < fl.length) {j : Nat} {u : Value} (hu : (fl[k]).cells[j]? = some u) : (flat fl)[k * 6 + j]? = some u := by
  induction fl generalizing k with
  | nil => simp at hk
  | cons t fl ih =>
    have hc : t.cells.length = 6 := rfl
    cases k with
    | zero =>
      have hj : j < 6 := by
        have := (List.getElem?_eq_some_iff.1 hu).1
        exact this
      simp only [flat, List.flatMap_cons]
      rw [List.getElem?_append_left (by omega)]
      simpa using hu
    | succ k =>
      have := ih (k := k) (by simpa using hk) (by simpa using hu)
      simp only [flat, List.flatMap_cons] at this ⊢
      rw [List.getElem?_append_right (by omega), hc, show (k + 1) * 6 + j - 6 = k * 6 + j from by omega]
      exact this
/-- What is known of an act that few has left. -/
structure Fine (w : World) (t : Act) : Prop where
  hk : 0 ≤ t.k ∧ t.k ≤ 255
  hn : -9223372036854775808 ≤ t.n ∧ t.n ≤ 9223372036854775807
  hi : -9223372036854775808 ≤ t.i ∧ t.i ≤ 9223372036854775807
  hw : WP.U t.w
  hx : WP.U t.x
  len : t.zs.length = t.l
  le : t.l ≤ 260
  nil : t.A = none → t.c = 0 ∧ t.l = 0
  u : ∀ y ∈ t.zs, WP.U y
  src : ∀ (wr : World) (S : List Nat), MM.Far [] w wr → (∀ b ∈ S, w.heap.size ≤ b) → MM.Src wr S t.A (U64s t.zs)
theorem fine_of {w : World} {a : Option Addr} {len cap : Nat} {tl : List Act} (hz : Acts w a len cap tl) (m : Nat) {t : Act} (ht : t ∈ gathered tl m) : Fine w t := by
  unfold gathered at ht
  obtain ⟨t0, h0, rfl⟩ := List.mem_map.1 ht
  have h1 : t0 ∈ tl := List.mem_of_mem_take h0
  obtain ⟨i, hi, rfl⟩ := List.mem_iff_getElem.1 h1
  obtain ⟨b, off, _, _, _, ok⟩ := hz.elems i _ (List.getElem?_eq_getElem hi)
  have hl := ok.hz.len_
  have hle := ok.hz.le
  refine ⟨u8_of ok.hk, i64_wf ok.hn, i64_wf ok.hi, ok.hw, ok.hx, ?_, ?_, fun hA => ?_, fun y hy => u_of (ok.hz.wf y (List.mem_of_mem_take hy)), fun wr S f hS => take_old ok.hz f hS 260⟩
  · simp only [Act.cut, List.length_take, hl]; omega
  · simp only [Act.cut]; omega
  · have := ok.hz.nil hA
    simp only [Act.cut]; omega
theorem tmod_bounds (x : Int) (n : Nat) (hn : 0 < n) : -(n : Int) < x.tmod n ∧ x.tmod n < n := by
  have h1 := Int.tmod_lt_of_pos x (show (0 : Int) < n by omega)
  rw [Int.tmod_eq_emod]
  have h2 := Int.emod_nonneg x (show (n : Int) ≠ 0 by omega)
  have h3 := Int.emod_lt_of_pos x (show (0 : Int) < n by omega)
  split <;> omega
theorem tmod_nonneg (x : Int) (n : Nat) (hx : 0 ≤ x) : 0 ≤ x.tmod n := Int.tmod_nonneg _ hx
end AL
end Go.Proofs.YtoikfpaocgikcaaDoor

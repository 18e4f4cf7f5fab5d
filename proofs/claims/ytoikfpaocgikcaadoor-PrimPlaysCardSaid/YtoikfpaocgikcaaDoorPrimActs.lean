/-
  The acts that came in: read off the argument. Condition: the argument's reading.
-/
import Derived.Test.YtoikfpaocgikcaaDoorArenaApp
import Derived.Test.YtoikfpaocgikcaaDoorMemAll
namespace Go.Proofs.YtoikfpaocgikcaaDoor
open Go.RowKit Go.ChangeShapes Go.WideShapes Go.Deep
namespace PW
/-- One act: what, its words, which of them are the last one. -/
structure Ac where
  k : Int
  A : Option Addr
  l : Nat
  c : Nat
  zs : List Int
  b : Int
def Ac.cells (a : Ac) : List Value := [.int .i64 a.k, .slice a.A a.l a.c, .int .u8 a.b]
structure Ac.Ok (w : World) (a : Ac) : Prop where
  hk : (Lit.int .i64 a.k).wf = true
  hz : MR.Ints .u64 w a.A a.l a.c a.zs
  hb : (Lit.int .u8 a.b).wf = true
structure Acs (w : World) (a : Option Addr) (len cap : Nat) (tl : List Ac) : Prop where
  len_ : tl.length = len
  le : len ≤ cap
  max : cap ≤ maxLen
  nil : a = none → cap = 0
  elems : ∀ (i : Nat) (t : Ac), tl[i]? = some t → ∃ b off, a = some ⟨b, off, none⟩ ∧ b < w.heap.size ∧ (∀ (j : Nat) (u : Value), t.cells[j]? = some u → w.cell? ⟨b, off + i * 3 + j, none⟩ = some u) ∧ t.Ok w
section
variable {H : Type} {enc : TypeId × Value → H} {w : World} {fuel : Nat}
theorem ac_of {cs : List Value} {x : DataW H × List MemPlace} (h : DataW.trod enc Tryd.prog w 0 (fun _ => true) true fuel 34 cs = some x) : ∃ t : Ac, cs = t.cells ∧ t.Ok w := by
  obtain ⟨hl, hf⟩ := MR.field_of Tryd.underlying34 (by kernel_rfl) (by kernel_rfl) h
  obtain ⟨v0, n0, y0, e0, g0⟩ := hf 0 _ rfl
  obtain ⟨v1, n1, y1, e1, g1⟩ := hf 1 _ rfl
  obtain ⟨v2, n2, y2, e2, g2⟩ := hf 2 _ rfl
  obtain ⟨a0, h0, w0⟩ := MR.int_of Tryd.underlying3 g0
  obtain ⟨A, l, c, zs, h1, w1⟩ := MR.ints_of Tryd.underlying32 Tryd.underlying36 (by kernel_rfl) g1
  obtain ⟨a2, h2, w2⟩ := MR.int_of Tryd.underlying5 g2
  cases h0; cases h1; cases h2
  refine ⟨⟨a0, A, l, c, zs, a2⟩, ?_, w0, w1, w2⟩
  have hl6 : cs.length = 3 := hl
  match cs, hl6 with
  | [b0, b1, b2], _ =>
    simp at e0 e1 e2
    subst e0; subst e1; subst e2
    rfl
theorem acs_of {cs : List Value} {x : DataW H × List MemPlace} (h : DataW.trod enc Tryd.prog w 0 (fun _ => true) true fuel 23 cs = some x) : ∃ a len cap tl, cs = [.slice a len cap] ∧ Acs w a len cap tl := by
  obtain ⟨a, len, cap, xs, hcs, hcame, hel⟩ := MR.came_of 3 Tryd.underlying23 (by kernel_rfl) (by omega) h
  have hz : ∀ i, ∃ t : Ac, i < len → xs i = t.cells ∧ t.Ok w := by
    intro i
    by_cases h1 : i < len
    · obtain ⟨n, y, hy⟩ := hel i h1
      obtain ⟨t, h2⟩ := ac_of hy
      exact ⟨t, fun _ => h2⟩
    · exact ⟨⟨0, none, 0, 0, [], 0⟩, fun h => absurd h h1⟩
  obtain ⟨Z, hZ⟩ := Classical.axiomOfChoice hz
  refine ⟨a, len, cap, (List.range len).map Z, hcs, by simp, hcame.le, hcame.max, hcame.nil, fun i t hi => ?_⟩
  have hil : i < len := by have := (List.getElem?_eq_some_iff.1 hi).1; simpa using this
  obtain ⟨ad, rfl, hb, hc⟩ := hcame.elems (by omega)
  simp [hil] at hi
  subst hi
  obtain ⟨_, h4⟩ := hc 0 (by omega)
  have h5 := h4 0 (.int .i64 (Z 0).k) (by rw [(hZ 0 (by omega)).1]; rfl)
  simp only [Nat.zero_mul, Nat.add_zero, MR.add_zero_] at h5
  obtain ⟨b, off, spot⟩ := ad
  obtain rfl : spot = none := MR.spot_none h5
  obtain ⟨_, h2⟩ := hc i hil
  refine ⟨b, off, rfl, hb, fun j u hu => ?_, (hZ i hil).2⟩
  have := h2 j u (by rw [(hZ i hil).1]; exact hu)
  rw [MR.mk_add] at this
  rw [Nat.add_assoc]; exact this
end
end PW
end Go.Proofs.YtoikfpaocgikcaaDoor

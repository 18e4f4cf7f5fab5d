/-
  The acts that came in: read off the argument, and the first of them tl the statements take them (few). Condition: the argument's reading.
-/
import Derived.Test.YtokpiljbcbemlaaArenaApp
import Derived.Test.YtokpiljbcbemlaaNest
namespace Go.Proofs.Ytokpiljbcbemlaa
open Go.RowKit Go.ChangeShapes Go.WideShapes Go.Deep
namespace AL
open AW
/-- One act: its numbers, and its row of words. -/
structure Act where
  k : Int
  n : Int
  i : Int
  w : Int
  x : Int
  A : Option Addr
  l : Nat
  c : Nat
  zs : List Int
def Act.cells (a : Act) : List Value := [.int .u8 a.k, .int .i64 a.n, .int .i64 a.i, .int .u64 a.w, .int .u64 a.x, .slice a.A a.l a.c]
structure Act.Ok (w : World) (a : Act) : Prop where
  hk : (Lit.int .u8 a.k).wf = true
  hn : (Lit.int .i64 a.n).wf = true
  hi : (Lit.int .i64 a.i).wf = true
  hw : WP.U a.w
  hx : WP.U a.x
  hz : MR.Ints .u64 w a.A a.l a.c a.zs
structure Acts (w : World) (a : Option Addr) (len cap : Nat) (tl : List Act) : Prop where
  len_ : tl.length = len
  le : len ≤ cap
  max : cap ≤ maxLen
  nil : a = none → cap = 0
  elems : ∀ (i : Nat) (t : Act), tl[i]? = some t → ∃ b off, a = some ⟨b, off, none⟩ ∧ b < w.heap.size ∧ (∀ (j : Nat) (u : Value), t.cells[j]? = some u → w.cell? ⟨b, off + i * 6 + j, none⟩ = some u) ∧ t.Ok w
theorem i64_wf {x : Int} (h : (Lit.int .i64 x).wf = true) : -9223372036854775808 ≤ x ∧ x ≤ 9223372036854775807 := by
  simp [Lit.wf, IntKind.min, IntKind.max, IntKind.signed, IntKind.bits] at h
  omega
section
variable {H : Type} {enc : TypeId × Value → H} {w : World} {fuel : Nat}
theorem act_of {cs : List Value} {x : DataW H × List MemPlace} (h : DataW.trod enc Try.prog w 0 (fun _ => true) true fuel 63 cs = some x) : ∃ t : Act, cs = t.cells ∧ t.Ok w := by
  obtain ⟨hl, hf⟩ := MR.field_of Try.underlying63 (by kernel_rfl) (by kernel_rfl) h
  obtain ⟨v0, n0, y0, e0, g0⟩ := hf 0 _ rfl
  obtain ⟨v1, n1, y1, e1, g1⟩ := hf 1 _ rfl
  obtain ⟨v2, n2, y2, e2, g2⟩ := hf 2 _ rfl
  obtain ⟨v3, n3, y3, e3, g3⟩ := hf 3 _ rfl
  obtain ⟨v4, n4, y4, e4, g4⟩ := hf 4 _ rfl
  obtain ⟨v5, n5, y5, e5, g5⟩ := hf 5 _ rfl
  obtain ⟨a0, h0, w0⟩ := MR.int_of Try.underlying5 g0
  obtain ⟨a1, h1, w1⟩ := MR.int_of Try.underlying3 g1
  obtain ⟨a2, h2, w2⟩ := MR.int_of Try.underlying3 g2
  obtain ⟨a3, h3, w3⟩ := MR.int_of Try.underlying42 g3
  obtain ⟨a4, h4, w4⟩ := MR.int_of Try.underlying42 g4
  obtain ⟨A, l, c, zs, h5, w5⟩ := MR.ints_of Try.underlying23 Try.underlying42 (by kernel_rfl) g5
  cases h0; cases h1; cases h2; cases h3; cases h4; cases h5
  refine ⟨⟨a0, a1, a2, a3, a4, A, l, c, zs⟩, ?_, w0, w1, w2, u_of w3, u_of w4, w5⟩
  have hl6 : cs.length = 6 := hl
  match cs, hl6 with
  | [b0, b1, b2, b3, b4, b5], _ =>
    simp at e0 e1 e2 e3 e4 e5
    subst e0; subst e1; subst e2; subst e3; subst e4; subst e5
    rfl
theorem acts_of {cs : List Value} {x : DataW H × List MemPlace} (h : DataW.trod enc Try.prog w 0 (fun _ => true) true fuel 58 cs = some x) : ∃ a len cap tl, cs = [.slice a len cap] ∧ Acts w a len cap tl := by
  obtain ⟨a, len, cap, xs, hcs, hcame, hel⟩ := MR.came_of 6 Try.underlying58 (by kernel_rfl) (by omega) h
  have hz : ∀ i, ∃ t : Act, i < len → xs i = t.cells ∧ t.Ok w := by
    intro i
    by_cases h1 : i < len
    · obtain ⟨n, y, hy⟩ := hel i h1
      obtain ⟨t, h2⟩ := act_of hy
      exact ⟨t, fun _ => h2⟩
    · exact ⟨⟨0, 0, 0, 0, 0, none, 0, 0, []⟩, fun h => absurd h h1⟩
  obtain ⟨Z, hZ⟩ := Classical.axiomOfChoice hz
  refine ⟨a, len, cap, (List.range len).map Z, hcs, by simp, hcame.le, hcame.max, hcame.nil, fun i t hi => ?_⟩
  have hil : i < len := by have := (List.getElem?_eq_some_iff.1 hi).1; simpa using this
  obtain ⟨ad, rfl, hb, hc⟩ := hcame.elems (by omega)
  simp [hil] at hi
  subst hi
  obtain ⟨_, h4⟩ := hc 0 (by omega)
  have h5 := h4 0 (.int .u8 (Z 0).k) (by rw [(hZ 0 (by omega)).1]; rfl)
  simp only [Nat.zero_mul, Nat.add_zero, MR.add_zero_] at h5
  obtain ⟨b, off, spot⟩ := ad
  obtain rfl : spot = none := MR.spot_none h5
  obtain ⟨_, h2⟩ := hc i hil
  refine ⟨b, off, rfl, hb, fun j u hu => ?_, (hZ i hil).2⟩
  have := h2 j u (by rw [(hZ i hil).1]; exact hu)
  rw [MR.mk_add] at this
  rw [Nat.add_assoc]; exact this
end
/-- The act tl few leaves it. -/
def Act.cut (t : Act) : Act := { t with l := min t.l 260, zs := t.zs.take 260 }
def flat (tl : List Act) : List Value := tl.flatMap Act.cells
theorem flat_len (tl : List Act) : (flat tl).length = tl.length * 6 := by
  induction tl with
  | nil => rfl
  | cons t tl ih => simp [flat, Act.cells] at ih ⊢; omega
end AL
end Go.Proofs.Ytokpiljbcbemlaa

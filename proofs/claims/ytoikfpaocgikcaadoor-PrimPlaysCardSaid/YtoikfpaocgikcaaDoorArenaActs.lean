/-
  The acts that came in: read off the argument, and the first of them tl the statements take them (few). Condition: the argument's reading.
-/
import Derived.Test.YtoikfpaocgikcaaDoorArenaApp
import Derived.Test.YtoikfpaocgikcaaDoorNest
namespace Go.Proofs.YtoikfpaocgikcaaDoor
open Go.RowKit Go.ChangeShapes Go.WideShapes Go.Deep
namespace AL
open AW
/-- One act: its numbers, and its row of words. -/
structure Act where
  k : Int
  n : Int
  i : Int
  w : Int
  x : Int
  A : Option Addr
  l : Nat
  c : Nat
  zs : List Int
def Act.cells (a : Act) : List Value := [.int .u8 a.k, .int .i64 a.n, .int .i64 a.i, .int .u64 a.w, .int .u64 a.x, .slice a.A a.l a.c]
structure Act.Ok (w : World) (a : Act) : Prop where
  hk : (Lit.int .u8 a.k).wf = true
  hn : (Lit.int .i64 a.n).wf = true
  hi : (Lit.int .i64 a.i).wf = true
  hw : WP.U a.w
  hx : WP.U a.x
  hz : MR.Ints .u64 w a.A a.l a.c a.zs
structure Acts (w : World) (a : Option Addr) (len cap : Nat) (tl : List Act) : Prop where
  len_ : tl.length = len
  le : len ≤ cap
  max : cap ≤ maxLen
  nil : a = none → cap = 0
  elems : ∀ (i : Nat) (t : Act), tl[i]? = some t → ∃ b off, a = some ⟨b, off, none⟩ ∧ b < w.heap.size ∧ (∀ (j : Nat) (u : Value), t.cells[j]? = some u → w.cell? ⟨b, off + i * 6 + j, none⟩ = some u) ∧ t.Ok w
theorem i64_wf {x : Int} (h : (Lit.int .i64 x).wf = true) : -9223372036854775808 ≤ x ∧ x ≤ 9223372036854775807 := by
  simp [Lit.wf, IntKind.min, IntKind.max, IntKind.signed, IntKind.bits] at h
  omega
section
variable {H : Type} {enc : TypeId × Value → H} {w : World} {fuel : Nat}
end
/-- The act tl few leaves it. -/
def Act.cut (t : Act) : Act := { t with l := min t.l 260, zs := t.zs.take 260 }
def flat (tl : List Act) : List Value := tl.flatMap Act.cells
theorem flat_len (tl : List Act) : (flat tl).length = tl.length * 6 := by
  induction tl with
  | nil => rfl
  | cons t tl ih => simp [flat, Act.cells] at ih ⊢; omega
end AL
end Go.Proofs.YtoikfpaocgikcaaDoor

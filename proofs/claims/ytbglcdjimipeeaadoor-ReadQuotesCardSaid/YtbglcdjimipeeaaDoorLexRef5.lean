/-
  The row of tokens that a lexer builds: what it owns, one token more. No condition but sizes.
-/
import Derived.Test.YtbglcdjimipeeaaDoorLexRef4
import Derived.Test.YtbglcdjimipeeaaDoorOwnStep
namespace Go.Proofs.YtbglcdjimipeeaaDoor
open Go.RowKit
namespace LX
def cellsT (t : Tk) : List Value := [.int .u8 t.kind, .int .i64 t.at_, .int .i64 t.n, .string t.s]
def tks (ts : List Tk) : List Value := ts.flatMap cellsT
theorem tks_snoc (ts : List Tk) (t : Tk) : tks (ts ++ [t]) = tks ts ++ cellsT t := by simp [tks]
theorem tks_len (ts : List Tk) : (tks ts).length = ts.length * 4 := by
  induction ts with
  | nil => rfl
  | cons t ts ih => simp only [tks, List.flatMap_cons, List.length_append, List.length_cons] at ih ⊢; rw [ih]; simp [cellsT]; omega
end LX
namespace LW
open LX
theorem toks_slice : Tryd.prog.underlying 36 = some (.slice 43) := by kernel_rfl
structure Lx (w0 w : World) (v : Value) (out : List Tk) : Prop where
  own : w.ownsRow w0.heap.size 43 4 v out.length (tks out)
  far : MM.Far [] w0 w
theorem Lx.begin (w : World) : Lx w w (.slice none 0 0) [] := ⟨MO.none_ _ _ _ _, MM.Far.refl _ _⟩
theorem Lx.to {w0 w w' : World} {v : Value} {out : List Tk} (h : Lx w0 w v out) (f : MM.Far [] w w') : Lx w0 w' v out :=
  ⟨MM.own_far h.own f (by simp), h.far.trans f (by simp)⟩
theorem cellsT_one (t : Tk) : ∀ u ∈ cellsT t, u.oneCell' = true := by
  intro u hu
  simp only [cellsT, List.mem_cons, List.not_mem_nil, or_false] at hu
  rcases hu with rfl | rfl | rfl | rfl <;> rfl
theorem lx_push {ops : Array Oper} {rest : List Oper} {o : Oper} {a : Act} {Q : Exit → Act → World → Prop} (w0 w : World) (v : Value) (out : List Tk) (t : Tk) (hL : Lx w0 w v out) (hlen : out.length ≤ 100000)
    (hgd : o.guard = none) (s x : Operand) (ho : o.op = .call { callee := .builtin .append, args := #[s, x], argTypes := #[36, 36] })
    (hs : a.eval s = v) (hx : a.eval x = .slice (some ⟨w.heap.size, 0, none⟩) 1 1)
    (h : ∀ v' w', Lx w0 w' v' (out ++ [t]) → wpList Tryd.prog ops Q rest (a.put o.dst v') w') :
    wpList Tryd.prog ops Q (o :: rest) a (w.alloc (.cells #[.int .u8 t.kind, .int .i64 t.at_, .int .i64 t.n, .string t.s] 43)) := by
  have hF : MM.Far [] w (w.alloc (.cells #[.int .u8 t.kind, .int .i64 t.at_, .int .i64 t.n, .string t.s] 43)) := (MM.Far.refl [] w).alloc _
  have hL2 := hL.to hF
  have hb := hL2.far.size
  refine MO.wpList_append _ hgd s x 36 ho w0.heap.size 43 (.agg #[.int .u8 0, .int .i64 0, .int .i64 0, .string ⟨#[]⟩]) 4 40 toks_slice tok_info rfl (by omega) v out.length (tks out) hs hL2.own (some ⟨w.heap.size, 0, none⟩) 1 1 (cellsT t) hx rfl (fun h => by cases h) [] ?_ (cellsT_one t) ?_ ?_ hb ?_
  · exact MM.Src.row (MM.Row.new w 43 (cellsT t)) (by simp) _ (fun j u hu => hu)
  · simp only [maxLen]; omega
  · omega
  · intro v' w' hv hg hat
    refine h v' w' ⟨?_, ?_⟩
    · rw [tks_snoc, List.length_append]; exact hv
    · refine hL2.far.trans (MM.Far.of_grown (S := v.ownBlock.toList) hg (fun b hb _ => by simp [hb])) ?_
      intro b hb hlt
      have := (MM.own_lt hL.own b (by simpa using hb)).2
      omega
def LexP (w0 : World) (R : Except (Nat × Int) (List Tk)) (e : Ending) (w : World) : Prop :=
  MM.Far [] w0 w ∧ match R with
  | .error (p, x) => e = .returned (.tuple #[.slice none 0 0, .int .i64 (p : Int), .int .i64 x])
  | .ok ts => ∃ v, e = .returned (.tuple #[v, .int .i64 0, .int .i64 0]) ∧ w.ownsRow w0.heap.size 43 4 v ts.length (tks ts)
theorem LexP.err {w0 w : World} {R : Except (Nat × Int) (List Tk)} {p : Nat} {x : Int} (f : MM.Far [] w0 w) (h : R = .error (p, x)) : LexP w0 R (.returned (.tuple #[.slice none 0 0, .int .i64 (p : Int), .int .i64 x])) w := by
  subst h; exact ⟨f, rfl⟩
theorem Lx.done {w0 w : World} {R : Except (Nat × Int) (List Tk)} {v : Value} {out : List Tk} (h : Lx w0 w v out) (hR : R = .ok out) : LexP w0 R (.returned (.tuple #[v, .int .i64 0, .int .i64 0])) w := by
  subst hR; exact ⟨h.far, v, rfl, h.own⟩
end LW
end Go.Proofs.YtbglcdjimipeeaaDoor

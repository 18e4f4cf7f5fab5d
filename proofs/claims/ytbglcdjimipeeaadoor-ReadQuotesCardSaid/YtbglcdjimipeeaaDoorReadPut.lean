/-
  Contracts of the document's reader: put, close. Conditions: there are no more than 20000 data.
-/
import Derived.Test.YtbglcdjimipeeaaDoorReadMem
import Derived.Deep.RegionLaw
import Derived.Deep.RegionHeld3
import Derived.Deep.DeepCutAuto
namespace Go.Proofs.YtbglcdjimipeeaaDoor
open Go.RowKit
namespace RM6
open LX RX RW6
theorem nodes_slice : Tryd.prog.underlying 26 = some (.slice 33) := by kernel_rfl
theorem node_info : (Tryd.prog.info? 33).map (fun i => (i.zero, i.size, i.bytes)) = some (some (.agg #[.int .u8 0, .int .i64 0, .int .i64 0, .string ⟨#[]⟩, .slice none 0 0]), 5, 64) := by kernel_rfl
theorem ints_slice : Tryd.prog.underlying 27 = some (.slice 3) := by kernel_rfl
theorem int_info : (Tryd.prog.info? 3).map (fun i => (i.zero, i.size, i.bytes)) = some (some (.int .i64 0), 1, 8) := by kernel_rfl
/-- Lists are no longer than the row. -/
def Fit (R : Rd) : Prop := (∀ p ∈ R.op, p.l.length ≤ R.row.length) ∧ R.tops.length ≤ R.row.length
theorem form_ (w0 : World) {w : World} {e : TypeId} {size n : Nat} {v : Value} {xs : List Value} (h : w.ownsRow w0.heap.size e size v n xs) : ∃ A c, v = .slice A n c := by
  obtain ⟨A, c, e, _⟩ := MO.form h
  exact ⟨A, c, e⟩
theorem nd_one (x : Nd) (A : Option Addr) (c : Nat) : ∀ u ∈ [Value.int .u8 x.kind, .int .i64 x.at_, .int .i64 x.n, .string x.s, .slice A x.l.length c], u.oneCell' = true := by
  intro u hu
  simp only [List.mem_cons, List.not_mem_nil, or_false] at hu
  rcases hu with rfl | rfl | rfl | rfl | rfl <;> rfl
theorem far_app {W w2 : World} {o : Obj} {b : Option Nat} (h : (W.alloc o).drew.grownBy w2 b) : MM.Far b.toList W w2 :=
  ((MM.Far.refl b.toList W).alloc o).trans (MM.Far.of_grown (S := b.toList) (a := W.alloc o) ⟨h.os, h.tape, h.output, h.size, h.block⟩ (by intro k hk _; simp [hk])) (fun k hk _ => hk)
theorem far_app0 {W w2 : World} {o : Obj} {b : Option Nat} (h : (W.alloc o).grownBy w2 b) : MM.Far b.toList W w2 :=
  ((MM.Far.refl b.toList W).alloc o).trans (MM.Far.of_grown (S := b.toList) (a := W.alloc o) h (by intro k hk _; simp [hk])) (fun k hk _ => hk)
theorem far_grown_ {W a w2 : World} {b : Option Nat} (f : MM.Far [] W a) (h : a.grownBy w2 b) : MM.Far b.toList W w2 :=
  (f.mono (S' := b.toList) (by simp)).trans (MM.Far.of_grown (S := b.toList) h (by intro k hk _; simp [hk])) (fun k hk _ => hk)
theorem one_int (i : Int) : ∀ u ∈ [Value.int .i64 i], u.oneCell' = true := by
  intro u hu
  rw [List.mem_singleton] at hu
  subst hu
  rfl
/-- A place more in a row of places of the call's own. -/
theorem kin_push {ops : Array Oper} {rest : List Oper} {o : Oper} {a : Act} {Q : Exit → Act → World → Prop} {base : Nat} {w : World} {v : Value} {l : List Nat} {n : Nat}
    (hO : w.ownsRow base 3 1 v l.length (ints l)) (hb : base ≤ w.heap.size) (hl : l.length ≤ 100000) (hgd : o.guard = none) (s x : Operand)
    (ho : o.op = .call { callee := .builtin .append, args := #[s, x], argTypes := #[27, 27] })
    (hs : a.eval s = v) (hx : a.eval x = .slice (some ⟨w.heap.size, 0, none⟩) 1 1)
    (h : ∀ A c w', w'.ownsRow base 3 1 (.slice A (l.length + 1) c) (l.length + 1) (ints l ++ [.int .i64 ((n : Nat) : Int)]) → MM.Far v.ownBlock.toList w w' →
      ((Value.slice A (l.length + 1) c).ownBlock = v.ownBlock ∨ ∃ b, (Value.slice A (l.length + 1) c).ownBlock = some b ∧ w.heap.size ≤ b) → wpList Tryd.prog ops Q rest (a.put o.dst (.slice A (l.length + 1) c)) w') :
    wpList Tryd.prog ops Q (o :: rest) a (w.alloc (.cells #[.int .i64 ((n : Nat) : Int)] 3)) := by
  have hF : MM.Far [] w (w.alloc (.cells #[.int .i64 ((n : Nat) : Int)] 3)) := (MM.Far.refl [] w).alloc _
  refine MO.wpList_append _ hgd s x 27 ho base 3 (.int .i64 0) 1 8 ints_slice int_info rfl (by omega) v l.length (ints l) hs (hO.alloc _) (some ⟨w.heap.size, 0, none⟩) 1 1 [.int .i64 ((n : Nat) : Int)] hx rfl (fun h => by cases h) [] ?_ ?_ ?_ ?_ (by have := hF.size; omega) ?_
  · exact MM.Src.row (MM.Row.new w 3 [.int .i64 ((n : Nat) : Int)]) (by simp) _ (fun j u hu => hu)
  · intro u hu
    rw [List.mem_singleton] at hu
    subst hu
    rfl
  · simp only [maxLen]; omega
  · omega
  · intro v' w' hv hg hat
    obtain ⟨A, c, rfl, _⟩ := MO.form hv
    refine h A c w' hv (far_app0 hg) ?_
    rcases hat with e | e
    · exact .inl e
    · exact .inr ⟨_, e, by have := hF.size; omega⟩
section
variable {w0 w : World} {q : Nat} {rv tv ov : Value} {rs : List (Nd × Value)} {tops : List Nat} {os : List (Pt × Value)} {ex : List (Value × List Nat)}
theorem end_eq {x : Nd} (hx : Value) {hp0 : Value} {p : Pt} {os1 : List (Pt × Value)} (hq : p.q = true ∧ p.l.length + 1 = 2) :
    putO (((p, hp0) :: os1).map (·.1)) (rs.map (·.1)) tops x = putO (os1.map (·.1)) ((rs ++ [(x, hx)]).map (·.1)) tops ⟨4, p.at_, 0, emp, p.l ++ [rs.length]⟩ := by
  rw [List.map_cons]
  conv => lhs; unfold putO
  rw [if_pos hq]
  simp
end
end RM6
end Go.Proofs.YtbglcdjimipeeaaDoor

/-
  Instructions and blocks in memory, as they are read. No condition.
-/
import Derived.Test.YthhibcfljekibaaDoorCodePlain
import Derived.Test.YthhibcfljekibaaDoorMemAll
namespace Go.Proofs.YthhibcfljekibaaDoor
open Go.RowKit
namespace KW
open KP
@[reducible] def num (n : Int) : Value := .int .i64 n
@[reducible] def ints (l : List Int) : List Value := l.map fun n => .int .i64 n
/-- An instruction's cells. -/
def cel (x : Ki) : List Value := [.int .u8 x.op, .int .i64 x.a, .int .i64 x.b, .int .u64 x.w]
@[reducible] def val (x : Ki) : Value := .agg #[.int .u8 x.op, .int .i64 x.a, .int .i64 x.b, .int .u64 x.w]
/-- Its numbers are of their kinds. -/
structure Wf (x : Ki) : Prop where
  op0 : 0 ≤ x.op
  op1 : x.op < 256
  a : WP.I x.a
  b : WP.I x.b
  w : WP.U x.w
/-- A slice of instructions, in none of the blocks S. -/
def Ir (w : World) (S : List Nat) (A : Option Addr) (l : List Ki) : Prop :=
  ∀ (i : Nat) (x : Ki), l[i]? = some x → ∃ b o, A = some ⟨b, o, none⟩ ∧ b ∉ S ∧ b < w.heap.size ∧ ∀ (j : Nat) (u : Value), (cel x)[j]? = some u → w.cell? ⟨b, o + i * 4 + j, none⟩ = some u
section
variable {w w' : World} {S S' T : List Nat} {A : Option Addr} {l : List Ki}
theorem Ir.far (h : Ir w S A l) (f : MM.Far T w w') (hT : ∀ b ∈ T, b < w.heap.size → b ∈ S) : Ir w' S A l := by
  intro i x hx
  obtain ⟨b, o, e, hb, hl, hc⟩ := h i x hx
  exact ⟨b, o, e, hb, Nat.lt_of_lt_of_le hl f.size, fun j u hu => (f.cell (p := ⟨b, o + i * 4 + j, none⟩) hl (fun hm => hb (hT b hm hl))).trans (hc j u hu)⟩
theorem Ir.more (h : Ir w S A l) (hS : ∀ b ∈ S', b ∈ S ∨ w.heap.size ≤ b) : Ir w S' A l := by
  intro i x hx
  obtain ⟨b, o, e, hb, hl, hc⟩ := h i x hx
  refine ⟨b, o, e, fun hm => ?_, hl, hc⟩
  rcases hS b hm with h | h
  · exact hb h
  · omega
theorem Ir.nil (w : World) (S : List Nat) (A : Option Addr) : Ir w S A [] := fun i x h => by simp at h
theorem Ir.take (h : Ir w S A l) (n : Nat) : Ir w S A (l.take n) := fun i x hx => h i x (by
  rw [List.getElem?_take] at hx
  split at hx
  · exact hx
  · cases hx)
/-- An instruction's four cells at one place. -/
theorem Ir.at (h : Ir w S A l) {i : Nat} (hi : i < l.length) : ∃ b o, A = some ⟨b, o, none⟩ ∧ b ∉ S ∧ b < w.heap.size ∧ w.cell? ⟨b, o + i * 4, none⟩ = some (.int .u8 l[i].op) ∧ w.cell? ⟨b, o + i * 4 + 1, none⟩ = some (.int .i64 l[i].a) ∧
    w.cell? ⟨b, o + i * 4 + 2, none⟩ = some (.int .i64 l[i].b) ∧ w.cell? ⟨b, o + i * 4 + 3, none⟩ = some (.int .u64 l[i].w) := by
  obtain ⟨b, o, e, hb, hl, hc⟩ := h i _ (List.getElem?_eq_getElem hi)
  exact ⟨b, o, e, hb, hl, hc 0 _ rfl, hc 1 _ rfl, hc 2 _ rfl, hc 3 _ rfl⟩
end
/-- A slice of blocks, in none of the blocks of memory S. -/
def Br (w : World) (S : List Nat) (A : Option Addr) (l : List Kb) : Prop :=
  ∀ (i : Nat) (x : Kb), l[i]? = some x → ∃ b o A' c, A = some ⟨b, o, none⟩ ∧ b ∉ S ∧ b < w.heap.size ∧ w.cell? ⟨b, o + i * 2, none⟩ = some (num x.many) ∧ w.cell? ⟨b, o + i * 2 + 1, none⟩ = some (.slice A' x.l.length c) ∧
    x.l.length ≤ c ∧ c ≤ maxLen ∧ Ir w S A' x.l
section
variable {w w' : World} {S S' T : List Nat} {A : Option Addr} {l : List Kb}
theorem Br.far (h : Br w S A l) (f : MM.Far T w w') (hT : ∀ b ∈ T, b < w.heap.size → b ∈ S) : Br w' S A l := by
  intro i x hx
  obtain ⟨b, o, A', c, e, hb, hl, h1, h2, h3, h4, h5⟩ := h i x hx
  have hc : ∀ k, w'.cell? ⟨b, k, none⟩ = w.cell? ⟨b, k, none⟩ := fun k => f.cell (p := ⟨b, k, none⟩) hl (fun hm => hb (hT b hm hl))
  exact ⟨b, o, A', c, e, hb, Nat.lt_of_lt_of_le hl f.size, (hc _).trans h1, (hc _).trans h2, h3, h4, h5.far f hT⟩
theorem Br.more (h : Br w S A l) (hS : ∀ b ∈ S', b ∈ S ∨ w.heap.size ≤ b) : Br w S' A l := by
  intro i x hx
  obtain ⟨b, o, A', c, e, hb, hl, h1, h2, h3, h4, h5⟩ := h i x hx
  refine ⟨b, o, A', c, e, fun hm => ?_, hl, h1, h2, h3, h4, h5.more hS⟩
  rcases hS b hm with h | h
  · exact hb h
  · omega
end
end KW
end Go.Proofs.YthhibcfljekibaaDoor

/-
  Memory that a call has made itself: a row that is known whole (Row), and what a step may have turned (Far: only the blocks of a list, and what is new). No condition.
-/
import Derived.Below
import Derived.Laws.OwnMore
import Derived.Laws.Rows
import Derived.Deep.Draws
import Derived.Deep.OwnRows
import Derived.Laws.CopyOwn
namespace Go.Proofs.YtbglcdjimipeeaaDoor
open Go.RowKit
namespace MM
/-- Block b is the cells l, of element type t, and none of them is frozen. -/
def Row (w : World) (b : Nat) (t : TypeId) (l : List Value) : Prop := w.heap[b]? = some (.cells l.toArray t (0, 0))
section
variable {w w' : World} {b : Nat} {t : TypeId} {l : List Value}
theorem Row.lt (h : Row w b t l) : b < w.heap.size := by
  unfold Row at h
  rcases Nat.lt_or_ge b w.heap.size with hb | hb
  · exact hb
  · rw [Array.getElem?_eq_none hb] at h; cases h
theorem Row.cell (h : Row w b t l) (i : Nat) : w.cell? ⟨b, i, none⟩ = l[i]? := by
  unfold Row at h; simp [World.cell?, h]
theorem Row.at (h : Row w b t l) {i : Nat} {v : Value} (hv : l[i]? = some v) : w.cell? ⟨b, i, none⟩ = some v := (h.cell i).trans hv
theorem Row.frozen (h : Row w b t l) (i : Nat) : w.frozen? ⟨b, i, none⟩ = false := by
  unfold Row at h; simp [World.frozen?, h]
theorem Row.of_block (h : Row w b t l) (e : w'.heap[b]? = w.heap[b]?) : Row w' b t l := e.trans h
theorem Row.new (w : World) (t : TypeId) (l : List Value) : Row (w.alloc (.cells l.toArray t)) w.heap.size t l :=
  heap_alloc_new w _
theorem Row.drew (h : Row w b t l) : Row w.drew b t l := h
theorem Row.drewN (h : Row w b t l) (n : Nat) : Row (w.drewN n) b t l := h
theorem Row.alloc (h : Row w b t l) (o : Obj) : Row (w.alloc o) b t l := h.of_block (Below.heap_alloc w o b h.lt)
theorem Row.put (h : Row w b t l) (i : Nat) (u : Value) : Row (w.setCell ⟨b, i, none⟩ u) b t (l.set i u) := by
  unfold Row at h ⊢
  simp [World.setCell, Array.getElem?_modify, h]
theorem Row.other (h : Row w b t l) {p : Addr} (hp : b ≠ p.block) (u : Value) : Row (w.setCell p u) b t l := h.of_block (Below.heap_setCell w p u b hp)
theorem Row.ne {b' : Nat} {t' : TypeId} {l' : List Value} (h : Row w b t l) (h' : Row w b' t' l') (ht : t ≠ t') : b ≠ b' := by
  intro e
  unfold Row at h h'
  rw [← e, h] at h'
  simp only [Option.some.injEq, Obj.cells.injEq] at h'
  exact ht h'.2.1
end

/-- Only the blocks of S may have turned, and what is new. -/
structure Far (S : List Nat) (a w : World) : Prop where
  os : w.os = a.os
  tape : w.tape = a.tape
  output : w.output = a.output
  size : a.heap.size ≤ w.heap.size
  block : ∀ k, k < a.heap.size → k ∉ S → w.heap[k]? = a.heap[k]?
section
variable {S S' : List Nat} {a w w' : World}
theorem Far.refl (S : List Nat) (w : World) : Far S w w := ⟨rfl, rfl, rfl, Nat.le_refl _, fun _ _ _ => rfl⟩
theorem Far.trans (h : Far S a w) (k : Far S' w w') (hS : ∀ b, b ∈ S' → b < a.heap.size → b ∈ S) : Far S a w' :=
  ⟨k.os.trans h.os, k.tape.trans h.tape, k.output.trans h.output, Nat.le_trans h.size k.size,
   fun b hb hn => (k.block b (Nat.lt_of_lt_of_le hb h.size) (fun hm => hn (hS b hm hb))).trans (h.block b hb hn)⟩
theorem Far.mono (h : Far S a w) (hS : ∀ b, b ∈ S → b < a.heap.size → b ∈ S') : Far S' a w :=
  ⟨h.os, h.tape, h.output, h.size, fun b hb hn => h.block b hb (fun hm => hn (hS b hm hb))⟩
theorem Far.drew (h : Far S a w) : Far S a w.drew := ⟨h.os, h.tape, h.output, h.size, h.block⟩
theorem Far.drewN (h : Far S a w) (n : Nat) : Far S a (w.drewN n) := ⟨h.os, h.tape, h.output, h.size, h.block⟩
theorem Far.alloc (h : Far S a w) (o : Obj) : Far S a (w.alloc o) :=
  ⟨h.os, h.tape, h.output, Nat.le_trans h.size (by simp), fun b hb hn => (Below.heap_alloc w o b (Nat.lt_of_lt_of_le hb h.size)).trans (h.block b hb hn)⟩
theorem Far.setCell (h : Far S a w) {p : Addr} (hp : p.block < a.heap.size → p.block ∈ S) (u : Value) : Far S a (w.setCell p u) :=
  ⟨h.os, h.tape, h.output, by simpa [World.setCell] using h.size, fun b hb hn =>
    (Below.heap_setCell w p u b (fun e => hn (e ▸ hp (e ▸ hb)))).trans (h.block b hb hn)⟩
theorem Far.of_below (h : Below a.heap.size a w) (S : List Nat) : Far S a w := ⟨h.os, h.tape, h.output, h.size, fun b hb _ => h.block b hb⟩
theorem Far.of_grown {row : Option Nat} (h : a.grownBy w row) (hS : ∀ b, row = some b → b < a.heap.size → b ∈ S) : Far S a w :=
  ⟨h.os, h.tape, h.output, h.size, fun b hb hn => h.block b hb (fun e => hn (hS b e.symm hb))⟩
theorem Far.below {B : Nat} (h : Far S a w) (hB : B ≤ a.heap.size) (hS : ∀ b, b ∈ S → B ≤ b) : Below B a w :=
  ⟨h.os, h.tape, h.output, h.size, fun b hb => h.block b (by omega) (fun hm => by have := hS b hm; omega)⟩
theorem Far.below_nil (h : Far [] a w) : Below a.heap.size a w := h.below (Nat.le_refl _) (fun _ hm => by cases hm)
theorem Row.far {b : Nat} {t : TypeId} {l : List Value} (h : Row a b t l) (k : Far S a w) (hn : b ∉ S) : Row w b t l := h.of_block (k.block b h.lt hn)
theorem Far.cell (k : Far S a w) {p : Addr} (hp : p.block < a.heap.size) (hn : p.block ∉ S) : w.cell? p = a.cell? p := World.cell?_of_block (w := a) (k.block _ hp hn)
theorem Far.frozen (k : Far S a w) {p : Addr} (hp : p.block < a.heap.size) (hn : p.block ∉ S) : w.frozen? p = a.frozen? p := World.frozen?_of_block (w := a) (k.block _ hp hn)
end

theorem Row.setRow {w : World} {b : Nat} {t : TypeId} {l : List Value} (h : Row w b t l) (cs : List Value) : Row (w.setRow b cs.toArray) b t cs := setRow_heap w b _ _ t _ h
theorem Row.setRow_other {w : World} {b g : Nat} {t : TypeId} {l : List Value} (h : Row w b t l) (hn : b ≠ g) (cs : Array Value) : Row (w.setRow g cs) b t l := h.of_block (Go.setRow_other w g b cs hn)
theorem Far.setRow {S : List Nat} {a w : World} (h : Far S a w) {g : Nat} (hg : g < a.heap.size → g ∈ S) (cs : Array Value) : Far S a (w.setRow g cs) :=
  ⟨h.os, h.tape, h.output, by simpa [World.setRow] using h.size, fun b hb hn =>
    (Go.setRow_other w g b cs (fun e => hn (e ▸ hg (e ▸ hb)))).trans (h.block b hb hn)⟩
/-- A slice's cells, to be read: only where there is one must it have an address; it lies in none of the blocks of S. -/
def Src (w : World) (S : List Nat) (A : Option Addr) (vs : List Value) : Prop :=
  0 < vs.length → ∃ ad : Addr, A = some ad ∧ ad.block ∉ S ∧ ad.block < w.heap.size ∧ ∀ j u, vs[j]? = some u → w.cell? (ad.add j) = some u
theorem add_block (a : Addr) (n : Nat) : (a.add n).block = a.block := by unfold Addr.add; split <;> rfl
theorem head_add (b j : Nat) : (⟨b, 0, none⟩ : Addr).add j = ⟨b, j, none⟩ := by
  unfold Addr.add; split
  · rename_i h; subst h; rfl
  · simp
theorem Src.row {w : World} {S : List Nat} {b : Nat} {t : TypeId} {l : List Value} (h : Row w b t l) (hb : b ∉ S) (vs : List Value) (hv : ∀ (j : Nat) (u : Value), vs[j]? = some u → l[j]? = some u) : Src w S (some ⟨b, 0, none⟩) vs := by
  intro _
  refine ⟨_, rfl, hb, h.lt, fun j u hu => ?_⟩
  rw [head_add]
  exact h.at (hv j u hu)
theorem Src.nil (w : World) (S : List Nat) (A : Option Addr) : Src w S A [] := fun h => absurd h (by simp)
theorem Src.far {S T : List Nat} {a w : World} {A : Option Addr} {vs : List Value} (h : Src a S A vs) (k : Far T a w) (hT : ∀ b, b ∈ T → b ∈ S) : Src w S A vs := by
  intro hp
  obtain ⟨ad, e, hb, hl, hc⟩ := h hp
  refine ⟨ad, e, hb, Nat.lt_of_lt_of_le hl k.size, fun j u hu => ?_⟩
  rw [k.cell (by rw [add_block]; exact hl) (by rw [add_block]; exact fun hm => hb (hT _ hm))]
  exact hc j u hu
theorem Src.mono {S S' : List Nat} {w : World} {A : Option Addr} {vs : List Value} (h : Src w S A vs) (hS : ∀ b, b ∈ S' → b < w.heap.size → b ∈ S) : Src w S' A vs := by
  intro hp
  obtain ⟨ad, e, hb, hl, hc⟩ := h hp
  exact ⟨ad, e, fun hm => hb (hS _ hm hl), hl, hc⟩
/-- A row of the call's own that lies elsewhere stays. -/
theorem own_far {S : List Nat} {a w : World} {base : Nat} {e : TypeId} {size n : Nat} {v : Value} {xs : List Value} (h : a.ownsRow base e size v n xs) (k : Far S a w) (hn : ∀ b, v.ownBlock = some b → b ∉ S) : w.ownsRow base e size v n xs := by
  obtain ⟨h1, h2⟩ := h
  refine ⟨h1, ?_⟩
  rcases h2 with h2 | ⟨g, cap, cur, rfl, hb, hg, h3⟩
  · exact .inl h2
  · refine .inr ⟨g, cap, cur, rfl, hb, ?_, h3⟩
    have hlt : g < a.heap.size := by
      rcases Nat.lt_or_ge g a.heap.size with hb | hb
      · exact hb
      · rw [Array.getElem?_eq_none hb] at hg; cases hg
    rw [k.block g hlt (hn g rfl)]
    exact hg
theorem own_lt {a : World} {base : Nat} {e : TypeId} {size n : Nat} {v : Value} {xs : List Value} (h : a.ownsRow base e size v n xs) (b : Nat) (hb : v.ownBlock = some b) : b < a.heap.size ∧ base ≤ b := by
  obtain ⟨_, h2⟩ := h
  rcases h2 with ⟨rfl, _⟩ | ⟨g, cap, cur, rfl, hbase, hg, _⟩
  · simp [Value.ownBlock] at hb
  · have : g = b := by simpa [Value.ownBlock] using hb
    subst this
    refine ⟨?_, hbase⟩
    rcases Nat.lt_or_ge g a.heap.size with hb | hb
    · exact hb
    · rw [Array.getElem?_eq_none hb] at hg; cases hg
theorem own_row_ne {w : World} {base : Nat} {e : TypeId} {size n : Nat} {v : Value} {xs : List Value} (h : w.ownsRow base e size v n xs) {b : Nat} {t : TypeId} {l : List Value} (hr : Row w b t l) (ht : e ≠ t) : v.ownBlock ≠ some b := by
  obtain ⟨_, h2⟩ := h
  rcases h2 with ⟨rfl, _⟩ | ⟨g, cap, cur, rfl, hbase, hg, _⟩
  · simp [Value.ownBlock]
  · intro he
    have : g = b := by simpa [Value.ownBlock] using he
    subst this
    unfold Row at hr
    rw [hg] at hr
    simp only [Option.some.injEq, Obj.cells.injEq] at hr
    exact ht hr.2.1
theorem own_own_ne {w : World} {base base' : Nat} {e e' : TypeId} {size size' n n' : Nat} {v v' : Value} {xs xs' : List Value} (h : w.ownsRow base e size v n xs) (h' : w.ownsRow base' e' size' v' n' xs') (ht : e ≠ e') (b : Nat) (hb : v.ownBlock = some b) : v'.ownBlock ≠ some b := by
  intro hb'
  obtain ⟨_, h2⟩ := h
  obtain ⟨_, h2'⟩ := h'
  rcases h2 with ⟨rfl, _⟩ | ⟨g, cap, cur, rfl, hbase, hg, _⟩
  · simp [Value.ownBlock] at hb
  · rcases h2' with ⟨rfl, _⟩ | ⟨g', cap', cur', rfl, hbase', hg', _⟩
    · simp [Value.ownBlock] at hb'
    · have e1 : g = b := by simpa [Value.ownBlock] using hb
      have e2 : g' = b := by simpa [Value.ownBlock] using hb'
      subst e1; subst e2
      rw [hg] at hg'
      simp only [Option.some.injEq, Obj.cells.injEq] at hg'
      exact ht hg'.2.1
end MM
end Go.Proofs.YtbglcdjimipeeaaDoor

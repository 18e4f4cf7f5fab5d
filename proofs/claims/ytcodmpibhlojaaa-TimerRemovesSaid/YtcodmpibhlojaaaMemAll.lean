/-
  Several texts in one: Mem, Own, OwnStep, Read, Clone. Each one's own head tells its conditions.
-/
import Derived.Below
import Derived.Laws.OwnMore
import Derived.Laws.Rows
import Derived.Deep.Draws
import Derived.Deep.OwnRows
import Derived.Laws.CopyOwn
import Derived.WalkKit
import Derived.Maps.AppendAt
import Derived.Deep.AppendLies
import Derived.Deep.RegionLaw
import Derived.Deep.Slices
import Derived.Deep.Fields
import Derived.ChangeSame
import Derived.ChangeOld
import Derived.OpenShut
import Derived.Test.YtcodmpibhlojaaaProg
import Derived.Lib.Strings
import Derived.Lib.Walk
import Derived.Lib.BufferWrite
import Derived.Lib.UnsafeStr
import Derived.Lib.Hide
import Derived.Laws.MakeOwn
/-
  Memory that a call has made itself: a row that is known whole (Row), and what a step may have turned (Far: only the blocks of a list, and what is new). No condition.
-/
namespace Go.Proofs.Ytcodmpibhlojaaa
open Go.RowKit
namespace MM
/-- Block b is the cells l, of element type t, and none of them is frozen. -/
def Row (w : World) (b : Nat) (t : TypeId) (l : List Value) : Prop := w.heap[b]? = some (.cells l.toArray t (0, 0))
section
variable {w w' : World} {b : Nat} {t : TypeId} {l : List Value}
theorem Row.lt (h : Row w b t l) : b < w.heap.size := by
  unfold Row at h
  rcases Nat.lt_or_ge b w.heap.size with hb | hb
  · exact hb
  · rw [Array.getElem?_eq_none hb] at h; cases h
theorem Row.cell (h : Row w b t l) (i : Nat) : w.cell? ⟨b, i, none⟩ = l[i]? := by
  unfold Row at h; simp [World.cell?, h]
theorem Row.at (h : Row w b t l) {i : Nat} {v : Value} (hv : l[i]? = some v) : w.cell? ⟨b, i, none⟩ = some v := (h.cell i).trans hv
theorem Row.frozen (h : Row w b t l) (i : Nat) : w.frozen? ⟨b, i, none⟩ = false := by
  unfold Row at h; simp [World.frozen?, h]
theorem Row.of_block (h : Row w b t l) (e : w'.heap[b]? = w.heap[b]?) : Row w' b t l := e.trans h
theorem Row.new (w : World) (t : TypeId) (l : List Value) : Row (w.alloc (.cells l.toArray t)) w.heap.size t l :=
  heap_alloc_new w _
theorem Row.drew (h : Row w b t l) : Row w.drew b t l := h
theorem Row.drewN (h : Row w b t l) (n : Nat) : Row (w.drewN n) b t l := h
theorem Row.alloc (h : Row w b t l) (o : Obj) : Row (w.alloc o) b t l := h.of_block (Below.heap_alloc w o b h.lt)
theorem Row.put (h : Row w b t l) (i : Nat) (u : Value) : Row (w.setCell ⟨b, i, none⟩ u) b t (l.set i u) := by
  unfold Row at h ⊢
  simp [World.setCell, Array.getElem?_modify, h]
theorem Row.other (h : Row w b t l) {p : Addr} (hp : b ≠ p.block) (u : Value) : Row (w.setCell p u) b t l := h.of_block (Below.heap_setCell w p u b hp)
theorem Row.ne {b' : Nat} {t' : TypeId} {l' : List Value} (h : Row w b t l) (h' : Row w b' t' l') (ht : t ≠ t') : b ≠ b' := by
  intro e
  unfold Row at h h'
  rw [← e, h] at h'
  simp only [Option.some.injEq, Obj.cells.injEq] at h'
  exact ht h'.2.1
end

/-- Only the blocks of S may have turned, and what is new. -/
structure Far (S : List Nat) (a w : World) : Prop where
  os : w.os = a.os
  tape : w.tape = a.tape
  output : w.output = a.output
  size : a.heap.size ≤ w.heap.size
  block : ∀ k, k < a.heap.size → k ∉ S → w.heap[k]? = a.heap[k]?
section
variable {S S' : List Nat} {a w w' : World}
theorem Far.refl (S : List Nat) (w : World) : Far S w w := ⟨rfl, rfl, rfl, Nat.le_refl _, fun _ _ _ => rfl⟩
theorem Far.trans (h : Far S a w) (k : Far S' w w') (hS : ∀ b, b ∈ S' → b < a.heap.size → b ∈ S) : Far S a w' :=
  ⟨k.os.trans h.os, k.tape.trans h.tape, k.output.trans h.output, Nat.le_trans h.size k.size,
   fun b hb hn => (k.block b (Nat.lt_of_lt_of_le hb h.size) (fun hm => hn (hS b hm hb))).trans (h.block b hb hn)⟩
theorem Far.mono (h : Far S a w) (hS : ∀ b, b ∈ S → b < a.heap.size → b ∈ S') : Far S' a w :=
  ⟨h.os, h.tape, h.output, h.size, fun b hb hn => h.block b hb (fun hm => hn (hS b hm hb))⟩
theorem Far.drew (h : Far S a w) : Far S a w.drew := ⟨h.os, h.tape, h.output, h.size, h.block⟩
theorem Far.drewN (h : Far S a w) (n : Nat) : Far S a (w.drewN n) := ⟨h.os, h.tape, h.output, h.size, h.block⟩
theorem Far.alloc (h : Far S a w) (o : Obj) : Far S a (w.alloc o) :=
  ⟨h.os, h.tape, h.output, Nat.le_trans h.size (by simp), fun b hb hn => (Below.heap_alloc w o b (Nat.lt_of_lt_of_le hb h.size)).trans (h.block b hb hn)⟩
theorem Far.setCell (h : Far S a w) {p : Addr} (hp : p.block < a.heap.size → p.block ∈ S) (u : Value) : Far S a (w.setCell p u) :=
  ⟨h.os, h.tape, h.output, by simpa [World.setCell] using h.size, fun b hb hn =>
    (Below.heap_setCell w p u b (fun e => hn (e ▸ hp (e ▸ hb)))).trans (h.block b hb hn)⟩
theorem Far.of_below (h : Below a.heap.size a w) (S : List Nat) : Far S a w := ⟨h.os, h.tape, h.output, h.size, fun b hb _ => h.block b hb⟩
theorem Far.of_grown {row : Option Nat} (h : a.grownBy w row) (hS : ∀ b, row = some b → b < a.heap.size → b ∈ S) : Far S a w :=
  ⟨h.os, h.tape, h.output, h.size, fun b hb hn => h.block b hb (fun e => hn (hS b e.symm hb))⟩
theorem Far.below {B : Nat} (h : Far S a w) (hB : B ≤ a.heap.size) (hS : ∀ b, b ∈ S → B ≤ b) : Below B a w :=
  ⟨h.os, h.tape, h.output, h.size, fun b hb => h.block b (by omega) (fun hm => by have := hS b hm; omega)⟩
theorem Far.below_nil (h : Far [] a w) : Below a.heap.size a w := h.below (Nat.le_refl _) (fun _ hm => by cases hm)
theorem Row.far {b : Nat} {t : TypeId} {l : List Value} (h : Row a b t l) (k : Far S a w) (hn : b ∉ S) : Row w b t l := h.of_block (k.block b h.lt hn)
theorem Far.cell (k : Far S a w) {p : Addr} (hp : p.block < a.heap.size) (hn : p.block ∉ S) : w.cell? p = a.cell? p := World.cell?_of_block (w := a) (k.block _ hp hn)
theorem Far.frozen (k : Far S a w) {p : Addr} (hp : p.block < a.heap.size) (hn : p.block ∉ S) : w.frozen? p = a.frozen? p := World.frozen?_of_block (w := a) (k.block _ hp hn)
end

theorem Row.setRow {w : World} {b : Nat} {t : TypeId} {l : List Value} (h : Row w b t l) (cs : List Value) : Row (w.setRow b cs.toArray) b t cs := setRow_heap w b _ _ t _ h
theorem Row.setRow_other {w : World} {b g : Nat} {t : TypeId} {l : List Value} (h : Row w b t l) (hn : b ≠ g) (cs : Array Value) : Row (w.setRow g cs) b t l := h.of_block (Go.setRow_other w g b cs hn)
theorem Far.setRow {S : List Nat} {a w : World} (h : Far S a w) {g : Nat} (hg : g < a.heap.size → g ∈ S) (cs : Array Value) : Far S a (w.setRow g cs) :=
  ⟨h.os, h.tape, h.output, by simpa [World.setRow] using h.size, fun b hb hn =>
    (Go.setRow_other w g b cs (fun e => hn (e ▸ hg (e ▸ hb)))).trans (h.block b hb hn)⟩
/-- A slice's cells, to be read: only where there is one must it have an address; it lies in none of the blocks of S. -/
def Src (w : World) (S : List Nat) (A : Option Addr) (vs : List Value) : Prop :=
  0 < vs.length → ∃ ad : Addr, A = some ad ∧ ad.block ∉ S ∧ ad.block < w.heap.size ∧ ∀ j u, vs[j]? = some u → w.cell? (ad.add j) = some u
theorem add_block (a : Addr) (n : Nat) : (a.add n).block = a.block := by unfold Addr.add; split <;> rfl
theorem head_add (b j : Nat) : (⟨b, 0, none⟩ : Addr).add j = ⟨b, j, none⟩ := by
  unfold Addr.add; split
  · rename_i h; subst h; rfl
  · simp
theorem Src.row {w : World} {S : List Nat} {b : Nat} {t : TypeId} {l : List Value} (h : Row w b t l) (hb : b ∉ S) (vs : List Value) (hv : ∀ (j : Nat) (u : Value), vs[j]? = some u → l[j]? = some u) : Src w S (some ⟨b, 0, none⟩) vs := by
  intro _
  refine ⟨_, rfl, hb, h.lt, fun j u hu => ?_⟩
  rw [head_add]
  exact h.at (hv j u hu)
theorem Src.nil (w : World) (S : List Nat) (A : Option Addr) : Src w S A [] := fun h => absurd h (by simp)
theorem Src.far {S T : List Nat} {a w : World} {A : Option Addr} {vs : List Value} (h : Src a S A vs) (k : Far T a w) (hT : ∀ b, b ∈ T → b ∈ S) : Src w S A vs := by
  intro hp
  obtain ⟨ad, e, hb, hl, hc⟩ := h hp
  refine ⟨ad, e, hb, Nat.lt_of_lt_of_le hl k.size, fun j u hu => ?_⟩
  rw [k.cell (by rw [add_block]; exact hl) (by rw [add_block]; exact fun hm => hb (hT _ hm))]
  exact hc j u hu
theorem Src.mono {S S' : List Nat} {w : World} {A : Option Addr} {vs : List Value} (h : Src w S A vs) (hS : ∀ b, b ∈ S' → b < w.heap.size → b ∈ S) : Src w S' A vs := by
  intro hp
  obtain ⟨ad, e, hb, hl, hc⟩ := h hp
  exact ⟨ad, e, fun hm => hb (hS _ hm hl), hl, hc⟩
/-- A row of the call's own that lies elsewhere stays. -/
theorem own_far {S : List Nat} {a w : World} {base : Nat} {e : TypeId} {size n : Nat} {v : Value} {xs : List Value} (h : a.ownsRow base e size v n xs) (k : Far S a w) (hn : ∀ b, v.ownBlock = some b → b ∉ S) : w.ownsRow base e size v n xs := by
  obtain ⟨h1, h2⟩ := h
  refine ⟨h1, ?_⟩
  rcases h2 with h2 | ⟨g, cap, cur, rfl, hb, hg, h3⟩
  · exact .inl h2
  · refine .inr ⟨g, cap, cur, rfl, hb, ?_, h3⟩
    have hlt : g < a.heap.size := by
      rcases Nat.lt_or_ge g a.heap.size with hb | hb
      · exact hb
      · rw [Array.getElem?_eq_none hb] at hg; cases hg
    rw [k.block g hlt (hn g rfl)]
    exact hg
theorem own_lt {a : World} {base : Nat} {e : TypeId} {size n : Nat} {v : Value} {xs : List Value} (h : a.ownsRow base e size v n xs) (b : Nat) (hb : v.ownBlock = some b) : b < a.heap.size ∧ base ≤ b := by
  obtain ⟨_, h2⟩ := h
  rcases h2 with ⟨rfl, _⟩ | ⟨g, cap, cur, rfl, hbase, hg, _⟩
  · simp [Value.ownBlock] at hb
  · have : g = b := by simpa [Value.ownBlock] using hb
    subst this
    refine ⟨?_, hbase⟩
    rcases Nat.lt_or_ge g a.heap.size with hb | hb
    · exact hb
    · rw [Array.getElem?_eq_none hb] at hg; cases hg
theorem own_row_ne {w : World} {base : Nat} {e : TypeId} {size n : Nat} {v : Value} {xs : List Value} (h : w.ownsRow base e size v n xs) {b : Nat} {t : TypeId} {l : List Value} (hr : Row w b t l) (ht : e ≠ t) : v.ownBlock ≠ some b := by
  obtain ⟨_, h2⟩ := h
  rcases h2 with ⟨rfl, _⟩ | ⟨g, cap, cur, rfl, hbase, hg, _⟩
  · simp [Value.ownBlock]
  · intro he
    have : g = b := by simpa [Value.ownBlock] using he
    subst this
    unfold Row at hr
    rw [hg] at hr
    simp only [Option.some.injEq, Obj.cells.injEq] at hr
    exact ht hr.2.1
theorem own_own_ne {w : World} {base base' : Nat} {e e' : TypeId} {size size' n n' : Nat} {v v' : Value} {xs xs' : List Value} (h : w.ownsRow base e size v n xs) (h' : w.ownsRow base' e' size' v' n' xs') (ht : e ≠ e') (b : Nat) (hb : v.ownBlock = some b) : v'.ownBlock ≠ some b := by
  intro hb'
  obtain ⟨_, h2⟩ := h
  obtain ⟨_, h2'⟩ := h'
  rcases h2 with ⟨rfl, _⟩ | ⟨g, cap, cur, rfl, hbase, hg, _⟩
  · simp [Value.ownBlock] at hb
  · rcases h2' with ⟨rfl, _⟩ | ⟨g', cap', cur', rfl, hbase', hg', _⟩
    · simp [Value.ownBlock] at hb'
    · have e1 : g = b := by simpa [Value.ownBlock] using hb
      have e2 : g' = b := by simpa [Value.ownBlock] using hb'
      subst e1; subst e2
      rw [hg] at hg'
      simp only [Option.some.injEq, Obj.cells.injEq] at hg'
      exact ht hg'.2.1
end MM
end Go.Proofs.Ytcodmpibhlojaaa
/-
  Rows that the call has made itself, in the words of Mem: as a source, stored into, appended to from any source. No condition.
-/
namespace Go.Proofs.Ytcodmpibhlojaaa
open Go.RowKit
namespace MO
open MM
section
variable {w : World} {base : Nat} {e : TypeId} {size : Nat} {v : Value} {n : Nat} {xs : List Value}
theorem form (h : w.ownsRow base e size v n xs) : ∃ A c, v = .slice A n c ∧ (A = none → c = 0) ∧ n ≤ c ∧ c ≤ maxLen ∧ (∀ S, (∀ b, v.ownBlock = some b → b ∉ S) → Src w S A xs) ∧
    ((A = none ∧ n = 0 ∧ c = 0) ∨ ∃ g, A = some ⟨g, 0, none⟩ ∧ base ≤ g ∧ g < w.heap.size) := by
  have hcells := @World.ownsRow.cells w base e size v n xs h
  have hlt := fun b (hb : v.ownBlock = some b) => own_lt h b hb
  have hl := h.1
  rcases h.2 with ⟨rfl, rfl⟩ | ⟨g, cap, cur, rfl, hb, hg, hn, hm, _⟩
  · refine ⟨none, 0, rfl, fun _ => rfl, Nat.le_refl _, Nat.zero_le _, fun S _ hp => ?_, .inl ⟨rfl, rfl, rfl⟩⟩
    rw [hl] at hp; omega
  · refine ⟨some ⟨g, 0, none⟩, cap, rfl, (fun h => by cases h), hn, hm, fun S hS hp => ?_, .inr ⟨g, rfl, hb, (hlt g rfl).1⟩⟩
    exact ⟨_, rfl, hS g rfl, (hlt g rfl).1, hcells rfl⟩
theorem of_row {b : Nat} {l : List Value} (h : Row w b e l) (hb : base ≤ b) (hn : l.length = n * size) (hm : n ≤ maxLen) : w.ownsRow base e size (.slice (some ⟨b, 0, none⟩) n n) n l :=
  ⟨hn, .inr ⟨b, n, l.toArray, rfl, hb, h, Nat.le_refl _, hm, by simpa using hn, by simp [← hn]⟩⟩
theorem none_ (w : World) (base : Nat) (e : TypeId) (size : Nat) : w.ownsRow base e size (.slice none 0 0) 0 [] := ⟨by simp, .inl ⟨rfl, rfl⟩⟩
end
section
variable {P : Program} (w : World)
theorem wpList_append {ops : Array Oper} {rest : List Oper} {o : Oper} {a : Act} {Q : Exit → Act → World → Prop} (hgd : o.guard = none) (s x : Operand) (t : TypeId)
    (ho : o.op = .call { callee := .builtin .append, args := #[s, x], argTypes := #[t, t] })
    (base : Nat) (e : TypeId) (z : Value) (size bytes : Nat) (ht : P.underlying t = some (.slice e)) (hinfo : (P.info? e).map (fun i => (i.zero, i.size, i.bytes)) = some (some z, size, bytes))
    (hzs : z.cells.size = size) (hsz : 0 < size) (v : Value) (n : Nat) (xs : List Value) (hs : a.eval s = v) (hown : w.ownsRow base e size v n xs)
    (A : Option Addr) (m c : Nat) (news : List Value) (hx : a.eval x = .slice A m c) (hl : news.length = m * size) (hnil : A = none → c = 0 ∧ m = 0) (S : List Nat) (hsrc : Src w S A news) (h1 : ∀ u ∈ news, u.oneCell' = true)
    (h63 : n + m ≤ maxLen) (hbytes : (n + m) * bytes ≤ 140737488355328) (hbase : base ≤ w.heap.size)
    (h : ∀ v' w', w'.ownsRow base e size v' (n + m) (xs ++ news) → w.grownBy w' v.ownBlock → (v'.ownBlock = v.ownBlock ∨ v'.ownBlock = some w.heap.size) → wpList P ops Q rest (a.put o.dst v') w') :
    wpList P ops Q (o :: rest) a w := by
  obtain ⟨i, hi, hz, hsize, hby⟩ := info_parts hinfo
  refine wpList_plain hgd fun K hK => ?_
  cases A with
  | none =>
    obtain ⟨rfl, rfl⟩ := hnil rfl
    have hn0 : news = [] := List.eq_nil_of_length_eq_zero (by simpa using hl)
    subst hn0
    have hrun := run_append_owned_none (P := P) (w := w) base t o.type e i size ht hi v n xs hown
    unfold Oper.wp
    simp [execOp, ho, resolve, invoke, builtin, hs, hx, hrun, Result.andThen]
    exact hK _ _ (h v w (by simpa using hown) (World.grownBy.refl w _) (.inl rfl))
  | some ad =>
    have hc : ∀ j u, news[j]? = some u → w.cell? (ad.add j) = some u := by
      intro j u hu
      have hp : 0 < news.length := by have := (List.getElem?_eq_some_iff.1 hu).1; omega
      obtain ⟨ad', e', _, _, hcc⟩ := hsrc hp
      cases e'
      exact hcc j u hu
    obtain ⟨v', w', hrun, h2, h3, _, h5⟩ := run_append_own_at (P := P) w base t o.type e i z size bytes ht hi hz hsize hby hzs hsz v n xs hown ad m c news hl hc h1 h63 hbytes hbase
    unfold Oper.wp
    simp [execOp, ho, resolve, invoke, builtin, hs, hx, hrun, Result.andThen]
    exact hK _ _ (h v' w' h2 h3 h5)
end
end MO
end Go.Proofs.Ytcodmpibhlojaaa
/-
  Appending to a row of the call's own as one step of a statement whose order is open. No condition but sizes.
-/
namespace Go.Proofs.Ytcodmpibhlojaaa
open Go.RowKit
namespace MO
open MM
theorem step_append {P : Program} {ops : Array Oper} {o : Oper} {a : Act} {w : World} {K : Act → World → Prop} {Q : Exit → Act → World → Prop} {E : Prop} (hgd : o.guard = none) (s x : Operand) (t : TypeId)
    (ho : o.op = .call { callee := .builtin .append, args := #[s, x], argTypes := #[t, t] })
    (base : Nat) (e : TypeId) (z : Value) (size bytes : Nat) (ht : P.underlying t = some (.slice e)) (hinfo : (P.info? e).map (fun i => (i.zero, i.size, i.bytes)) = some (some z, size, bytes))
    (hzs : z.cells.size = size) (hsz : 0 < size) (v : Value) (n : Nat) (xs : List Value) (hs : a.eval s = v) (hown : w.ownsRow base e size v n xs)
    (A : Option Addr) (m c : Nat) (news : List Value) (hx : a.eval x = .slice A m c) (hl : news.length = m * size) (hnil : A = none → c = 0 ∧ m = 0) (S : List Nat) (hsrc : Src w S A news) (h1 : ∀ u ∈ news, u.oneCell' = true)
    (h63 : n + m ≤ maxLen) (hbytes : (n + m) * bytes ≤ 140737488355328) (hbase : base ≤ w.heap.size)
    (h : ∀ v' w', w'.ownsRow base e size v' (n + m) (xs ++ news) → w.grownBy w' v.ownBlock → (v'.ownBlock = v.ownBlock ∨ v'.ownBlock = some w.heap.size) → K (a.put o.dst v') w') :
    if Region.wanted o (yielded ops a.tmps) = true then Oper.wp P o a w K Q else E := by
  have hw : Region.wanted o (yielded ops a.tmps) = true := by simp [Region.wanted, hgd]
  rw [if_pos hw]
  obtain ⟨i, hi, hz, hsize, hby⟩ := info_parts hinfo
  cases A with
  | none =>
    obtain ⟨rfl, rfl⟩ := hnil rfl
    have hn0 : news = [] := List.eq_nil_of_length_eq_zero (by simpa using hl)
    subst hn0
    have hrun := run_append_owned_none (P := P) (w := w) base t o.type e i size ht hi v n xs hown
    unfold Oper.wp
    simp [execOp, ho, resolve, invoke, builtin, hs, hx, hrun, Result.andThen]
    exact h v w (by simpa using hown) (World.grownBy.refl w _) (.inl rfl)
  | some ad =>
    have hc : ∀ j u, news[j]? = some u → w.cell? (ad.add j) = some u := by
      intro j u hu
      have hp : 0 < news.length := by have := (List.getElem?_eq_some_iff.1 hu).1; omega
      obtain ⟨ad', e', _, _, hcc⟩ := hsrc hp
      cases e'
      exact hcc j u hu
    obtain ⟨v', w', hrun, h2, h3, _, h5⟩ := run_append_own_at (P := P) w base t o.type e i z size bytes ht hi hz hsize hby hzs hsz v n xs hown ad m c news hl hc h1 h63 hbytes hbase
    unfold Oper.wp
    simp [execOp, ho, resolve, invoke, builtin, hs, hx, hrun, Result.andThen]
    exact h v' w' h2 h3 h5
end MO
end Go.Proofs.Ytcodmpibhlojaaa
/-
  Arguments that came in, read off the row's reading: slices of numbers, of such slices, of structs of one-cell fields. No condition.
-/
namespace Go.Proofs.Ytcodmpibhlojaaa
open Go.RowKit Go.ChangeShapes Go.WideShapes Go.Deep
namespace MR
open MM
/-- A slice value that came in: its elements are of c cells each; element i's cells are those of xs i. -/
structure Came (w : World) (c : Nat) (a : Option Addr) (len cap : Nat) (xs : Nat → List Value) : Prop where
  le : len ≤ cap
  max : cap ≤ maxLen
  nil : a = none → cap = 0
  elems : 0 < len → ∃ ad : Addr, a = some ad ∧ ad.block < w.heap.size ∧ ∀ i, i < len → (xs i).length = c ∧ ∀ j u, (xs i)[j]? = some u → w.cell? (ad.add (i * c + j)) = some u
theorem cell_lt {w : World} {a : Addr} {v : Value} (h : w.cell? a = some v) : a.block < w.heap.size := by
  unfold World.cell? at h
  rcases Nat.lt_or_ge a.block w.heap.size with hb | hb
  · exact hb
  · rw [Array.getElem?_eq_none hb] at h; cases h
theorem add_add_ (a : Addr) (i j : Nat) : (a.add i).add j = a.add (i + j) := by
  unfold Addr.add
  by_cases hi : i = 0 <;> by_cases hj : j = 0 <;> simp [hi, hj, Nat.add_assoc]
section
variable {H : Type} {enc : TypeId × Value → H} {P : Program} {w : World} {fuel : Nat}
theorem came_of {t e : TypeId} {cs : List Value} {x : DataW H × List MemPlace} (C : Nat) (ht : P.underlying t = some (.slice e)) (hC : P.cellsOf e = C) (hpos : 0 < C)
    (h : DataW.trod enc P w 0 (fun _ => true) true fuel t cs = some x) :
    ∃ a len cap xs, cs = [.slice a len cap] ∧ Came w C a len cap xs ∧ ∀ i, i < len → ∃ n y, DataW.trod enc P w 0 (fun _ => true) true n e (xs i) = some y := by
  subst hC
  rcases open_slice ht h with ⟨rfl, _⟩ | ⟨a, len, cap, m, n, D, Pl, rfl, _, hl, hm, hmm, _, hi⟩
  · exact ⟨none, 0, 0, fun _ => [], rfl, ⟨Nat.le_refl _, Nat.zero_le _, fun _ => rfl, fun h => absurd h (by omega)⟩, fun i hi => absurd hi (by omega)⟩
  · simp at hmm
    subst hmm
    have hx : ∀ i, ∃ cs', i < len → w.cells? 0 (a.add (i * P.cellsOf e)) (P.cellsOf e) = some cs' ∧ DataW.trod enc P w 0 (fun _ => true) true n e cs' = some (D i, Pl i) := by
      intro i
      by_cases h1 : i < len
      · obtain ⟨cs', h2⟩ := hi i (by omega)
        exact ⟨cs', fun _ => h2⟩
      · exact ⟨[], fun h => absurd h h1⟩
    obtain ⟨X, hX⟩ := Classical.axiomOfChoice hx
    refine ⟨some a, len, m, X, rfl, ⟨hl, hm, (fun h => by cases h), fun h0 => ⟨a, rfl, ?_, fun i hi' => ?_⟩⟩, fun i hi' => ⟨n, _, (hX i hi').2⟩⟩
    · obtain ⟨_, hlen, hat⟩ := World.cells?_some (hX 0 h0).1
      have h1 := hat 0 hpos
      have : (X 0)[0]? = some ((X 0)[0]'(by omega)) := List.getElem?_eq_getElem (by omega)
      rw [this] at h1
      have := cell_lt h1
      simpa [add_block] using this
    · obtain ⟨_, hlen, hat⟩ := World.cells?_some (hX i hi').1
      refine ⟨hlen, fun j u hu => ?_⟩
      have hj : j < P.cellsOf e := by
        rw [← hlen]; exact (List.getElem?_eq_some_iff.1 hu).1
      rw [← add_add_, hat j hj]; exact hu
theorem int_of {t : TypeId} {k : IntKind} {cs : List Value} {x : DataW H × List MemPlace} (ht : P.underlying t = some (.int k)) (h : DataW.trod enc P w 0 (fun _ => true) true fuel t cs = some x) : ∃ n, cs = [.int k n] ∧ (Lit.int k n).wf = true := by
  obtain ⟨n, h1, _, h2⟩ := DataW.trod_int ht h
  exact ⟨n, h1, h2⟩
theorem field_of {t : TypeId} {fs : Array Field} {cs : List Value} {x : DataW H × List MemPlace} (ht : P.underlying t = some (.struct fs)) (hone : oneCellFields P fs = true) (hC : P.cellsOf t = fs.size) (h : DataW.trod enc P w 0 (fun _ => true) true fuel t cs = some x) :
    cs.length = fs.size ∧ ∀ (j : Nat) (f : Field), fs[j]? = some f → ∃ v n y, cs[j]? = some v ∧ DataW.trod enc P w 0 (fun _ => true) true n f.type [v] = some y := by
  obtain ⟨ys, n, _, _, hlen, hyl, hf⟩ := DataW.trod_struct ht h
  rw [hC] at hlen
  refine ⟨hlen, fun j f hj => ?_⟩
  obtain ⟨ho, hk⟩ := hone_of hone j f hj
  have hjl : j < fs.size := (Array.getElem?_eq_some_iff.1 hj).1
  have h1 := hf j f hj
  rw [ho, hk] at h1
  have e1 : (cs.drop j).take 1 = [cs[j]'(by omega)] := by
    rw [List.drop_eq_getElem_cons (by omega)]; rfl
  rw [e1] at h1
  have hys : ys[j]? = some (ys[j]'(by omega)) := List.getElem?_eq_getElem (by omega)
  exact ⟨_, n, _, List.getElem?_eq_getElem (by omega), h1.trans hys⟩
end
/-- A slice of numbers. -/
structure Ints (k : IntKind) (w : World) (a : Option Addr) (len cap : Nat) (zs : List Int) : Prop where
  len_ : zs.length = len
  le : len ≤ cap
  max : cap ≤ maxLen
  nil : a = none → cap = 0
  src : Src w [] a (zs.map (.int k))
  wf : ∀ z ∈ zs, (Lit.int k z).wf = true
section
variable {H : Type} {enc : TypeId × Value → H} {P : Program} {w : World} {fuel : Nat}
theorem ints_of {t e : TypeId} {k : IntKind} {cs : List Value} {x : DataW H × List MemPlace} (ht : P.underlying t = some (.slice e)) (he : P.underlying e = some (.int k)) (hC : P.cellsOf e = 1)
    (h : DataW.trod enc P w 0 (fun _ => true) true fuel t cs = some x) : ∃ a len cap zs, cs = [.slice a len cap] ∧ Ints k w a len cap zs := by
  obtain ⟨a, len, cap, xs, hcs, hcame, hel⟩ := came_of 1 ht hC (by omega) h
  have hz : ∀ i, ∃ z : Int, i < len → xs i = [.int k z] ∧ (Lit.int k z).wf = true := by
    intro i
    by_cases h1 : i < len
    · obtain ⟨n, y, hy⟩ := hel i h1
      obtain ⟨z, hz⟩ := int_of he hy
      exact ⟨z, fun _ => hz⟩
    · exact ⟨0, fun h => absurd h h1⟩
  obtain ⟨Z, hZ⟩ := Classical.axiomOfChoice hz
  refine ⟨a, len, cap, (List.range len).map Z, hcs, by simp, hcame.le, hcame.max, hcame.nil, fun hp => ?_, fun z hm => ?_⟩
  · have hlen : 0 < len := by simpa using hp
    obtain ⟨ad, rfl, hb, hc⟩ := hcame.elems hlen
    refine ⟨ad, rfl, by simp, hb, fun j u hu => ?_⟩
    have hj : j < len := by have := (List.getElem?_eq_some_iff.1 hu).1; simpa using this
    obtain ⟨_, h2⟩ := hc j hj
    have h3 := h2 0 (.int k (Z j)) (by rw [(hZ j hj).1]; rfl)
    simp only [Nat.mul_one, Nat.add_zero] at h3
    rw [h3]
    simp [hj] at hu
    rw [hu]
  · obtain ⟨i, hi, rfl⟩ := List.mem_map.1 hm
    exact (hZ i (by simpa using hi)).2
end
theorem Ints.far {k : IntKind} {w w' : World} {a : Option Addr} {len cap : Nat} {zs : List Int} (h : Ints k w a len cap zs) (f : Far [] w w') : Ints k w' a len cap zs :=
  ⟨h.len_, h.le, h.max, h.nil, h.src.far f (by simp), h.wf⟩
/-- A slice of slices of numbers. -/
structure Intss (k : IntKind) (w : World) (a : Option Addr) (len cap : Nat) (zss : List (List Int)) : Prop where
  len_ : zss.length = len
  le : len ≤ cap
  max : cap ≤ maxLen
  nil : a = none → cap = 0
  elems : ∀ (i : Nat) (zs : List Int), zss[i]? = some zs → ∃ b off A l c, a = some ⟨b, off, none⟩ ∧ w.cell? ⟨b, off + i, none⟩ = some (.slice A l c) ∧ Ints k w A l c zs
theorem spot_none {w : World} {a : Addr} {v : Value} (h : w.cell? a = some v) : a.spot = none := World.cell?_spot h
theorem add_zero_ (a : Addr) : a.add 0 = a := by unfold Addr.add; simp
theorem mk_add (b off i : Nat) : (⟨b, off, none⟩ : Addr).add i = ⟨b, off + i, none⟩ := by
  unfold Addr.add; split
  · rename_i h; subst h; rfl
  · rfl
section
variable {H : Type} {enc : TypeId × Value → H} {P : Program} {w : World} {fuel : Nat}
theorem intss_of {t e e2 : TypeId} {k : IntKind} {cs : List Value} {x : DataW H × List MemPlace} (ht : P.underlying t = some (.slice e)) (he : P.underlying e = some (.slice e2)) (he2 : P.underlying e2 = some (.int k)) (hC : P.cellsOf e = 1) (hC2 : P.cellsOf e2 = 1)
    (h : DataW.trod enc P w 0 (fun _ => true) true fuel t cs = some x) : ∃ a len cap zss, cs = [.slice a len cap] ∧ Intss k w a len cap zss := by
  obtain ⟨a, len, cap, xs, hcs, hcame, hel⟩ := came_of 1 ht hC (by omega) h
  have hz : ∀ i, ∃ q : Option Addr × Nat × Nat × List Int, i < len → xs i = [.slice q.1 q.2.1 q.2.2.1] ∧ Ints k w q.1 q.2.1 q.2.2.1 q.2.2.2 := by
    intro i
    by_cases h1 : i < len
    · obtain ⟨n, y, hy⟩ := hel i h1
      obtain ⟨a', l', c', zs, h2, h3⟩ := ints_of he he2 hC2 hy
      exact ⟨(a', l', c', zs), fun _ => ⟨h2, h3⟩⟩
    · exact ⟨(none, 0, 0, []), fun h => absurd h h1⟩
  obtain ⟨Z, hZ⟩ := Classical.axiomOfChoice hz
  refine ⟨a, len, cap, (List.range len).map fun i => (Z i).2.2.2, hcs, by simp, hcame.le, hcame.max, hcame.nil, fun i zs hi => ?_⟩
  have hil : i < len := by have := (List.getElem?_eq_some_iff.1 hi).1; simpa using this
  obtain ⟨ad, rfl, hb, hc⟩ := hcame.elems (by omega)
  obtain ⟨_, h2⟩ := hc i hil
  have h3 := h2 0 _ (by rw [(hZ i hil).1]; rfl)
  simp only [Nat.mul_one, Nat.add_zero] at h3
  obtain ⟨_, h4⟩ := hc 0 (by omega)
  have h5 := h4 0 _ (by rw [(hZ 0 (by omega)).1]; rfl)
  simp only [Nat.mul_one, Nat.add_zero, add_zero_] at h5
  obtain ⟨b, off, spot⟩ := ad
  obtain rfl : spot = none := spot_none h5
  rw [mk_add] at h3
  simp [hil] at hi
  subst hi
  exact ⟨b, off, _, _, _, rfl, h3, (hZ i hil).2⟩
end
end MR
end Go.Proofs.Ytcodmpibhlojaaa
/-
  strings.Clone: the same bytes, in memory of its own. Condition: the text is no longer than 2^47 bytes.
-/
namespace Go.Proofs.Ytcodmpibhlojaaa
open Go.RowKit
namespace MC
theorem byte_info : (Try.prog.info? 5).map (fun i => (i.zero, i.size, i.bytes)) = some (some (.int .u8 0), 1, 1) := by kernel_rfl
end MC
end Go.Proofs.Ytcodmpibhlojaaa

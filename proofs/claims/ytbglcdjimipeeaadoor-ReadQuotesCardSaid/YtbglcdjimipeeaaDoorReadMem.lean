/-
  The document's reader in memory: its data, those by themselves, what is open, each with its list; no two rows the same. No condition.
-/
import Derived.Test.YtbglcdjimipeeaaDoorReadSame
import Derived.Test.YtbglcdjimipeeaaDoorOwnStep
namespace Go.Proofs.YtbglcdjimipeeaaDoor
open Go.RowKit
namespace RM6
open LX RX RW6
/-- Rows of places that the call has made itself, no two the same. -/
structure Kin (w : World) (base : Nat) (ks : List (Value × List Nat)) : Prop where
  each : ∀ k ∈ ks, w.ownsRow base 3 1 k.1 k.2.length (ints k.2)
  apart : ks.Pairwise (fun a b => ∀ x, a.1.ownBlock = some x → b.1.ownBlock ≠ some x)
section
variable {w w' : World} {base : Nat} {ks ks' : List (Value × List Nat)}
theorem Kin.perm (h : Kin w base ks) (p : ks.Perm ks') : Kin w base ks' :=
  ⟨fun k hk => h.each k (p.mem_iff.2 hk), p.pairwise h.apart (fun hxy b hy hx => hxy b hx hy)⟩
theorem Kin.far {S : List Nat} (h : Kin w base ks) (f : MM.Far S w w') (hS : ∀ k ∈ ks, ∀ b, k.1.ownBlock = some b → b ∉ S) : Kin w' base ks :=
  ⟨fun k hk => MM.own_far (h.each k hk) f (hS k hk), h.apart⟩
theorem Kin.tail {k : Value × List Nat} (h : Kin w base (k :: ks)) : Kin w base ks := ⟨fun x hx => h.each x (List.mem_cons_of_mem _ hx), (List.pairwise_cons.1 h.apart).2⟩
theorem Kin.none_ (h : Kin w base ks) : Kin w base ((.slice none 0 0, []) :: ks) := by
  refine ⟨fun k hk => ?_, List.pairwise_cons.2 ⟨fun k _ x hx => by simp [Value.ownBlock] at hx, h.apart⟩⟩
  rcases List.mem_cons.1 hk with rfl | hk
  · exact MO.none_ _ _ _ _
  · exact h.each k hk
theorem ints_snoc (l : List Nat) (n : Nat) : ints (l ++ [n]) = ints l ++ [.int .i64 ((n : Nat) : Int)] := by simp [ints]
theorem ints_len (l : List Nat) : (ints l).length = l.length := by simp [ints]
/-- The first of the rows has grown by one. -/
theorem Kin.grow {v v' : Value} {l : List Nat} {n : Nat} (h : Kin w base ((v, l) :: ks)) (hv : w'.ownsRow base 3 1 v' (l.length + 1) (ints l ++ [.int .i64 ((n : Nat) : Int)])) (f : MM.Far v.ownBlock.toList w w') (hat : v'.ownBlock = v.ownBlock ∨ ∃ b, v'.ownBlock = some b ∧ w.heap.size ≤ b) :
    Kin w' base ((v', l ++ [n]) :: ks) := by
  have hp := List.pairwise_cons.1 h.apart
  refine ⟨fun k hk => ?_, List.pairwise_cons.2 ⟨fun k hk x hx => ?_, hp.2⟩⟩
  · rcases List.mem_cons.1 hk with rfl | hk
    · rw [List.length_append, ints_snoc]; exact hv
    · exact MM.own_far (h.each k (List.mem_cons_of_mem _ hk)) f (fun b hb hm => hp.1 k hk b (by simpa using hm) hb)
  · rcases hat with e | ⟨b, e, hb⟩
    · exact hp.1 k hk x (e ▸ hx)
    · intro hk2
      have := (MM.own_lt (h.each k (List.mem_cons_of_mem _ hk)) x hk2).1
      rw [e] at hx
      injection hx with hx
      omega
end
def ndC (rs : List (Nd × Value)) : List Value := rs.flatMap fun x => [.int .u8 x.1.kind, .int .i64 x.1.at_, .int .i64 x.1.n, .string x.1.s, x.2]
def ptC (os : List (Pt × Value)) : List Value := os.flatMap fun x => [.int .i64 x.1.at_, .bool x.1.q, x.2]
theorem ndC_snoc (rs : List (Nd × Value)) (x : Nd × Value) : ndC (rs ++ [x]) = ndC rs ++ [.int .u8 x.1.kind, .int .i64 x.1.at_, .int .i64 x.1.n, .string x.1.s, x.2] := by simp [ndC]
theorem ptC_snoc (os : List (Pt × Value)) (x : Pt × Value) : ptC (os ++ [x]) = ptC os ++ [.int .i64 x.1.at_, .bool x.1.q, x.2] := by simp [ptC]
theorem ptC_len (os : List (Pt × Value)) : (ptC os).length = os.length * 3 := by
  induction os with
  | nil => rfl
  | cons x r ih => simp only [ptC, List.flatMap_cons, List.length_append, List.length_cons] at ih ⊢; rw [ih]; simp; omega
def kinsN (rs : List (Nd × Value)) : List (Value × List Nat) := rs.map fun x => (x.2, x.1.l)
def kinsP (os : List (Pt × Value)) : List (Value × List Nat) := os.map fun x => (x.2, x.1.l)
section
variable {w0 w w1 : World} {q : Nat} {rv tv ov : Value} {rs : List (Nd × Value)} {tops : List Nat} {os : List (Pt × Value)} {ex : List (Value × List Nat)}
theorem own_off {e e' : TypeId} {size size' n n' base base' : Nat} {v v' : Value} {xs xs' : List Value} (h : w.ownsRow base e size v n xs) (h' : w.ownsRow base' e' size' v' n' xs') (ht : e ≠ e') : ∀ b, v.ownBlock = some b → b ∉ v'.ownBlock.toList := by
  intro b hb hm
  exact MM.own_own_ne h h' ht b hb (by simpa using hm)
theorem one_far (w : World) (q i : Nat) (u : Value) : MM.Far [q] w (w.setCell ⟨q, i, none⟩ u) := (MM.Far.refl [q] w).setCell (by simp) u
end
end RM6
end Go.Proofs.YtbglcdjimipeeaaDoor

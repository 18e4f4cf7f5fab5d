/-
  Several texts in one: ReadC3, ReadC4, ReadC5, ReadC6. Each one's own head tells its conditions.
-/
import Derived.Test.YtaghlpolljaedaaGreatReadMems
import Derived.Deep.LoopGhost
import Derived.Test.YtaghlpolljaedaaGreatLexPure
import Derived.Test.YtaghlpolljaedaaGreatReadPuts
import Derived.Test.YtaghlpolljaedaaGreatLexCodes
import Derived.Test.YtaghlpolljaedaaGreatLexMids
/-
  Contract of the code's reader: add. Conditions: there are no more than 20000 data.
-/
namespace Go.Proofs.YtaghlpolljaedaaGreat
open Go.RowKit
namespace RX
theorem putO_stop {ps : List Pt} (row : List Nd) (tops : List Nat) (x : Nd) (h : whole ps = false) : putO ps row tops x = ⟨row ++ [x], afterT row.length ps tops, afterP row.length ps⟩ := by
  cases ps with
  | nil => rfl
  | cons p ps =>
    unfold putO
    rw [if_neg]
    · rfl
    · intro ⟨h1, h2⟩
      simp [whole, h1] at h
      omega
theorem putO_go {p : Pt} {ps : List Pt} (row : List Nd) (tops : List Nat) (x : Nd) (h : whole (p :: ps) = true) : putO (p :: ps) row tops x = putO ps (row ++ [x]) tops ⟨4, p.at_, 0, LX.emp, p.l ++ [row.length]⟩ := by
  conv => lhs; unfold putO
  rw [if_pos]
  simp [whole] at h
  exact ⟨h.1, by omega⟩
end RX
namespace RC6
open LX RX RW6
open RM6 (Kin ndC kinsN kinsP ints_snoc ints_len ndC_snoc own_off one_far)
/-- What is kept of the boxes round about: those of tokens. -/
structure KeepT (w w' : World) : Prop where
  size : w.heap.size ≤ w'.heap.size
  tok : ∀ b l, MM.Row w b 67 l → MM.Row w' b 67 l
theorem KeepT.refl (w : World) : KeepT w w := ⟨Nat.le_refl _, fun _ _ h => h⟩
theorem KeepT.trans {w w1 w2 : World} (h : KeepT w w1) (k : KeepT w1 w2) : KeepT w w2 := ⟨Nat.le_trans h.size k.size, fun b l r => k.tok b l (h.tok b l r)⟩
theorem Keep.t {v : Value} {w w' : World} (h : Keep v w w') : KeepT w w' := ⟨h.size, h.tok⟩
theorem KeepT.far {S : List Nat} {w w' : World} (f : MM.Far S w w') (hS : ∀ b ∈ S, b < w.heap.size → ∃ t l, MM.Row w b t l ∧ t ≠ 67) : KeepT w w' :=
  ⟨f.size, fun b l r => r.far f (fun hm => by
    obtain ⟨t, l2, r2, h1⟩ := hS b hm r.lt
    exact r2.ne r h1 rfl)⟩
theorem KeepT.nil {w w' : World} (f : MM.Far [] w w') : KeepT w w' := KeepT.far f (by simp)
theorem KeepT.one {w w' : World} {q : Nat} {t : TypeId} {l : List Value} (f : MM.Far [q] w w') (h : MM.Row w q t l) (ht : t ≠ 67) : KeepT w w' :=
  KeepT.far f (fun b hb _ => ⟨t, l, by
    have e : b = q := by simpa using hb
    rw [e]; exact h, ht⟩)
section
variable {w0 w : World} {q : Nat} {rv tv ov : Value} {rs : List (Nd × Value)} {tops : List Nat} {os : List (Pt × Value)} {ex : List (Value × List Nat)}
theorem box_far (w : World) (bx : Nat) (a b c d e : Value) : MM.Far [bx] w (((((w.setCell ⟨bx, 0, none⟩ a).setCell ⟨bx, 1, none⟩ b).setCell ⟨bx, 2, none⟩ c).setCell ⟨bx, 3, none⟩ d).setCell ⟨bx, 4, none⟩ e) :=
  (((((MM.Far.refl [bx] w).setCell (by simp) a).setCell (by simp) b).setCell (by simp) c).setCell (by simp) d).setCell (by simp) e
theorem box_row {w : World} {bx : Nat} {a0 b0 c0 d0 e0 : Value} (a b c d e : Value) (h : MM.Row w bx 53 [a0, b0, c0, d0, e0]) :
    MM.Row (((((w.setCell ⟨bx, 0, none⟩ a).setCell ⟨bx, 1, none⟩ b).setCell ⟨bx, 2, none⟩ c).setCell ⟨bx, 3, none⟩ d).setCell ⟨bx, 4, none⟩ e) bx 53 [a, b, c, d, e] :=
  ((((h.put 0 a).put 1 b).put 2 c).put 3 d).put 4 e
theorem map_cons_ {α β : Type} {l : List (α × β)} {p : α} {ps : List α} (h : l.map (·.1) = p :: ps) : ∃ v l', l = (p, v) :: l' ∧ l'.map (·.1) = ps := by
  cases l with
  | nil => cases h
  | cons z l =>
    rw [List.map_cons] at h
    injection h with h1 h2
    obtain ⟨z1, z2⟩ := z
    subst h1
    exact ⟨z2, l, rfl, h2⟩
end
end RC6
end Go.Proofs.YtaghlpolljaedaaGreat
/-
  Contracts of the code's reader: begin, finish. Conditions: there are no more than 20000 data.
-/
namespace Go.Proofs.YtaghlpolljaedaaGreat
open Go.RowKit
namespace RC6
open LX RX RW6
open RM6 (Kin ndC kinsN kinsP ints_snoc ints_len ndC_snoc own_off one_far)
section
variable {w0 w : World} {q : Nat} {rv tv ov : Value} {rs : List (Nd × Value)} {tops : List Nat} {os : List (Pt × Value)} {ex : List (Value × List Nat)}
theorem pt_one (a : Int) (b : Bool) : ∀ u ∈ [Value.int .u8 4, .int .i64 a, .int .i64 0, .string ⟨#[]⟩, .slice none 0 0, .bool b], u.oneCell' = true := by
  intro u hu
  simp only [List.mem_cons, List.not_mem_nil, or_false] at hu
  rcases hu with rfl | rfl | rfl | rfl | rfl | rfl <;> rfl
end
end RC6
end Go.Proofs.YtaghlpolljaedaaGreat
/-
  Contracts of the code's reader: take, end. Conditions: there are no more than 20000 data; tokens of the six kinds.
-/
namespace Go.Proofs.YtaghlpolljaedaaGreat
open Go.RowKit
namespace RC6
open LX RX RW6
open RM6 (Kin ndC kinsN kinsP ints_snoc ints_len ndC_snoc own_off one_far)
section
variable {w0 w : World} {q : Nat} {rv tv ov : Value} {rs : List (Nd × Value)} {tops : List Nat} {os : List (Pt × Value)} {ex : List (Value × List Nat)}
/-- What the end comes to. -/
def EndP (w : World) (X : Except (Int × Int) Rd) (e : Ending) (w' : World) : Prop := (match X with
  | .ok _ => e = .returned (.tuple #[.int .i64 0, .int .i64 0])
  | .error (a, z) => e = .returned (.tuple #[.int .i64 a, .int .i64 z])) ∧ ∃ d, w' = w.drewN d
end
end RC6
end Go.Proofs.YtaghlpolljaedaaGreat
/-
  Contract of the code's own Read. No condition.
-/
namespace Go.Proofs.YtaghlpolljaedaaGreat
open Go.RowKit
namespace RC6
open LX RX RW6
open RM6 (Kin ndC kinsN kinsP ints_snoc ints_len ndC_snoc own_off one_far)
section
variable {w0 w : World} {q : Nat} {rv tv ov : Value} {rs : List (Nd × Value)} {tops : List Nat} {os : List (Pt × Value)} {ex : List (Value × List Nat)}
end
end RC6
end Go.Proofs.YtaghlpolljaedaaGreat

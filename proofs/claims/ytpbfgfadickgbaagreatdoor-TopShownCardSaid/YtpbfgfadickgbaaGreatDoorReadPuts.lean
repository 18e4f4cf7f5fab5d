/-
  Several texts in one: ReadPut, ReadR1, ReadR2, ReadDone. Each one's own head tells its conditions.
-/
import Derived.Test.YtpbfgfadickgbaaGreatDoorReadMems
import Derived.Deep.RegionLaw
import Derived.Deep.RegionHeld3
import Derived.Deep.DeepCutAuto
import Derived.IntWalk
import Derived.Test.YtpbfgfadickgbaaGreatDoorLexPure
import Derived.Deep.Onto
/-
  Contracts of the document's reader: put, close. Conditions: there are no more than 20000 data.
-/
namespace Go.Proofs.YtpbfgfadickgbaaGreatDoor
open Go.RowKit
namespace RM6
open LX RX RW6
theorem nodes_slice : Tryz.prog.underlying 23 = some (.slice 81) := by kernel_rfl
theorem node_info : (Tryz.prog.info? 81).map (fun i => (i.zero, i.size, i.bytes)) = some (some (.agg #[.int .u8 0, .int .i64 0, .int .i64 0, .string ⟨#[]⟩, .slice none 0 0]), 5, 64) := by kernel_rfl
theorem ints_slice : Tryz.prog.underlying 24 = some (.slice 3) := by kernel_rfl
theorem int_info : (Tryz.prog.info? 3).map (fun i => (i.zero, i.size, i.bytes)) = some (some (.int .i64 0), 1, 8) := by kernel_rfl
/-- Lists are no longer than the row. -/
def Fit (R : Rd) : Prop := (∀ p ∈ R.op, p.l.length ≤ R.row.length) ∧ R.tops.length ≤ R.row.length
theorem form_ (w0 : World) {w : World} {e : TypeId} {size n : Nat} {v : Value} {xs : List Value} (h : w.ownsRow w0.heap.size e size v n xs) : ∃ A c, v = .slice A n c := by
  obtain ⟨A, c, e, _⟩ := MO.form h
  exact ⟨A, c, e⟩
theorem nd_one (x : Nd) (A : Option Addr) (c : Nat) : ∀ u ∈ [Value.int .u8 x.kind, .int .i64 x.at_, .int .i64 x.n, .string x.s, .slice A x.l.length c], u.oneCell' = true := by
  intro u hu
  simp only [List.mem_cons, List.not_mem_nil, or_false] at hu
  rcases hu with rfl | rfl | rfl | rfl | rfl <;> rfl
theorem far_app {W w2 : World} {o : Obj} {b : Option Nat} (h : (W.alloc o).drew.grownBy w2 b) : MM.Far b.toList W w2 :=
  ((MM.Far.refl b.toList W).alloc o).trans (MM.Far.of_grown (S := b.toList) (a := W.alloc o) ⟨h.os, h.tape, h.output, h.size, h.block⟩ (by intro k hk _; simp [hk])) (fun k hk _ => hk)
theorem far_app0 {W w2 : World} {o : Obj} {b : Option Nat} (h : (W.alloc o).grownBy w2 b) : MM.Far b.toList W w2 :=
  ((MM.Far.refl b.toList W).alloc o).trans (MM.Far.of_grown (S := b.toList) (a := W.alloc o) h (by intro k hk _; simp [hk])) (fun k hk _ => hk)
theorem far_grown_ {W a w2 : World} {b : Option Nat} (f : MM.Far [] W a) (h : a.grownBy w2 b) : MM.Far b.toList W w2 :=
  (f.mono (S' := b.toList) (by simp)).trans (MM.Far.of_grown (S := b.toList) h (by intro k hk _; simp [hk])) (fun k hk _ => hk)
theorem one_int (i : Int) : ∀ u ∈ [Value.int .i64 i], u.oneCell' = true := by
  intro u hu
  rw [List.mem_singleton] at hu
  subst hu
  rfl
/-- A place more in a row of places of the call's own. -/
theorem kin_push {ops : Array Oper} {rest : List Oper} {o : Oper} {a : Act} {Q : Exit → Act → World → Prop} {base : Nat} {w : World} {v : Value} {l : List Nat} {n : Nat}
    (hO : w.ownsRow base 3 1 v l.length (ints l)) (hb : base ≤ w.heap.size) (hl : l.length ≤ 100000) (hgd : o.guard = none) (s x : Operand)
    (ho : o.op = .call { callee := .builtin .append, args := #[s, x], argTypes := #[24, 24] })
    (hs : a.eval s = v) (hx : a.eval x = .slice (some ⟨w.heap.size, 0, none⟩) 1 1)
    (h : ∀ A c w', w'.ownsRow base 3 1 (.slice A (l.length + 1) c) (l.length + 1) (ints l ++ [.int .i64 ((n : Nat) : Int)]) → MM.Far v.ownBlock.toList w w' →
      ((Value.slice A (l.length + 1) c).ownBlock = v.ownBlock ∨ ∃ b, (Value.slice A (l.length + 1) c).ownBlock = some b ∧ w.heap.size ≤ b) → wpList Tryz.prog ops Q rest (a.put o.dst (.slice A (l.length + 1) c)) w') :
    wpList Tryz.prog ops Q (o :: rest) a (w.alloc (.cells #[.int .i64 ((n : Nat) : Int)] 3)) := by
  have hF : MM.Far [] w (w.alloc (.cells #[.int .i64 ((n : Nat) : Int)] 3)) := (MM.Far.refl [] w).alloc _
  refine MO.wpList_append _ hgd s x 24 ho base 3 (.int .i64 0) 1 8 ints_slice int_info rfl (by omega) v l.length (ints l) hs (hO.alloc _) (some ⟨w.heap.size, 0, none⟩) 1 1 [.int .i64 ((n : Nat) : Int)] hx rfl (fun h => by cases h) [] ?_ ?_ ?_ ?_ (by have := hF.size; omega) ?_
  · exact MM.Src.row (MM.Row.new w 3 [.int .i64 ((n : Nat) : Int)]) (by simp) _ (fun j u hu => hu)
  · intro u hu
    rw [List.mem_singleton] at hu
    subst hu
    rfl
  · simp only [maxLen]; omega
  · omega
  · intro v' w' hv hg hat
    obtain ⟨A, c, rfl, _⟩ := MO.form hv
    refine h A c w' hv (far_app0 hg) ?_
    rcases hat with e | e
    · exact .inl e
    · exact .inr ⟨_, e, by have := hF.size; omega⟩
section
variable {w0 w : World} {q : Nat} {rv tv ov : Value} {rs : List (Nd × Value)} {tops : List Nat} {os : List (Pt × Value)} {ex : List (Value × List Nat)}
theorem end_eq {x : Nd} (hx : Value) {hp0 : Value} {p : Pt} {os1 : List (Pt × Value)} (hq : p.q = true ∧ p.l.length + 1 = 2) :
    putO (((p, hp0) :: os1).map (·.1)) (rs.map (·.1)) tops x = putO (os1.map (·.1)) ((rs ++ [(x, hx)]).map (·.1)) tops ⟨4, p.at_, 0, emp, p.l ++ [rs.length]⟩ := by
  rw [List.map_cons]
  conv => lhs; unfold putO
  rw [if_pos hq]
  simp
end
end RM6
end Go.Proofs.YtpbfgfadickgbaaGreatDoor
/-
  Contracts of the document's reader: close, put, whatever is open. Conditions: there are no more than 20000 data.
-/
namespace Go.Proofs.YtpbfgfadickgbaaGreatDoor
open Go.RowKit
namespace RM6
open LX RX RW6
section
variable {w0 w : World} {q : Nat} {rv tv ov : Value} {rs : List (Nd × Value)} {tops : List Nat} {os : List (Pt × Value)} {ex : List (Value × List Nat)}
theorem ptC_one (os : List (Pt × Value)) (h : ∀ z ∈ os, ∃ A c, z.2 = .slice A z.1.l.length c) : ∀ u ∈ ptC os, u.oneCell' = true := by
  intro u hu
  unfold ptC at hu
  obtain ⟨z, hz, hu⟩ := List.mem_flatMap.1 hu
  obtain ⟨A, c, e⟩ := h z hz
  simp only [List.mem_cons, List.not_mem_nil, or_false] at hu
  rcases hu with rfl | rfl | rfl
  · rfl
  · rfl
  · rw [e]; rfl
end
end RM6
end Go.Proofs.YtpbfgfadickgbaaGreatDoor
/-
  Contracts of the document's reader: put, close, token. Conditions: there are no more than 20000 data; tokens of the six kinds.
-/
namespace Go.Proofs.YtpbfgfadickgbaaGreatDoor
open Go.RowKit
namespace RM6
open LX RX RW6
section
variable {w0 w : World} {q : Nat} {rv tv ov : Value} {rs : List (Nd × Value)} {tops : List Nat} {os : List (Pt × Value)} {ex : List (Value × List Nat)}
theorem pt_one (a : Int) (b : Bool) : ∀ u ∈ [Value.int .i64 a, .bool b, .slice none 0 0], u.oneCell' = true := by
  intro u hu
  simp only [List.mem_cons, List.not_mem_nil, or_false] at hu
  rcases hu with rfl | rfl | rfl <;> rfl
end
end RM6
end Go.Proofs.YtpbfgfadickgbaaGreatDoor
/-
  What a reader gives: its data and those by themselves, each with its list, in rows that the call has made itself. No condition.
-/
namespace Go.Proofs.YtpbfgfadickgbaaGreatDoor
open Go.RowKit
namespace RW6
open LX RX RM6
structure Done (w0 w : World) (rv tv : Value) (rs : List (Nd × Value)) (tops : List Nat) : Prop where
  far : MM.Far [] w0 w
  row : w.ownsRow w0.heap.size 81 5 rv rs.length (ndC rs)
  kin : Kin w w0.heap.size ((tv, tops) :: kinsN rs)
def ReadQ (w0 : World) (R : Except (Int × Int) Rd) (e : Ending) (w : World) : Prop := match R with
  | .error (p, x) => e = .returned (.tuple #[.slice none 0 0, .slice none 0 0, .int .i64 p, .int .i64 x]) ∧ MM.Far [] w0 w
  | .ok r => ∃ rv tv rs, e = .returned (.tuple #[rv, tv, .int .i64 0, .int .i64 0]) ∧ Done w0 w rv tv rs r.tops ∧ rs.map (·.1) = r.row
section
variable {w0 w w1 : World} {rv tv : Value} {rs : List (Nd × Value)} {tops : List Nat}
theorem Done.from (h : Done w1 w rv tv rs tops) (f : MM.Far [] w0 w1) : Done w0 w rv tv rs tops :=
  ⟨f.trans h.far (by simp), h.row.mono f.size, ⟨fun k hk => (h.kin.each k hk).mono f.size, h.kin.apart⟩⟩
theorem Done.to (h : Done w0 w rv tv rs tops) (f : MM.Far [] w w1) : Done w0 w1 rv tv rs tops :=
  ⟨h.far.trans f (by simp), MM.own_far h.row f (by simp), h.kin.far f (by simp)⟩
theorem ndC_at : ∀ (rs : List (Nd × Value)) (k : Nat) (h : k < rs.length) (j : Nat) (_ : j < 5), (ndC rs)[k * 5 + j]? = ([.int .u8 rs[k].1.kind, .int .i64 rs[k].1.at_, .int .i64 rs[k].1.n, .string rs[k].1.s, rs[k].2] : List Value)[j]? := by
  intro rs
  induction rs with
  | nil => intro k h; simp at h
  | cons x rs ih =>
    intro k h j hj
    have e : ndC (x :: rs) = [.int .u8 x.1.kind, .int .i64 x.1.at_, .int .i64 x.1.n, .string x.1.s, x.2] ++ ndC rs := by simp [ndC]
    rw [e]
    cases k with
    | zero => rw [Nat.zero_mul, Nat.zero_add, List.getElem?_append_left (by simpa using hj)]; rfl
    | succ k =>
      rw [List.getElem?_append_right (by simp; omega)]
      have := ih k (by simpa using h) j hj
      rw [show (k + 1) * 5 + j - [Value.int .u8 x.1.kind, .int .i64 x.1.at_, .int .i64 x.1.n, .string x.1.s, x.2].length = k * 5 + j from by simp; omega, this]
      rfl
/-- Where a row of places of the call's own lies. -/
theorem own_ints {base : Nat} {v : Value} {l : List Nat} (h : w.ownsRow base 3 1 v l.length (ints l)) : ∃ A c, v = .slice A l.length c ∧ l.length ≤ c ∧ c ≤ maxLen ∧ (A = none → c = 0) ∧ IntRow w A l := by
  obtain ⟨A, c, e, k0, k1, k2, k3, _⟩ := MO.form h
  exact ⟨A, c, e, k1, k2, k0, IntRow.of_src (k3 [] (by simp))⟩
theorem Done.tops_row (h : Done w0 w rv tv rs tops) : ∃ A c, tv = .slice A tops.length c ∧ tops.length ≤ c ∧ c ≤ maxLen ∧ (A = none → c = 0) ∧ IntRow w A tops := own_ints (h.kin.each (tv, tops) (List.mem_cons_self ..))
theorem Done.nodes (h : Done w0 w rv tv rs tops) : ∃ A c, rv = .slice A rs.length c ∧ rs.length ≤ c ∧ c ≤ maxLen ∧ (A = none → c = 0) ∧ NdRow w A (rs.map (·.1)) := by
  obtain ⟨A, c, rfl, k0, k1, k2, k3, hh⟩ := MO.form h.row
  refine ⟨A, c, rfl, k1, k2, k0, fun k hk => ?_⟩
  have hk2 : k < rs.length := by simpa using hk
  rcases hh with ⟨_, hz, _⟩ | ⟨g, rfl, _, hlt⟩
  · omega
  obtain ⟨LA, lc, e, _, _, _, hI⟩ := own_ints (h.kin.each (rs[k].2, rs[k].1.l) (by
    refine List.mem_cons_of_mem _ ?_
    unfold kinsN
    exact List.mem_map.2 ⟨rs[k], List.getElem_mem hk2, rfl⟩))
  have c (j : Nat) (hj : j < 5) (u : Value) (hu : ([.int .u8 rs[k].1.kind, .int .i64 rs[k].1.at_, .int .i64 rs[k].1.n, .string rs[k].1.s, rs[k].2] : List Value)[j]? = some u) : w.cell? ⟨g, 0 + k * 5 + j, none⟩ = some u := by
    have := @World.ownsRow.cells w _ _ _ _ _ _ h.row g rfl (k * 5 + j) u ((ndC_at rs k hk2 j hj).trans hu)
    rw [MM.head_add] at this
    rw [Nat.zero_add]; exact this
  have em : (rs.map (·.1))[k] = rs[k].1 := by simp
  rw [em]
  exact ⟨g, 0, LA, lc, rfl, hlt, c 0 (by omega) _ rfl, c 1 (by omega) _ rfl, c 2 (by omega) _ rfl, c 3 (by omega) _ rfl, (c 4 (by omega) _ rfl).trans (congrArg some e), hI⟩
end
end RW6
end Go.Proofs.YtpbfgfadickgbaaGreatDoor

/-
  What a reader gives: its data and those by themselves, each with its list, in rows that the call has made itself. No condition.
-/
import Derived.Test.YtbglcdjimipeeaaDoorReadTop
import Derived.Test.YtbglcdjimipeeaaDoorReadMem
import Derived.Deep.Onto
namespace Go.Proofs.YtbglcdjimipeeaaDoor
open Go.RowKit
namespace RW6
open LX RX RM6
structure Done (w0 w : World) (rv tv : Value) (rs : List (Nd × Value)) (tops : List Nat) : Prop where
  far : MM.Far [] w0 w
  row : w.ownsRow w0.heap.size 33 5 rv rs.length (ndC rs)
  kin : Kin w w0.heap.size ((tv, tops) :: kinsN rs)
def ReadQ (w0 : World) (R : Except (Int × Int) Rd) (e : Ending) (w : World) : Prop := match R with
  | .error (p, x) => e = .returned (.tuple #[.slice none 0 0, .slice none 0 0, .int .i64 p, .int .i64 x]) ∧ MM.Far [] w0 w
  | .ok r => ∃ rv tv rs, e = .returned (.tuple #[rv, tv, .int .i64 0, .int .i64 0]) ∧ Done w0 w rv tv rs r.tops ∧ rs.map (·.1) = r.row
section
variable {w0 w w1 : World} {rv tv : Value} {rs : List (Nd × Value)} {tops : List Nat}
theorem Done.from (h : Done w1 w rv tv rs tops) (f : MM.Far [] w0 w1) : Done w0 w rv tv rs tops :=
  ⟨f.trans h.far (by simp), h.row.mono f.size, ⟨fun k hk => (h.kin.each k hk).mono f.size, h.kin.apart⟩⟩
theorem Done.to (h : Done w0 w rv tv rs tops) (f : MM.Far [] w w1) : Done w0 w1 rv tv rs tops :=
  ⟨h.far.trans f (by simp), MM.own_far h.row f (by simp), h.kin.far f (by simp)⟩
theorem ndC_at : ∀ (rs : List (Nd × Value)) (k : Nat) (h : k < rs.length) (j : Nat) (_ : j < 5), (ndC rs)[k * 5 + j]? = ([.int .u8 rs[k].1.kind, .int .i64 rs[k].1.at_, .int .i64 rs[k].1.n, .string rs[k].1.s, rs[k].2] : List Value)[j]? := by
  intro rs
  induction rs with
  | nil => intro k h; simp at h
  | cons x rs ih =>
    intro k h j hj
    have e : ndC (x :: rs) = [.int .u8 x.1.kind, .int .i64 x.1.at_, .int .i64 x.1.n, .string x.1.s, x.2] ++ ndC rs := by simp [ndC]
    rw [e]
    cases k with
    | zero => rw [Nat.zero_mul, Nat.zero_add, List.getElem?_append_left (by simpa using hj)]; rfl
    | succ k =>
      rw [List.getElem?_append_right (by simp; omega)]
      have := ih k (by simpa using h) j hj
      rw [show (k + 1) * 5 + j - [Value.int .u8 x.1.kind, .int .i64 x.1.at_, .int .i64 x.1.n, .string x.1.s, x.2].length = k * 5 + j from by simp; omega, this]
      rfl
/-- Where a row of places of the call's own lies. -/
theorem own_ints {base : Nat} {v : Value} {l : List Nat} (h : w.ownsRow base 3 1 v l.length (ints l)) : ∃ A c, v = .slice A l.length c ∧ l.length ≤ c ∧ c ≤ maxLen ∧ (A = none → c = 0) ∧ IntRow w A l := by
  obtain ⟨A, c, e, k0, k1, k2, k3, _⟩ := MO.form h
  exact ⟨A, c, e, k1, k2, k0, IntRow.of_src (k3 [] (by simp))⟩
theorem Done.tops_row (h : Done w0 w rv tv rs tops) : ∃ A c, tv = .slice A tops.length c ∧ tops.length ≤ c ∧ c ≤ maxLen ∧ (A = none → c = 0) ∧ IntRow w A tops := own_ints (h.kin.each (tv, tops) (List.mem_cons_self ..))
theorem Done.nodes (h : Done w0 w rv tv rs tops) : ∃ A c, rv = .slice A rs.length c ∧ rs.length ≤ c ∧ c ≤ maxLen ∧ (A = none → c = 0) ∧ NdRow w A (rs.map (·.1)) := by
  obtain ⟨A, c, rfl, k0, k1, k2, k3, hh⟩ := MO.form h.row
  refine ⟨A, c, rfl, k1, k2, k0, fun k hk => ?_⟩
  have hk2 : k < rs.length := by simpa using hk
  rcases hh with ⟨_, hz, _⟩ | ⟨g, rfl, _, hlt⟩
  · omega
  obtain ⟨LA, lc, e, _, _, _, hI⟩ := own_ints (h.kin.each (rs[k].2, rs[k].1.l) (by
    refine List.mem_cons_of_mem _ ?_
    unfold kinsN
    exact List.mem_map.2 ⟨rs[k], List.getElem_mem hk2, rfl⟩))
  have c (j : Nat) (hj : j < 5) (u : Value) (hu : ([.int .u8 rs[k].1.kind, .int .i64 rs[k].1.at_, .int .i64 rs[k].1.n, .string rs[k].1.s, rs[k].2] : List Value)[j]? = some u) : w.cell? ⟨g, 0 + k * 5 + j, none⟩ = some u := by
    have := @World.ownsRow.cells w _ _ _ _ _ _ h.row g rfl (k * 5 + j) u ((ndC_at rs k hk2 j hj).trans hu)
    rw [MM.head_add] at this
    rw [Nat.zero_add]; exact this
  have em : (rs.map (·.1))[k] = rs[k].1 := by simp
  rw [em]
  exact ⟨g, 0, LA, lc, rfl, hlt, c 0 (by omega) _ rfl, c 1 (by omega) _ rfl, c 2 (by omega) _ rfl, c 3 (by omega) _ rfl, (c 4 (by omega) _ rfl).trans (congrArg some e), hI⟩
end
end RW6
end Go.Proofs.YtbglcdjimipeeaaDoor

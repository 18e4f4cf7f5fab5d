/-
  The walk of layer 4's statement NamesPuts: it answers true for any names and any number. No condition.
-/
import Derived.Test.YtbglcdjimipeeaaGreatDoorNamesShown
import Derived.Test.YtbglcdjimipeeaaGreatDoorNamesFew
import Derived.Test.YtbglcdjimipeeaaGreatDoorNamesRef
namespace Go.Proofs.YtbglcdjimipeeaaGreatDoor
open Go.RowKit Go.Maps
namespace NP
def all (l : List ByteArray) : List ByteArray := l.foldl putL []
theorem all_snoc (l : List ByteArray) (k : Nat) (h : k < l.length) : all (l.take (k + 1)) = putL (all (l.take k)) (l[k]'h) := by
  unfold all
  rw [List.take_succ_eq_append_getElem h, List.foldl_append]; rfl
theorem putL_len (L : List ByteArray) (s : ByteArray) : (putL L s).length ≤ L.length + 1 := by
  unfold putL; split <;> simp
theorem all_len (l : List ByteArray) : (all l).length ≤ l.length := by
  have h : ∀ (l L : List ByteArray), (l.foldl putL L).length ≤ L.length + l.length := by
    intro l
    induction l with
    | nil => intro L; simp
    | cons a l ih => intro L; have := ih (putL L a); have := putL_len L a; simp; omega
  have := h l []; simpa [all] using this
theorem few_len (l : List ByteArray) : (few l).length ≤ 100 := by simp [few]; omega
theorem cut_len (s : ByteArray) : (cut s).size ≤ 40 := by
  unfold cut
  simp
  omega
theorem few_size (l : List ByteArray) : ∀ s ∈ few l, s.size ≤ 40 := by
  intro s hs
  obtain ⟨t, _, rfl⟩ := List.mem_map.1 hs
  exact cut_len t
end NP
namespace NW
open MM
/-- A slice that is read: its cells as the walk finds them. -/
theorem own_cell {w : World} {base : Nat} {L : List ByteArray} {v : Value} (h : w.ownsRow base 9 1 v L.length (strs L)) :
    ∃ c, L.length ≤ c ∧ c ≤ maxLen ∧ ((L = [] ∧ ∃ A, v = .slice A 0 c) ∨ ∃ b, v = .slice (some ⟨b, 0, none⟩) L.length c ∧ b < w.heap.size ∧ ∀ (k : Nat) (hk : k < L.length), w.cell? ⟨b, k, none⟩ = some (.string L[k])) := by
  obtain ⟨A, c, rfl, _, hc1, hc2, hsrc, hA⟩ := MO.form h
  refine ⟨c, hc1, hc2, ?_⟩
  rcases hA with ⟨rfl, h0, _⟩ | ⟨g, rfl, _, hg⟩
  · left
    have : L = [] := List.eq_nil_of_length_eq_zero h0
    subst this
    exact ⟨rfl, _, rfl⟩
  · right
    refine ⟨g, rfl, hg, fun k hk => ?_⟩
    obtain ⟨ad, e, _, _, hc⟩ := hsrc [] (by simp) (by simp [strs]; omega)
    injection e with e
    subst e
    have := hc k (.string L[k]) (by simp [strs, hk])
    rwa [head_add] at this
def Puts (l : List ByteArray) (g : Nat) (w3 : World) (v i : Value) (wr : World) : Prop :=
  ∃ k : Nat, k ≤ l.length ∧ i = .int .i64 (k : Int) ∧ ∃ S mv sv, Nm wr g S (NP.all (l.take k)) mv sv ∧ (∀ b, b ∈ S → b = g ∨ w3.heap.size ≤ b) ∧ wr.ownsRow 0 9 1 v (NP.all (l.take k)).length (strs (NP.all (l.take k))) ∧
    (∀ b, v.ownBlock = some b → b ∉ S ∧ w3.heap.size ≤ b) ∧ Far [g] w3 wr
end NW
end Go.Proofs.YtbglcdjimipeeaaGreatDoor

/-
  An argument that is a slice of texts, read off the row's reading. No condition.
-/
import Derived.Test.YtbglcdjimipeeaaGreatDoorMemAll
import Derived.ChangeArms
namespace Go.Proofs.YtbglcdjimipeeaaGreatDoor
open Go.RowKit Go.ChangeShapes Go.WideShapes Go.Deep
namespace MR
open MM
/-- A slice of texts. -/
structure Strs (w : World) (a : Option Addr) (len cap : Nat) (zs : List ByteArray) : Prop where
  len_ : zs.length = len
  le : len ≤ cap
  max : cap ≤ maxLen
  nil : a = none → cap = 0
  src : Src w [] a (zs.map .string)
  fit : ∀ z ∈ zs, z.size ≤ maxLen
theorem Strs.far {w w' : World} {a : Option Addr} {len cap : Nat} {zs : List ByteArray} (h : Strs w a len cap zs) (f : Far [] w w') : Strs w' a len cap zs :=
  ⟨h.len_, h.le, h.max, h.nil, h.src.far f (by simp), h.fit⟩
section
variable {H : Type} {enc : TypeId × Value → H} {P : Program} {w : World} {fuel : Nat}
theorem str_of {t : TypeId} {cs : List Value} {x : DataW H × List MemPlace} (ht : P.underlying t = some .string) (h : DataW.trod enc P w 0 (fun _ => true) true fuel t cs = some x) : ∃ s, cs = [.string s] ∧ s.size ≤ maxLen := by
  obtain ⟨s, h1, _, h2⟩ := DataW.trod_string ht h
  exact ⟨s, h1, h2⟩
theorem strs_of {t e : TypeId} {cs : List Value} {x : DataW H × List MemPlace} (ht : P.underlying t = some (.slice e)) (he : P.underlying e = some .string) (hC : P.cellsOf e = 1)
    (h : DataW.trod enc P w 0 (fun _ => true) true fuel t cs = some x) : ∃ a len cap zs, cs = [.slice a len cap] ∧ Strs w a len cap zs := by
  obtain ⟨a, len, cap, xs, hcs, hcame, hel⟩ := came_of 1 ht hC (by omega) h
  have hz : ∀ i, ∃ z : ByteArray, i < len → xs i = [.string z] ∧ z.size ≤ maxLen := by
    intro i
    by_cases h1 : i < len
    · obtain ⟨n, y, hy⟩ := hel i h1
      obtain ⟨z, hz⟩ := str_of he hy
      exact ⟨z, fun _ => hz⟩
    · exact ⟨⟨#[]⟩, fun h => absurd h h1⟩
  obtain ⟨Z, hZ⟩ := Classical.axiomOfChoice hz
  refine ⟨a, len, cap, (List.range len).map Z, hcs, by simp, hcame.le, hcame.max, hcame.nil, fun hp => ?_, fun z hm => ?_⟩
  · have hlen : 0 < len := by simpa using hp
    obtain ⟨ad, rfl, hb, hc⟩ := hcame.elems hlen
    refine ⟨ad, rfl, by simp, hb, fun j u hu => ?_⟩
    have hj : j < len := by have := (List.getElem?_eq_some_iff.1 hu).1; simpa using this
    obtain ⟨_, h2⟩ := hc j hj
    have h3 := h2 0 (.string (Z j)) (by rw [(hZ j hj).1]; rfl)
    simp only [Nat.mul_one, Nat.add_zero] at h3
    rw [h3]
    simp [hj] at hu
    rw [hu]
  · obtain ⟨i, hi, rfl⟩ := List.mem_map.1 hm
    exact (hZ i (by simpa using hi)).2
end
end MR
end Go.Proofs.YtbglcdjimipeeaaGreatDoor

/-
  The walk of ArenaRoom: things are made till there is no room, and a nil arena has none. Condition: the argument is a slice of numbers that fit their kind.
-/
import Derived.Test.YtoikfpaocgikcaaDoorArenaApp
import Derived.Deep.DeepCutAuto
namespace Go.Proofs.YtoikfpaocgikcaaDoor
open Go.RowKit
namespace AL
open AW
theorem u8_of {x : Int} (h : (Lit.int .u8 x).wf = true) : 0 ≤ x ∧ x ≤ 255 := by
  simp [Lit.wf, IntKind.min, IntKind.max, IntKind.signed, IntKind.bits] at h
  omega
/-- The first numbers of a slice that came in, cell by cell. -/
theorem cell_at {k : IntKind} {a : Option Addr} {len cap : Nat} {zs : List Int} {w w' : World} (hz : MR.Ints k w a len cap zs) (hF : MM.Far [] w w') (i : Nat) (hi : i < len) : ∃ b off, a = some ⟨b, off, none⟩ ∧ w'.cell? ⟨b, off + i, none⟩ = some (.int k (zs.getD i 0)) := by
  have hp : 0 < (zs.map (Value.int k)).length := by rw [List.length_map, hz.len_]; omega
  obtain ⟨ad, e, _, hl, hc⟩ := (hz.src.far hF (by simp)) hp
  obtain ⟨b, off, spot⟩ := ad
  have hil : i < zs.length := by rw [hz.len_]; omega
  have h0 := hc 0 (.int k (zs.getD 0 0)) (by rw [List.getElem?_map, List.getElem?_eq_getElem (by omega)]; simp [List.getD, List.getElem?_eq_getElem (show 0 < zs.length by omega)])
  have hs : spot = none := by simpa [Addr.add] using World.cell?_spot h0
  subst hs
  refine ⟨b, off, e, ?_⟩
  have h1 := hc i (.int k (zs.getD i 0)) (by rw [List.getElem?_map, List.getElem?_eq_getElem hil]; simp [List.getD, List.getElem?_eq_getElem hil])
  have e2 : (⟨b, off, none⟩ : Addr).add i = ⟨b, off + i, none⟩ := by
    unfold Addr.add; split
    · rename_i h; subst h; rfl
    · rfl
  rwa [e2] at h1
end AL
end Go.Proofs.YtoikfpaocgikcaaDoor

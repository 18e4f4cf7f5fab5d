/-
  A slice of numbers that came in, cut: its cells; timers that are put one by one. No condition.
-/
import Derived.Test.YtcodmpibhlojaaaTimAt
import Derived.Test.YtcodmpibhlojaaaMemAll
namespace Go.Proofs.Ytcodmpibhlojaaa
open Go.RowKit Go.Lib
namespace TW
open TM TR MM TL
theorem LL_one (y : Ti) (x : List Int) (h : y ∈ LL 0 x) : ∃ i : Nat, i < x.length ∧ y = ⟨x.getD i 0, i, i⟩ := by
  obtain ⟨i, hi, e⟩ := LL_mem y x 0 h
  refine ⟨i, hi, ?_⟩
  rw [e]
  simp [List.getD, hi]
theorem step_getD {l : List Ti} {x : List Int} {k : Nat} (h : Rel l (LL 0 (x.take k))) (hk : k < x.length) : Rel (ins ⟨x.getD k 0, k, k⟩ l) (LL 0 (x.take (k + 1))) := by
  have e : x.getD k 0 = x[k] := by simp [List.getD, hk]
  rw [e]
  exact h.step hk
/-- A slice of numbers, cut: its cells. -/
theorem cut_cells {k : IntKind} {W : World} {a : Option Addr} {len cap : Nat} {z : List Int} (h : MR.Ints k W a len cap z) (m : Nat) (hm : m ≤ len) (hp : 0 < m) :
    ∃ b off, a = some ⟨b, off, none⟩ ∧ ∀ i, i < m → ∀ wr, Far [] W wr → wr.cell? ⟨b, off + i, none⟩ = some (.int k ((z.take m).getD i 0)) := by
  have hl := h.len_
  obtain ⟨ad, rfl, _, hb, hc⟩ := h.src (by simp; omega)
  have hs : ad.spot = none := by
    have h0 := hc 0 (.int k (z[0]'(by omega))) (by simp)
    rw [MR.add_zero_] at h0
    exact MR.spot_none h0
  obtain ⟨b, off, sp⟩ := ad
  simp only at hs
  subst hs
  refine ⟨b, off, rfl, fun i hi wr hF => ?_⟩
  have h1 := hc i (.int k (z[i]'(by omega))) (by rw [List.getElem?_map, List.getElem?_eq_getElem (by omega)]; rfl)
  rw [MR.mk_add] at h1
  rw [hF.cell (p := ⟨b, off + i, none⟩) hb (by simp), h1]
  have : (z.take m).getD i 0 = z[i]'(by omega) := by
    rw [List.getD, List.getElem?_take, if_pos hi, List.getElem?_eq_getElem (by omega)]; rfl
  rw [this]
end TW
end Go.Proofs.Ytcodmpibhlojaaa

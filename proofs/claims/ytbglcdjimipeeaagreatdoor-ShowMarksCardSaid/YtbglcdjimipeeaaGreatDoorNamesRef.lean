/-
  Contracts of the document's own answers of layer 4: Find, Put, Text over a row of names that the call has made. Conditions: the row is of names L, at most 4096 of them where one is put.
-/
import Derived.Test.YtbglcdjimipeeaaGreatDoorNamesAll
import Derived.Deep.DeepCutAuto
namespace Go.Proofs.YtbglcdjimipeeaaGreatDoor
open Go.RowKit Go.Maps
namespace NW
theorem eq_yes {a b : ByteArray} (h : a = b) : (a.toList == b.toList) = true := by subst h; simp
theorem eq_no {a b : ByteArray} (h : a ≠ b) : (a.toList == b.toList) = false := by
  rw [beq_eq_false_iff_ne]
  intro e
  rw [Lib.toList_data, Lib.toList_data] at e
  exact h (ByteArray.ext (Array.toList_inj.1 e))
def Miss (L : List ByteArray) (s : ByteArray) (k : Nat) : Prop := ∀ j, j < k → L[j]? ≠ some s
theorem Miss.step {L : List ByteArray} {s : ByteArray} {k : Nat} (h : Miss L s k) (hk : k < L.length) (e : L[k] ≠ s) : Miss L s (k + 1) := by
  intro j hj
  by_cases hjk : j = k
  · subst hjk; rw [List.getElem?_eq_getElem hk]; simpa using e
  · exact h j (by omega)
theorem Miss.found {L : List ByteArray} {s : ByteArray} {k : Nat} (h : Miss L s k) (hk : k < L.length) (e : L[k] = s) : NP.findI L s = k ∧ NP.findB L s = true := by
  have hm : s ∈ L := by rw [← e]; exact List.getElem_mem _
  refine ⟨?_, NP.findB_yes hm⟩
  rw [NP.findI_yes hm]
  have h1 : L.idxOf s < L.length := List.idxOf_lt_length_iff.2 hm
  have h2 : L[L.idxOf s]? = some s := by rw [List.getElem?_eq_getElem h1]; simp
  have h3 : ¬ L.idxOf s < k := fun hl => h _ hl h2
  have h4 : L.idxOf s ≤ k := by
    rcases Nat.lt_or_ge k (L.idxOf s) with h5 | h5
    · have := List.not_of_lt_findIdx (p := (· == s)) (xs := L) (i := k) h5
      rw [e] at this; simp at this
    · exact h5
  omega
theorem Miss.none_ {L : List ByteArray} {s : ByteArray} (h : Miss L s L.length) : NP.findI L s = 0 ∧ NP.findB L s = false := by
  have hm : s ∉ L := by
    intro hm
    obtain ⟨j, hj, e⟩ := List.mem_iff_getElem.1 hm
    exact h j hj (by rw [List.getElem?_eq_getElem hj, e])
  exact ⟨NP.findI_no hm, NP.findB_no hm⟩
def RF (L : List ByteArray) (s : ByteArray) (i : Value) : Prop := ∃ k : Nat, k ≤ L.length ∧ i = .int .i64 (k : Int) ∧ Hid (Miss L s k)
section
variable {w : World} {L : List ByteArray} {v : Value} {base : Nat}
theorem rtext_any (h : w.ownsRow base 9 1 v L.length (strs L)) (i : Int) (hm : L.length ≤ 4096) : Calls Tryz.prog 85 #[v, .int .i64 i] w fun e w' => e = .returned (.tuple #[.string (NP.textS L i), .bool (NP.textB L i)]) ∧ w = w' := by
  obtain ⟨A, c, rfl, _, hc1, hc2, hsrc, _⟩ := MO.form h
  unfold maxLen at hc2
  by_cases hi : 0 ≤ i ∧ i < L.length
  · obtain ⟨k, rfl⟩ := Int.eq_ofNat_of_zero_le hi.1
    have hk : k < L.length := by omega
    obtain ⟨ad, rfl, _, _, hc⟩ := hsrc [] (by simp) (by simp [strs]; omega)
    obtain ⟨b, off, spot⟩ := ad
    obtain rfl : spot = none := by
      have h1 := hc 0 (.string (L[0]'(by omega))) (by simp [strs, List.getElem?_eq_getElem (show 0 < L.length by omega)])
      rw [show (⟨b, off, spot⟩ : Addr).add 0 = ⟨b, off, spot⟩ from by simp [Addr.add]] at h1
      exact World.cell?_spot h1
    obtain ⟨t, ht⟩ : ∃ t, t = L[k] := ⟨_, rfl⟩
    have c0 := hc k (.string t) (by simp [strs, hk, ht])
    rw [show (⟨b, off, none⟩ : Addr).add k = ⟨b, off + k, none⟩ from by unfold Addr.add; split; (rename_i h0; subst h0; rfl); rfl] at c0
    have e1 : NP.textS L k = t := by simp [NP.textS, hk, ht]
    have e2 : NP.textB L k = true := by simp [NP.textB, hk]
    rw [e1, e2]
    clear hc ht e1 e2 hi h hsrc
    go_enter Tryz.func85, Tryz.ntmps85
    go_wp2
    go_ret2
    exact ⟨rfl, rfl⟩
  · have e1 : NP.textS L i = ⟨#[]⟩ := by simp [NP.textS, hi, NP.none]
    have e2 : NP.textB L i = false := by simp [NP.textB, hi]
    rw [e1, e2]
    have hc : i < 0 ∨ (L.length : Int) ≤ i := by omega
    clear hi e1 e2 h hsrc
    by_cases h0 : i < 0
    · clear hc
      go_enter Tryz.func85, Tryz.ntmps85
      go_wp2
      go_ret2
      exact ⟨rfl, rfl⟩
    · have h1 : (L.length : Int) ≤ i := by omega
      clear hc
      go_enter Tryz.func85, Tryz.ntmps85
      go_wp2
      go_ret2
      exact ⟨rfl, rfl⟩
/-- The document's row behind a Put: its own row of the names then. -/
def Rn (a : World) (base : Nat) (T : List ByteArray) (v : Value) (w : World) : Prop := w.ownsRow base 9 1 v T.length (strs T) ∧ MM.Far [] a w
end
end NW
end Go.Proofs.YtbglcdjimipeeaaGreatDoor

/-
  Sets of texts as maps of bools: what a row of texts is as such a map. No condition.
-/
import Derived.Test.YteochpfdongcaaaNamesPlain
import Derived.Test.YteochpfdongcaaaMapBool
import Derived.Maps.OwnSet
namespace Go.Proofs.Yteochpfdongcaaa
open Go.Maps Go.WideShapes
namespace NP
structure Has (D : DataW Unit) (L : List ByteArray) : Prop where
  tidy : Tidy D
  has : ∀ s, Maps.has D (key s) = decide (s ∈ L)
  at_ : ∀ s, D.atKey (key s) (.lit (.bool false)) = .lit (.bool (decide (s ∈ L)))
  size : Maps.size D = L.length
theorem Has.none_ : Has (.map []) [] := ⟨tidy_empty, fun _ => rfl, fun _ => rfl, rfl⟩
theorem Has.put {D : DataW Unit} {L : List ByteArray} (h : Has D L) (s : ByteArray) : Has (D.put (key s) (.lit (.bool true))) (if s ∈ L then L else L ++ [s]) := by
  have hm : ∀ x, (x ∈ (if s ∈ L then L else L ++ [s])) ↔ (x = s ∨ x ∈ L) := by
    intro x
    by_cases hs : s ∈ L
    · rw [if_pos hs]
      constructor
      · exact .inr
      · rintro (rfl | h)
        · exact hs
        · exact h
    · rw [if_neg hs, List.mem_append, List.mem_singleton, or_comm]
  refine ⟨h.tidy.put (key_is s) _, fun x => ?_, fun x => ?_, ?_⟩
  · by_cases e : x = s
    · subst e
      rw [has_put_same h.tidy.isMap (key_is _)]; simp [hm]
    · rw [has_put_other (fun e' => e (key_inj e')), h.has]
      congr 1
      exact propext (by rw [hm]; simp [e])
  · by_cases e : x = s
    · subst e
      rw [atKey_put_same h.tidy.isMap (key_is _)]; simp [hm]
    · rw [atKey_put_other (fun e' => e (key_inj e')), h.at_]
      congr 3
      exact propext (by rw [hm]; simp [e])
  · rw [size_put h.tidy, h.has, h.size]
    by_cases hs : s ∈ L <;> simp [hs]
/-- A text with one letter more. -/
theorem putL_yes {L : List ByteArray} {s : ByteArray} (hf : fits s) (hn : L.length < 4096) : putL L s = if s ∈ L then L else L ++ [s] := by
  unfold putL
  by_cases hs : s ∈ L <;> simp [hf, hs, hn]
theorem putI_yes {L : List ByteArray} {s : ByteArray} (hf : fits s) (hn : L.length < 4096) : putI L s = ((putL L s).idxOf s : Nat) := by
  rw [putL_yes hf hn]
  unfold putI
  by_cases hs : s ∈ L
  · simp [hf, hs]
  · simp [hf, hs, hn, List.idxOf_append]
theorem putE_yes {L : List ByteArray} {s : ByteArray} (hf : fits s) (hn : L.length < 4096) : putE L s = 0 := by
  unfold putE
  by_cases hs : s ∈ L <;> simp [hf, hs, hn]
theorem putL_no {L : List ByteArray} {s : ByteArray} (hf : ¬ fits s) : putL L s = L := by simp [putL, hf]
theorem putE_no {L : List ByteArray} {s : ByteArray} (hf : ¬ fits s) : putE L s = 1 := by simp [putE, hf]
theorem mem_putL {L : List ByteArray} {s : ByteArray} (hf : fits s) (hn : L.length < 4096) : s ∈ putL L s := by
  rw [putL_yes hf hn]
  by_cases hs : s ∈ L <;> simp [hs]
theorem idx_putL {L : List ByteArray} {s t : ByteArray} (h : s ∈ L) : (putL L t).idxOf s = L.idxOf s := by
  unfold putL
  split
  · rw [List.idxOf_append, if_pos h]
  · rfl
/-- Unlike names have unlike numbers. -/
theorem putI_ne {L : List ByteArray} {s t : ByteArray} (hs : fits s) (ht : fits t) (hn : L.length < 4095) (hst : s ≠ t) : putI (putL L s) t ≠ putI L s := by
  have hn1 : (putL L s).length < 4096 := by unfold putL; split; (rw [List.length_append, List.length_singleton]; omega); omega
  rw [putI_yes ht hn1, putI_yes hs (by omega)]
  intro e
  have e := Int.ofNat.inj e
  have h1 := mem_putL hs (L := L) (by omega)
  have h2 := mem_putL ht hn1
  rw [← idx_putL (t := t) h1] at e
  have h3 : s ∈ putL (putL L s) t := by
    rw [putL_yes ht hn1]; split
    · exact h1
    · simp [h1]
  have g1 := List.getElem_idxOf (List.idxOf_lt_length_iff.2 h2)
  have g2 := List.getElem_idxOf (List.idxOf_lt_length_iff.2 h3)
  exact hst (g2.symm.trans ((getElem_congr_idx e.symm).trans g1))
end NP
namespace MB
section
variable {P : Program}
/-- A look-up in a map of bools: what it reads as at that key. -/
theorem look_bool {H : Type} {w : World} {k t e : TypeId} {b n : Nat} {D : DataW H} (h : w.ownsMap P k (plainElem P e) b n D) (K : Keyed P k) (ht : P.underlying t = some (.map k e)) (he : P.underlying e = some .bool)
    (hz : (zeroValue e).run P w = .ok (.bool false) w) {key : Value} {kl : Lit} (hkey : keyOf P k key = some kl) {c : Bool} (hat : D.atKey kl (.lit (.bool false)) = .lit (.bool c)) :
    (Instr.lookup t (.map (some b)) key false).run P w = .ok (.bool c) w := by
  obtain ⟨v, ps, hrun, hv⟩ := h.lookup K ht hz (plainElem_bool he false) hkey
  obtain ⟨d, rfl, hc⟩ := plainElem_bool_inv he hv
  simp only [Prod.mk.injEq] at hc
  rw [hat] at hc
  have : c = d := by injection hc.1 with h1; injection h1
  subst this
  exact hrun
end
end MB
end Go.Proofs.Yteochpfdongcaaa

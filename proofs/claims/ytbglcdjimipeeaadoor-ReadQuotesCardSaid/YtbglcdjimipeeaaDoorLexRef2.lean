/-
  Contracts of the document's own parts of layer 5: mark, word, number, value. Conditions: a text is no longer than 5000 bytes; what is a number has at most 14 letters.
-/
import Derived.Test.YtbglcdjimipeeaaDoorLexRef1
namespace Go.Proofs.YtbglcdjimipeeaaDoor
open Go.RowKit
namespace LX
theorem tw_yes {p : UInt8 → Bool} {l : List UInt8} {j : Nat} (h : j < (l.takeWhile p).length) : ∃ x, l[j]? = some x ∧ p x = true := by
  induction l generalizing j with
  | nil => simp at h
  | cons c l ih =>
    rw [List.takeWhile_cons] at h
    split at h
    · rename_i hc
      cases j with
      | zero => exact ⟨c, rfl, hc⟩
      | succ j => simpa using ih (by simpa using h)
    · simp at h
theorem tw_no {p : UInt8 → Bool} {l : List UInt8} (h : (l.takeWhile p).length < l.length) : ∃ x, l[(l.takeWhile p).length]? = some x ∧ p x = false := by
  induction l with
  | nil => simp at h
  | cons c l ih =>
    by_cases hc : p c = true
    · simp only [List.takeWhile_cons, hc, if_true, List.length_cons] at h ⊢
      simpa using ih (by omega)
    · have hc' : p c = false := by simpa using hc
      simp only [List.takeWhile_cons, hc', Bool.false_eq_true, if_false]
      exact ⟨c, rfl, hc'⟩
theorem tw_take (p : UInt8 → Bool) (l : List UInt8) : l.takeWhile p = l.take (l.takeWhile p).length := by
  induction l with
  | nil => rfl
  | cons c l ih =>
    by_cases hc : p c = true
    · simp only [List.takeWhile_cons, hc, if_true, List.length_cons, List.take_succ_cons]
      rw [← ih]
    · simp [hc]
end LX
namespace LW
open LX
theorem ret_str {a b : ByteArray} (h : a = b) : Ending.returned (.string a) = .returned (.string b) := by rw [h]
theorem drop_at (s : ByteArray) (a j : Nat) (h : a + j < s.size) : ((bts s).drop a)[j]? = some s[a + j] := by
  rw [List.getElem?_drop, data_at s (a + j) h]
theorem cut_str (s : ByteArray) (a k : Nat) : s.extract a (a + k) = str (((bts s).drop a).take k) := by
  apply ByteArray.ext
  apply Array.toList_inj.1
  rw [Lib.extract_data]
  unfold str bts
  simp
def Digs (s : ByteArray) (k : Nat) : Prop := ∀ j (h : j < s.size), j < k → dig s[j] = true
theorem at_bts (s : ByteArray) (j : Nat) (h : j < s.size) (h2 : j < (bts s).length) : (bts s)[j] = s[j] := by
  have := data_at s j h
  rw [List.getElem?_eq_getElem h2] at this
  exact Option.some.inj this
theorem digs_all {s : ByteArray} (h : Digs s s.size) : (bts s).all dig = true := by
  rw [List.all_eq_true]
  intro x hx
  obtain ⟨j, hj, rfl⟩ := List.mem_iff_getElem.1 hx
  have hj2 : j < s.size := by rw [← bts_len]; exact hj
  rw [at_bts s j hj2 hj]
  exact h j hj2 hj2
theorem digs_no {s : ByteArray} {j : Nat} (hj : j < s.size) (h : dig s[j] = false) : (bts s).all dig = false := by
  rw [List.all_eq_false]
  exact ⟨_, List.mem_of_getElem? (data_at s j hj), by simp [h]⟩
theorem digs_step {s : ByteArray} {k : Nat} (h : Digs s k) (hk : k < s.size) (hd : dig s[k] = true) : Digs s (k + 1) := by
  intro j hj hjk
  by_cases e : j = k
  · subst e; exact hd
  · exact h j hj (by omega)
theorem ret_bool {a b : Bool} (h : a = b) : Ending.returned (.bool a) = .returned (.bool b) := by rw [h]
theorem dig_yes {c : UInt8} (h : dig c = true) : 48 ≤ c.toNat ∧ c.toNat ≤ 57 := by simpa [dig] using h
theorem dig_no {c : UInt8} (h : dig c = false) : c.toNat < 48 ∨ 57 < c.toNat := by
  simp [dig] at h; omega
end LW
end Go.Proofs.YtbglcdjimipeeaaDoor

/-
  Contracts of the document's own parts of layer 5: number and value, over any word. Conditions: the word is not empty; for value, it is a number of at most 14 letters.
-/
import Derived.Test.YtbglcdjimipeeaaDoorLexRef2
namespace Go.Proofs.YtbglcdjimipeeaaDoor
open Go.RowKit
namespace LX
theorem bts_str (l : List UInt8) : bts (str l) = l := by unfold bts str; simp
theorem str_bts (s : ByteArray) : str (bts s) = s := by
  apply ByteArray.ext
  unfold str bts
  simp
theorem str_size (l : List UInt8) : (str l).size = l.length := by unfold str; show l.toArray.size = _; simp
theorem val_snoc (l : List UInt8) (c : UInt8) : val (l ++ [c]) = val l * 10 + ((c.toNat : Int) - 48) := by
  unfold val; rw [List.foldl_append]; rfl
theorem val_fold (l : List UInt8) : ∀ a : Int, 0 ≤ a → l.all dig = true → 0 ≤ l.foldl (fun n c => n * 10 + ((c.toNat : Int) - 48)) a ∧ l.foldl (fun n c => n * 10 + ((c.toNat : Int) - 48)) a < (a + 1) * (10 : Int) ^ l.length := by
  induction l with
  | nil => intro a ha _; simp; omega
  | cons c l ih =>
    intro a ha h
    rw [List.all_cons, Bool.and_eq_true] at h
    have hc : 48 ≤ c.toNat ∧ c.toNat ≤ 57 := by have := h.1; simpa [dig] using this
    obtain ⟨h1, h2⟩ := ih (a * 10 + ((c.toNat : Int) - 48)) (by omega) h.2
    refine ⟨h1, Int.lt_of_lt_of_le h2 ?_⟩
    have hp : (0 : Int) ≤ (10 : Int) ^ l.length := Int.pow_nonneg (by decide)
    have := Int.mul_le_mul_of_nonneg_right (show a * 10 + ((c.toNat : Int) - 48) + 1 ≤ (a + 1) * 10 by omega) hp
    rw [List.length_cons, Int.pow_succ]
    rw [Int.mul_assoc] at this
    rw [Int.mul_comm ((10 : Int) ^ l.length) 10]
    exact this
theorem val_bound (l : List UInt8) (h : l.all dig = true) : 0 ≤ val l ∧ val l < (10 : Int) ^ l.length := by
  have := val_fold l 0 (by decide) h
  simpa [val] using this
theorem val_small (l : List UInt8) (h : l.all dig = true) (hl : l.length ≤ 14) : 0 ≤ val l ∧ val l < 100000000000000 := by
  obtain ⟨h1, h2⟩ := val_bound l h
  refine ⟨h1, Int.lt_of_lt_of_le h2 ?_⟩
  have h := Nat.pow_le_pow_right (n := 10) (by decide) hl
  have e : ((10 ^ l.length : Nat) : Int) = (10 : Int) ^ l.length := by rw [Int.natCast_pow]; rfl
  rw [← e]; omega
end LX
namespace LW
open LX
theorem val_step {x : ByteArray} {k : Nat} (h : k < x.size) : val ((bts x).take (k + 1)) = val ((bts x).take k) * 10 + (((x[k]).toNat : Int) - 48) := by
  have hk : k < (bts x).length := by rw [bts_len]; exact h
  rw [List.take_succ_eq_append_getElem hk, val_snoc, at_bts x k h hk]; rfl
theorem val_take {x : ByteArray} {k : Nat} (hd : (bts x).all dig = true) (hn : x.size ≤ 14) : 0 ≤ val ((bts x).take k) ∧ val ((bts x).take k) < 100000000000000 := by
  refine val_small _ ?_ ?_
  · rw [List.all_eq_true] at hd ⊢
    exact fun c hc => hd c (List.mem_of_mem_take hc)
  · rw [List.length_take, bts_len]; omega
theorem dig_at {x : ByteArray} {k : Nat} (hd : (bts x).all dig = true) (h : k < x.size) : dig x[k] = true := by
  rw [List.all_eq_true] at hd
  exact hd _ (List.mem_of_getElem? (data_at x k h))
end LW
end Go.Proofs.YtbglcdjimipeeaaDoor

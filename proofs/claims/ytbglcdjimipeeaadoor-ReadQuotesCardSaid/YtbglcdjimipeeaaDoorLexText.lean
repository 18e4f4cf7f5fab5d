/-
  Contracts of the law's own parts of layer 5: digits, text: a token as it is written. Condition: a number is within the bounds.
-/
import Derived.Test.YtbglcdjimipeeaaDoorLexPad
import Derived.Test.YtbglcdjimipeeaaDoorLexLaws4
import Derived.Maps.OwnOps
import Derived.Maps.Views
import Derived.Maps.StringElems
import Derived.Carry
namespace Go.Proofs.YtbglcdjimipeeaaDoor
open Go.RowKit
namespace LX
/-- A digit's byte. -/
def dgc (n : Nat) : UInt8 := UInt8.ofNat (48 + n)
/-- The digits of a number. -/
def dgN : Nat → Nat → List UInt8
  | 0, n => [dgc n]
  | f + 1, n => if 9 < n then dgN f (n / 10) ++ [dgc (n % 10)] else [dgc n]
def dgs (n : Int) : List UInt8 := if n < 0 then 45 :: dgN 20 (-n).toNat else dgN 20 n.toNat
theorem dg_dig {n : Nat} (h : n ≤ 9) : dig (dgc n) = true ∧ ((dgc n).toNat : Int) = 48 + (n : Int) := by
  have e : (dgc n).toNat = 48 + n := by unfold dgc; simp; omega
  refine ⟨by unfold dig; rw [e]; simp; omega, by rw [e]; omega⟩
theorem dgN_ok : ∀ (f n k : Nat), n < 10 ^ (f + 1) → n < 10 ^ (k + 1) → (dgN f n).all dig = true ∧ val (dgN f n) = (n : Int) ∧ dgN f n ≠ [] ∧ (dgN f n).length ≤ k + 1 := by
  intro f
  induction f with
  | zero =>
    intro n k h _
    have h9 : n ≤ 9 := by simp at h; omega
    obtain ⟨a, b⟩ := dg_dig h9
    refine ⟨by simp [dgN, a], ?_, by simp [dgN], by simp [dgN]⟩
    unfold dgN val
    simp only [List.foldl_cons, List.foldl_nil]
    omega
  | succ f ih =>
    intro n k h hk
    unfold dgN
    by_cases h9 : 9 < n
    · rw [if_pos h9]
      have hk0 : 1 ≤ k := by
        rcases Nat.eq_zero_or_pos k with h0 | h0
        · rw [h0] at hk; simp at hk; omega
        · exact h0
      obtain ⟨k', rfl⟩ : ∃ k', k = k' + 1 := ⟨k - 1, by omega⟩
      obtain ⟨i1, i2, i3, i4⟩ := ih (n / 10) k' (by rw [Nat.pow_succ] at h; omega) (by rw [Nat.pow_succ] at hk; omega)
      obtain ⟨a, b⟩ := dg_dig (show n % 10 ≤ 9 by omega)
      refine ⟨?_, ?_, by simp, ?_⟩
      · rw [List.all_append, i1]; simp [a]
      · rw [val_snoc, i2, b]; omega
      · rw [List.length_append]; simp; omega
    · rw [if_neg h9]
      obtain ⟨a, b⟩ := dg_dig (show n ≤ 9 by omega)
      refine ⟨by simp [a], ?_, by simp, by simp⟩
      unfold val
      simp only [List.foldl_cons, List.foldl_nil]
      omega
theorem dgN_snoc (f n : Nat) (h : 9 < n) : dgN (f + 1) n = dgN f (n / 10) ++ [dgc (n % 10)] := by
  rw [dgN, if_pos h]
theorem dgN_few (f n : Nat) (h : ¬ 9 < n) : dgN f n = [dgc n] := by
  cases f with
  | zero => rfl
  | succ f => rw [dgN, if_neg h]
theorem dgN_fuel : ∀ (f n : Nat), n < 10 ^ (f + 1) → dgN (f + 1) n = dgN f n := by
  intro f
  induction f with
  | zero => intro n h; rw [dgN_few _ _ (by simp at h; omega), dgN_few _ _ (by simp at h; omega)]
  | succ f ih =>
    intro n h
    by_cases h9 : 9 < n
    · rw [dgN_snoc _ _ h9, dgN_snoc _ _ h9, ih _ (by rw [Nat.pow_succ] at h; omega)]
    · rw [dgN_few _ _ h9, dgN_few _ _ h9]
/-- A token as it is written. -/
def tkB (t : Tk) : ByteArray :=
  if t.kind = 1 then ⟨#[40]⟩ else if t.kind = 2 then ⟨#[41]⟩ else if t.kind = 3 then ⟨#[39]⟩ else if t.kind = 4 then str (dgs t.n)
  else if t.kind = 5 then (if t.n = 1 then ⟨#[35, 116]⟩ else ⟨#[35, 102]⟩) else t.s
end LX
namespace LW
open LX
theorem str_cat (a b : List UInt8) : str (a ++ b) = str a ++ str b := by
  apply ByteArray.ext
  rw [ByteArray.data_append]
  unfold str
  simp
theorem pow21 {n : Nat} (h : n < 4398046511104) : n < 10 ^ (20 + 1) := Nat.lt_of_lt_of_le h (by decide)
theorem dgN_size {n : Nat} (h : n < 4398046511104) : (str (dgN 20 n)).size ≤ 13 := by
  rw [str_size]
  exact (dgN_ok 20 n 12 (pow21 h) (Nat.lt_of_lt_of_le h (by decide))).2.2.2
theorem str_zero (w : World) : (zeroValue 9).run Tryd.prog w = .ok (.string ⟨#[]⟩) w := by kernel_rfl
end LW
end Go.Proofs.YtbglcdjimipeeaaDoor

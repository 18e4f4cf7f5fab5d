/-
  Contract of the document's own Lex. No condition but that the text is no longer than a text can be.
-/
import Derived.Test.YtbglcdjimipeeaaDoorLexRef5
namespace Go.Proofs.YtbglcdjimipeeaaDoor
open Go.RowKit
namespace LX
/-- What a step is, case by case. -/
theorem step_blank {c : UInt8} {r : List UInt8} (h : blank c = true) : step (c :: r) = .skip 1 := by unfold step; simp [h]
theorem step_note {c : UInt8} {r : List UInt8} (h : blank c = false) (h2 : c = 59) : step (c :: r) = .skip (note (c :: r)).length := by unfold step; simp only []; rw [if_neg (by rw [h]; decide), if_pos h2]
theorem step_mark {c : UInt8} {r : List UInt8} (h : blank c = false) (h2 : c ≠ 59) (h3 : mark c ≠ 0) : step (c :: r) = .tok (mark c) 0 emp 1 := by unfold step; simp [h, h2, h3]
theorem step_hash {c : UInt8} {r : List UInt8} (h : blank c = false) (h2 : c ≠ 59) (h3 : mark c = 0) (h4 : c = 35) :
    step (c :: r) = if word r = [116] then .tok 5 1 emp 2 else if word r = [102] then .tok 5 0 emp 2 else .err 50 := by unfold step; simp only []; rw [if_neg (by rw [h]; decide), if_neg h2, if_neg (fun h => h h3), if_pos h4]
theorem step_bad {c : UInt8} {r : List UInt8} (h : blank c = false) (h2 : c ≠ 59) (h3 : mark c = 0) (h4 : c ≠ 35) (h5 : let_ c = false) : step (c :: r) = .err 50 := by unfold step; simp [h, h2, h3, h4, h5]
theorem step_one {c : UInt8} {r : List UInt8} (h : blank c = false) (h2 : c ≠ 59) (h3 : mark c = 0) (h4 : c ≠ 35) (h5 : let_ c = true) : step (c :: r) = one (word (c :: r)) := by unfold step; simp [h, h2, h3, h4, h5]
theorem blank_no {c : UInt8} (h : blank c = false) : c ≠ 32 ∧ c ≠ 9 ∧ c ≠ 10 := by
  simp [blank] at h; exact ⟨h.1.1, h.1.2, h.2⟩
end LX
namespace LW
open LX
theorem eq_yes {c d : UInt8} {n : Int} (h : c = d) (e : (d.toNat : Int) = n) : (((c.toNat : Int)) == n) = true := by rw [h, e]; simp
theorem eq_no {c d : UInt8} {n : Int} (h : c ≠ d) (e : (d.toNat : Int) = n) : (((c.toNat : Int)) == n) = false := by
  rw [beq_eq_false_iff_ne, ← e]
  intro h2
  exact h (UInt8.toNat_inj.1 (by omega))
theorem drop_cons (s : ByteArray) (i : Nat) (h : i < s.size) : (bts s).drop i = s[i] :: (bts s).drop (i + 1) := by
  rw [List.drop_eq_getElem_cons (by rw [bts_len]; exact h), at_bts s i h]; rfl
theorem list_eq (a : ByteArray) : a.toList = bts a := Lib.toList_data a
theorem str_yes {l m : List UInt8} (h : l = m) : ((str l).toList == m) = true := by
  rw [list_eq, bts_str, h]; simp
theorem str_no {l m : List UInt8} (h : l ≠ m) : ((str l).toList == m) = false := by
  rw [beq_eq_false_iff_ne, list_eq, bts_str]; exact h
theorem one_err {w : List UInt8} {e : Int} (h : LX.one w = .err e) : (e == 0) = false := by
  unfold LX.one at h
  split at h
  · split at h
    · injection h with h; subst h; rfl
    · cases h
  · split at h
    · injection h with h; subst h; rfl
    · split at h
      · injection h with h; subst h; rfl
      · cases h
theorem lex_skip {s : ByteArray} {i k : Nat} {out : List Tk} {R : Except (Nat × Int) (List Tk)} (hi : i < s.size) (hR : lexL ((bts s).drop i) i out = R) (h : LX.step (s[i] :: (bts s).drop (i + 1)) = St.skip k) : lexL ((bts s).drop (i + k)) (i + k) out = R := by
  rw [drop_cons s i hi, lexL_step, h] at hR
  rw [← hR]
  simp only
  rw [← drop_cons s i hi, List.drop_drop]
theorem lex_tok {s : ByteArray} {i k : Nat} {out : List Tk} {R : Except (Nat × Int) (List Tk)} {kd n : Int} {z : ByteArray} (hi : i < s.size) (hR : lexL ((bts s).drop i) i out = R) (h : LX.step (s[i] :: (bts s).drop (i + 1)) = St.tok kd n z k) : lexL ((bts s).drop (i + k)) (i + k) (out ++ [⟨kd, i, n, z⟩]) = R := by
  rw [drop_cons s i hi, lexL_step, h] at hR
  rw [← hR]
  simp only
  rw [← drop_cons s i hi, List.drop_drop]
theorem lex_err {s : ByteArray} {i : Nat} {out : List Tk} {R : Except (Nat × Int) (List Tk)} {e : Int} (hi : i < s.size) (hR : lexL ((bts s).drop i) i out = R) (h : LX.step (s[i] :: (bts s).drop (i + 1)) = St.err e) : R = .error (i, e) := by
  rw [drop_cons s i hi, lexL_step, h] at hR
  exact hR.symm
theorem lex_fits {s : ByteArray} {i : Nat} (hi : i < s.size) : (∃ e, LX.step (s[i] :: (bts s).drop (i + 1)) = St.err e) ∨ i + adv (LX.step (s[i] :: (bts s).drop (i + 1))) ≤ s.size := by
  rcases step_adv s[i] ((bts s).drop (i + 1)) with h | ⟨_, h⟩
  · exact .inl h
  · right
    rw [← drop_cons s i hi, List.length_drop, bts_len, drop_cons s i hi] at h
    omega
def LI (s : ByteArray) (w0 : World) (R : Except (Nat × Int) (List Tk)) (i : Nat) (v : Value) (out : List Tk) (w : World) : Prop :=
  Lx w0 w v out ∧ out.length ≤ i ∧ lexL ((bts s).drop i) i out = R
end LW
end Go.Proofs.YtbglcdjimipeeaaDoor

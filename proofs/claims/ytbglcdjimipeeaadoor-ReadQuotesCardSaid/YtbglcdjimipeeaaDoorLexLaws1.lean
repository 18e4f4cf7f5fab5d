/-
  The example shown, and P5.1's first law. No condition.
-/
import Derived.Test.YtbglcdjimipeeaaDoorLexCode
namespace Go.Proofs.YtbglcdjimipeeaaDoor
open Go.RowKit
namespace LX
def shownT : List Tk := [⟨1, 0, 0, emp⟩, ⟨6, 1, 0, ⟨#[43]⟩⟩, ⟨4, 3, -2, emp⟩, ⟨6, 6, 0, ⟨#[120]⟩⟩, ⟨2, 7, 0, emp⟩]
theorem lexF_len (f : Nat) : ∀ (l : List UInt8) (a : Nat) (out ts : List Tk), lexF f l a out = .ok ts → ts.length ≤ out.length + f := by
  induction f with
  | zero => intro l a out ts h; simp [lexF] at h; subst h; omega
  | succ f ih =>
    intro l a out ts h
    cases l with
    | nil => simp [lexF] at h; subst h; omega
    | cons c r =>
      simp only [lexF] at h
      cases hs : step (c :: r) with
      | err e => rw [hs] at h; cases h
      | skip k => rw [hs] at h; have := ih _ _ _ _ h; omega
      | tok kd n s k => rw [hs] at h; have := ih _ _ _ _ h; simp at this; omega
theorem lex_len {s : ByteArray} {ts : List Tk} (h : lex s = .ok ts) : ts.length ≤ s.size ∧ s.size ≤ 4000 := by
  unfold lex at h
  split at h
  · cases h
  · have := lexF_len _ _ _ _ _ h
    have e : (bts s).length = s.size := by unfold bts; rw [Array.length_toList]; rfl
    simp at this
    omega
theorem shown_lex : lex ⟨#[40, 43, 32, 45, 50, 32, 120, 41]⟩ = .ok shownT := by kernel_rfl
end LX
namespace LW
open LX
theorem tkrow_nil (w : World) (A : Option Addr) : TkRow w A [] := fun k h => by simp at h
end LW
end Go.Proofs.YtbglcdjimipeeaaDoor

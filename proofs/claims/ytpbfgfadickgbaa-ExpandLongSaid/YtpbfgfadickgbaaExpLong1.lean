/-
  Layer 8's law of many parts: what the texts come to. No condition.
-/
import Derived.Test.YtpbfgfadickgbaaExpL
namespace Go.Proofs.Ytpbfgfadickgbaa
open Go.RowKit
namespace EW
open LX SX RW6 EX
def rep (e : ByteArray) : Nat → ByteArray
  | 0 => ⟨#[]⟩
  | k + 1 => rep e k ++ e
def textK (s e t : ByteArray) (k : Nat) : ByteArray := (s ++ rep e k) ++ t
def cntK (x : Except Int (List Fm × List Nat)) (kd : Int) : Nat := match x with
  | .error _ => 0
  | .ok r => (r.1.map (·.kind)).count kd
def okK (x : Except Int (List Fm × List Nat)) : Bool := match x with
  | .error _ => false
  | .ok _ => true
def andK (k : Nat) := textK ⟨#[40, 97, 110, 100, 32]⟩ ⟨#[120, 32]⟩ ⟨#[41]⟩ k
def orK (k : Nat) := textK ⟨#[40, 111, 114, 32]⟩ ⟨#[120, 32]⟩ ⟨#[41]⟩ k
def condK (k : Nat) := textK ⟨#[40, 99, 111, 110, 100, 32]⟩ ⟨#[40, 120, 32, 49, 41, 32]⟩ ⟨#[40, 101, 108, 115, 101, 32, 50, 41, 41]⟩ k
def starK (k : Nat) := textK ⟨#[40, 108, 101, 116, 42, 32, 40]⟩ ⟨#[40, 121, 32, 120, 41, 32]⟩ ⟨#[41, 32, 121, 41]⟩ k
def longB (k : Nat) : Bool :=
  (cntK (ofM (andK k)) 4 == k) && (cntK (ofM (andK k)) 5 == k - 1) && (cntK (ofM (orK k)) 6 == k - 1) && (cntK (ofM (orK k)) 10 == k - 1) && (cntK (ofM (orK k)) 5 == k - 1) && (cntK (ofM (orK k)) 4 == k + 2 * (k - 1)) &&
  (cntK (ofM (condK k)) 5 == k) && (cntK (ofM (condK k)) 1 == k + 1) && (cntK (ofM (starK k)) 6 == k) && (cntK (ofM (starK k)) 10 == k) && (cntK (ofM (starK k)) 4 == k + 1)
theorem long_1 : ((List.range 10).all fun j => longB (j + 1)) = true := by kernel_rfl
theorem long_2 : ((List.range 10).all fun j => longB (j + 11)) = true := by kernel_rfl
theorem long_3 : ((List.range 10).all fun j => longB (j + 21)) = true := by kernel_rfl
theorem long_all (k : Nat) (h1 : 1 ≤ k) (h2 : k ≤ 30) : longB k = true := by
  rcases (show k ≤ 10 ∨ (10 < k ∧ k ≤ 20) ∨ 20 < k by omega) with h | h | h
  · have := List.all_eq_true.1 long_1 (k - 1) (List.mem_range.2 (by omega))
    rwa [show k - 1 + 1 = k by omega] at this
  · have := List.all_eq_true.1 long_2 (k - 11) (List.mem_range.2 (by omega))
    rwa [show k - 11 + 11 = k by omega] at this
  · have := List.all_eq_true.1 long_3 (k - 21) (List.mem_range.2 (by omega))
    rwa [show k - 21 + 21 = k by omega] at this
end EW
end Go.Proofs.Ytpbfgfadickgbaa

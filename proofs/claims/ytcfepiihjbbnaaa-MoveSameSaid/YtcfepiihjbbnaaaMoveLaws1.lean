/-
  The walk of MoveTwice: to copy what is reached twice is to do it once. Condition: the argument's reading.
-/
import Derived.Test.YtcfepiihjbbnaaaMoveWords
import Derived.Deep.DeepCutAuto
namespace Go.Proofs.Ytcfepiihjbbnaaa
open Go.RowKit
namespace ML
open AW MW AL
/-- The words to begin at, cut, as they can be read later on. -/
structure Cut20 (w : World) (a2 : Option Addr) (m : Nat) (R : List Int) : Prop where
  len : R.length = m
  le : m ≤ 20
  u : ∀ x ∈ R, WP.U x
  src : MM.Src w [] a2 (U64s R)
theorem cut20 {w w' : World} {a2 : Option Addr} {len2 cap2 : Nat} {roots : List Int} (h : MR.Ints .u64 w a2 len2 cap2 roots) (f : MM.Far [] w w') : Cut20 w' a2 (min len2 20) (roots.take 20) :=
  ⟨by rw [List.length_take, h.len_]; omega, by omega, roots_u h 20, take_src h f 20⟩
theorem Cut20.far {w w' : World} {a2 : Option Addr} {m : Nat} {R : List Int} (h : Cut20 w a2 m R) (f : MM.Far [] w w') : Cut20 w' a2 m R := ⟨h.len, h.le, h.u, h.src.far f (by simp)⟩
theorem src_row {w : World} {b : Nat} {l : List Int} (h : MM.Row w b 42 (U64s l)) : MM.Src w [] (some ⟨b, 0, none⟩) (U64s l) := MM.Src.row h (by simp) _ (fun _ _ hu => hu)
theorem at_or (j : Nat) (hj : j ≤ 65536) : bits .or .u64 ((j : Int) * 8) 1 = WP.ofW 1 j := by
  have h : WP.ofB 1 j = true := by rw [WP.ofB_iff]; omega
  rw [WP.orN _ _ (by omega) (by omega) (by omega) (by omega) (by omega)]
  unfold WP.ofW; rw [if_pos h]
theorem lenN_nat {n : Nat} {T : List AP.Th} (hO : Ok n T) (X : Int) : ∃ N : Nat, lenN T X = N ∧ N ≤ 255 := by
  cases h : AW.look T X with
  | none => exact ⟨0, by simp [lenN, h], by omega⟩
  | some i => exact ⟨(AP.th T i).l.length, by simp [lenN, h], (hO.each i (MP.look_lt h)).2.2.1⟩
end ML
end Go.Proofs.Ytcfepiihjbbnaaa

/-
  Layer 4 in plain words: a map of texts to numbers as a function of texts, and a row of names: what is found, put and told. No condition.
-/
import Derived.Maps.OwnSet
namespace Go.Proofs.Yteochpfdongcaaa
open Go.Maps Go.WideShapes
namespace NP
def key (s : ByteArray) : Lit := .string s.data.toList
theorem key_inj {a b : ByteArray} (h : key a = key b) : a = b := by
  unfold key at h
  injection h with h
  apply ByteArray.ext
  exact Array.toList_inj.1 h
instance : LawfulBEq ByteArray where
  eq_of_beq {a b} h := by
    exact ByteArray.ext (eq_of_beq (α := Array UInt8) h)
  rfl {a} := by
    cases a
    exact beq_self_eq_true (α := Array UInt8) _
theorem key_is (s : ByteArray) : WideAt.IsKeyLit (key s) := trivial
/-- A map as read: at each text what f says. -/
structure Tab (D : DataW Unit) (f : ByteArray → Option Int) : Prop where
  isMap : IsMap D
  has : ∀ s, Maps.has D (key s) = (f s).isSome
  at_ : ∀ s, D.atKey (key s) (.lit (.int .i64 0)) = .lit (.int .i64 ((f s).getD 0))
theorem Tab.none_ : Tab (.map []) (fun _ => none) := ⟨isMap_empty, fun _ => rfl, fun _ => rfl⟩
theorem Tab.put {D : DataW Unit} {f : ByteArray → Option Int} (h : Tab D f) (s : ByteArray) (v : Int) : Tab (D.put (key s) (.lit (.int .i64 v))) (fun x => if x = s then some v else f x) := by
  refine ⟨h.isMap.put _ _, fun x => ?_, fun x => ?_⟩
  · by_cases e : x = s
    · subst e
      rw [has_put_same h.isMap (key_is _)]; simp
    · rw [has_put_other (fun e' => e (key_inj e')), h.has]; simp [e]
  · by_cases e : x = s
    · subst e
      rw [atKey_put_same h.isMap (key_is _)]; simp
    · rw [atKey_put_other (fun e' => e (key_inj e')), h.at_]; simp [e]
theorem Tab.congr {D : DataW Unit} {f g : ByteArray → Option Int} (h : Tab D f) (e : ∀ x, f x = g x) : Tab D g := ⟨h.isMap, fun s => by rw [h.has, e], fun s => by rw [h.at_, e]⟩
/-- The number of a name. -/
def num (L : List ByteArray) (s : ByteArray) : Option Int := if s ∈ L then some (L.idxOf s : Int) else none
theorem num_snoc (L : List ByteArray) (s : ByteArray) (h : s ∉ L) (x : ByteArray) : (if x = s then some (L.length : Int) else num L x) = num (L ++ [s]) x := by
  unfold num
  by_cases e : x = s
  · subst e
    simp [List.idxOf_append, h]
  · by_cases hx : x ∈ L
    · simp [e, hx, List.idxOf_append]
    · simp [e, hx]
def findI (L : List ByteArray) (s : ByteArray) : Int := (num L s).getD 0
def findB (L : List ByteArray) (s : ByteArray) : Bool := (num L s).isSome
theorem findB_yes {L : List ByteArray} {s : ByteArray} (h : s ∈ L) : findB L s = true := by simp [findB, num, h]
theorem findB_no {L : List ByteArray} {s : ByteArray} (h : s ∉ L) : findB L s = false := by simp [findB, num, h]
theorem findI_yes {L : List ByteArray} {s : ByteArray} (h : s ∈ L) : findI L s = (L.idxOf s : Nat) := by simp [findI, num, h]
theorem findI_no {L : List ByteArray} {s : ByteArray} (h : s ∉ L) : findI L s = 0 := by simp [findI, num, h]
def fits (s : ByteArray) : Prop := 1 ≤ s.size ∧ s.size ≤ 32
instance (s : ByteArray) : Decidable (fits s) := by unfold fits; infer_instance
def putL (L : List ByteArray) (s : ByteArray) : List ByteArray := if fits s ∧ s ∉ L ∧ L.length < 4096 then L ++ [s] else L
def putI (L : List ByteArray) (s : ByteArray) : Int := if ¬ fits s then 0 else if s ∈ L then (L.idxOf s : Nat) else if L.length < 4096 then (L.length : Nat) else 0
def putE (L : List ByteArray) (s : ByteArray) : Int := if ¬ fits s then 1 else if s ∈ L then 0 else if L.length < 4096 then 0 else 3
def none : ByteArray := ⟨#[]⟩
def textS (L : List ByteArray) (i : Int) : ByteArray := if 0 ≤ i ∧ i < L.length then L.getD i.toNat none else none
def textB (L : List ByteArray) (i : Int) : Bool := decide (0 ≤ i ∧ i < L.length)
/-- Names that may be. -/
structure Ok (L : List ByteArray) : Prop where
  nd : L.Nodup
  len : L.length ≤ 4096
  each : ∀ s ∈ L, fits s
theorem Ok.nil : Ok [] := ⟨List.nodup_nil, by simp, by simp⟩
theorem Ok.putL {L : List ByteArray} (h : Ok L) (s : ByteArray) : Ok (putL L s) := by
  unfold NP.putL
  by_cases c : fits s ∧ s ∉ L ∧ L.length < 4096
  · rw [if_pos c]
    refine ⟨?_, by simp; omega, ?_⟩
    · rw [List.nodup_append]
      refine ⟨h.nd, by simp, ?_⟩
      intro a ha b hb e
      simp at hb
      subst hb; subst e
      exact c.2.1 ha
    · intro x hx
      rcases List.mem_append.1 hx with hx | hx
      · exact h.each x hx
      · simp at hx; subst hx; exact c.1
  · rw [if_neg c]; exact h
end NP
end Go.Proofs.Yteochpfdongcaaa

/-
  Contracts of layer 2's methods that only read: Used, Size, find, fields, field, Get, Kind, Len. Conditions: the arena's rows are as the document's list of things says, a word lies in 64 bits.
-/
import Derived.Test.YtcfepiihjbbnaaaProg
import Derived.Test.YtcfepiihjbbnaaaMem
import Derived.Test.YtcfepiihjbbnaaaArenaPlain
import Derived.Test.YtcfepiihjbbnaaaWordWalks1
import Derived.Lib.Hide
namespace Go.Proofs.Ytcfepiihjbbnaaa
open Go.RowKit
namespace AW
abbrev ptr (p : Nat) : Value := .pointer (some ⟨p, 0, none⟩)
def U64s (l : List Int) : List Value := l.map (Value.int .u64)
def U8s (l : List Int) : List Value := l.map (Value.int .u8)
/-- The things fit, and each is one that may be. -/
structure Ok (n : Nat) (ts : List AP.Th) : Prop where
  size : n ≤ 65536
  room : AP.sz ts ≤ n
  each : ∀ i, i < ts.length → 1 ≤ (AP.th ts i).k ∧ (AP.th ts i).k ≤ 9 ∧ (AP.th ts i).l.length ≤ 255 ∧ ∀ x ∈ (AP.th ts i).l, WP.U x
/-- An arena at block p: its words are block g, its kinds block h. -/
structure Ar (w : World) (p g h n : Nat) (ts : List AP.Th) : Prop where
  ok : Ok n ts
  head : MM.Row w p 74 [.slice (some ⟨g, 0, none⟩) n n, .slice (some ⟨h, 0, none⟩) n n, .int .i64 (AP.sz ts)]
  words : MM.Row w g 42 (U64s (AP.words n ts))
  kinds : MM.Row w h 5 (U8s (AP.kinds n ts))
/-- The thing that a word stands for. -/
def look (ts : List AP.Th) (x : Int) : Option Nat := if WP.toB 1 x then AP.idx ts (WP.toN 1 x).toNat else none
def findN (ts : List AP.Th) (x : Int) : Int := if (look ts x).isSome then WP.toN 1 x else 0
def findB (ts : List AP.Th) (x : Int) : Bool := (look ts x).isSome
theorem toN_nat (x : Int) (hx : WP.U x) : ∃ a : Nat, WP.toN 1 x = a ∧ a < 1099511627776 := by
  refine ⟨(WP.toN 1 x).toNat, ?_, ?_⟩
  · have : 0 ≤ WP.toN 1 x := by
      unfold WP.toN; split
      · have := hx.1; omega
      · omega
    omega
  · unfold WP.toN; split
    · rename_i h; have := (WP.toB_iff 1 x).1 h; omega
    · omega
theorem used_nil (w : World) : Calls Try.prog 17 #[.pointer none] w fun e w' => e = .returned (.int .i64 0) ∧ w = w' := by
  go_enter Try.func17, Try.ntmps17
  go_wp2
  go_ret
  exact ⟨rfl, rfl⟩
theorem size_nil (w : World) : Calls Try.prog 26 #[.pointer none] w fun e w' => e = .returned (.int .i64 0) ∧ w = w' := by
  go_enter Try.func26, Try.ntmps26
  go_wp2
  go_ret
  exact ⟨rfl, rfl⟩
section
variable {w : World} {p g h n : Nat} {ts : List AP.Th}
theorem used_any (hA : Ar w p g h n ts) : Calls Try.prog 17 #[ptr p] w fun e w' => e = .returned (.int .i64 (AP.sz ts)) ∧ w = w' := by
  have h2 := hA.head.at (i := 2) rfl
  clear hA
  go_enter Try.func17, Try.ntmps17
  go_wp2
  go_ret
  exact ⟨rfl, rfl⟩
theorem size_any (hA : Ar w p g h n ts) : Calls Try.prog 26 #[ptr p] w fun e w' => e = .returned (.int .i64 n) ∧ w = w' := by
  have h0 := hA.head.at (i := 0) rfl
  clear hA
  go_enter Try.func26, Try.ntmps26
  go_wp2
  go_ret
  exact ⟨rfl, rfl⟩
/-! ### find -/
theorem find_no (hA : Ar w p g h n ts) (x : Int) (hx : WP.U x) (hn : look ts x = none) : Calls Try.prog 28 #[ptr p, .int .u64 x] w fun e w' => e = .returned (.tuple #[.int .i64 0, .bool false]) ∧ w = w' := by
  obtain ⟨a, ha, hal⟩ := toN_nat x hx
  have HX := Lib.hid hx
  clear hx
  cases hb : WP.toB 1 x
  · clear hn ha
    go_enter Try.func28, Try.ntmps28
    go_wp2_with (first | (go_at_call 35; refine (WW.to_any _ _ HX.out _).mono ?_; rintro e w' ⟨rfl, rfl⟩))
    go_ret2
    exact ⟨rfl, rfl⟩
  · have hi : AP.idx ts a = none := by
      unfold look at hn
      rw [if_pos hb, ha] at hn
      simpa using hn
    have HA := Lib.hid hA
    by_cases hlt : a < AP.sz ts
    · have hk := hA.kinds.at (i := a) (v := .int .u8 0) (by
        unfold U8s
        rw [List.getElem?_map, AP.kinds_at n ts a hlt]
        simp [AP.kindAt, hi])
      have h1 := hA.head.at (i := 1) rfl
      have hnn : AP.sz ts ≤ n := hA.ok.room
      have hn6 : n ≤ 65536 := hA.ok.size
      clear hA hn hi
      go_enter Try.func28, Try.ntmps28
      go_wp2_with (first | (go_at_call 35; refine (WW.to_any _ _ HX.out _).mono ?_; rintro e w' ⟨rfl, rfl⟩) | (go_at_call 17; refine (used_any HA.out).mono ?_; rintro e w' ⟨rfl, rfl⟩))
      go_ret2
      exact ⟨rfl, rfl⟩
    · clear hA hn hi
      go_enter Try.func28, Try.ntmps28
      go_wp2_with (first | (go_at_call 35; refine (WW.to_any _ _ HX.out _).mono ?_; rintro e w' ⟨rfl, rfl⟩) | (go_at_call 17; refine (used_any HA.out).mono ?_; rintro e w' ⟨rfl, rfl⟩))
      go_ret2
      exact ⟨rfl, rfl⟩
theorem find_yes (hA : Ar w p g h n ts) (x : Int) (hx : WP.U x) (i a : Nat) (hi : look ts x = some i) (ha : WP.toN 1 x = a) : Calls Try.prog 28 #[ptr p, .int .u64 x] w fun e w' => e = .returned (.tuple #[.int .i64 a, .bool true]) ∧ w = w' := by
  have HX := Lib.hid hx
  clear hx
  unfold look at hi
  split at hi
  · rename_i hb
    rw [ha] at hi
    have hi' : AP.idx ts a = some i := by simpa using hi
    have h0 := AP.idx_some hi'
    have hlt : a < AP.sz ts := AP.idx_lt hi'
    have hke := hA.ok.each i h0.1
    obtain ⟨k, hk⟩ : ∃ k, k = (AP.th ts i).k := ⟨_, rfl⟩
    rw [← hk] at hke
    have hc := hA.kinds.at (i := a) (v := .int .u8 k) (by
      unfold U8s
      rw [List.getElem?_map, AP.kinds_at n ts a hlt]
      simp [AP.kindAt, hi', hk])
    have hkz : (k == 0) = false := by rw [beq_eq_false_iff_ne]; omega
    have h1 := hA.head.at (i := 1) rfl
    have hnn : AP.sz ts ≤ n := hA.ok.room
    have hn6 : n ≤ 65536 := hA.ok.size
    have HA := Lib.hid hA
    clear hA hi hi' h0 hk hke
    go_enter Try.func28, Try.ntmps28
    go_wp2_with (first | (go_at_call 35; refine (WW.to_any _ _ HX.out _).mono ?_; rintro e w' ⟨rfl, rfl⟩) | (go_at_call 17; refine (used_any HA.out).mono ?_; rintro e w' ⟨rfl, rfl⟩))
    go_ret2
    exact ⟨rfl, rfl⟩
  · cases hi
end
end AW
end Go.Proofs.Ytcfepiihjbbnaaa

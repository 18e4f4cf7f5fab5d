/-
  Contracts of layer 11's code: an instruction's pops, its successors, a field that is filled, a constant. Condition: numbers are of their kinds.
-/
import Derived.Test.YthhibcfljekibaaDoorCodeMem
import Derived.Test.YthhibcfljekibaaDoorWordWalks2
namespace Go.Proofs.YthhibcfljekibaaDoor
open Go.RowKit
set_option linter.unusedVariables false
namespace KW
open KP
set_option maxHeartbeats 1000000 in
theorem pops_any (x : Ki) (w : World) : Calls Tryd.prog 23 #[val x] w fun e w' => e = .returned (num (pops x)) ∧ w' = w.alloc (.cells #[.int .u8 x.op, .int .i64 x.a, .int .i64 x.b, .int .u64 x.w] 38) := by
  obtain ⟨op, a, b, v⟩ := x
  have HP : Hid (pops ⟨op, a, b, v⟩ = if op = 11 then b else if op = 12 ∨ op = 13 then a else 0) := Lib.hid rfl
  generalize pops ⟨op, a, b, v⟩ = p at *
  show Calls Tryd.prog 23 #[.agg #[.int .u8 op, .int .i64 a, .int .i64 b, .int .u64 v]] w _
  go_enter Tryd.func23, Tryd.ntmps23
  by_cases h1 : op = 11
  · subst h1
    go_wp2
    go_ret
    refine ⟨?_, rfl⟩
    rw [HP.out]; rfl
  · by_cases h2 : op = 12
    · subst h2
      go_wp2
      go_ret
      refine ⟨?_, rfl⟩
      rw [HP.out]; rfl
    · by_cases h3 : op = 13
      · subst h3
        go_wp2
        go_ret
        refine ⟨?_, rfl⟩
        rw [HP.out]; rfl
      · have e1 : (op == 11) = false := by simpa using h1
        have e2 : (op == 12) = false := by simpa using h2
        have e3 : (op == 13) = false := by simpa using h3
        go_wp2
        go_ret
        refine ⟨?_, rfl⟩
        rw [HP.out, if_neg h1, if_neg (by rintro (h | h); exact h2 h; exact h3 h)]; rfl
/-- A row of numbers that was just made. -/
def Lr (l : List Int) (w w' : World) (A : Option Addr) : Prop := ∀ (k : Nat) (v : Int), l[k]? = some v → ∃ b, A = some ⟨b, 0, none⟩ ∧ w.heap.size ≤ b ∧ b < w'.heap.size ∧ w'.cell? ⟨b, k, none⟩ = some (num v)
theorem Lr.new (w w' : World) (k : Nat) (l : List Int) (hk : k = w'.heap.size) (f : MM.Far [] w w') : Lr l w (w'.alloc (.cells (ints l).toArray 3)) (some ⟨k, 0, none⟩) ∧ MM.Far [] w (w'.alloc (.cells (ints l).toArray 3)) := by
  subst hk
  refine ⟨fun j v hv => ⟨_, rfl, f.size, by simp, ?_⟩, f.alloc _⟩
  exact (MM.Row.new w' 3 (ints l)).at (by simp only [ints, List.getElem?_map, hv, Option.map_some])
theorem Lr.far {l : List Int} {w w' w'' : World} {A : Option Addr} {S : List Nat} (h : Lr l w w' A) (f : MM.Far S w' w'') (hS : ∀ b ∈ S, b < w.heap.size) : Lr l w w'' A := by
  intro k v hv
  obtain ⟨b, e, h1, h2, h3⟩ := h k v hv
  exact ⟨b, e, h1, Nat.lt_of_lt_of_le h2 f.size, (f.cell (p := ⟨b, k, none⟩) h2 (fun hm => by have := hS _ hm; simp at this; omega)).trans h3⟩
def SuQ (l : List Int) (w : World) (e : Ending) (w' : World) : Prop := ∃ A c, e = .returned (.slice A l.length c) ∧ Lr l w w' A ∧ MM.Far [] w w'
set_option maxHeartbeats 1000000 in
theorem succs_any (i : Nat) (hi : i < 1000000000) (x : Ki) (w : World) : Calls Tryd.prog 24 #[num i, val x] w (SuQ (succs i x) w) := by
  obtain ⟨op, a, b, v⟩ := x
  have HP : Hid (succs i ⟨op, a, b, v⟩ = if op = 8 then [a] else if op = 9 then [(i : Int) + 1, a] else if op = 13 ∨ op = 15 ∨ op = 16 then [] else [(i : Int) + 1]) := Lib.hid rfl
  generalize succs i ⟨op, a, b, v⟩ = p at *
  show Calls Tryd.prog 24 #[num i, .agg #[.int .u8 op, .int .i64 a, .int .i64 b, .int .u64 v]] w _
  have FB := Lib.hid ((MM.Far.refl [] w).alloc (.cells #[.int .u8 op, .int .i64 a, .int .i64 b, .int .u64 v] 38))
  go_enter Tryd.func24, Tryd.ntmps24
  by_cases h1 : op = 8
  · subst h1
    obtain rfl : p = [a] := HP.out
    go_wp2
    go_ret
    exact ⟨_, _, rfl, Lr.new w _ _ [a] (by simp) FB.out⟩
  · have e1 : (op == 8) = false := by simpa using h1
    by_cases h2 : op = 9
    · subst h2
      obtain rfl : p = [(i : Int) + 1, a] := HP.out
      go_wp2
      go_ret
      exact ⟨_, _, rfl, Lr.new w _ _ [(i : Int) + 1, a] (by simp) FB.out⟩
    · have e2 : (op == 9) = false := by simpa using h2
      by_cases h3 : op = 13 ∨ op = 15 ∨ op = 16
      · obtain rfl : p = [] := by have := HP.out; rw [if_neg h1, if_neg h2, if_pos h3] at this; exact this
        rcases h3 with h3 | h3 | h3
        all_goals
          subst h3
          go_wp2
          go_ret
          exact ⟨none, 0, rfl, (fun k v e => by simp at e), FB.out⟩
      · obtain rfl : p = [(i : Int) + 1] := by have := HP.out; rw [if_neg h1, if_neg h2, if_neg h3] at this; exact this
        have e3 : (op == 13) = false := by simp; omega
        have e4 : (op == 15) = false := by simp; omega
        have e5 : (op == 16) = false := by simp; omega
        go_wp2
        go_ret
        exact ⟨_, _, rfl, Lr.new w _ _ [(i : Int) + 1] (by simp) FB.out⟩
theorem filled_any (x : Ki) (f : Int) (hf : f = 0 ∨ f = 1 ∨ f = 2) (w : World) : Calls Tryd.prog 33 #[val x, num f] w fun e w' => e = .returned (.bool (fld x f != 0)) ∧ w' = w.alloc (.cells #[.int .u8 x.op, .int .i64 x.a, .int .i64 x.b, .int .u64 x.w] 38) := by
  obtain ⟨op, a, b, v⟩ := x
  show Calls Tryd.prog 33 #[.agg #[.int .u8 op, .int .i64 a, .int .i64 b, .int .u64 v], num f] w _
  go_enter Tryd.func33, Tryd.ntmps33
  rcases hf with rfl | rfl | rfl
  all_goals
    go_wp2
    go_ret
    exact ⟨rfl, rfl⟩
theorem const_any (v : Int) (hv : WP.U v) (w : World) : Calls Tryd.prog 29 #[.int .u64 v] w fun e w' => e = .returned (.bool (const v)) ∧ w = w' := by
  have HV := Lib.hid hv
  have HC : Hid (const v = (WP.mayB v && !WP.toB 1 v)) := Lib.hid rfl
  generalize const v = r at *
  clear hv
  go_enter Tryd.func29, Tryd.ntmps29
  go_wp2_with (first | (go_at_call 34; refine (WW.to_any _ _ HV.out _).mono ?_; rintro e w' ⟨rfl, rfl⟩) | (go_at_call 35; refine (WW.may_any _ HV.out _).mono ?_; rintro e w' ⟨rfl, rfl⟩))
  all_goals
    go_ret
    refine ⟨?_, rfl⟩
    rw [HC.out]
    simp_all
end KW
end Go.Proofs.YthhibcfljekibaaDoor

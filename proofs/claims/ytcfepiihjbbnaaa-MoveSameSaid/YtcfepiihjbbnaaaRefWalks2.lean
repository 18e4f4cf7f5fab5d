/-
  Contracts of the document's arena that write: New, Set, Alloc. Conditions: its rows are as the list of things says, a word lies in 64 bits, what is handed over lies elsewhere.
-/
import Derived.Test.YtcfepiihjbbnaaaRefWalks1
import Derived.Deep.RegionLaw
import Derived.Deep.QuietTactic
import Derived.BigQuiet
namespace Go.Proofs.Ytcfepiihjbbnaaa
open Go.RowKit
namespace RW
open AW RP
def RMade (w : World) (base n : Nat) (e : Ending) (w' : World) : Prop :=
  ∃ q, e = .returned (.tuple #[ptr q, .int .i64 0]) ∧ w.heap.size ≤ q ∧ Rr w' base q n (.slice none 0 0) [] [] ∧ MM.Far [] w w'
theorem rnew_bad (w : World) (n : Int) (hb : n < 1 ∨ 65536 < n) : Calls Try.prog 20 #[.int .i64 n] w fun e w' => e = .returned (.tuple #[.pointer none, .int .i64 1]) ∧ w = w' := by
  by_cases h1 : n < 1
  · clear hb
    go_enter Try.func20, Try.ntmps20
    go_wp2
    go_ret2
    exact ⟨rfl, rfl⟩
  · have h2 : 65536 < n := by omega
    clear hb
    go_enter Try.func20, Try.ntmps20
    go_wp2
    go_ret2
    exact ⟨rfl, rfl⟩
theorem rnew_ok (w : World) (base n : Nat) (h1 : 1 ≤ n) (h2 : n ≤ 65536) : Calls Try.prog 20 #[.int .i64 n] w (RMade w base n) := by
  go_enter Try.func20, Try.ntmps20
  go_wp2
  go_ret2
  exact ⟨_, rfl, Nat.le_refl _, ⟨ok_nil n h2, MM.Row.new w _ [.int .i64 n, .int .i64 0, .slice none 0 0], MO.none_ _ _ _ _, MN.Kids.nil _ _ _⟩, (MM.Far.refl _ _).alloc _⟩
section
variable {w : World} {base q n : Nat} {v : Value} {ts : List AP.Th} {hs : List Value}
theorem Rr.put (hR : Rr w base q n v ts hs) {i gq d j : Nat} {x : Int} (hi : i < ts.length) (hh : hs[i]? = some (.slice (some ⟨gq, 0, none⟩) (AP.th ts i).l.length d)) (hx : WP.U x) :
    Rr (w.setCell ⟨gq, j, none⟩ (.int .u64 x)) base q n v (AP.put ts i j x) hs ∧ base ≤ gq ∧ ∀ t l, MM.Row w gq t l → t = 42 ∨ t = 68 := by
  have hm : Value.slice (some ⟨gq, 0, none⟩) (AP.th ts i).l.length d ∈ hs := List.mem_of_getElem? hh
  have hlow := hR.kids.low _ hm gq rfl
  have hl : (ts.map fun t => U64s t.l)[i]? = some (U64s (AP.th ts i).l) := by
    rw [List.getElem?_map, List.getElem?_eq_getElem hi]
    simp [AP.th, List.getD, List.getElem?_eq_getElem hi]
  have hrow := hR.kids.each i _ _ hh hl
  have hone := (MM.Far.refl [gq] w).setCell (p := ⟨gq, j, none⟩) (by simp) (.int .u64 x)
  refine ⟨⟨ok_put hR.ok _ _ _ hx, ?_, ?_, ?_⟩, hlow.2, fun t l hr => .inl (row_type hrow rfl hr)⟩
  · rw [AP.sz_put]
    refine hR.head.far hone (fun hm => ?_)
    have : q = gq := by simpa using hm
    subst this
    exact MM.own_row_ne hrow hR.head (by decide) rfl
  · rw [AP.len_put, rc_put]
    exact MM.own_far hR.row hone (fun b hb hm => by
      have : b = gq := by simpa using hm
      subst this
      exact MM.own_own_ne hR.row hrow (by decide) b hb rfl)
  · have := hR.kids.put hh hl (by simp [U64s]) j (.int .u64 x)
    have e : (ts.map fun t => U64s t.l).set i ((U64s (AP.th ts i).l).set j (.int .u64 x)) = (AP.put ts i j x).map fun t => U64s t.l := by
      apply List.ext_getElem?
      intro k
      by_cases ei : k = i
      · subst ei
        rw [List.getElem?_set_self (by simpa using hi), List.getElem?_map]
        simp only [AP.put, List.getElem?_modify]
        simp [AP.th, List.getD, hi, U64s, List.map_set]
      · rw [List.getElem?_set_ne (fun h => ei h.symm), List.getElem?_map, List.getElem?_map]
        have ei' : ¬ i = k := fun h => ei h.symm
        simp [AP.put, ei']
    rw [← e]; exact this
end
end RW
end Go.Proofs.Ytcfepiihjbbnaaa

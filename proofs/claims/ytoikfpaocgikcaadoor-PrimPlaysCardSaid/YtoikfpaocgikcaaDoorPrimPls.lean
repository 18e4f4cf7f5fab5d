/-
  Both arenas, the code's and the document's, beside each other, for PrimPlays. Condition: they lie apart, as made.
-/
import Derived.Test.YtoikfpaocgikcaaDoorPrimRef2
import Derived.Test.YtoikfpaocgikcaaDoorArenaSt
import Derived.Test.YtoikfpaocgikcaaDoorRefAll
namespace Go.Proofs.YtoikfpaocgikcaaDoor
open Go.RowKit
set_option linter.unusedVariables false
namespace PW
open AW AL
structure Mk (w : World) (base p g h q n : Nat) (ts : List AP.Th) (wr : World) : Prop where
  ar : AW.Ar wr p g h n ts
  rr : ∃ v hs, RW.Rr wr base q n v ts hs
  far : MM.Far [] w wr
  size : base ≤ wr.heap.size
section
variable {w wr w1 w2 w' : World} {base p g h q n : Nat} {ts T : List AP.Th}
theorem Mk.new (s : Mk w base p g h q n ts wr) (f : MM.Far [] wr w') : Mk w base p g h q n ts w' := by
  obtain ⟨v, hs, hr⟩ := s.rr
  exact ⟨s.ar.far f (by simp) (by simp) (by simp), ⟨v, hs, hr.far f (by simp)⟩, s.far.trans f (by simp), by have := f.size; have := s.size; omega⟩
theorem Mk.both (L : AL.Lay w base base p g h q) (s : Mk w base p g h q n ts wr) (a : AW.Ar w1 p g h n T) (fa : MM.Far [p, g, h] wr w1) {v' : Value} {hs' : List Value} (r : RW.Rr w2 base q n v' T hs') (fr : RW.Fr q base w1 w2) : Mk w base p g h q n T w2 :=
  ⟨AL.ar_r L a fr, ⟨v', hs', r⟩, AL.far_r L (AL.far_a L s.far fa) fr, by have := fa.size; have := fr.size; have := s.size; omega⟩
/-- All words of things are words. -/
theorem get_u {ts : List AP.Th} (hO : Ok n ts) (x j : Int) : WP.U (getW ts x j) := by
  unfold getW
  split
  · exact ⟨by omega, by omega⟩
  · rename_i i hi
    split
    · rename_i hj
      have hlt : i < ts.length := by
        unfold AW.look at hi
        split at hi
        · exact (AP.idx_some hi).1
        · cases hi
      refine (hO.each i hlt).2.2.2 _ ?_
      rw [List.getD_eq_getElem?_getD, List.getElem?_eq_getElem (show j.toNat < (AP.th ts i).l.length by omega)]
      exact List.getElem_mem _
    · exact ⟨by omega, by omega⟩
theorem doW_u {ts : List AP.Th} (hO : Ok n ts) (op : Int) (l : List Int) : WP.U (PP.doW n ts op l) := by
  have h0 : WP.U 0 := ⟨by omega, by omega⟩
  unfold PP.doW
  split
  · unfold PP.valW
    split
    · exact WP.doW_u _ _ _
    · split
      · exact WP.boolW_u _
      · split
        · exact WP.boolW_u _
        · split
          · exact WP.boolW_u _
          · split
            · exact WP.boolW_u _
            · split
              · unfold allW; split
                · exact WP.ofW_u _ _
                · exact h0
              · split
                · split
                  · exact get_u hO _ _
                  · exact h0
                · split
                  · split
                    · exact get_u hO _ _
                    · exact h0
                  · split
                    · exact WP.boolW_u _
                    · split
                      · exact WP.boolW_u _
                      · exact WP.boolW_u _
  · exact h0
end
/-- Words that are gathered, in a row of the call's own made since B. -/
def Gat (B : Nat) (wB wr : World) (v : Value) (j : Nat) : Prop := ∃ xs : List Int, xs.length = j ∧ (∀ x ∈ xs, WP.U x) ∧ wr.ownsRow B 36 1 v j (U64s xs) ∧ MM.Far [] wB wr
theorem Gat.snoc {wB wr wG : World} {v v1 : Value} {j : Nat} {xs : List Int} {x : Int} {o : Obj} (hl : xs.length = j) (hu : ∀ x ∈ xs, WP.U x) (hown : wr.ownsRow wB.heap.size 36 1 v j (U64s xs)) (hF : MM.Far [] wB wr) (hx : WP.U x)
    (hv1 : wG.ownsRow wB.heap.size 36 1 v1 (j + 1) (U64s (xs ++ [x]))) (hg1 : (wr.alloc o).grownBy wG v.ownBlock) : Gat wB.heap.size wB wG v1 (j + 1) := by
  refine ⟨xs ++ [x], by simp [hl], fun z hz => ?_, hv1, (hF.alloc o).trans (MM.Far.of_grown (S := v.ownBlock.toList) hg1 (by intro b hb _; simp [hb])) (fun b hb hl2 => ?_)⟩
  · rcases List.mem_append.1 hz with h | h
    · exact hu z h
    · simp at h; subst h; exact hx
  · have := (MM.own_lt hown b (by simpa using hb)).2
    omega
end PW
end Go.Proofs.YtoikfpaocgikcaaDoor

/-
  Things that are made ahead, of the acts that came in. Condition: the argument's reading.
-/
import Derived.Test.YtoikfpaocgikcaaDoorPrimActs
import Derived.Test.YtoikfpaocgikcaaDoorPrimChain
import Derived.Test.YtoikfpaocgikcaaDoorRefAll
namespace Go.Proofs.YtoikfpaocgikcaaDoor
open Go.RowKit
set_option linter.unusedVariables false
namespace PW
open AW AL
/-- The things made of the first k. -/
def tsOf (n : Nat) : List Ac → List AP.Th → List AP.Th
  | [], ts => ts
  | t :: tl, ts => tsOf n tl (AW.allT n ts t.k (t.zs.take 4))
theorem src_pgh {w wx : World} {p g h : Nat} {A : Option Addr} {l c : Nat} {zs : List Int} (m : Nat) (hz : MR.Ints .u64 w A l c zs) (hF : MM.Far [] w wx) (hp : w.heap.size ≤ p) (hg : w.heap.size ≤ g) (hh : w.heap.size ≤ h) : MM.Src wx [p, g, h] A (AW.U64s (zs.take m)) := fun hpos => by
  obtain ⟨ad, e, h1, h2, h3⟩ := AL.take_src hz (MM.Far.refl [] w) m hpos
  obtain ⟨ad', e', h1', h2', h3'⟩ := AL.take_src hz hF m hpos
  obtain rfl : ad = ad' := Option.some.inj (e.symm.trans e')
  refine ⟨ad, e', ?_, h2', h3'⟩
  simp only [List.mem_cons, List.not_mem_nil, or_false]
  omega
theorem fcell_at {S : List Nat} {w w' : World} {p : Addr} {v : Value} (hF : MM.Far S w w') (hn : p.block ∉ S) (h : w.cell? p = some v) : w'.cell? p = some v := (hF.cell (World.block_lt_of_cell? w _ h) hn).trans h
theorem row_fr {q base : Nat} {w w' : World} {xb : Nat} {l : List Value} (hx : MM.Row w xb 34 l) (hq : xb ≠ q) (f : RW.Fr q base w w') : MM.Row w' xb 34 l := by
  obtain ⟨S, f, hS⟩ := f
  refine hx.far f (fun hm => ?_)
  rcases hS _ hm with e | ⟨_, e⟩
  · exact hq e
  · rcases e _ _ hx with e | e
    · revert e; decide
    · revert e; decide
theorem alloc_w {W wx : World} {p g h n : Nat} {ts T : List AP.Th} (hA : AW.Ar W p g h n ts) (f : MM.Far [] W wx) (k : Int) (A : Option Addr) (m c : Nat) (fs : List Int) (hm : fs.length = m) (hm3 : m ≤ 9223372036854775807) (hu : ∀ x ∈ fs, WP.U x) (hT : AW.allT n ts k fs = T) (hs : MM.Src wx [p, g, h] A (AW.U64s fs)) :
    Calls Tryd.prog 12 #[AW.ptr p, .int .i64 k, .slice A m c] wx fun e w' => e = .returned (.tuple #[.int .u64 (AW.allW n ts k m), .int .i64 (AW.allE n ts k m)]) ∧ AW.Ar w' p g h n T ∧ MM.Far [p, g, h] W w' :=
  (AW.alloc_to (hA.far f (by simp) (by simp) (by simp)) k A m c fs _ _ _ hm hm3 hu rfl rfl hT hs).mono fun _ _ ⟨he, h1, h2⟩ => ⟨he, h1, (f.mono (by simp)).trans h2 (fun _ h _ => h)⟩
theorem ralloc_w {W wx : World} {base q n : Nat} {v : Value} {ts T : List AP.Th} {hs : List Value} (hR : RW.Rr W base q n v ts hs) (hb : base ≤ W.heap.size) (f : MM.Far [] W wx) (k : Int) (A : Option Addr) (m c : Nat) (fs : List Int) (hm : fs.length = m) (hm3 : m ≤ 9223372036854775807) (hu : ∀ x ∈ fs, WP.U x) (hT : AW.allT n ts k fs = T) (hnil : A = none → c = 0 ∧ m = 0) (hs : MM.Src wx [] A (AW.U64s fs)) :
    Calls Tryd.prog 13 #[AW.ptr q, .int .i64 k, .slice A m c] wx fun e w' => e = .returned (.tuple #[.int .u64 (AW.allW n ts k m), .int .i64 (AW.allE n ts k m)]) ∧ ∃ v' hs', RW.Rr w' base q n v' T hs' ∧ RW.Fr q base W w' := by
  subst hT
  exact (RW.ralloc_len (hR.far f (by simp)) (by have := f.size; omega) k A m c fs hm hm3 hu hnil hs).mono fun _ _ ⟨he, v', hs', h1, h2⟩ => ⟨he, v', hs', h1, (RW.Fr.of_nil f).trans h2⟩
end PW
end Go.Proofs.YtoikfpaocgikcaaDoor

/-
  The document's example of layer 10 comes out as the statements' head says. Condition: the tables.
-/
import Derived.Test.YtoikfpaocgikcaaDoorPrimC5
import Derived.Deep.DeepCutAuto
namespace Go.Proofs.YtoikfpaocgikcaaDoor
open Go.RowKit
set_option linter.unusedVariables false
namespace PW
open AW AL
/-- What Alloc and Do come to on a list of words that the call itself has laid. -/
theorem src_new (w : World) (S : List Nat) (l : List Int) (hS : ∀ b ∈ S, b < w.heap.size) : MM.Src (w.alloc (.cells (U64s l).toArray 36)) S (some ⟨w.heap.size, 0, none⟩) (U64s l) :=
  MM.Src.row (MM.Row.new w _ _) (fun hm => by have := hS _ hm; omega) _ (fun j u hu => hu)
theorem Ar.lts {w : World} {p g h n : Nat} {ts : List AP.Th} (hA : Ar w p g h n ts) : ∀ b ∈ [p, g, h], b < w.heap.size := by
  have h1 := hA.head.lt
  have h2 := hA.words.lt
  have h3 := hA.kinds.lt
  intro b hb
  simp at hb
  rcases hb with rfl | rfl | rfl <;> assumption
/-- Do, handed words that lie in a row just made. -/
theorem do_new {w : World} {p g h n : Nat} {ts : List AP.Th} (hT : CT w) (hA : Ar w p g h n ts) (op : Int) (l : List Int) (m c : Nat) (W E : Int) (T : List AP.Th) (hm : l.length = m) (hm3 : m ≤ 100) (hu : ∀ x ∈ l, WP.U x)
    (hW : PP.doW n ts op l = W) (hE : PP.doE n ts op l = E) (hTT : PP.doT n ts op l = T) :
    Calls Tryd.prog 14 #[ptr p, .int .i64 op, .slice (some ⟨w.heap.size, 0, none⟩) m c] (w.alloc (.cells (U64s l).toArray 36)) fun e w' => e = .returned (.tuple #[.int .u64 W, .int .i64 E]) ∧ Ar w' p g h n T ∧ MM.Far [p, g, h] w w' := by
  have hF := (MM.Far.refl [] w).alloc (.cells (U64s l).toArray 36)
  refine (do_to (hT.far hF) (hA.far hF (by simp) (by simp) (by simp)) op _ m c l W E T hm (by omega) hu hW hE hTT (src_new w _ l (Ar.lts hA))).mono ?_
  rintro e w' ⟨h1, h2, h3⟩
  exact ⟨h1, h2, (hF.mono (S' := [p, g, h]) (by simp)).trans h3 (fun b hb _ => hb)⟩
set_option maxHeartbeats 1000000 in
theorem shown_any {w : World} (hT : CT w) : Calls Tryd.prog 9 #[] w fun e w' => e = .returned (.bool true) ∧ MM.Far [] w w' := by
  have HT := Lib.hid hT
  clear hT
  go_enter Tryd.func9, Tryd.ntmps9
  go_wp2_with (fail)
  refine (new_int w 9 (by omega) (by omega)).mono ?_
  rintro e w1 ⟨p, g, h, rfl, hp, hg, hh, hA1, hF1⟩
  go_wp2_with (fail)
  refine (do_new (HT.out.far hF1) hA1 12 [8, 2] 2 2 1 0 [⟨1, [8, 2]⟩] rfl (by omega) (u_all _ (by decide)) (by decide) (by decide) rfl).mono ?_
  rintro e w2 ⟨rfl, hA2, hF2⟩
  have hs : ∀ b, b ∈ [p, g, h] → b < w.heap.size → b ∈ ([] : List Nat) := by
    intro b hb; simp at hb; omega
  have hF2' := hF1.trans hF2 hs
  go_wp2_with (fail)
  refine (do_new (HT.out.far hF2') hA2 13 [1] 1 1 8 0 [⟨1, [8, 2]⟩] rfl (by omega) (u_all _ (by decide)) (by decide) (by decide) rfl).mono ?_
  rintro e w3 ⟨rfl, hA3, hF3⟩
  have hF3' := hF2'.trans hF3 hs
  go_wp2
  go_ret
  exact ⟨rfl, hF3'⟩
end PW
end Go.Proofs.YtoikfpaocgikcaaDoor

/-
  The document's examples of layer 2 come out as the statements' head says. No condition.
-/
import Derived.Test.YtokpiljbcbemlaaArenaWalks5
import Derived.Deep.DeepCutAuto
namespace Go.Proofs.Ytokpiljbcbemlaa
open Go.RowKit
namespace AW
theorem new_int (w : World) (k : Int) (h1 : 1 ≤ k) (h2 : k ≤ 65536) : Calls Try.prog 25 #[.int .i64 k] w (Made w k.toNat) := by
  obtain ⟨n, rfl⟩ : ∃ n : Nat, k = n := ⟨k.toNat, by omega⟩
  rw [Int.toNat_natCast]
  exact new_ok w n (by omega) (by omega)
/-- Alloc, its answers spelled as the caller wants them. -/
theorem alloc_to {w : World} {p g h n : Nat} {ts : List AP.Th} (hA : Ar w p g h n ts) (k : Int) (A : Option Addr) (m c : Nat) (fs : List Int) (W E : Int) (T : List AP.Th) (hm : fs.length = m) (hm3 : m ≤ 9223372036854775807) (hu : ∀ x ∈ fs, WP.U x)
    (hW : allW n ts k m = W) (hE : allE n ts k m = E) (hT : allT n ts k fs = T) (hs : MM.Src w [p, g, h] A (U64s fs)) :
    Calls Try.prog 26 #[ptr p, .int .i64 k, .slice A m c] w fun e w' => e = .returned (.tuple #[.int .u64 W, .int .i64 E]) ∧ Ar w' p g h n T ∧ MM.Far [p, g, h] w w' := by
  subst hm hW hE hT
  exact alloc_any hA k A c fs hm3 hu hs
theorem u_all (l : List Int) (h : l.all (fun x => decide (0 ≤ x) && decide (x < 18446744073709551616)) = true) : ∀ x ∈ l, WP.U x := by
  intro x hx
  have := List.all_eq_true.1 h x hx
  simp at this
  exact this
set_option maxHeartbeats 1000000 in
theorem shown_any (w : World) : Calls Try.prog 28 #[] w fun e w' => e = .returned (.bool true) ∧ MM.Far [] w w' := by
  go_enter Try.func28, Try.ntmps28
  go_wp2_with (fail)
  refine (new_int w 4 (by omega) (by omega)).mono ?_
  rintro e w1 ⟨p, g, h, rfl, hp, hg, hh, hA1, hF1⟩
  have hp1 := hA1.head.lt
  have hg1 := hA1.words.lt
  have hh1 := hA1.kinds.lt
  go_wp2_with (fail)
  refine (alloc_to (hA1.far ((MM.Far.refl [] _).alloc _) (by simp) (by simp) (by simp)) 1 _ 2 2 [2, 18] 1 0 [⟨1, [2, 18]⟩] rfl (by omega) (u_all _ (by decide)) (by decide) (by decide) rfl (MM.Src.row (MM.Row.new _ _ [.int .u64 2, .int .u64 18]) (by simp; omega) _ (fun j u hu => hu))).mono ?_
  rintro e w2 ⟨rfl, hA2, hF2⟩
  go_wp2_with (fail)
  refine (alloc_to hA2 2 _ 0 0 [] 25 0 [⟨1, [2, 18]⟩, ⟨2, []⟩] rfl (by omega) (u_all _ (by decide)) (by decide) (by decide) rfl (MM.Src.nil _ _ _)).mono ?_
  rintro e w3 ⟨rfl, hA3, hF3⟩
  go_wp2_with (fail)
  refine (alloc_to hA3 3 _ 0 0 [] 0 20 [⟨1, [2, 18]⟩, ⟨2, []⟩] rfl (by omega) (u_all _ (by decide)) (by decide) (by decide) rfl (MM.Src.nil _ _ _)).mono ?_
  rintro e w4 ⟨rfl, hA4, hF4⟩
  go_wp2
  go_ret
  have hs : ∀ b, b ∈ [p, g, h] → b < w.heap.size → b ∈ ([] : List Nat) := by
    intro b hb; simp at hb; omega
  exact ⟨rfl, (((hF1.alloc _).trans hF2 hs).trans hF3 hs).trans hF4 hs⟩
end AW
end Go.Proofs.Ytokpiljbcbemlaa

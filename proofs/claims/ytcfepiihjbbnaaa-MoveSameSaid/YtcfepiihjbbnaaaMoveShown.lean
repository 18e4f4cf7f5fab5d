/-
  The document's examples of layer 3 come out as the statements' head says. No condition.
-/
import Derived.Test.YtcfepiihjbbnaaaMoveWalks5
namespace Go.Proofs.Ytcfepiihjbbnaaa
open Go.RowKit Go.Maps
namespace MW
open AW AP
/-- Live, its answers spelled as the caller wants them. -/
theorem live_to {w : World} {p g h n : Nat} {ts : List Th} (hA : Ar w p g h n ts) (hn : 1 ≤ n) (roots : List Int) (A : Option Addr) (m c : Nat) (T : List Th) (L : List Int) (hT : MP.liveT ts roots = T) (hL : MP.liveW ts roots = L) (hm : roots.length = m) (hm4 : m ≤ 17592186044416) (hs : MM.Src w [] A (U64s roots)) (hu : ∀ x ∈ roots, WP.U x) :
    Calls Try.prog 7 #[ptr p, .slice A m c] w fun e w' => ∃ p' g' h' wb, e = .returned (.tuple #[ptr p', .slice (some ⟨wb, 0, none⟩) m m]) ∧ (w.heap.size ≤ p' ∧ w.heap.size ≤ g' ∧ w.heap.size ≤ h' ∧ w.heap.size ≤ wb ∧ wb ≠ p' ∧ wb ≠ g' ∧ wb ≠ h') ∧
      Ar w' p' g' h' n T ∧ MM.Row w' wb 42 (U64s L) ∧ MM.Far [] w w' := by
  have := live_any hA hn roots A m c hm hm4 hs hu
  unfold Made3 at this
  rw [hT, hL] at this
  subst hm
  exact this
theorem used_is {w : World} {p g h n : Nat} {ts : List Th} (hA : Ar w p g h n ts) (u : Int) (hu : (AP.sz ts : Int) = u) : Calls Try.prog 17 #[ptr p] w fun e w' => e = .returned (.int .i64 u) ∧ w = w' := by
  subst hu; exact used_any hA
theorem reach_is {w : World} {p g h n : Nat} {ts : List Th} (hA : Ar w p g h n ts) (hn : 1 ≤ n) (roots : List Int) (A : Option Addr) (m c : Nat) (r : Int) (hr : (MP.reach ts roots : Int) = r) (hm : roots.length = m) (hm4 : m ≤ 17592186044416) (hs : MM.Src w [] A (U64s roots)) (hu : ∀ x ∈ roots, WP.U x) :
    Calls Try.prog 11 #[ptr p, .slice A m c] w fun e w' => e = .returned (.int .i64 r) ∧ MM.Far [] w w' := by
  subst hr; exact reach_any hA hn roots A m c hm hm4 hs hu
theorem get_is {w : World} {p g h n : Nat} {ts : List Th} (hA : Ar w p g h n ts) (x : Int) (hx : WP.U x) (j W E : Int) (hW : getW ts x j = W) (hE : getE ts x j = E) :
    Calls Try.prog 16 #[ptr p, .int .u64 x, .int .i64 j] w fun e w' => e = .returned (.tuple #[.int .u64 W, .int .i64 E]) ∧ w = w' := by
  subst hW hE; exact get_any hA x hx j
theorem one_row (w : World) (x : Int) (S : List Nat) (hS : w.heap.size ∉ S) : MM.Src (w.alloc (.cells #[.int .u64 x] 42)) S (some ⟨w.heap.size, 0, none⟩) (U64s [x]) :=
  MM.Src.row (MM.Row.new w 42 [.int .u64 x]) hS _ (fun _ _ hu => hu)
def tsA : List Th := [⟨1, [17]⟩, ⟨1, [2]⟩]
theorem shown_T : MP.liveT tsA [17] = [⟨1, [2]⟩] := by rfl
theorem shown_W : MP.liveW tsA [17] = [1] := by rfl
theorem shown_R : (MP.reach tsA [17] : Int) = 2 := by rfl
set_option maxHeartbeats 2000000 in
theorem shown_any (w : World) : Calls Try.prog 5 #[] w fun e w' => e = .returned (.bool true) ∧ MM.Far [] w w' := by
  go_enter Try.func5, Try.ntmps5
  go_wp2_with (fail)
  refine (new_int w 9 (by omega) (by omega)).mono ?_
  rintro e w1 ⟨p, g, h, rfl, hp, hg, hh, hA1, hF1⟩
  have hp1 := hA1.head.lt
  have hg1 := hA1.words.lt
  have hh1 := hA1.kinds.lt
  go_wp2_with (fail)
  refine (alloc_to (hA1.far ((MM.Far.refl [] _).alloc _) (by simp) (by simp) (by simp)) 1 _ 1 1 [17] 1 0 [⟨1, [17]⟩] rfl (by omega) (u_all _ (by decide)) (by decide) (by decide) rfl (one_row w1 17 _ (by simp; omega))).mono ?_
  rintro e w2 ⟨rfl, hA2, hF2⟩
  have s2 := hF2.size
  have hsz : (w1.alloc (.cells #[.int .u64 17] 42)).heap.size = w1.heap.size + 1 := by simp
  rw [hsz] at s2
  go_wp2_with (fail)
  refine (alloc_to (hA2.far ((MM.Far.refl [] _).alloc _) (by simp) (by simp) (by simp)) 1 _ 1 1 [2] 17 0 tsA rfl (by omega) (u_all _ (by decide)) (by decide) (by decide) rfl (one_row w2 2 _ (by simp; omega))).mono ?_
  rintro e w3 ⟨rfl, hA3, hF3⟩
  have hs : ∀ b, b ∈ [p, g, h] → b < w.heap.size → b ∈ ([] : List Nat) := by
    intro b hb; simp at hb; omega
  have hF03 : MM.Far [] w w3 := ((hF1.alloc _).trans hF2 hs).trans ((MM.Far.refl [p, g, h] w2).alloc _ |>.trans hF3 (fun b hb _ => hb)) hs
  clear hF1 hF2 hF3 hA1 hA2
  go_wp2_with (fail)
  refine (live_to (hA3.far ((MM.Far.refl [] _).alloc _) (by simp) (by simp) (by simp)) (by decide) [17] _ 1 1 [⟨1, [2]⟩] [1] shown_T shown_W rfl (by omega) (one_row w3 17 _ (by simp)) (u_all _ (by decide))).mono ?_
  rintro e w4 ⟨p', g', h', wb, rfl, _, hA4, hR4, hF4⟩
  have hF34 := ((MM.Far.refl [] w3).alloc (.cells #[.int .u64 17] 42)).trans hF4 (fun b hb _ => hb)
  have hA34 := hA3.far hF34 (by simp) (by simp) (by simp)
  have hw := row_word hR4 (k := 0) (by simp)
  have HG := Lib.hid (get_is hA4 1 (by unfold WP.U; omega) 0 2 0 rfl rfl)
  have HU4 := Lib.hid (used_is hA4 2 rfl)
  have HU3 := Lib.hid (used_is hA34 4 rfl)
  have HRe := Lib.hid (reach_is (hA34.far ((MM.Far.refl [] _).alloc (.cells #[.int .u64 17] 42)) (by simp) (by simp) (by simp)) (by decide) [17] _ 1 1 2 shown_R rfl (by omega) (one_row w4 17 _ (by simp)) (u_all _ (by decide)))
  simp at hw
  clear hF4 hA4 hR4 hA3 hA34
  go_wp2_with (first
    | (go_at_call 16; refine HG.out.mono ?_; rintro e w' ⟨rfl, rfl⟩)
    | (go_at_call 17; (with_reducible refine HU4.out.mono ?_); rintro e w' ⟨rfl, rfl⟩)
    | (go_at_call 17; (with_reducible refine HU3.out.mono ?_); rintro e w' ⟨rfl, rfl⟩)
    | (go_at_call 11; refine HRe.out.mono ?_; rintro e w5 ⟨rfl, hF5⟩))
  go_ret
  exact ⟨rfl, hF03.trans ((hF34.alloc _).trans hF5 (by simp)) (by simp)⟩
end MW
end Go.Proofs.Ytcfepiihjbbnaaa

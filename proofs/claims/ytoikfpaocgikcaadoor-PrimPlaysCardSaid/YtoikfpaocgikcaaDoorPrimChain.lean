/-
  Rows of words put together as Pairs, the last first: what is told of them. No condition.
-/
import Derived.Test.YtoikfpaocgikcaaDoorPrimShown
namespace Go.Proofs.YtoikfpaocgikcaaDoor
open Go.RowKit
set_option linter.unusedVariables false
namespace PW
open AW AL
theorem do_a1 (n : Nat) (ts : List AP.Th) (op x : Int) (h : PP.okB op 1 = true) (h12 : op ≠ 12) : PP.doW n ts op [x] = PP.valW n ts op x 0 ∧ PP.doE n ts op [x] = PP.valE n ts op x 0 ∧ PP.doT n ts op [x] = ts := by
  refine ⟨?_, ?_, ?_⟩
  · unfold PP.doW; rw [if_pos (show PP.okB op ([x] : List Int).length = true from h)]; rfl
  · unfold PP.doE; rw [if_pos (show PP.okB op ([x] : List Int).length = true from h)]; rfl
  · unfold PP.doT; rw [show PP.okB op ([x] : List Int).length = true from h, Bool.true_and, if_neg (by simpa using h12)]
theorem do_8v (n : Nat) (ts : List AP.Th) (x y : Int) : PP.doW n ts 8 [x, y] = WP.boolW (x == y) ∧ PP.doE n ts 8 [x, y] = 0 ∧ PP.doT n ts 8 [x, y] = ts := by
  have hok : PP.okB 8 ([x, y] : List Int).length = true := (PP.okB_iff _ _).2 ⟨by omega, by omega, rfl⟩
  refine ⟨?_, ?_, ?_⟩
  · unfold PP.doW; rw [if_pos hok]; simp [PP.valW]
  · unfold PP.doE; rw [if_pos hok]; simp [PP.valE]
  · unfold PP.doT; rw [hok]; rfl
theorem do_9v (n : Nat) (ts : List AP.Th) (x : Int) : PP.doW n ts 9 [x] = WP.boolW (x == 10) ∧ PP.doE n ts 9 [x] = 0 ∧ PP.doT n ts 9 [x] = ts := by
  obtain ⟨h1, h2, h3⟩ := do_a1 n ts 9 x (by decide) (by omega)
  exact ⟨by rw [h1]; simp [PP.valW], by rw [h2]; simp [PP.valE], h3⟩
theorem do_10v (n : Nat) (ts : List AP.Th) (x : Int) : PP.doW n ts 10 [x] = WP.boolW (x == 2) ∧ PP.doE n ts 10 [x] = 0 ∧ PP.doT n ts 10 [x] = ts := by
  obtain ⟨h1, h2, h3⟩ := do_a1 n ts 10 x (by decide) (by omega)
  exact ⟨by rw [h1]; simp [PP.valW], by rw [h2]; simp [PP.valE], h3⟩
theorem do_11v (n : Nat) (ts : List AP.Th) (x : Int) : PP.doW n ts 11 [x] = WP.boolW (PP.pairB ts x) ∧ PP.doE n ts 11 [x] = 0 ∧ PP.doT n ts 11 [x] = ts := by
  obtain ⟨h1, h2, h3⟩ := do_a1 n ts 11 x (by decide) (by omega)
  exact ⟨by rw [h1]; simp [PP.valW], by rw [h2]; simp [PP.valE], h3⟩
theorem do_12v (n : Nat) (ts : List AP.Th) (x y : Int) : PP.doW n ts 12 [x, y] = allW n ts 1 2 ∧ PP.doE n ts 12 [x, y] = allE n ts 1 2 ∧ PP.doT n ts 12 [x, y] = allT n ts 1 [x, y] := by
  have hok : PP.okB 12 ([x, y] : List Int).length = true := (PP.okB_iff _ _).2 ⟨by omega, by omega, rfl⟩
  refine ⟨?_, ?_, ?_⟩
  · unfold PP.doW; rw [if_pos hok]; simp [PP.valW]
  · unfold PP.doE; rw [if_pos hok]; simp [PP.valE]
  · unfold PP.doT; rw [hok]; rfl
theorem do_13v (n : Nat) (ts : List AP.Th) (x : Int) : PP.doW n ts 13 [x] = (if PP.pairB ts x then getW ts x 0 else 0) ∧ PP.doE n ts 13 [x] = (if PP.pairB ts x then getE ts x 0 else 100) ∧ PP.doT n ts 13 [x] = ts := by
  obtain ⟨h1, h2, h3⟩ := do_a1 n ts 13 x (by decide) (by omega)
  exact ⟨by rw [h1]; simp [PP.valW], by rw [h2]; simp [PP.valE], h3⟩
theorem do_14v (n : Nat) (ts : List AP.Th) (x : Int) : PP.doW n ts 14 [x] = (if PP.pairB ts x then getW ts x 1 else 0) ∧ PP.doE n ts 14 [x] = (if PP.pairB ts x then getE ts x 1 else 100) ∧ PP.doT n ts 14 [x] = ts := by
  obtain ⟨h1, h2, h3⟩ := do_a1 n ts 14 x (by decide) (by omega)
  exact ⟨by rw [h1]; simp [PP.valW], by rw [h2]; simp [PP.valE], h3⟩
theorem do_15v (n : Nat) (ts : List AP.Th) (x : Int) : PP.doW n ts 15 [x] = WP.boolW (WP.toIntB x) ∧ PP.doE n ts 15 [x] = 0 ∧ PP.doT n ts 15 [x] = ts := by
  obtain ⟨h1, h2, h3⟩ := do_a1 n ts 15 x (by decide) (by omega)
  exact ⟨by rw [h1]; simp [PP.valW], by rw [h2]; simp [PP.valE], h3⟩
theorem do_16v (n : Nat) (ts : List AP.Th) (x : Int) : PP.doW n ts 16 [x] = WP.boolW (WP.toB 3 x) ∧ PP.doE n ts 16 [x] = 0 ∧ PP.doT n ts 16 [x] = ts := by
  obtain ⟨h1, h2, h3⟩ := do_a1 n ts 16 x (by decide) (by omega)
  exact ⟨by rw [h1]; simp [PP.valW], by rw [h2]; simp [PP.valE], h3⟩
theorem do_17v (n : Nat) (ts : List AP.Th) (x : Int) : PP.doW n ts 17 [x] = WP.boolW (PP.fnB ts x) ∧ PP.doE n ts 17 [x] = 0 ∧ PP.doT n ts 17 [x] = ts := by
  obtain ⟨h1, h2, h3⟩ := do_a1 n ts 17 x (by decide) (by omega)
  exact ⟨by rw [h1]; simp [PP.valW], by rw [h2]; simp [PP.valE], h3⟩
/-- The word of the first j, from behind. -/
def pv (j : Nat) : Int := if j = 0 then 2 else 24 * ((j : Int) - 1) + 1
def chT (l : List Int) : Nat → List AP.Th
  | 0 => []
  | j + 1 => chT l j ++ [⟨1, [l.getD (l.length - 1 - j) 0, pv j]⟩]
theorem ch_len (l : List Int) (k : Nat) : (chT l k).length = k := by
  induction k with
  | zero => rfl
  | succ k ih => simp [chT, ih]
theorem ch_sz (l : List Int) (k : Nat) : AP.sz (chT l k) = 3 * k := by
  induction k with
  | zero => rfl
  | succ k ih => rw [chT, AP.sz_snoc, ih]; simp; omega
theorem ch_take (l : List Int) (k i : Nat) (h : i ≤ k) : (chT l k).take i = chT l i := by
  induction k with
  | zero =>
    obtain rfl : i = 0 := by omega
    rfl
  | succ k ih =>
    by_cases e : i = k + 1
    · subst e; exact List.take_of_length_le (by rw [ch_len]; omega)
    · rw [chT, List.take_append_of_le_length (by rw [ch_len]; omega)]; exact ih (by omega)
theorem ch_th (l : List Int) (k i : Nat) (h : i < k) : AP.th (chT l k) i = ⟨1, [l.getD (l.length - 1 - i) 0, pv i]⟩ := by
  induction k with
  | zero => omega
  | succ k ih =>
    by_cases e : i = k
    · subst e
      have := AP.th_append_new (chT l i) ⟨1, [l.getD (l.length - 1 - i) 0, pv i]⟩
      rw [ch_len] at this
      exact this
    · rw [chT, AP.th_append_old _ _ _ (by rw [ch_len]; omega)]; exact ih (by omega)
theorem pv_succ (i : Nat) (h : i < 1000) : pv (i + 1) = WP.ofW 1 (3 * i : Nat) := by
  have : WP.ofB 1 ((3 * i : Nat) : Int) = true := by rw [WP.ofB_iff]; omega
  unfold WP.ofW; rw [if_pos this]; unfold pv; rw [if_neg (by omega)]; omega
theorem cons_vals' {l : List Int} {k : Nat} {x : Int} (h : k < 30) (hx : l.getD (l.length - 1 - k) 0 = x := by rfl) : PP.doW 100 (chT l k) 12 [x, pv k] = pv (k + 1) ∧ PP.doE 100 (chT l k) 12 [x, pv k] = 0 ∧ PP.doT 100 (chT l k) 12 [x, pv k] = chT l (k + 1) := by
  have hsz := ch_sz l k
  obtain ⟨d1, d2, d3⟩ := do_12v 100 (chT l k) x (pv k)
  have e : allE 100 (chT l k) 1 2 = 0 := by unfold allE; rw [if_neg (by omega), if_neg (by omega)]
  refine ⟨?_, ?_, ?_⟩
  · rw [d1]; unfold allW; rw [if_pos e, hsz, pv_succ k (by omega)]
  · rw [d2]; exact e
  · rw [d3]; unfold allT; rw [if_pos (show allE 100 (chT l k) 1 [x, pv k].length = 0 from e), chT, hx]
theorem pv_ne (i : Nat) : pv (i + 1) ≠ pv i := by
  unfold pv; rw [if_neg (by omega)]; split <;> omega
theorem pv_u (i : Nat) (h : i < 1000) : WP.U (pv i) := by
  unfold pv WP.U; split <;> omega
theorem ch_look {n : Nat} {l : List Int} {k : Nat} (hO : Ok n (chT l k)) (i : Nat) (h : i < k) (hk : k < 1000) : AW.look (chT l k) (pv (i + 1)) = some i := by
  have := look_pl hO (i := i) (by rw [ch_len]; exact h)
  unfold pl at this
  rw [ch_take l k i (by omega), ch_sz] at this
  rw [pv_succ i (by omega)]; exact this
theorem ch_pair {n : Nat} {l : List Int} {k : Nat} (hO : Ok n (chT l k)) (i : Nat) (h : i < k) (hk : k < 1000) :
    PP.pairB (chT l k) (pv (i + 1)) = true ∧ getW (chT l k) (pv (i + 1)) 0 = l.getD (l.length - 1 - i) 0 ∧ getW (chT l k) (pv (i + 1)) 1 = pv i ∧ getE (chT l k) (pv (i + 1)) 0 = 0 ∧ getE (chT l k) (pv (i + 1)) 1 = 0 :=
  PP.pair_get (ch_look hO i h hk) (ch_th l k i h)
theorem ch_nil (ts : List AP.Th) : PP.pairB ts (pv 0) = false := by
  have : AW.look ts (pv 0) = none := by unfold AW.look; rw [if_neg (by decide)]
  unfold PP.pairB kindN; rw [this]; rfl
end PW
end Go.Proofs.YtoikfpaocgikcaaDoor

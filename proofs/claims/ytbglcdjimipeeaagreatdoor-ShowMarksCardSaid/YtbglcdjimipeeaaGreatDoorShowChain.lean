/-
  Rows of numbers as Pairs, in plain words. Condition: sizes.
-/
import Derived.Test.YtbglcdjimipeeaaGreatDoorShowWordAll
import Derived.Test.YtbglcdjimipeeaaGreatDoorArenaMore
namespace Go.Proofs.YtbglcdjimipeeaaGreatDoor
namespace SX
open LX
/-- Pairs alone, in the order in which they are made. -/
def prsT (l : List (Int × Int)) : List AP.Th := l.map fun p => ⟨1, [p.1, p.2]⟩
theorem prsT_sz (l : List (Int × Int)) : AP.sz (prsT l) = 3 * l.length := by
  induction l with
  | nil => rfl
  | cons p l ih =>
    have : AP.sz (prsT (p :: l)) = 2 + 1 + AP.sz (prsT l) := rfl
    rw [this, ih, List.length_cons]; omega
theorem prsT_take (l : List (Int × Int)) (j : Nat) : (prsT l).take j = prsT (l.take j) := by unfold prsT; rw [List.map_take]
theorem prsT_len (l : List (Int × Int)) : (prsT l).length = l.length := by unfold prsT; rw [List.length_map]
theorem prsT_th (l : List (Int × Int)) (j : Nat) (h : j < l.length) : AP.th (prsT l) j = ⟨1, [l[j].1, l[j].2]⟩ := by
  unfold AP.th prsT
  rw [List.getD_eq_getElem?_getD, List.getElem?_map, List.getElem?_eq_getElem h]; rfl
/-- The word of the Pair number j. -/
def at_ (j : Nat) : Int := 24 * (j : Int) + 1
theorem at_to (j : Nat) (h : j ≤ 100000) : WP.toB 1 (at_ j) = true ∧ WP.toN 1 (at_ j) = ((3 * j : Nat) : Int) := by
  have h1 : WP.toB 1 (at_ j) = true := by
    rw [WP.toB_iff]
    unfold at_
    exact ⟨.inl rfl, by omega, by omega⟩
  refine ⟨h1, ?_⟩
  unfold WP.toN
  rw [if_pos h1]
  unfold at_
  omega
theorem look_prs (l : List (Int × Int)) (j : Nat) (h : j < l.length) (h2 : l.length ≤ 100000) : AW.look (prsT l) (at_ j) = some j := by
  obtain ⟨h3, h4⟩ := at_to j (by omega)
  unfold AW.look
  rw [if_pos h3, h4, Int.toNat_natCast]
  have := AP.idx_off (prsT l) j (by rw [prsT_len]; exact h)
  rw [prsT_take, prsT_sz, List.length_take, Nat.min_eq_left (by omega)] at this
  exact this
theorem pr_prs (l : List (Int × Int)) (j : Nat) (h : j < l.length) (h2 : l.length ≤ 100000) : prB (prsT l) (at_ j) = true ∧ AW.getW (prsT l) (at_ j) 0 = l[j].1 ∧ AW.getW (prsT l) (at_ j) 1 = l[j].2 := by
  unfold prB AW.kindN AW.lenN AW.getW
  rw [look_prs l j h h2]
  simp only [prsT_th l j h]
  exact ⟨rfl, rfl, rfl⟩
theorem all_prs (n : Nat) (l : List (Int × Int)) (a b : Int) (h : 3 * l.length + 2 < n) (h2 : l.length ≤ 100000) : AW.allW n (prsT l) 1 2 = at_ l.length ∧ AW.allE n (prsT l) 1 2 = 0 ∧ AW.allT n (prsT l) 1 [a, b] = prsT (l ++ [(a, b)]) := by
  have hE : AW.allE n (prsT l) 1 2 = 0 := by
    unfold AW.allE
    rw [if_neg (by omega), prsT_sz, if_neg (by omega)]
  refine ⟨?_, hE, ?_⟩
  · unfold AW.allW
    rw [if_pos hE, prsT_sz]
    have h1 : WP.ofB 1 ((3 * l.length : Nat) : Int) = true := by rw [WP.ofB_iff]; omega
    unfold WP.ofW at_
    rw [if_pos h1]; omega
  · unfold AW.allT
    rw [if_pos (show AW.allE n (prsT l) 1 [a, b].length = 0 from hE)]
    simp [prsT]
/-- The word behind so many. -/
def last (k : Nat) : Int := if k = 0 then 2 else at_ (k - 1)
/-- The Pairs of a row of numbers, the last one first. -/
def chn (vs : List Int) : List (Int × Int) := (List.range vs.length).map fun j => (WP.encW (vs.getD j 0), last j)
theorem chn_len (vs : List Int) : (chn vs).length = vs.length := by unfold chn; rw [List.length_map, List.length_range]
theorem chn_get (vs : List Int) (k : Nat) (h : k < vs.length) (h2 : k < (chn vs).length) : (chn vs)[k] = (WP.encW vs[k], last k) := by simp [chn, h]
theorem chn_snoc (vs : List Int) (v : Int) : chn (vs ++ [v]) = chn vs ++ [(WP.encW v, last vs.length)] := by
  unfold chn
  rw [List.length_append, List.length_singleton, List.range_succ, List.map_append]
  congr 1
  · refine List.map_congr_left fun j hj => ?_
    have hj2 : j < vs.length := by simpa using hj
    rw [List.getD_eq_getElem?_getD, List.getD_eq_getElem?_getD, List.getElem?_append_left hj2]
  · simp
/-- What follows a Pair's first word. -/
def rt : List Int → List UInt8
  | [] => [41]
  | u :: us => 32 :: (Lib.itoa u ++ rt us)
theorem sh_chn (tS : Int → ByteArray) (tB : Int → Bool) (vs : List Int) (hv : ∀ v ∈ vs, WP.inR v = true) (hl : vs.length ≤ 100000) : ∀ k, k ≤ vs.length → Sh tS tB (prsT (chn vs)) true (last k) (rt (vs.take k).reverse) := by
  intro k
  induction k with
  | zero => intro _; exact sh_nil _ _ _
  | succ k ih =>
    intro hk
    have hk2 : k < (chn vs).length := by rw [chn_len]; omega
    obtain ⟨h1, h2, h3⟩ := pr_prs (chn vs) k hk2 (by rw [chn_len]; omega)
    rw [chn_get vs k (by omega) hk2] at h2 h3
    simp only at h2 h3
    rw [List.take_succ_eq_append_getElem (show k < vs.length by omega), List.reverse_append]
    have g2 := sh_int tS tB (prsT (chn vs)) vs[k] (hv _ (List.getElem_mem _))
    have g3 := ih (by omega)
    rw [← h2] at g2
    rw [← h3] at g3
    exact Sh.pair (m := true) h1 g2 g3
theorem sh_list (tS : Int → ByteArray) (tB : Int → Bool) (vs : List Int) (v : Int) (hv : ∀ u ∈ vs ++ [v], WP.inR u = true) (hl : vs.length < 100000) : Sh tS tB (prsT (chn (vs ++ [v]))) false (at_ vs.length) ([40] ++ Lib.itoa v ++ rt vs.reverse) := by
  have hk2 : vs.length < (chn (vs ++ [v])).length := by rw [chn_len]; simp
  obtain ⟨h1, h2, h3⟩ := pr_prs (chn (vs ++ [v])) vs.length hk2 (by rw [chn_len]; simp; omega)
  rw [chn_get (vs ++ [v]) vs.length (by simp) hk2] at h2 h3
  simp only [List.getElem_append_right (Nat.le_refl vs.length), Nat.sub_self, List.getElem_cons_zero] at h2 h3
  have hs := sh_chn tS tB (vs ++ [v]) hv (by simp; omega) vs.length (by simp)
  rw [List.take_left' rfl] at hs
  have g2 := sh_int tS tB (prsT (chn (vs ++ [v]))) v (hv _ (by simp))
  rw [← h2] at g2
  rw [← h3] at hs
  exact Sh.pair (m := false) h1 g2 hs
end SX
end Go.Proofs.YtbglcdjimipeeaaGreatDoor

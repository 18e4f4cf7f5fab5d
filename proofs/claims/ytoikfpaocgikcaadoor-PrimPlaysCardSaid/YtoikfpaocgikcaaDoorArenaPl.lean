/-
  The address of the i-th thing leads to it. Condition: the things fit.
-/
import Derived.Test.YtoikfpaocgikcaaDoorArenaMore
namespace Go.Proofs.YtoikfpaocgikcaaDoor
open Go.RowKit
namespace AW
/-- The address of the i-th thing. -/
def pl (ts : List AP.Th) (i : Nat) : Int := WP.ofW 1 (AP.sz (ts.take i))
theorem sz_take_le (ts : List AP.Th) (i : Nat) : AP.sz (ts.take i) ≤ AP.sz ts := by
  have h := AP.sz_append (ts.take i) (ts.drop i)
  rw [List.take_append_drop] at h; omega
theorem pl_u (ts : List AP.Th) (i : Nat) : WP.U (pl ts i) := WP.ofW_u _ _
theorem pl_to {n : Nat} {ts : List AP.Th} (hO : Ok n ts) (i : Nat) : WP.toB 1 (pl ts i) = true ∧ WP.toN 1 (pl ts i) = AP.sz (ts.take i) := by
  have h1 := sz_take_le ts i
  have h2 := hO.room
  have h3 := hO.size
  exact WP.to_of 1 _ (by rw [WP.ofB_iff]; omega)
theorem look_pl {n : Nat} {ts : List AP.Th} (hO : Ok n ts) {i : Nat} (hi : i < ts.length) : AW.look ts (pl ts i) = some i := by
  have h := pl_to hO i
  unfold AW.look
  rw [if_pos h.1, h.2]
  simpa using AP.idx_off ts i hi
theorem pl_snoc (ts : List AP.Th) (t : AP.Th) {i : Nat} (hi : i ≤ ts.length) : pl (ts ++ [t]) i = pl ts i := by
  unfold pl; rw [List.take_append_of_le_length hi]
theorem pl_len (ts : List AP.Th) (t : AP.Th) : pl (ts ++ [t]) ts.length = WP.ofW 1 (AP.sz ts) := by
  rw [pl_snoc _ _ (Nat.le_refl _)]; unfold pl; rw [List.take_length]
theorem sz_take_put (ts : List AP.Th) (k j : Nat) (x : Int) (i : Nat) : AP.sz ((AP.put ts k j x).take i) = AP.sz (ts.take i) := by
  induction ts generalizing k i with
  | nil => simp [AP.put]
  | cons t ts ih =>
    cases i with
    | zero => simp [AP.sz]
    | succ i =>
      cases k with
      | zero => rw [AP.put_cons_zero]; simp [AP.sz]
      | succ k => rw [AP.put_cons_succ]; simp [AP.sz, ih]
theorem pl_put (ts : List AP.Th) (k j : Nat) (x : Int) (i : Nat) : pl (AP.put ts k j x) i = pl ts i := by
  unfold pl; rw [sz_take_put]
/-- All addresses. -/
def pls (ts : List AP.Th) : List Int := (List.range ts.length).map (pl ts)
theorem pls_snoc (ts : List AP.Th) (t : AP.Th) : pls (ts ++ [t]) = pls ts ++ [WP.ofW 1 (AP.sz ts)] := by
  have e : (List.range ts.length).map (pl (ts ++ [t])) = (List.range ts.length).map (pl ts) :=
    List.map_congr_left (fun i hi => pl_snoc ts t (by simp at hi; omega))
  unfold pls
  rw [List.length_append, List.length_singleton, List.range_succ, List.map_append, List.map_singleton, pl_len, e]
theorem pls_put (ts : List AP.Th) (k j : Nat) (x : Int) : pls (AP.put ts k j x) = pls ts := by
  unfold pls
  rw [AP.len_put]
  apply List.map_congr_left
  intro i _
  exact pl_put ts k j x i
theorem pls_at (ts : List AP.Th) {i : Nat} (hi : i < ts.length) : (pls ts)[i]? = some (pl ts i) := by simp [pls, hi]
theorem pls_len (ts : List AP.Th) : (pls ts).length = ts.length := by simp [pls]
end AW
end Go.Proofs.YtoikfpaocgikcaaDoor

/-
  TimerRemoves: a slice of bools that came in; timers beside a row of bools that the call has made; what is removed. No condition.
-/
import Derived.Test.YtcodmpibhlojaaaTimCut
namespace Go.Proofs.Ytcodmpibhlojaaa
open Go.RowKit Go.Lib
namespace TW
open TM TR MM TL
/-- A slice of bools. -/
structure Bools (w : World) (a : Option Addr) (len cap : Nat) (bs : List Bool) : Prop where
  len_ : bs.length = len
  le : len ≤ cap
  max : cap ≤ maxLen
  nil : a = none → cap = 0
  src : MM.Src w [] a (bs.map Value.bool)
section
variable {H : Type} {enc : TypeId × Value → H} {w : World} {fuel : Nat}
theorem bools_of {cs : List Value} {x : DataW H × List MemPlace} (h : DataW.trod enc Try.prog w 0 (fun _ => true) true fuel 43 cs = some x) : ∃ a len cap bs, cs = [.slice a len cap] ∧ Bools w a len cap bs := by
  obtain ⟨a, len, cap, xs, hcs, hcame, hel⟩ := MR.came_of 1 Try.underlying43 (by kernel_rfl) (by omega) h
  have hz : ∀ i, ∃ z : Bool, i < len → xs i = [.bool z] := by
    intro i
    by_cases h1 : i < len
    · obtain ⟨n, y, hy⟩ := hel i h1
      obtain ⟨z, hz, _⟩ := DataW.trod_bool Try.underlying4 hy
      exact ⟨z, fun _ => hz⟩
    · exact ⟨false, fun h => absurd h h1⟩
  obtain ⟨Z, hZ⟩ := Classical.axiomOfChoice hz
  refine ⟨a, len, cap, (List.range len).map Z, hcs, by simp, hcame.le, hcame.max, hcame.nil, fun hp => ?_⟩
  have hlen : 0 < len := by simpa using hp
  obtain ⟨ad, rfl, hb, hc⟩ := hcame.elems hlen
  refine ⟨ad, rfl, by simp, hb, fun j u hu => ?_⟩
  have hj : j < len := by have := (List.getElem?_eq_some_iff.1 hu).1; simpa using this
  obtain ⟨_, h2⟩ := hc j hj
  have h3 := h2 0 (.bool (Z j)) (by rw [hZ j hj]; rfl)
  simp only [Nat.mul_one, Nat.add_zero] at h3
  rw [h3]
  simp [hj] at hu
  rw [hu]
end
theorem bool_cells {W : World} {a : Option Addr} {len cap : Nat} {z : List Bool} (h : Bools W a len cap z) (hp : 0 < len) :
    ∃ b off, a = some ⟨b, off, none⟩ ∧ ∀ i, i < len → ∀ wr, Far [] W wr → wr.cell? ⟨b, off + i, none⟩ = some (.bool (z.getD i false)) := by
  have hl := h.len_
  obtain ⟨ad, rfl, _, hb, hc⟩ := h.src (by simp; omega)
  have hs : ad.spot = none := by
    have h0 := hc 0 (.bool (z[0]'(by omega))) (by simp)
    rw [MR.add_zero_] at h0
    exact MR.spot_none h0
  obtain ⟨b, off, sp⟩ := ad
  simp only at hs
  subst hs
  refine ⟨b, off, rfl, fun i hi wr hF => ?_⟩
  have h1 := hc i (.bool (z[i]'(by omega))) (by rw [List.getElem?_map, List.getElem?_eq_getElem (by omega)]; rfl)
  rw [MR.mk_add] at h1
  rw [hF.cell (p := ⟨b, off + i, none⟩) hb (by simp), h1]
  rw [List.getD, List.getElem?_eq_getElem (by omega)]
  rfl
/-- Timers at p and a row of bools at g, made by the call begun in W. -/
def AtG (W w : World) (p : Nat) (l : List Ti) (c g : Nat) (G : List Bool) : Prop :=
  ∃ S v, Tm w p S v l c ∧ Row w g 4 (G.map Value.bool) ∧ g ∉ S ∧ Far [] W w ∧ (∀ b, b ∈ S → W.heap.size ≤ b) ∧ W.heap.size ≤ g
section
variable {W w w' : World} {p c g : Nat} {l : List Ti} {G : List Bool}
theorem AtG.far (h : AtG W w p l c g G) : Far [] W w := by
  obtain ⟨S, v, h1, h2, h3, h4, h5, h6⟩ := h
  exact h4
theorem AtG.at_ (h : AtG W w p l c g G) : At W w p l c := by
  obtain ⟨S, v, h1, h2, h3, h4, h5, h6⟩ := h
  exact ⟨S, v, h1, h4, h5⟩
theorem AtG.cell (h : AtG W w p l c g G) (i : Nat) (hi : i < G.length) : w.cell? ⟨g, i, none⟩ = some (.bool (G.getD i false)) ∧ w.frozen? ⟨g, i, none⟩ = false := by
  obtain ⟨S, v, h1, h2, h3, h4, h5, h6⟩ := h
  refine ⟨h2.at ?_, h2.frozen i⟩
  rw [List.getElem?_map, List.getElem?_eq_getElem hi]
  simp [List.getD, hi]
theorem AtG.set (h : AtG W w p l c g G) (i : Nat) : AtG W (w.setCell ⟨g, i, none⟩ (.bool true)) p l c g (G.set i true) := by
  obtain ⟨S, v, h1, h2, h3, h4, h5, h6⟩ := h
  have hF : Far [g] w (w.setCell ⟨g, i, none⟩ (.bool true)) := (Far.refl [g] w).setCell (fun _ => by simp) _
  refine ⟨S, v, h1.far hF (fun b hb hm => h3 (by rw [List.mem_singleton.1 hm] at hb; exact hb)), ?_, h3, h4.trans hF (fun b hb hlt => by rw [List.mem_singleton.1 hb] at hlt; omega), h5, h6⟩
  have := h2.put i (.bool true)
  rw [List.map_set]
  exact this
theorem AtG.to (h : AtG W w p l c g G) (k : Far [] w w') : AtG W w' p l c g G := by
  obtain ⟨S, v, h1, h2, h3, h4, h5, h6⟩ := h
  exact ⟨S, v, h1.nil k, h2.far k (by simp), h3, h4.trans k (by simp), h5, h6⟩
theorem AtG.new (h : At W w p l c) (m : Nat) : AtG W (w.alloc (.cells (List.replicate m (Value.bool false)).toArray 4)) p l c w.heap.size (List.replicate m false) := by
  obtain ⟨S, v, h1, h2, h3⟩ := h
  have hF : Far [] w (w.alloc (.cells (List.replicate m (Value.bool false)).toArray 4)) := (Far.refl [] w).alloc _
  refine ⟨S, v, h1.nil hF, ?_, fun hm => ?_, h2.trans hF (by simp), h3, h2.size⟩
  · rw [List.map_replicate]; exact Row.new w _ _
  · have := h1.lt _ hm; omega
theorem AtG.one (h : AtG W w p l c g G) : ∃ S v, Tm w p S v l c ∧ ∀ l' c' w', Nx w p S l' c' w' → AtG W w' p l' c' g G := by
  obtain ⟨S, v, h1, h2, h3, h4, h5, h6⟩ := h
  refine ⟨S, v, h1, fun l' c' w' hN => ?_⟩
  obtain ⟨S', v', k1, k2, k3⟩ := hN
  refine ⟨S', v', k1, h2.far k2 h3, fun hm => ?_, h4.trans k2 (fun b hb hlt => by have := h5 b hb; omega), fun b hb => ?_, h6⟩
  · rcases k3 g hm with hm | hm
    · exact h3 hm
    · have := h2.lt; omega
  · rcases k3 b hb with hb | hb
    · exact h5 b hb
    · exact Nat.le_trans h4.size hb
theorem ag_due (h : AtG W w p l c g G) (hlen : l.length ≤ 64) (x i : Int) (t : List Ti) (hR : tk (dueB x) l = some (i, t)) : Calls Try.prog 12 #[ptr p, .int .i64 x] w fun e w' => e = .returned (.tuple #[.int .i64 i, .bool true]) ∧ AtG W w' p t c g G := by
  obtain ⟨S, v, h1, hN⟩ := h.one
  refine (due_any h1 hlen x).mono ?_
  rw [hR]
  rintro e w' ⟨rfl, hQ⟩
  exact ⟨rfl, hN _ _ _ hQ⟩
theorem ag_remove (h : AtG W w p l c g G) (hlen : l.length ≤ 64) (x i : Int) (t : List Ti) (hR : tk (isN x) l = some (i, t)) : Calls Try.prog 14 #[ptr p, .int .i64 x] w fun e w' => e = .returned (.tuple #[.int .i64 i, .bool true]) ∧ AtG W w' p t c g G := by
  obtain ⟨S, v, h1, hN⟩ := h.one
  refine (remove_any h1 hlen x).mono ?_
  rw [hR]
  rintro e w' ⟨rfl, hQ⟩
  exact ⟨rfl, hN _ _ _ hQ⟩
end
theorem bool_info : (Try.prog.info? 4).map (fun i => (i.zero, i.size, i.bytes)) = some (some (.bool false), 1, 1) := by kernel_rfl
theorem made_bools (n : Nat) : madeCells (Value.bool false).cells n = (List.replicate n (Value.bool false)).toArray := by
  apply Array.ext
  · simp [size_madeCells]
  · intro i h1 h2
    simp [madeCells, Value.cells, Nat.mod_one]
theorem mk_bools (k : Nat) (hk : k ≤ 64) (W : World) : (Instr.makeSlice 43 (.int .i64 (k : Int)) (.int .i64 (k : Int))).run Try.prog W = .ok (.slice (some ⟨W.heap.size, 0, none⟩) k k) (W.alloc (.cells (List.replicate k (Value.bool false)).toArray 4)) := by
  obtain ⟨i0, hi, hz0, hz1, hz2⟩ := info_parts bool_info
  have h := run_make (P := Try.prog) W 43 4 i0 (.bool false) Try.underlying43 hi hz0 .i64 .i64 (k : Int) (k : Int) (by omega) (by omega) (by rw [hz2]; omega) (by omega)
  rw [made_bools, hz1] at h
  simpa using h
/-- What is left: of the row's own timers, none of which is gone. -/
structure Lf (X : List Int) (m : Nat) (l : List Ti) (G : List Bool) : Prop where
  sorted : Sorted l
  apart : l.Pairwise fun x y => x.n ≠ y.n
  form : ∀ y ∈ l, ∃ i : Nat, i < m ∧ y = ⟨X.getD i 0, i, i⟩
  stay : ∀ y ∈ l, ∀ i : Nat, y.n = (i : Int) → G.getD i false = false
  len : G.length = m
theorem apart_erase {l : List Ti} (h : l.Pairwise fun x y => x.n ≠ y.n) (i : Nat) (hi : i < l.length) (y : Ti) (hy : y ∈ l.eraseIdx i) : y.n ≠ l[i].n := by
  have hp : (l[i] :: l.eraseIdx i).Pairwise fun x y => x.n ≠ y.n := ((erase_cons l i hi).pairwise_iff (R := fun x y : Ti => x.n ≠ y.n) (fun h e => h e.symm)).2 h
  rw [List.pairwise_cons] at hp
  exact fun e => hp.1 y hy e.symm
theorem getD_set_ne (G : List Bool) (i j : Nat) (h : j ≠ i) : (G.set i true).getD j false = G.getD j false := by
  simp [List.getD, Ne.symm h]
theorem Lf.erase {X : List Int} {m : Nat} {l : List Ti} {G : List Bool} (h : Lf X m l G) (i : Nat) (hi : i < l.length) (k : Nat) (e : l[i].n = (k : Int)) : Lf X m (l.eraseIdx i) (G.set k true) := by
  have hsub : ∀ y, y ∈ l.eraseIdx i → y ∈ l := fun y hy => (List.eraseIdx_sublist ..).mem hy
  refine ⟨erase_sorted h.sorted i, List.Pairwise.sublist (List.eraseIdx_sublist ..) h.apart, fun y hy => h.form y (hsub y hy), fun y hy j hj => ?_, by rw [List.length_set]; exact h.len⟩
  have hne := apart_erase h.apart i hi y hy
  rw [getD_set_ne _ _ _ (fun hjk => hne (by rw [e, hj, hjk]))]
  exact h.stay y (hsub y hy) j hj
/-- the one of a number. -/
theorem Lf.number {X : List Int} {m : Nat} {l : List Ti} {G : List Bool} (h : Lf X m l G) (k : Nat) (hm : (⟨X.getD k 0, k, k⟩ : Ti) ∈ l) :
    ∃ r, tk (isN (k : Int)) l = some ((k : Int), r) ∧ Lf X m r (G.set k true) ∧ r.length + 1 = l.length ∧ ∀ y ∈ l, y.n ≠ (k : Int) → y ∈ r := by
  have hi : ix (isN (k : Int)) l < l.length := by
    rcases Nat.lt_or_ge (ix (isN (k : Int)) l) l.length with hlt | hge
    · exact hlt
    · obtain ⟨i, hi, he⟩ := List.mem_iff_getElem.1 hm
      have := ix_ahead (isN (k : Int)) l i hi (by omega)
      rw [he] at this
      simp [isN] at this
  have hat := ix_at (isN (k : Int)) l hi
  have hn : l[ix (isN (k : Int)) l].n = (k : Int) := by simpa [isN] using hat
  obtain ⟨i, _, he⟩ := h.form _ (List.getElem_mem hi)
  have hit : l[ix (isN (k : Int)) l].it = (k : Int) := by
    rw [he] at hn ⊢
    exact hn
  refine ⟨l.eraseIdx (ix (isN (k : Int)) l), by rw [tk_some _ _ hi, hit], h.erase _ hi k hn, by rw [List.length_eraseIdx, if_pos hi]; omega, fun y hy hne => ?_⟩
  rcases List.mem_cons.1 ((erase_cons l _ hi).mem_iff.2 hy) with e | e
  · rw [e] at hne; exact absurd hn hne
  · exact e
end TW
end Go.Proofs.Ytcodmpibhlojaaa

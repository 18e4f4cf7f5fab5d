/-
  Arguments that came in, read off the row's reading: slices of numbers, of such slices, of structs of one-cell fields. No condition.
-/
import Derived.Test.YtbglcdjimipeeaaDoorMem
import Derived.Deep.Slices
import Derived.Deep.Fields
import Derived.ChangeSame
import Derived.ChangeOld
import Derived.OpenShut
namespace Go.Proofs.YtbglcdjimipeeaaDoor
open Go.RowKit Go.ChangeShapes Go.WideShapes Go.Deep
namespace MR
open MM
/-- A slice value that came in: its elements are of c cells each; element i's cells are those of xs i. -/
structure Came (w : World) (c : Nat) (a : Option Addr) (len cap : Nat) (xs : Nat → List Value) : Prop where
  le : len ≤ cap
  max : cap ≤ maxLen
  nil : a = none → cap = 0
  elems : 0 < len → ∃ ad : Addr, a = some ad ∧ ad.block < w.heap.size ∧ ∀ i, i < len → (xs i).length = c ∧ ∀ j u, (xs i)[j]? = some u → w.cell? (ad.add (i * c + j)) = some u
theorem cell_lt {w : World} {a : Addr} {v : Value} (h : w.cell? a = some v) : a.block < w.heap.size := by
  unfold World.cell? at h
  rcases Nat.lt_or_ge a.block w.heap.size with hb | hb
  · exact hb
  · rw [Array.getElem?_eq_none hb] at h; cases h
theorem add_add_ (a : Addr) (i j : Nat) : (a.add i).add j = a.add (i + j) := by
  unfold Addr.add
  by_cases hi : i = 0 <;> by_cases hj : j = 0 <;> simp [hi, hj, Nat.add_assoc]
section
variable {H : Type} {enc : TypeId × Value → H} {P : Program} {w : World} {fuel : Nat}
theorem came_of {t e : TypeId} {cs : List Value} {x : DataW H × List MemPlace} (C : Nat) (ht : P.underlying t = some (.slice e)) (hC : P.cellsOf e = C) (hpos : 0 < C)
    (h : DataW.trod enc P w 0 (fun _ => true) true fuel t cs = some x) :
    ∃ a len cap xs, cs = [.slice a len cap] ∧ Came w C a len cap xs ∧ ∀ i, i < len → ∃ n y, DataW.trod enc P w 0 (fun _ => true) true n e (xs i) = some y := by
  subst hC
  rcases open_slice ht h with ⟨rfl, _⟩ | ⟨a, len, cap, m, n, D, Pl, rfl, _, hl, hm, hmm, _, hi⟩
  · exact ⟨none, 0, 0, fun _ => [], rfl, ⟨Nat.le_refl _, Nat.zero_le _, fun _ => rfl, fun h => absurd h (by omega)⟩, fun i hi => absurd hi (by omega)⟩
  · simp at hmm
    subst hmm
    have hx : ∀ i, ∃ cs', i < len → w.cells? 0 (a.add (i * P.cellsOf e)) (P.cellsOf e) = some cs' ∧ DataW.trod enc P w 0 (fun _ => true) true n e cs' = some (D i, Pl i) := by
      intro i
      by_cases h1 : i < len
      · obtain ⟨cs', h2⟩ := hi i (by omega)
        exact ⟨cs', fun _ => h2⟩
      · exact ⟨[], fun h => absurd h h1⟩
    obtain ⟨X, hX⟩ := Classical.axiomOfChoice hx
    refine ⟨some a, len, m, X, rfl, ⟨hl, hm, (fun h => by cases h), fun h0 => ⟨a, rfl, ?_, fun i hi' => ?_⟩⟩, fun i hi' => ⟨n, _, (hX i hi').2⟩⟩
    · obtain ⟨_, hlen, hat⟩ := World.cells?_some (hX 0 h0).1
      have h1 := hat 0 hpos
      have : (X 0)[0]? = some ((X 0)[0]'(by omega)) := List.getElem?_eq_getElem (by omega)
      rw [this] at h1
      have := cell_lt h1
      simpa [add_block] using this
    · obtain ⟨_, hlen, hat⟩ := World.cells?_some (hX i hi').1
      refine ⟨hlen, fun j u hu => ?_⟩
      have hj : j < P.cellsOf e := by
        rw [← hlen]; exact (List.getElem?_eq_some_iff.1 hu).1
      rw [← add_add_, hat j hj]; exact hu
theorem int_of {t : TypeId} {k : IntKind} {cs : List Value} {x : DataW H × List MemPlace} (ht : P.underlying t = some (.int k)) (h : DataW.trod enc P w 0 (fun _ => true) true fuel t cs = some x) : ∃ n, cs = [.int k n] ∧ (Lit.int k n).wf = true := by
  obtain ⟨n, h1, _, h2⟩ := DataW.trod_int ht h
  exact ⟨n, h1, h2⟩
theorem field_of {t : TypeId} {fs : Array Field} {cs : List Value} {x : DataW H × List MemPlace} (ht : P.underlying t = some (.struct fs)) (hone : oneCellFields P fs = true) (hC : P.cellsOf t = fs.size) (h : DataW.trod enc P w 0 (fun _ => true) true fuel t cs = some x) :
    cs.length = fs.size ∧ ∀ (j : Nat) (f : Field), fs[j]? = some f → ∃ v n y, cs[j]? = some v ∧ DataW.trod enc P w 0 (fun _ => true) true n f.type [v] = some y := by
  obtain ⟨ys, n, _, _, hlen, hyl, hf⟩ := DataW.trod_struct ht h
  rw [hC] at hlen
  refine ⟨hlen, fun j f hj => ?_⟩
  obtain ⟨ho, hk⟩ := hone_of hone j f hj
  have hjl : j < fs.size := (Array.getElem?_eq_some_iff.1 hj).1
  have h1 := hf j f hj
  rw [ho, hk] at h1
  have e1 : (cs.drop j).take 1 = [cs[j]'(by omega)] := by
    rw [List.drop_eq_getElem_cons (by omega)]; rfl
  rw [e1] at h1
  have hys : ys[j]? = some (ys[j]'(by omega)) := List.getElem?_eq_getElem (by omega)
  exact ⟨_, n, _, List.getElem?_eq_getElem (by omega), h1.trans hys⟩
end
/-- A slice of numbers. -/
structure Ints (k : IntKind) (w : World) (a : Option Addr) (len cap : Nat) (zs : List Int) : Prop where
  len_ : zs.length = len
  le : len ≤ cap
  max : cap ≤ maxLen
  nil : a = none → cap = 0
  src : Src w [] a (zs.map (.int k))
  wf : ∀ z ∈ zs, (Lit.int k z).wf = true
section
variable {H : Type} {enc : TypeId × Value → H} {P : Program} {w : World} {fuel : Nat}
theorem ints_of {t e : TypeId} {k : IntKind} {cs : List Value} {x : DataW H × List MemPlace} (ht : P.underlying t = some (.slice e)) (he : P.underlying e = some (.int k)) (hC : P.cellsOf e = 1)
    (h : DataW.trod enc P w 0 (fun _ => true) true fuel t cs = some x) : ∃ a len cap zs, cs = [.slice a len cap] ∧ Ints k w a len cap zs := by
  obtain ⟨a, len, cap, xs, hcs, hcame, hel⟩ := came_of 1 ht hC (by omega) h
  have hz : ∀ i, ∃ z : Int, i < len → xs i = [.int k z] ∧ (Lit.int k z).wf = true := by
    intro i
    by_cases h1 : i < len
    · obtain ⟨n, y, hy⟩ := hel i h1
      obtain ⟨z, hz⟩ := int_of he hy
      exact ⟨z, fun _ => hz⟩
    · exact ⟨0, fun h => absurd h h1⟩
  obtain ⟨Z, hZ⟩ := Classical.axiomOfChoice hz
  refine ⟨a, len, cap, (List.range len).map Z, hcs, by simp, hcame.le, hcame.max, hcame.nil, fun hp => ?_, fun z hm => ?_⟩
  · have hlen : 0 < len := by simpa using hp
    obtain ⟨ad, rfl, hb, hc⟩ := hcame.elems hlen
    refine ⟨ad, rfl, by simp, hb, fun j u hu => ?_⟩
    have hj : j < len := by have := (List.getElem?_eq_some_iff.1 hu).1; simpa using this
    obtain ⟨_, h2⟩ := hc j hj
    have h3 := h2 0 (.int k (Z j)) (by rw [(hZ j hj).1]; rfl)
    simp only [Nat.mul_one, Nat.add_zero] at h3
    rw [h3]
    simp [hj] at hu
    rw [hu]
  · obtain ⟨i, hi, rfl⟩ := List.mem_map.1 hm
    exact (hZ i (by simpa using hi)).2
end
theorem Ints.far {k : IntKind} {w w' : World} {a : Option Addr} {len cap : Nat} {zs : List Int} (h : Ints k w a len cap zs) (f : Far [] w w') : Ints k w' a len cap zs :=
  ⟨h.len_, h.le, h.max, h.nil, h.src.far f (by simp), h.wf⟩
/-- A slice of slices of numbers. -/
structure Intss (k : IntKind) (w : World) (a : Option Addr) (len cap : Nat) (zss : List (List Int)) : Prop where
  len_ : zss.length = len
  le : len ≤ cap
  max : cap ≤ maxLen
  nil : a = none → cap = 0
  elems : ∀ (i : Nat) (zs : List Int), zss[i]? = some zs → ∃ b off A l c, a = some ⟨b, off, none⟩ ∧ w.cell? ⟨b, off + i, none⟩ = some (.slice A l c) ∧ Ints k w A l c zs
theorem spot_none {w : World} {a : Addr} {v : Value} (h : w.cell? a = some v) : a.spot = none := World.cell?_spot h
theorem add_zero_ (a : Addr) : a.add 0 = a := by unfold Addr.add; simp
theorem mk_add (b off i : Nat) : (⟨b, off, none⟩ : Addr).add i = ⟨b, off + i, none⟩ := by
  unfold Addr.add; split
  · rename_i h; subst h; rfl
  · rfl
section
variable {H : Type} {enc : TypeId × Value → H} {P : Program} {w : World} {fuel : Nat}
theorem intss_of {t e e2 : TypeId} {k : IntKind} {cs : List Value} {x : DataW H × List MemPlace} (ht : P.underlying t = some (.slice e)) (he : P.underlying e = some (.slice e2)) (he2 : P.underlying e2 = some (.int k)) (hC : P.cellsOf e = 1) (hC2 : P.cellsOf e2 = 1)
    (h : DataW.trod enc P w 0 (fun _ => true) true fuel t cs = some x) : ∃ a len cap zss, cs = [.slice a len cap] ∧ Intss k w a len cap zss := by
  obtain ⟨a, len, cap, xs, hcs, hcame, hel⟩ := came_of 1 ht hC (by omega) h
  have hz : ∀ i, ∃ q : Option Addr × Nat × Nat × List Int, i < len → xs i = [.slice q.1 q.2.1 q.2.2.1] ∧ Ints k w q.1 q.2.1 q.2.2.1 q.2.2.2 := by
    intro i
    by_cases h1 : i < len
    · obtain ⟨n, y, hy⟩ := hel i h1
      obtain ⟨a', l', c', zs, h2, h3⟩ := ints_of he he2 hC2 hy
      exact ⟨(a', l', c', zs), fun _ => ⟨h2, h3⟩⟩
    · exact ⟨(none, 0, 0, []), fun h => absurd h h1⟩
  obtain ⟨Z, hZ⟩ := Classical.axiomOfChoice hz
  refine ⟨a, len, cap, (List.range len).map fun i => (Z i).2.2.2, hcs, by simp, hcame.le, hcame.max, hcame.nil, fun i zs hi => ?_⟩
  have hil : i < len := by have := (List.getElem?_eq_some_iff.1 hi).1; simpa using this
  obtain ⟨ad, rfl, hb, hc⟩ := hcame.elems (by omega)
  obtain ⟨_, h2⟩ := hc i hil
  have h3 := h2 0 _ (by rw [(hZ i hil).1]; rfl)
  simp only [Nat.mul_one, Nat.add_zero] at h3
  obtain ⟨_, h4⟩ := hc 0 (by omega)
  have h5 := h4 0 _ (by rw [(hZ 0 (by omega)).1]; rfl)
  simp only [Nat.mul_one, Nat.add_zero, add_zero_] at h5
  obtain ⟨b, off, spot⟩ := ad
  obtain rfl : spot = none := spot_none h5
  rw [mk_add] at h3
  simp [hil] at hi
  subst hi
  exact ⟨b, off, _, _, _, rfl, h3, (hZ i hil).2⟩
end
end MR
end Go.Proofs.YtbglcdjimipeeaaDoor

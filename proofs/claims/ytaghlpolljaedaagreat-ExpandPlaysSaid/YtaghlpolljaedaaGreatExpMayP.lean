/-
  A row of data that may be, in plain words: places are behind, each in one list; so no datum is much work. No condition.
-/
import Derived.Test.YtaghlpolljaedaaGreatReadMays
import Derived.Test.YtaghlpolljaedaaGreatExpPure
namespace Go.Proofs.YtaghlpolljaedaaGreat
set_option linter.unusedVariables false
namespace EX
open LX RX SX
/-- What is free among the first k, added up. -/
def fsum (L : Nat → Nat) (tk : List Bool) (k : Nat) : Nat := ((List.range k).map fun j => if tk.getD j false = true then 0 else L j).sum
theorem fsum_succ (L : Nat → Nat) (tk : List Bool) (k : Nat) : fsum L tk (k + 1) = fsum L tk k + (if tk.getD k false = true then 0 else L k) := by
  unfold fsum
  rw [List.range_succ, List.map_append, List.sum_append]
  simp
theorem getD_set_ne_ (tk : List Bool) (p j : Nat) (h : p ≠ j) : (tk.set p true).getD j false = tk.getD j false := by
  rw [List.getD_eq_getElem?_getD, List.getElem?_set_ne h, ← List.getD_eq_getElem?_getD]
theorem fsum_set_ge (L : Nat → Nat) (tk : List Bool) (p : Nat) : ∀ k, k ≤ p → fsum L (tk.set p true) k = fsum L tk k := by
  intro k
  induction k with
  | zero => intro _; rfl
  | succ k ih =>
    intro h
    rw [fsum_succ, fsum_succ, ih (by omega), getD_set_ne_ tk p k (by omega)]
theorem fsum_set (L : Nat → Nat) (tk : List Bool) (p : Nat) (hp : p < tk.length) (hf : tk.getD p false = false) : ∀ k, p < k → fsum L tk k = fsum L (tk.set p true) k + L p := by
  intro k
  induction k with
  | zero => intro h; omega
  | succ k ih =>
    intro h
    rw [fsum_succ, fsum_succ]
    by_cases e : p = k
    · subst e
      rw [fsum_set_ge L tk p p (Nat.le_refl _), hf]
      have : (tk.set p true).getD p false = true := by
        rw [List.getD_eq_getElem?_getD, List.getElem?_set_self hp]; rfl
      rw [this]
      simp
    · rw [ih (by omega), getD_set_ne_ tk p k e]
      omega
theorem takeL_sum (L : Nat → Nat) (i : Nat) : ∀ (l : List Int) (tk tk' : List Bool), takeL i l tk = some tk' → i ≤ tk.length → (∀ p ∈ l, 0 ≤ p ∧ p < (i : Int)) ∧ ∀ k, i ≤ k → fsum L tk k = fsum L tk' k + (l.map fun p => L p.toNat).sum := by
  intro l
  induction l with
  | nil =>
    intro tk tk' h _
    simp [takeL] at h
    subst h
    exact ⟨by simp, fun k _ => by simp⟩
  | cons p l ih =>
    intro tk tk' h hlen
    unfold takeL at h
    split at h
    · cases h
    · rename_i h1
      split at h
      · cases h
      · rename_i h2
        have hp : p.toNat < tk.length := by omega
        obtain ⟨g1, g2⟩ := ih _ _ h (by rw [List.length_set]; exact hlen)
        refine ⟨fun q hq => ?_, fun k hk => ?_⟩
        · rcases List.mem_cons.1 hq with rfl | hq
          · omega
          · exact g1 q hq
        · have hf : tk.getD p.toNat false = false := by
            cases hc : tk.getD p.toNat false with
            | false => rfl
            | true => exact absurd hc h2
          rw [fsum_set L tk p.toNat hp hf k (by omega), g2 k hk, List.map_cons, List.sum_cons]
          omega
theorem mayG_all (L : Nat → Nat) (C : Nat) : ∀ (xs : List Ni) (i : Nat) (tk : List Bool), mayG xs i tk = true → i + xs.length ≤ tk.length → fsum L tk i ≤ i * C →
    (∀ (k : Nat) (h : k < xs.length), L (i + k) ≤ C + (xs[k].l.map fun p => L p.toNat).sum) → ∀ (k : Nat) (h : k < xs.length), okF xs[k].kind xs[k].at_ xs[k].n xs[k].s xs[k].l.length = true ∧ (∀ p ∈ xs[k].l, 0 ≤ p ∧ p < ((i + k : Nat) : Int)) ∧ L (i + k) ≤ (i + k + 1) * C := by
  intro xs
  induction xs with
  | nil => intro i tk _ _ _ _ k h; simp at h
  | cons x xs ih =>
    intro i tk h hlen hs hL k hk
    unfold mayG at h
    split at h
    · cases h
    · rename_i hok
      split at h
      · cases h
      · rename_i tk' hT
        simp only [List.length_cons] at hlen
        obtain ⟨g1, g2⟩ := takeL_sum L i x.l tk tk' hT (by omega)
        have hl' := takeL_len _ _ _ _ hT
        have h0 := hL 0 (by simp)
        simp only [Nat.add_zero, List.getElem_cons_zero] at h0
        have hsum := g2 i (Nat.le_refl _)
        cases k with
        | zero =>
          refine ⟨by simpa using hok, by simpa using g1, ?_⟩
          rw [Nat.add_zero, Nat.succ_mul]
          omega
        | succ k =>
          have := ih (i + 1) tk' h (by rw [hl']; omega) (by
            rw [fsum_succ, Nat.succ_mul]
            split <;> omega) (fun j hj => by
              have := hL (j + 1) (by simpa using hj)
              rw [show i + 1 + j = i + (j + 1) by omega]
              simpa using this) k (by simpa using hk)
          rw [show i + 1 + k = i + (k + 1) by omega] at this
          simpa using this
/-- The datum with its places as numbers. -/
def toD (x : Ni) : Nd := ⟨x.kind, x.at_, x.n, x.s, x.l.map Int.toNat⟩
theorem toD_back (x : Ni) (h : ∀ p ∈ x.l, 0 ≤ p) : toI (toD x) = x := by
  obtain ⟨k, a, n, s, l⟩ := x
  unfold toI toD
  simp only [List.map_map]
  have : l.map ((fun p : Nat => (p : Int)) ∘ Int.toNat) = l := by
    conv => rhs; rw [← List.map_id l]
    refine List.map_congr_left fun p hp => ?_
    have := h p hp
    simp
    omega
  rw [this]
/-- What may be is a row of data, none of them much work. -/
theorem may_rows2 (ns : List Ni) (hm : may ns = true) (hl : ∀ x ∈ ns, x.l.length ≤ 100000) (hn : ∀ x ∈ ns, -9223372036854775808 ≤ x.n ∧ x.n ≤ 9223372036854775807) :
    (ns.map toD).map toI = ns ∧ Ok (ns.map toD) ∧ ∀ i, i < ns.length → T (ns.map toD) i ≤ i + 1 := by
  have hat : ∀ i (h : i < ns.length), ndAt (ns.map toD) i = toD ns[i] := fun i h => by
    unfold ndAt
    rw [List.getD_eq_getElem?_getD, List.getElem?_map, List.getElem?_eq_getElem h]; rfl
  have hg := mayG_all (fun _ => 0) 0 ns 0 (List.replicate ns.length false) hm (by simp) (by unfold fsum; simp) (fun k h => by omega)
  have hok : Ok (ns.map toD) := by
    refine ⟨fun x hx => ?_, fun x hx hk => ?_, fun i hi p hp => ?_, fun i hi => ?_, fun i hi => ?_⟩
    · obtain ⟨y, hy, rfl⟩ := List.mem_map.1 hx
      obtain ⟨k, hk, rfl⟩ := List.getElem_of_mem hy
      have h1 := (hg k hk).1
      generalize ns[k] = y at h1
      unfold okF at h1
      show y.kind = 1 ∨ y.kind = 2 ∨ y.kind = 3 ∨ y.kind = 4
      split at h1
      · cases h1
      split at h1
      · exact .inl ‹_›
      split at h1
      · exact .inr (.inl ‹_›)
      split at h1
      · exact .inr (.inr (.inl ‹_›))
      split at h1
      · exact .inr (.inr (.inr ‹_›))
      · cases h1
    · obtain ⟨y, hy, rfl⟩ := List.mem_map.1 hx
      obtain ⟨k, hk2, rfl⟩ := List.getElem_of_mem hy
      have h1 := (hg k hk2).1
      generalize ns[k] = y at h1 hk
      unfold okF at h1
      have hk : y.kind ≠ 4 := hk
      show y.l.map Int.toNat = []
      have : y.l.length = 0 := by
        split at h1
        · cases h1
        split at h1
        · simp at h1; simp [h1]
        split at h1
        · simp at h1; simp [h1]
        split at h1
        · simp at h1; simp [h1]
        cases h1
      rw [List.eq_nil_of_length_eq_zero this]; rfl
    · rw [List.length_map] at hi
      rw [hat i hi] at hp
      obtain ⟨z, hz, rfl⟩ := List.mem_map.1 hp
      have := (hg i hi).2.1 z hz
      omega
    · rw [List.length_map] at hi
      rw [hat i hi]
      show (ns[i].l.map Int.toNat).length ≤ _
      rw [List.length_map]
      have := hl _ (List.getElem_mem hi)
      omega
    · rw [List.length_map] at hi
      rw [hat i hi]
      exact hn _ (List.getElem_mem hi)
  refine ⟨?_, hok, fun i hi => ?_⟩
  · rw [List.map_map]
    conv => rhs; rw [← List.map_id ns]
    refine List.map_congr_left fun x hx => ?_
    obtain ⟨k, hk, rfl⟩ := List.getElem_of_mem hx
    exact toD_back _ fun p hp => ((hg k hk).2.1 p hp).1
  · have := mayG_all (T (ns.map toD)) 1 ns 0 (List.replicate ns.length false) hm (by simp) (by unfold fsum; simp) (fun k h => by
      rw [Nat.zero_add]
      have h1 := T_eq hok (i := k) (by rw [List.length_map]; exact h)
      rw [hat k h] at h1
      have e : (List.map (T (ns.map toD)) (toD ns[k]).l) = (ns[k].l.map fun p => T (ns.map toD) p.toNat) := by
        unfold toD
        rw [List.map_map]
        rfl
      rw [e] at h1
      exact Nat.le_of_eq h1) i hi
    rw [Nat.zero_add] at this
    have h3 := this.2.2
    omega
end EX
end Go.Proofs.YtaghlpolljaedaaGreat
